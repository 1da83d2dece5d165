/-
  Whether an expression holds: contracts on both sides. Conditions: those that each names.
-/
import Derived.Test.YtgeapkjegemkeaaDoorSemLook
namespace Go.Proofs.YtgeapkjegemkeaaDoor
open Go Go.RowKit
set_option linter.unusedSimpArgs false
set_option linter.unusedVariables false

theorem first_any (B : Ex → Bool) : ∀ (l : List Ex) (i : Nat), decide (0 ≤ firstIx B i l) = l.any B
  | [], i => by simp [firstIx]
  | e :: l, i => by
    rw [firstIx, List.any_cons]
    by_cases h : B e = true
    · rw [if_pos h, h]; simp
    · rw [if_neg h, first_any B l (i + 1)]; simp [h]
theorem any_is7 (d : Dat) : ∀ l : List Ex, anyF d l = l.any (holdsF d)
  | [] => by rw [anyF]; rfl
  | e :: l => by rw [anyF, List.any_cons, any_is7 d l]
theorem all_is7 (d : Dat) : ∀ l : List Ex, allF d l = !(l.any fun e => !holdsF d e)
  | [] => by rw [allF]; rfl
  | e :: l => by rw [allF, List.any_cons, all_is7 d l]; cases holdsF d e <;> simp
theorem exs_parts (d : Nat) : ∀ (l : List Ex), exsF d l = 0 → ∀ k, k < l.length → exF d (l.getD k .zero) = 0
  | [], _, k, hk => absurd hk (by simp)
  | e :: l, h, k, hk => by
    rw [exsF] at h
    by_cases he : exF d e = 0
    · rw [if_neg (fun g => g he)] at h
      cases k with
      | zero => exact he
      | succ k => exact exs_parts d l h k (by simpa using hk)
    · rw [if_pos he] at h; exact absurd h he
/-- What an expression that may be is made of. -/
theorem wf_parts {o : Int} {l : List Ex} {f : Int} {m : Nat} {r : Int} {v d : Nat} (h : exF d (.mk o l f m r v) = 0) : shapeB o l.length f r = true ∧ ∀ k, k < l.length → exF (d + 1) (l.getD k .zero) = 0 := by
  rw [ex_is] at h
  by_cases h1 : 200 < d ∨ shapeB o l.length f r = false
  · rw [if_pos h1] at h; cases h
  rw [if_neg h1] at h
  by_cases h2 : o = 6 ∧ (m = 0 ∨ clearN v m ≠ 0)
  · rw [if_pos h2] at h; cases h
  rw [if_neg h2] at h
  exact ⟨by cases hs : shapeB o l.length f r with | true => rfl | false => exact absurd (.inr hs) h1, exs_parts (d + 1) l h⟩
theorem holds_is (d : Dat) (op : Int) (l : List Ex) (f : Int) (m : Nat) (r : Int) (v : Nat) : holdsF d (.mk op l f m r v) = if op = 1 then true else if op = 2 then false else if op = 3 then firstF d l else if op = 4 then allF d l else if op = 5 then anyF d l else relB r (maskN (fieldN d f) m) v := by rw [holdsF]
/-- What holds, and fails, answer of one expression. -/
def HoldC (d : Dat) (mb : Nat) (x : Ex) : Prop := ∀ (W : World) (A : Option Addr) (cap : Nat), ExL W x A cap → RelMap W mb → Calls Tryd.prog 25 #[lookV d mb, exV x A cap] W fun e w' => e = .returned (.bool (holdsF d x)) ∧ Below W.heap.size W w'
def FailC (d : Dat) (mb : Nat) (x : Ex) : Prop := ∀ (W : World) (A : Option Addr) (cap : Nat), ExL W x A cap → RelMap W mb → Calls Tryd.prog 37 #[lookV d mb, exV x A cap] W fun e w' => e = .returned (.bool (!holdsF d x)) ∧ Below W.heap.size W w'
set_option maxRecDepth 100000 in
set_option maxHeartbeats 2000000 in
theorem p_fails {d : Dat} {mb : Nat} {x : Ex} (h : HoldC d mb x) : FailC d mb x := fun W A cap hx hm => by
  have H := Lib.hid (fun V h1 h2 => h V A cap h1 h2)
  have hb := below_of W (W.alloc (lookO d mb)) (exCell x A cap) (lbox W _)
  have HL := Lib.hid (And.intro (hx.below hb) (And.intro (hm.up hb) hb))
  generalize holdsF d x = bv at H ⊢
  clear h hx hm hb
  go_enter Tryd.func37, Tryd.ntmps37
  go_wp2_with (go_at_call 25; (with_reducible refine (H.out _ HL.out.1 HL.out.2.1).mono ?_); rintro e w1 ⟨rfl, hb⟩; have HB := Lib.hid (HL.out.2.2.trans (hb.mono HL.out.2.2.size)); clear hb)
  go_ret
  exact ⟨rfl, HB.out⟩
set_option maxRecDepth 100000 in
set_option maxHeartbeats 2000000 in
theorem p_ContainsFunc7 (f : Nat) (hE : ∀ args w, (callFunc f args).run Tryd.prog w = .ok (.enter f args) w) (d : Dat) (mb : Nat) (B : Ex → Bool) (l : List Ex) (A : Option Addr) (cap : Nat) (w : World) (hm : RelMap w mb) (h : ExL w (.mk 0 l 0 0 0 0) A cap)
    (hone : ∀ (k : Nat), k < l.length → ∀ (W : World) (A1 : Option Addr) (cap1 : Nat), ExL W (l.getD k .zero) A1 cap1 → RelMap W mb → Calls Tryd.prog f #[lookV d mb, exV (l.getD k .zero) A1 cap1] W fun e w' => e = .returned (.bool (B (l.getD k .zero))) ∧ Below W.heap.size W w') :
    Calls Tryd.prog 38 #[.slice A l.length cap, .func (.func f) #[lookV d mb] #[]] w fun e w' => e = .returned (.bool (l.any B)) ∧ Below w.heap.size w w' := by
  have H := Lib.hid (p_IndexFunc7 f hE d mb B l A cap w hm h hone)
  rw [← first_any B l 0]
  generalize firstIx B 0 l = ix at H ⊢
  generalize l.length = n at H ⊢
  clear hone h hm hE
  go_enter Tryd.func38, Tryd.ntmps38
  go_wp2_with (go_at_call 51; (with_reducible refine H.out.mono ?_); rintro e w1 ⟨rfl, hb⟩; have HB := Lib.hid hb; clear hb)
  go_ret
  exact ⟨rfl, HB.out⟩
set_option maxRecDepth 100000 in
set_option maxHeartbeats 4000000 in
theorem p_holds1 (d : Dat) (mb : Nat) (o : Int) (l : List Ex) (f : Int) (m : Nat) (r : Int) (v : Nat) (A : Option Addr) (cap : Nat) (W : World) (h : ExL W (.mk o l f m r v) A cap) (hm : RelMap W mb) (ho : o = 1) :
    Calls Tryd.prog 25 #[lookV d mb, exA o A l.length cap f m r v] W fun e w' => e = .returned (.bool true) ∧ Below W.heap.size W w' := by
  have hb := below_of W (W.alloc (lookO d mb)) (exB o A l.length cap f m r v) (lbox W _)
  have HB := Lib.hid hb
  have HX : Hid (((W.alloc (lookO d mb)).alloc (exB o A l.length cap f m r v)).heap[W.heap.size]? = some (lookO d mb) ∧ ((W.alloc (lookO d mb)).alloc (exB o A l.length cap f m r v)).heap[W.heap.size + 1]? = some (exB o A l.length cap f m r v)) := Lib.hid ⟨kept_alloc (World.alloc_heap_new W _) _, (by
    have := World.alloc_heap_new (W.alloc (lookO d mb)) (exB o A l.length cap f m r v)
    simpa using this)⟩
  have q1 : (o == 1) = true := by rw [ho]; rfl
  have q3 : (o == 3) = false := by rw [ho]; rfl
  have q4 : (o == 4) = false := by rw [ho]; rfl
  have q5 : (o == 5) = false := by rw [ho]; rfl
  have q6 : (o == 6) = false := by rw [ho]; rfl
  clear h hm ho hb HX
  go_enter Tryd.func25, Tryd.ntmps25
  go_wp2
  go_ret
  exact ⟨rfl, HB.out⟩
set_option maxRecDepth 100000 in
set_option maxHeartbeats 4000000 in
theorem p_holds2 (d : Dat) (mb : Nat) (o : Int) (l : List Ex) (f : Int) (m : Nat) (r : Int) (v : Nat) (A : Option Addr) (cap : Nat) (W : World) (h : ExL W (.mk o l f m r v) A cap) (hm : RelMap W mb) (ho : o = 2) :
    Calls Tryd.prog 25 #[lookV d mb, exA o A l.length cap f m r v] W fun e w' => e = .returned (.bool false) ∧ Below W.heap.size W w' := by
  have hb := below_of W (W.alloc (lookO d mb)) (exB o A l.length cap f m r v) (lbox W _)
  have HB := Lib.hid hb
  have HX : Hid (((W.alloc (lookO d mb)).alloc (exB o A l.length cap f m r v)).heap[W.heap.size]? = some (lookO d mb) ∧ ((W.alloc (lookO d mb)).alloc (exB o A l.length cap f m r v)).heap[W.heap.size + 1]? = some (exB o A l.length cap f m r v)) := Lib.hid ⟨kept_alloc (World.alloc_heap_new W _) _, (by
    have := World.alloc_heap_new (W.alloc (lookO d mb)) (exB o A l.length cap f m r v)
    simpa using this)⟩
  have q1 : (o == 1) = false := by rw [ho]; rfl
  have q3 : (o == 3) = false := by rw [ho]; rfl
  have q4 : (o == 4) = false := by rw [ho]; rfl
  have q5 : (o == 5) = false := by rw [ho]; rfl
  have q6 : (o == 6) = false := by rw [ho]; rfl
  clear h hm ho hb HX
  go_enter Tryd.func25, Tryd.ntmps25
  go_wp2
  go_ret
  exact ⟨rfl, HB.out⟩
set_option maxRecDepth 100000 in
set_option maxHeartbeats 4000000 in
theorem p_holds4 (d : Dat) (mb : Nat) (o : Int) (l : List Ex) (f : Int) (m : Nat) (r : Int) (v : Nat) (A : Option Addr) (cap : Nat) (W : World) (h : ExL W (.mk o l f m r v) A cap) (hm : RelMap W mb) (ho : o = 4) (ih : ∀ k, k < l.length → FailC d mb (l.getD k .zero)) :
    Calls Tryd.prog 25 #[lookV d mb, exA o A l.length cap f m r v] W fun e w' => e = .returned (.bool (!(l.any fun e => !holdsF d e))) ∧ Below W.heap.size W w' := by
  have hb := below_of W (W.alloc (lookO d mb)) (exB o A l.length cap f m r v) (lbox W _)
  have HB := Lib.hid hb
  have HX : Hid (((W.alloc (lookO d mb)).alloc (exB o A l.length cap f m r v)).heap[W.heap.size]? = some (lookO d mb) ∧ ((W.alloc (lookO d mb)).alloc (exB o A l.length cap f m r v)).heap[W.heap.size + 1]? = some (exB o A l.length cap f m r v)) := Lib.hid ⟨kept_alloc (World.alloc_heap_new W _) _, (by
    have := World.alloc_heap_new (W.alloc (lookO d mb)) (exB o A l.length cap f m r v)
    simpa using this)⟩
  have q1 : (o == 1) = false := by rw [ho]; rfl
  have q3 : (o == 3) = false := by rw [ho]; rfl
  have q4 : (o == 4) = true := by rw [ho]; rfl
  have q5 : (o == 5) = false := by rw [ho]; rfl
  have q6 : (o == 6) = false := by rw [ho]; rfl
  have hmf : ∀ (fn : Fn) (first cap : Array Value) (w : World), (Instr.makeFunc fn first cap).run Tryd.prog w = .ok (.func fn first cap) w := fun _ _ _ _ => rfl
  have HC := Lib.hid (p_ContainsFunc7 37 (Go.Proofs.enters_of Tryd.func37 (by kernel_rfl) rfl) d mb (fun e => !holdsF d e) l A cap _ (hm.up hb) (show ExL _ (.mk 0 l 0 0 0 0) A cap from h.below hb) (fun k hk V A1 cap1 h1 h2 => ih k hk V A1 cap1 h1 h2))
  have x1 := cell6 HX.out.2 1 rfl
  generalize l.any (fun e => !holdsF d e) = bv at HC ⊢
  generalize hn : l.length = n at HB HX HC x1 ⊢
  clear h hm ho hb ih hn
  go_enter Tryd.func25, Tryd.ntmps25
  go_wp2_with (go_at_call 38; (with_reducible refine HC.out.mono ?_); rintro e w1 ⟨rfl, hb⟩; have HB2 := Lib.hid (HB.out.trans (hb.mono HB.out.size)); clear hb)
  go_ret
  exact ⟨rfl, HB2.out⟩
set_option maxRecDepth 100000 in
set_option maxHeartbeats 4000000 in
theorem p_holds5 (d : Dat) (mb : Nat) (o : Int) (l : List Ex) (f : Int) (m : Nat) (r : Int) (v : Nat) (A : Option Addr) (cap : Nat) (W : World) (h : ExL W (.mk o l f m r v) A cap) (hm : RelMap W mb) (ho : o = 5) (ih : ∀ k, k < l.length → HoldC d mb (l.getD k .zero)) :
    Calls Tryd.prog 25 #[lookV d mb, exA o A l.length cap f m r v] W fun e w' => e = .returned (.bool (l.any (holdsF d))) ∧ Below W.heap.size W w' := by
  have hb := below_of W (W.alloc (lookO d mb)) (exB o A l.length cap f m r v) (lbox W _)
  have HB := Lib.hid hb
  have HX : Hid (((W.alloc (lookO d mb)).alloc (exB o A l.length cap f m r v)).heap[W.heap.size]? = some (lookO d mb) ∧ ((W.alloc (lookO d mb)).alloc (exB o A l.length cap f m r v)).heap[W.heap.size + 1]? = some (exB o A l.length cap f m r v)) := Lib.hid ⟨kept_alloc (World.alloc_heap_new W _) _, (by
    have := World.alloc_heap_new (W.alloc (lookO d mb)) (exB o A l.length cap f m r v)
    simpa using this)⟩
  have q1 : (o == 1) = false := by rw [ho]; rfl
  have q3 : (o == 3) = false := by rw [ho]; rfl
  have q4 : (o == 4) = false := by rw [ho]; rfl
  have q5 : (o == 5) = true := by rw [ho]; rfl
  have q6 : (o == 6) = false := by rw [ho]; rfl
  have hmf : ∀ (fn : Fn) (first cap : Array Value) (w : World), (Instr.makeFunc fn first cap).run Tryd.prog w = .ok (.func fn first cap) w := fun _ _ _ _ => rfl
  have HC := Lib.hid (p_ContainsFunc7 25 (Go.Proofs.enters_of Tryd.func25 (by kernel_rfl) rfl) d mb (holdsF d) l A cap _ (hm.up hb) (show ExL _ (.mk 0 l 0 0 0 0) A cap from h.below hb) (fun k hk V A1 cap1 h1 h2 => ih k hk V A1 cap1 h1 h2))
  have x1 := cell6 HX.out.2 1 rfl
  generalize l.any (holdsF d) = bv at HC ⊢
  generalize hn : l.length = n at HB HX HC x1 ⊢
  clear h hm ho hb ih hn
  go_enter Tryd.func25, Tryd.ntmps25
  go_wp2_with (go_at_call 38; (with_reducible refine HC.out.mono ?_); rintro e w1 ⟨rfl, hb⟩; have HB2 := Lib.hid (HB.out.trans (hb.mono HB.out.size)); clear hb)
  go_ret
  exact ⟨rfl, HB2.out⟩
set_option maxRecDepth 100000 in
set_option maxHeartbeats 4000000 in
theorem p_holds3 (d : Dat) (mb : Nat) (o : Int) (l : List Ex) (f : Int) (m : Nat) (r : Int) (v : Nat) (A : Option Addr) (cap : Nat) (W : World) (h : ExL W (.mk o l f m r v) A cap) (hm : RelMap W mb) (ho : o = 3) (hl : l.length = 1) (ih : FailC d mb (l.getD 0 .zero)) :
    Calls Tryd.prog 25 #[lookV d mb, exA o A l.length cap f m r v] W fun e w' => e = .returned (.bool (!holdsF d (l.getD 0 .zero))) ∧ Below W.heap.size W w' := by
  have hb := below_of W (W.alloc (lookO d mb)) (exB o A l.length cap f m r v) (lbox W _)
  have HB := Lib.hid hb
  have HX : Hid (((W.alloc (lookO d mb)).alloc (exB o A l.length cap f m r v)).heap[W.heap.size]? = some (lookO d mb) ∧ ((W.alloc (lookO d mb)).alloc (exB o A l.length cap f m r v)).heap[W.heap.size + 1]? = some (exB o A l.length cap f m r v)) := Lib.hid ⟨kept_alloc (World.alloc_heap_new W _) _, (by
    have := World.alloc_heap_new (W.alloc (lookO d mb)) (exB o A l.length cap f m r v)
    simpa using this)⟩
  have q1 : (o == 1) = false := by rw [ho]; rfl
  have q3 : (o == 3) = true := by rw [ho]; rfl
  have q4 : (o == 4) = false := by rw [ho]; rfl
  have q5 : (o == 5) = false := by rw [ho]; rfl
  have q6 : (o == 6) = false := by rw [ho]; rfl
  obtain ⟨tb, ob, rfl, htl, A1, cap1, hx1, hc1⟩ := exL_arg h 0 (by show 0 < l.length; omega)
  change ExL W (l.getD 0 .zero) A1 cap1 at hx1
  change ∀ j u, (exC (l.getD 0 .zero) A1 cap1)[j]? = some u → W.cell? ⟨tb, ob + 0 * 6 + j, none⟩ = some u at hc1
  generalize l.getD 0 .zero = y at ih hx1 hc1 ⊢
  generalize hn : l.length = n at HB HX hb hl ⊢
  subst hl
  have HS : Hid ((∀ j u, (exC y A1 cap1)[j]? = some u → ((W.alloc (lookO d mb)).alloc (exB o (some ⟨tb, ob, none⟩) 1 cap f m r v)).cell? ⟨tb, ob + j, none⟩ = some u) ∧ ExL ((W.alloc (lookO d mb)).alloc (exB o (some ⟨tb, ob, none⟩) 1 cap f m r v)) y A1 cap1 ∧ RelMap ((W.alloc (lookO d mb)).alloc (exB o (some ⟨tb, ob, none⟩) 1 cap f m r v)) mb) := Lib.hid ⟨fun j u hj => (hb.cell (p := ⟨tb, ob + j, none⟩) htl).trans (by have := hc1 j u hj; rw [Nat.zero_mul, Nat.add_zero] at this; exact this), hx1.below hb, hm.up hb⟩
  have HI := Lib.hid ih
  have HHT : Hid (tb < ((W.alloc (lookO d mb)).alloc (exB o (some ⟨tb, ob, none⟩) 1 cap f m r v)).heap.size) := Lib.hid (Nat.lt_of_lt_of_le htl hb.size)
  clear h hm ho hb hc1 hx1 ih hn htl
  go_enter Tryd.func25, Tryd.ntmps25
  go_wp2
  refine wp_region_held_drew (S := fun W' => W'.heap[W.heap.size]? = some (lookO d mb) ∧ W'.heap[W.heap.size + 1]? = some (exB o (some ⟨tb, ob, none⟩) 1 cap f m r v) ∧ ∀ j u, (exC y A1 cap1)[j]? = some u → W'.cell? ⟨tb, ob + j, none⟩ = some u) (by kernel_rfl) ⟨HX.out.1, HX.out.2, HS.out.1⟩ (fun hHeld => ?_)
  have HB2 := Lib.hid (below_drawn HB.out 1)
  have HY := Lib.hid (HI.out ((W.alloc (lookO d mb)).alloc (exB o (some ⟨tb, ob, none⟩) 1 cap f m r v)).drew A1 cap1 (HS.out.2.1.below (below_drawn (Below.refl _ _) 1)) (HS.out.2.2.up (below_drawn (Below.refl _ _) 1)))
  change Hid (Below W.heap.size W ((W.alloc (lookO d mb)).alloc (exB o (some ⟨tb, ob, none⟩) 1 cap f m r v)).drew) at HB2
  have hZ : tb < ((W.alloc (lookO d mb)).alloc (exB o (some ⟨tb, ob, none⟩) 1 cap f m r v)).drew.heap.size := HHT.out
  clear HB HS HI HHT HX
  generalize ((W.alloc (lookO d mb)).alloc (exB o (some ⟨tb, ob, none⟩) 1 cap f m r v)).drew = Y at HB2 HY hHeld hZ ⊢
  have HH := Lib.hid hHeld
  refine wpAnyH_take (i := 0) (v := ?_) rfl (by kernel_rfl) (by kernel_rfl) (by kernel_rfl) (fun _ _ _ h => h) (Or.inl ⟨by rfl, ?_⟩) (by assumption) ?_
  rotate_left
  · intro wS hSw
    (obtain ⟨i0, i1, i2⟩ := hSw; have a0 := cell6 i0 0 rfl; have a1 := cell6 i0 1 rfl; have a2 := cell6 i0 2 rfl; have a3 := cell6 i0 3 rfl; have a4 := cell6 i0 4 rfl; have a5 := cell6 i0 5 rfl; have a6 := cell6 i0 6 rfl; have a7 := cell6 i0 7 rfl; have a8 := cell6 i0 8 rfl; have a9 := cell6 i0 9 rfl; have b1 := cell6 i1 1 rfl; have e0 : wS.cell? ⟨tb, ob, none⟩ = some (.int .i64 y.op) := i2 0 _ rfl; have e1 := i2 1 _ rfl; have e2 := i2 2 _ rfl; have e3 := i2 3 _ rfl; have e4 := i2 4 _ rfl; have e5 := i2 5 _ rfl)
    go_simp
    all_goals with_reducible rfl
  (try simp only [List.getElem_toArray, List.getElem_cons_zero, List.getElem_cons_succ, Act.put, List.setIfInBounds_toArray, List.set_cons_zero, List.set_cons_succ])
  refine wpAnyH_take (i := 1) (v := ?_) rfl (by kernel_rfl) (by kernel_rfl) (by kernel_rfl) (fun _ _ _ h => h) (Or.inl ⟨by rfl, ?_⟩) (by assumption) ?_
  rotate_left
  · intro wS hSw
    (obtain ⟨i0, i1, i2⟩ := hSw; have a0 := cell6 i0 0 rfl; have a1 := cell6 i0 1 rfl; have a2 := cell6 i0 2 rfl; have a3 := cell6 i0 3 rfl; have a4 := cell6 i0 4 rfl; have a5 := cell6 i0 5 rfl; have a6 := cell6 i0 6 rfl; have a7 := cell6 i0 7 rfl; have a8 := cell6 i0 8 rfl; have a9 := cell6 i0 9 rfl; have b1 := cell6 i1 1 rfl; have e0 : wS.cell? ⟨tb, ob, none⟩ = some (.int .i64 y.op) := i2 0 _ rfl; have e1 := i2 1 _ rfl; have e2 := i2 2 _ rfl; have e3 := i2 3 _ rfl; have e4 := i2 4 _ rfl; have e5 := i2 5 _ rfl)
    go_simp
    all_goals with_reducible rfl
  (try simp only [List.getElem_toArray, List.getElem_cons_zero, List.getElem_cons_succ, Act.put, List.setIfInBounds_toArray, List.set_cons_zero, List.set_cons_succ])
  refine wpAnyH_take (i := 2) (v := ?_) rfl (by kernel_rfl) (by kernel_rfl) (by kernel_rfl) (fun _ _ _ h => h) (Or.inl ⟨by rfl, ?_⟩) (by assumption) ?_
  rotate_left
  · intro wS hSw
    (obtain ⟨i0, i1, i2⟩ := hSw; have a0 := cell6 i0 0 rfl; have a1 := cell6 i0 1 rfl; have a2 := cell6 i0 2 rfl; have a3 := cell6 i0 3 rfl; have a4 := cell6 i0 4 rfl; have a5 := cell6 i0 5 rfl; have a6 := cell6 i0 6 rfl; have a7 := cell6 i0 7 rfl; have a8 := cell6 i0 8 rfl; have a9 := cell6 i0 9 rfl; have b1 := cell6 i1 1 rfl; have e0 : wS.cell? ⟨tb, ob, none⟩ = some (.int .i64 y.op) := i2 0 _ rfl; have e1 := i2 1 _ rfl; have e2 := i2 2 _ rfl; have e3 := i2 3 _ rfl; have e4 := i2 4 _ rfl; have e5 := i2 5 _ rfl)
    go_simp
    all_goals with_reducible rfl
  (try simp only [List.getElem_toArray, List.getElem_cons_zero, List.getElem_cons_succ, Act.put, List.setIfInBounds_toArray, List.set_cons_zero, List.set_cons_succ])
  refine wpAnyH_take (i := 3) (v := ?_) rfl (by kernel_rfl) (by kernel_rfl) (by kernel_rfl) (fun _ _ _ h => h) (Or.inl ⟨by rfl, ?_⟩) (by assumption) ?_
  rotate_left
  · intro wS hSw
    (obtain ⟨i0, i1, i2⟩ := hSw; have a0 := cell6 i0 0 rfl; have a1 := cell6 i0 1 rfl; have a2 := cell6 i0 2 rfl; have a3 := cell6 i0 3 rfl; have a4 := cell6 i0 4 rfl; have a5 := cell6 i0 5 rfl; have a6 := cell6 i0 6 rfl; have a7 := cell6 i0 7 rfl; have a8 := cell6 i0 8 rfl; have a9 := cell6 i0 9 rfl; have b1 := cell6 i1 1 rfl; have e0 : wS.cell? ⟨tb, ob, none⟩ = some (.int .i64 y.op) := i2 0 _ rfl; have e1 := i2 1 _ rfl; have e2 := i2 2 _ rfl; have e3 := i2 3 _ rfl; have e4 := i2 4 _ rfl; have e5 := i2 5 _ rfl)
    go_simp
    all_goals with_reducible rfl
  (try simp only [List.getElem_toArray, List.getElem_cons_zero, List.getElem_cons_succ, Act.put, List.setIfInBounds_toArray, List.set_cons_zero, List.set_cons_succ])
  refine wpAnyH_take (i := 4) (v := ?_) rfl (by kernel_rfl) (by kernel_rfl) (by kernel_rfl) (fun _ _ _ h => h) (Or.inl ⟨by rfl, ?_⟩) (by assumption) ?_
  rotate_left
  · intro wS hSw
    (obtain ⟨i0, i1, i2⟩ := hSw; have a0 := cell6 i0 0 rfl; have a1 := cell6 i0 1 rfl; have a2 := cell6 i0 2 rfl; have a3 := cell6 i0 3 rfl; have a4 := cell6 i0 4 rfl; have a5 := cell6 i0 5 rfl; have a6 := cell6 i0 6 rfl; have a7 := cell6 i0 7 rfl; have a8 := cell6 i0 8 rfl; have a9 := cell6 i0 9 rfl; have b1 := cell6 i1 1 rfl; have e0 : wS.cell? ⟨tb, ob, none⟩ = some (.int .i64 y.op) := i2 0 _ rfl; have e1 := i2 1 _ rfl; have e2 := i2 2 _ rfl; have e3 := i2 3 _ rfl; have e4 := i2 4 _ rfl; have e5 := i2 5 _ rfl)
    go_simp
    all_goals with_reducible rfl
  (try simp only [List.getElem_toArray, List.getElem_cons_zero, List.getElem_cons_succ, Act.put, List.setIfInBounds_toArray, List.set_cons_zero, List.set_cons_succ])
  refine held_one (i := 5) (by kernel_rfl) rfl (fun K hK => ?_)
  go_simp
  go_at_call 37
  refine HY.out.mono ?_
  rintro e w2 ⟨rfl, hb2⟩
  have HB3 := Lib.hid (HB2.out.trans (hb2.mono HB2.out.size))
  refine hK.out _ _ ⟨(hb2.block _ (Array.getElem?_eq_some_iff.1 HH.out.1).1).trans HH.out.1, (hb2.block _ (Array.getElem?_eq_some_iff.1 HH.out.2.1).1).trans HH.out.2.1, fun j u hj => (hb2.cell (p := ⟨tb, ob + j, none⟩) hZ).trans (HH.out.2.2 j u hj)⟩ (fun hH2 => ?_)
  clear hK K hHeld hb2
  (try simp only [Act.put, List.setIfInBounds_toArray, List.set_cons_zero, List.set_cons_succ, List.getElem_toArray, List.getElem_cons_zero, List.getElem_cons_succ])
  refine wpAnyH_take (i := 6) (v := ?_) rfl (by kernel_rfl) (by kernel_rfl) (by kernel_rfl) (fun _ _ _ h => h) (Or.inl ⟨by rfl, ?_⟩) (by assumption) ?_
  rotate_left
  · intro wS hSw
    (skip)
    go_simp
    all_goals with_reducible rfl
  (try simp only [List.getElem_toArray, List.getElem_cons_zero, List.getElem_cons_succ, Act.put, List.setIfInBounds_toArray, List.set_cons_zero, List.set_cons_succ])
  refine wpAnyH_done (by kernel_rfl) ?_ _
  go_wp2
  go_ret
  exact ⟨rfl, HB3.out⟩
set_option maxRecDepth 100000 in
set_option maxHeartbeats 4000000 in
theorem p_holds6 (d : Dat) (mb : Nat) (o : Int) (l : List Ex) (f : Int) (m : Nat) (r : Int) (v : Nat) (A : Option Addr) (cap : Nat) (W : World) (h : ExL W (.mk o l f m r v) A cap) (hm : RelMap W mb) (ho : o = 6) (hf : 0 ≤ f ∧ f ≤ 6) (hr : 1 ≤ r ∧ r ≤ 6) :
    Calls Tryd.prog 25 #[lookV d mb, exA o A l.length cap f m r v] W fun e w' => e = .returned (.bool (relB r (maskN (fieldN d f) m) v)) ∧ Below W.heap.size W w' := by
  have hb := below_of W (W.alloc (lookO d mb)) (exB o A l.length cap f m r v) (lbox W _)
  have HB := Lib.hid hb
  have HX : Hid (((W.alloc (lookO d mb)).alloc (exB o A l.length cap f m r v)).heap[W.heap.size]? = some (lookO d mb) ∧ ((W.alloc (lookO d mb)).alloc (exB o A l.length cap f m r v)).heap[W.heap.size + 1]? = some (exB o A l.length cap f m r v)) := Lib.hid ⟨kept_alloc (World.alloc_heap_new W _) _, (by
    have := World.alloc_heap_new (W.alloc (lookO d mb)) (exB o A l.length cap f m r v)
    simpa using this)⟩
  have q1 : (o == 1) = false := by rw [ho]; rfl
  have q3 : (o == 3) = false := by rw [ho]; rfl
  have q4 : (o == 4) = false := by rw [ho]; rfl
  have q5 : (o == 5) = false := by rw [ho]; rfl
  have q6 : (o == 6) = true := by rw [ho]; rfl
  obtain ⟨fr, hfr, hen, hrel⟩ := rel_any r hr
  have hcl := bits_mask7 (fieldN d f) m
  have HLK := Lib.hid (fun w (hw : RelMap w mb) => rel_fn hw r fr hr hfr)
  have HF := Lib.hid (fun V => p_field7 d mb f hf V)
  have HRel := Lib.hid (fun a b w => hrel a b w)
  have HM := Lib.hid (hm.up hb)
  generalize hn : l.length = n at HB HX hb HM ⊢
  have hen2 : ∀ args w, (callFunc fr args).run Tryd.prog w = .ok (.enter fr args) w := hen
  clear h hm ho hb hn hf hr hfr hrel hen
  generalize fieldN d f = fn at HF hcl ⊢
  generalize maskN fn m = mk at hcl ⊢
  go_enter Tryd.func25, Tryd.ntmps25
  go_wp2
  refine wp_region_held_drew (S := fun W' => W'.heap[W.heap.size]? = some (lookO d mb) ∧ W'.heap[W.heap.size + 1]? = some (exB o A n cap f m r v) ∧ RelMap W' mb) (by kernel_rfl) ⟨HX.out.1, HX.out.2, HM.out⟩ (fun hHeld => ?_)
  have HB2 := Lib.hid (below_drawn HB.out 1)
  change Hid (Below W.heap.size W ((W.alloc (lookO d mb)).alloc (exB o A n cap f m r v)).drew) at HB2
  clear HB HX HM
  generalize ((W.alloc (lookO d mb)).alloc (exB o A n cap f m r v)).drew = Y at HB2 hHeld ⊢
  have HH := Lib.hid hHeld
  refine wpAnyH_take (i := 0) (v := ?_) rfl (by kernel_rfl) (by kernel_rfl) (by kernel_rfl) (fun _ _ _ h => h) (Or.inl ⟨by rfl, ?_⟩) (by assumption) ?_
  rotate_left
  · intro wS hSw
    (obtain ⟨i0, i1, i2⟩ := hSw; have lk := HLK.out wS i2; have a0 := cell6 i0 0 rfl; have a1 := cell6 i0 1 rfl; have a2 := cell6 i0 2 rfl; have a3 := cell6 i0 3 rfl; have a4 := cell6 i0 4 rfl; have a5 := cell6 i0 5 rfl; have a6 := cell6 i0 6 rfl; have a7 := cell6 i0 7 rfl; have a8 := cell6 i0 8 rfl; have a9 := cell6 i0 9 rfl; have b0 := cell6 i1 0 rfl; have b1 := cell6 i1 1 rfl; have b2 := cell6 i1 2 rfl; have b3 := cell6 i1 3 rfl; have b4 := cell6 i1 4 rfl; have b5 := cell6 i1 5 rfl)
    go_simp
    all_goals with_reducible rfl
  (try simp only [List.getElem_toArray, List.getElem_cons_zero, List.getElem_cons_succ, Act.put, List.setIfInBounds_toArray, List.set_cons_zero, List.set_cons_succ])
  refine wpAnyH_take (i := 1) (v := ?_) rfl (by kernel_rfl) (by kernel_rfl) (by kernel_rfl) (fun _ _ _ h => h) (Or.inl ⟨by rfl, ?_⟩) (by assumption) ?_
  rotate_left
  · intro wS hSw
    (obtain ⟨i0, i1, i2⟩ := hSw; have lk := HLK.out wS i2; have a0 := cell6 i0 0 rfl; have a1 := cell6 i0 1 rfl; have a2 := cell6 i0 2 rfl; have a3 := cell6 i0 3 rfl; have a4 := cell6 i0 4 rfl; have a5 := cell6 i0 5 rfl; have a6 := cell6 i0 6 rfl; have a7 := cell6 i0 7 rfl; have a8 := cell6 i0 8 rfl; have a9 := cell6 i0 9 rfl; have b0 := cell6 i1 0 rfl; have b1 := cell6 i1 1 rfl; have b2 := cell6 i1 2 rfl; have b3 := cell6 i1 3 rfl; have b4 := cell6 i1 4 rfl; have b5 := cell6 i1 5 rfl)
    go_simp
    all_goals with_reducible rfl
  (try simp only [List.getElem_toArray, List.getElem_cons_zero, List.getElem_cons_succ, Act.put, List.setIfInBounds_toArray, List.set_cons_zero, List.set_cons_succ])
  refine wpAnyH_take (i := 2) (v := ?_) rfl (by kernel_rfl) (by kernel_rfl) (by kernel_rfl) (fun _ _ _ h => h) (Or.inl ⟨by rfl, ?_⟩) (by assumption) ?_
  rotate_left
  · intro wS hSw
    (obtain ⟨i0, i1, i2⟩ := hSw; have lk := HLK.out wS i2; have a0 := cell6 i0 0 rfl; have a1 := cell6 i0 1 rfl; have a2 := cell6 i0 2 rfl; have a3 := cell6 i0 3 rfl; have a4 := cell6 i0 4 rfl; have a5 := cell6 i0 5 rfl; have a6 := cell6 i0 6 rfl; have a7 := cell6 i0 7 rfl; have a8 := cell6 i0 8 rfl; have a9 := cell6 i0 9 rfl; have b0 := cell6 i1 0 rfl; have b1 := cell6 i1 1 rfl; have b2 := cell6 i1 2 rfl; have b3 := cell6 i1 3 rfl; have b4 := cell6 i1 4 rfl; have b5 := cell6 i1 5 rfl)
    go_simp
    all_goals with_reducible rfl
  (try simp only [List.getElem_toArray, List.getElem_cons_zero, List.getElem_cons_succ, Act.put, List.setIfInBounds_toArray, List.set_cons_zero, List.set_cons_succ])
  refine wpAnyH_take (i := 3) (v := ?_) rfl (by kernel_rfl) (by kernel_rfl) (by kernel_rfl) (fun _ _ _ h => h) (Or.inl ⟨by rfl, ?_⟩) (by assumption) ?_
  rotate_left
  · intro wS hSw
    (obtain ⟨i0, i1, i2⟩ := hSw; have lk := HLK.out wS i2; have a0 := cell6 i0 0 rfl; have a1 := cell6 i0 1 rfl; have a2 := cell6 i0 2 rfl; have a3 := cell6 i0 3 rfl; have a4 := cell6 i0 4 rfl; have a5 := cell6 i0 5 rfl; have a6 := cell6 i0 6 rfl; have a7 := cell6 i0 7 rfl; have a8 := cell6 i0 8 rfl; have a9 := cell6 i0 9 rfl; have b0 := cell6 i1 0 rfl; have b1 := cell6 i1 1 rfl; have b2 := cell6 i1 2 rfl; have b3 := cell6 i1 3 rfl; have b4 := cell6 i1 4 rfl; have b5 := cell6 i1 5 rfl)
    go_simp
    all_goals with_reducible rfl
  (try simp only [List.getElem_toArray, List.getElem_cons_zero, List.getElem_cons_succ, Act.put, List.setIfInBounds_toArray, List.set_cons_zero, List.set_cons_succ])
  refine wpAnyH_take (i := 4) (v := ?_) rfl (by kernel_rfl) (by kernel_rfl) (by kernel_rfl) (fun _ _ _ h => h) (Or.inl ⟨by rfl, ?_⟩) (by assumption) ?_
  rotate_left
  · intro wS hSw
    (obtain ⟨i0, i1, i2⟩ := hSw; have lk := HLK.out wS i2; have a0 := cell6 i0 0 rfl; have a1 := cell6 i0 1 rfl; have a2 := cell6 i0 2 rfl; have a3 := cell6 i0 3 rfl; have a4 := cell6 i0 4 rfl; have a5 := cell6 i0 5 rfl; have a6 := cell6 i0 6 rfl; have a7 := cell6 i0 7 rfl; have a8 := cell6 i0 8 rfl; have a9 := cell6 i0 9 rfl; have b0 := cell6 i1 0 rfl; have b1 := cell6 i1 1 rfl; have b2 := cell6 i1 2 rfl; have b3 := cell6 i1 3 rfl; have b4 := cell6 i1 4 rfl; have b5 := cell6 i1 5 rfl)
    go_simp
    all_goals with_reducible rfl
  (try simp only [List.getElem_toArray, List.getElem_cons_zero, List.getElem_cons_succ, Act.put, List.setIfInBounds_toArray, List.set_cons_zero, List.set_cons_succ])
  refine wpAnyH_take (i := 5) (v := ?_) rfl (by kernel_rfl) (by kernel_rfl) (by kernel_rfl) (fun _ _ _ h => h) (Or.inl ⟨by rfl, ?_⟩) (by assumption) ?_
  rotate_left
  · intro wS hSw
    (obtain ⟨i0, i1, i2⟩ := hSw; have lk := HLK.out wS i2; have a0 := cell6 i0 0 rfl; have a1 := cell6 i0 1 rfl; have a2 := cell6 i0 2 rfl; have a3 := cell6 i0 3 rfl; have a4 := cell6 i0 4 rfl; have a5 := cell6 i0 5 rfl; have a6 := cell6 i0 6 rfl; have a7 := cell6 i0 7 rfl; have a8 := cell6 i0 8 rfl; have a9 := cell6 i0 9 rfl; have b0 := cell6 i1 0 rfl; have b1 := cell6 i1 1 rfl; have b2 := cell6 i1 2 rfl; have b3 := cell6 i1 3 rfl; have b4 := cell6 i1 4 rfl; have b5 := cell6 i1 5 rfl)
    go_simp
    all_goals with_reducible rfl
  (try simp only [List.getElem_toArray, List.getElem_cons_zero, List.getElem_cons_succ, Act.put, List.setIfInBounds_toArray, List.set_cons_zero, List.set_cons_succ])
  refine wpAnyH_take (i := 6) (v := ?_) rfl (by kernel_rfl) (by kernel_rfl) (by kernel_rfl) (fun _ _ _ h => h) (Or.inl ⟨by rfl, ?_⟩) (by assumption) ?_
  rotate_left
  · intro wS hSw
    (obtain ⟨i0, i1, i2⟩ := hSw; have lk := HLK.out wS i2; have a0 := cell6 i0 0 rfl; have a1 := cell6 i0 1 rfl; have a2 := cell6 i0 2 rfl; have a3 := cell6 i0 3 rfl; have a4 := cell6 i0 4 rfl; have a5 := cell6 i0 5 rfl; have a6 := cell6 i0 6 rfl; have a7 := cell6 i0 7 rfl; have a8 := cell6 i0 8 rfl; have a9 := cell6 i0 9 rfl; have b0 := cell6 i1 0 rfl; have b1 := cell6 i1 1 rfl; have b2 := cell6 i1 2 rfl; have b3 := cell6 i1 3 rfl; have b4 := cell6 i1 4 rfl; have b5 := cell6 i1 5 rfl)
    go_simp
    all_goals with_reducible rfl
  (try simp only [List.getElem_toArray, List.getElem_cons_zero, List.getElem_cons_succ, Act.put, List.setIfInBounds_toArray, List.set_cons_zero, List.set_cons_succ])
  refine wpAnyH_take (i := 7) (v := ?_) rfl (by kernel_rfl) (by kernel_rfl) (by kernel_rfl) (fun _ _ _ h => h) (Or.inl ⟨by rfl, ?_⟩) (by assumption) ?_
  rotate_left
  · intro wS hSw
    (obtain ⟨i0, i1, i2⟩ := hSw; have lk := HLK.out wS i2; have a0 := cell6 i0 0 rfl; have a1 := cell6 i0 1 rfl; have a2 := cell6 i0 2 rfl; have a3 := cell6 i0 3 rfl; have a4 := cell6 i0 4 rfl; have a5 := cell6 i0 5 rfl; have a6 := cell6 i0 6 rfl; have a7 := cell6 i0 7 rfl; have a8 := cell6 i0 8 rfl; have a9 := cell6 i0 9 rfl; have b0 := cell6 i1 0 rfl; have b1 := cell6 i1 1 rfl; have b2 := cell6 i1 2 rfl; have b3 := cell6 i1 3 rfl; have b4 := cell6 i1 4 rfl; have b5 := cell6 i1 5 rfl)
    go_simp
    all_goals with_reducible rfl
  (try simp only [List.getElem_toArray, List.getElem_cons_zero, List.getElem_cons_succ, Act.put, List.setIfInBounds_toArray, List.set_cons_zero, List.set_cons_succ])
  refine wpAnyH_take (i := 9) (v := ?_) rfl (by kernel_rfl) (by kernel_rfl) (by kernel_rfl) (fun _ _ _ h => h) (Or.inl ⟨by rfl, ?_⟩) (by assumption) ?_
  rotate_left
  · intro wS hSw
    (obtain ⟨i0, i1, i2⟩ := hSw; have lk := HLK.out wS i2; have a0 := cell6 i0 0 rfl; have a1 := cell6 i0 1 rfl; have a2 := cell6 i0 2 rfl; have a3 := cell6 i0 3 rfl; have a4 := cell6 i0 4 rfl; have a5 := cell6 i0 5 rfl; have a6 := cell6 i0 6 rfl; have a7 := cell6 i0 7 rfl; have a8 := cell6 i0 8 rfl; have a9 := cell6 i0 9 rfl; have b0 := cell6 i1 0 rfl; have b1 := cell6 i1 1 rfl; have b2 := cell6 i1 2 rfl; have b3 := cell6 i1 3 rfl; have b4 := cell6 i1 4 rfl; have b5 := cell6 i1 5 rfl)
    go_simp
    all_goals with_reducible rfl
  (try simp only [List.getElem_toArray, List.getElem_cons_zero, List.getElem_cons_succ, Act.put, List.setIfInBounds_toArray, List.set_cons_zero, List.set_cons_succ])
  refine wpAnyH_take (i := 10) (v := ?_) rfl (by kernel_rfl) (by kernel_rfl) (by kernel_rfl) (fun _ _ _ h => h) (Or.inl ⟨by rfl, ?_⟩) (by assumption) ?_
  rotate_left
  · intro wS hSw
    (obtain ⟨i0, i1, i2⟩ := hSw; have lk := HLK.out wS i2; have a0 := cell6 i0 0 rfl; have a1 := cell6 i0 1 rfl; have a2 := cell6 i0 2 rfl; have a3 := cell6 i0 3 rfl; have a4 := cell6 i0 4 rfl; have a5 := cell6 i0 5 rfl; have a6 := cell6 i0 6 rfl; have a7 := cell6 i0 7 rfl; have a8 := cell6 i0 8 rfl; have a9 := cell6 i0 9 rfl; have b0 := cell6 i1 0 rfl; have b1 := cell6 i1 1 rfl; have b2 := cell6 i1 2 rfl; have b3 := cell6 i1 3 rfl; have b4 := cell6 i1 4 rfl; have b5 := cell6 i1 5 rfl)
    go_simp
    all_goals with_reducible rfl
  (try simp only [List.getElem_toArray, List.getElem_cons_zero, List.getElem_cons_succ, Act.put, List.setIfInBounds_toArray, List.set_cons_zero, List.set_cons_succ])
  refine wpAnyH_take (i := 12) (v := ?_) rfl (by kernel_rfl) (by kernel_rfl) (by kernel_rfl) (fun _ _ _ h => h) (Or.inl ⟨by rfl, ?_⟩) (by assumption) ?_
  rotate_left
  · intro wS hSw
    (obtain ⟨i0, i1, i2⟩ := hSw; have lk := HLK.out wS i2; have a0 := cell6 i0 0 rfl; have a1 := cell6 i0 1 rfl; have a2 := cell6 i0 2 rfl; have a3 := cell6 i0 3 rfl; have a4 := cell6 i0 4 rfl; have a5 := cell6 i0 5 rfl; have a6 := cell6 i0 6 rfl; have a7 := cell6 i0 7 rfl; have a8 := cell6 i0 8 rfl; have a9 := cell6 i0 9 rfl; have b0 := cell6 i1 0 rfl; have b1 := cell6 i1 1 rfl; have b2 := cell6 i1 2 rfl; have b3 := cell6 i1 3 rfl; have b4 := cell6 i1 4 rfl; have b5 := cell6 i1 5 rfl)
    go_simp
    all_goals with_reducible rfl
  (try simp only [List.getElem_toArray, List.getElem_cons_zero, List.getElem_cons_succ, Act.put, List.setIfInBounds_toArray, List.set_cons_zero, List.set_cons_succ])
  refine wpAnyH_take (i := 13) (v := ?_) rfl (by kernel_rfl) (by kernel_rfl) (by kernel_rfl) (fun _ _ _ h => h) (Or.inl ⟨by rfl, ?_⟩) (by assumption) ?_
  rotate_left
  · intro wS hSw
    (obtain ⟨i0, i1, i2⟩ := hSw; have lk := HLK.out wS i2; have a0 := cell6 i0 0 rfl; have a1 := cell6 i0 1 rfl; have a2 := cell6 i0 2 rfl; have a3 := cell6 i0 3 rfl; have a4 := cell6 i0 4 rfl; have a5 := cell6 i0 5 rfl; have a6 := cell6 i0 6 rfl; have a7 := cell6 i0 7 rfl; have a8 := cell6 i0 8 rfl; have a9 := cell6 i0 9 rfl; have b0 := cell6 i1 0 rfl; have b1 := cell6 i1 1 rfl; have b2 := cell6 i1 2 rfl; have b3 := cell6 i1 3 rfl; have b4 := cell6 i1 4 rfl; have b5 := cell6 i1 5 rfl)
    go_simp
    all_goals with_reducible rfl
  (try simp only [List.getElem_toArray, List.getElem_cons_zero, List.getElem_cons_succ, Act.put, List.setIfInBounds_toArray, List.set_cons_zero, List.set_cons_succ])
  refine held_one (i := 8) (by kernel_rfl) rfl (fun K hK => ?_)
  go_simp
  go_at_call 39
  refine (HF.out Y).mono ?_
  rintro e w2 ⟨rfl, hb2⟩
  have HB3 := Lib.hid (HB2.out.trans (hb2.mono HB2.out.size))
  refine hK.out _ _ ⟨(hb2.block _ (Array.getElem?_eq_some_iff.1 HH.out.1).1).trans HH.out.1, (hb2.block _ (Array.getElem?_eq_some_iff.1 HH.out.2.1).1).trans HH.out.2.1, HH.out.2.2.up hb2⟩ (fun hHeld => ?_)
  clear hK K hb2
  (try simp only [Act.put, List.setIfInBounds_toArray, List.set_cons_zero, List.set_cons_succ, List.getElem_toArray, List.getElem_cons_zero, List.getElem_cons_succ])
  refine wpAnyH_take (i := 11) (v := ?_) rfl (by kernel_rfl) (by kernel_rfl) (by kernel_rfl) (fun _ _ _ h => h) (Or.inl ⟨by rfl, ?_⟩) (by assumption) ?_
  rotate_left
  · intro wS hSw
    (skip)
    go_simp
    all_goals with_reducible rfl
  (try simp only [List.getElem_toArray, List.getElem_cons_zero, List.getElem_cons_succ, Act.put, List.setIfInBounds_toArray, List.set_cons_zero, List.set_cons_succ])
  refine held_one (i := 14) (by kernel_rfl) rfl (fun K hK => ?_)
  go_simp
  refine (HRel.out mk v w2).mono ?_
  rintro e w3 ⟨rfl, rfl⟩
  refine hK.out _ _ hHeld (fun hHeld => ?_)
  clear hK K
  (try simp only [Act.put, List.setIfInBounds_toArray, List.set_cons_zero, List.set_cons_succ, List.getElem_toArray, List.getElem_cons_zero, List.getElem_cons_succ])
  refine wpAnyH_take (i := 15) (v := ?_) rfl (by kernel_rfl) (by kernel_rfl) (by kernel_rfl) (fun _ _ _ h => h) (Or.inl ⟨by rfl, ?_⟩) (by assumption) ?_
  rotate_left
  · intro wS hSw
    (skip)
    go_simp
    all_goals with_reducible rfl
  (try simp only [List.getElem_toArray, List.getElem_cons_zero, List.getElem_cons_succ, Act.put, List.setIfInBounds_toArray, List.set_cons_zero, List.set_cons_succ])
  refine wpAnyH_done (by kernel_rfl) ?_ _
  go_wp2
  go_ret
  exact ⟨rfl, HB3.out⟩
theorem p_holds (d : Dat) (mb : Nat) : ∀ (N : Nat) (x : Ex), SizeOf.sizeOf x < N → (∃ k, exF k x = 0) → HoldC d mb x
  | 0, x, hN, _ => by omega
  | N + 1, .mk o l f m r v, hN, ⟨k, hk⟩ => fun W A cap h hm => by
    obtain ⟨hs, hp⟩ := wf_parts hk
    have ih : ∀ j, j < l.length → HoldC d mb (l.getD j .zero) := fun j hj => p_holds d mb N _ (by have := ex_sizeOf (.mk o l f m r v) j hj; exact Nat.lt_of_lt_of_le this (Nat.le_of_lt_succ hN)) ⟨k + 1, hp j hj⟩
    rw [holds_is]
    by_cases h1 : o = 1
    · rw [if_pos h1]; exact p_holds1 d mb o l f m r v A cap W h hm h1
    rw [if_neg h1]
    by_cases h2 : o = 2
    · rw [if_pos h2]; exact p_holds2 d mb o l f m r v A cap W h hm h2
    rw [if_neg h2]
    unfold shapeB at hs
    rw [if_neg (fun g => g.elim h1 h2)] at hs
    by_cases h3 : o = 3
    · rw [if_pos h3] at hs ⊢
      have hl : l.length = 1 := of_decide_eq_true hs
      have e : firstF d l = !holdsF d (l.getD 0 .zero) := by
        rcases l with _ | ⟨y, l⟩
        · simp at hl
        · rw [firstF]; rfl
      rw [e]
      exact p_holds3 d mb o l f m r v A cap W h hm h3 hl (p_fails (ih 0 (by omega)))
    rw [if_neg h3] at hs ⊢
    by_cases h4 : o = 4
    · rw [if_pos h4, all_is7]; exact p_holds4 d mb o l f m r v A cap W h hm h4 (fun j hj => p_fails (ih j hj))
    rw [if_neg h4]
    by_cases h5 : o = 5
    · rw [if_pos h5, any_is7]; exact p_holds5 d mb o l f m r v A cap W h hm h5 ih
    rw [if_neg h5]
    rw [if_neg (fun g => g.elim h4 h5)] at hs
    by_cases h6 : o = 6
    · rw [if_pos h6] at hs
      have hc := of_decide_eq_true hs
      exact p_holds6 d mb o l f m r v A cap W h hm h6 ⟨hc.2.1, hc.2.2.1⟩ hc.2.2.2
    · rw [if_neg h6] at hs; cases hs
end Go.Proofs.YtgeapkjegemkeaaDoor
