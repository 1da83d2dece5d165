/-
  The document's holds, and Holds of both sides: contracts. Conditions: those that each names.
-/
import Derived.Test.YthdmlbgejbpalaaDoorSemHolds
namespace Go.Proofs.YthdmlbgejbpalaaDoor
open Go Go.RowKit
set_option linter.unusedSimpArgs false
set_option linter.unusedVariables false

def HoldR (d : Dat) (x : Ex) : Prop := ∀ (W : World) (A : Option Addr) (cap : Nat), ExL W x A cap → Calls Tryd.prog 51 #[exV x A cap, datV d] W fun e w' => e = .returned (.bool (holdsF d x)) ∧ Below W.heap.size W w'
theorem any_at (d : Dat) (l : List Ex) (k : Nat) (hk : k < l.length) : anyF d (l.drop k) = (holdsF d (l.getD k .zero) || anyF d (l.drop (k + 1))) := by
  rw [List.drop_eq_getElem_cons hk]
  have : l.getD k .zero = l[k] := by rw [List.getD_eq_getElem?_getD, List.getElem?_eq_getElem hk]; rfl
  rw [this, anyF]
theorem all_at7 (d : Dat) (l : List Ex) (k : Nat) (hk : k < l.length) : allF d (l.drop k) = (holdsF d (l.getD k .zero) && allF d (l.drop (k + 1))) := by
  rw [List.drop_eq_getElem_cons hk]
  have : l.getD k .zero = l[k] := by rw [List.getD_eq_getElem?_getD, List.getElem?_eq_getElem hk]; rfl
  rw [this, allF]
theorem any_end (d : Dat) (l : List Ex) (k : Nat) (hk : l.length ≤ k) : anyF d (l.drop k) = false := by
  rw [List.drop_of_length_le hk, anyF]
theorem all_end (d : Dat) (l : List Ex) (k : Nat) (hk : l.length ≤ k) : allF d (l.drop k) = true := by
  rw [List.drop_of_length_le hk, allF]
set_option maxRecDepth 100000 in
set_option maxHeartbeats 4000000 in
theorem ref_holds1 (d : Dat) (o : Int) (l : List Ex) (f : Int) (m : Nat) (r : Int) (v : Nat) (A : Option Addr) (cap : Nat) (W : World) (h : ExL W (.mk o l f m r v) A cap) (ho : o = 1) :
    Calls Tryd.prog 51 #[exA o A l.length cap f m r v, datV d] W fun e w' => e = .returned (.bool true) ∧ Below W.heap.size W w' := by
  have hb := below_of W (W.alloc (exB o A l.length cap f m r v)) (datO d) (lbox W _)
  have HB := Lib.hid hb
  have HX : Hid (((W.alloc (exB o A l.length cap f m r v)).alloc (datO d)).heap[W.heap.size]? = some (exB o A l.length cap f m r v) ∧ ((W.alloc (exB o A l.length cap f m r v)).alloc (datO d)).heap[W.heap.size + 1]? = some (datO d)) := Lib.hid ⟨kept_alloc (World.alloc_heap_new W _) _, (by
    have := World.alloc_heap_new (W.alloc (exB o A l.length cap f m r v)) (datO d)
    simpa using this)⟩
  have q1 : (o == 1) = true := by rw [ho]; rfl
  have q2 : (o == 2) = false := by rw [ho]; rfl
  have q3 : (o == 3) = false := by rw [ho]; rfl
  have q4 : (o == 4) = false := by rw [ho]; rfl
  have q5 : (o == 5) = false := by rw [ho]; rfl
  clear h ho hb HX
  go_enter Tryd.func51, Tryd.ntmps51
  go_wp2
  go_ret
  exact ⟨rfl, HB.out⟩
set_option maxRecDepth 100000 in
set_option maxHeartbeats 4000000 in
theorem ref_holds2 (d : Dat) (o : Int) (l : List Ex) (f : Int) (m : Nat) (r : Int) (v : Nat) (A : Option Addr) (cap : Nat) (W : World) (h : ExL W (.mk o l f m r v) A cap) (ho : o = 2) :
    Calls Tryd.prog 51 #[exA o A l.length cap f m r v, datV d] W fun e w' => e = .returned (.bool false) ∧ Below W.heap.size W w' := by
  have hb := below_of W (W.alloc (exB o A l.length cap f m r v)) (datO d) (lbox W _)
  have HB := Lib.hid hb
  have HX : Hid (((W.alloc (exB o A l.length cap f m r v)).alloc (datO d)).heap[W.heap.size]? = some (exB o A l.length cap f m r v) ∧ ((W.alloc (exB o A l.length cap f m r v)).alloc (datO d)).heap[W.heap.size + 1]? = some (datO d)) := Lib.hid ⟨kept_alloc (World.alloc_heap_new W _) _, (by
    have := World.alloc_heap_new (W.alloc (exB o A l.length cap f m r v)) (datO d)
    simpa using this)⟩
  have q1 : (o == 1) = false := by rw [ho]; rfl
  have q2 : (o == 2) = true := by rw [ho]; rfl
  have q3 : (o == 3) = false := by rw [ho]; rfl
  have q4 : (o == 4) = false := by rw [ho]; rfl
  have q5 : (o == 5) = false := by rw [ho]; rfl
  clear h ho hb HX
  go_enter Tryd.func51, Tryd.ntmps51
  go_wp2
  go_ret
  exact ⟨rfl, HB.out⟩
set_option maxRecDepth 100000 in
set_option maxHeartbeats 4000000 in
theorem ref_holds3 (d : Dat) (o : Int) (l : List Ex) (f : Int) (m : Nat) (r : Int) (v : Nat) (A : Option Addr) (cap : Nat) (W : World) (h : ExL W (.mk o l f m r v) A cap) (ho : o = 3) (hl : l.length = 1) (ih : HoldR d (l.getD 0 .zero)) :
    Calls Tryd.prog 51 #[exA o A l.length cap f m r v, datV d] W fun e w' => e = .returned (.bool (!holdsF d (l.getD 0 .zero))) ∧ Below W.heap.size W w' := by
  have hb := below_of W (W.alloc (exB o A l.length cap f m r v)) (datO d) (lbox W _)
  have HB := Lib.hid hb
  have HX : Hid (((W.alloc (exB o A l.length cap f m r v)).alloc (datO d)).heap[W.heap.size]? = some (exB o A l.length cap f m r v) ∧ ((W.alloc (exB o A l.length cap f m r v)).alloc (datO d)).heap[W.heap.size + 1]? = some (datO d)) := Lib.hid ⟨kept_alloc (World.alloc_heap_new W _) _, (by
    have := World.alloc_heap_new (W.alloc (exB o A l.length cap f m r v)) (datO d)
    simpa using this)⟩
  have q1 : (o == 1) = false := by rw [ho]; rfl
  have q2 : (o == 2) = false := by rw [ho]; rfl
  have q3 : (o == 3) = true := by rw [ho]; rfl
  have q4 : (o == 4) = false := by rw [ho]; rfl
  have q5 : (o == 5) = false := by rw [ho]; rfl
  obtain ⟨tb, ob, rfl, htl, A1, cap1, hx1, hc1⟩ := exL_arg h 0 (by show 0 < l.length; omega)
  change ExL W (l.getD 0 .zero) A1 cap1 at hx1
  change ∀ j u, (exC (l.getD 0 .zero) A1 cap1)[j]? = some u → W.cell? ⟨tb, ob + 0 * 6 + j, none⟩ = some u at hc1
  generalize l.getD 0 .zero = y at ih hx1 hc1 ⊢
  generalize hn : l.length = n at HB HX hb hl ⊢
  subst hl
  have HS : Hid ((∀ j u, (exC y A1 cap1)[j]? = some u → ((W.alloc (exB o (some ⟨tb, ob, none⟩) 1 cap f m r v)).alloc (datO d)).cell? ⟨tb, ob + j, none⟩ = some u) ∧ ExL ((W.alloc (exB o (some ⟨tb, ob, none⟩) 1 cap f m r v)).alloc (datO d)) y A1 cap1) := Lib.hid ⟨fun j u hj => (hb.cell (p := ⟨tb, ob + j, none⟩) htl).trans (by have := hc1 j u hj; rw [Nat.zero_mul, Nat.add_zero] at this; exact this), hx1.below hb⟩
  have HI := Lib.hid ih
  have HHT : Hid (tb < ((W.alloc (exB o (some ⟨tb, ob, none⟩) 1 cap f m r v)).alloc (datO d)).heap.size) := Lib.hid (Nat.lt_of_lt_of_le htl hb.size)
  clear h ho hb hc1 hx1 ih hn htl
  go_enter Tryd.func51, Tryd.ntmps51
  go_wp2
  refine wp_region_held_drew (S := fun W' => W'.heap[W.heap.size]? = some (exB o (some ⟨tb, ob, none⟩) 1 cap f m r v) ∧ W'.heap[W.heap.size + 1]? = some (datO d) ∧ ∀ j u, (exC y A1 cap1)[j]? = some u → W'.cell? ⟨tb, ob + j, none⟩ = some u) (by kernel_rfl) ⟨HX.out.1, HX.out.2, HS.out.1⟩ (fun hHeld => ?_)
  have HB2 := Lib.hid (below_drawn HB.out 1)
  have HY := Lib.hid (HI.out ((W.alloc (exB o (some ⟨tb, ob, none⟩) 1 cap f m r v)).alloc (datO d)).drew A1 cap1 (HS.out.2.below (below_drawn (Below.refl _ _) 1)))
  change Hid (Below W.heap.size W ((W.alloc (exB o (some ⟨tb, ob, none⟩) 1 cap f m r v)).alloc (datO d)).drew) at HB2
  have hZ : tb < ((W.alloc (exB o (some ⟨tb, ob, none⟩) 1 cap f m r v)).alloc (datO d)).drew.heap.size := HHT.out
  clear HB HS HI HHT HX
  generalize ((W.alloc (exB o (some ⟨tb, ob, none⟩) 1 cap f m r v)).alloc (datO d)).drew = Y at HB2 HY hHeld hZ ⊢
  have HH := Lib.hid hHeld
  refine wpAnyH_take (i := 0) (v := ?_) rfl (by kernel_rfl) (by kernel_rfl) (by kernel_rfl) (fun _ _ _ h => h) (Or.inl ⟨by rfl, ?_⟩) (by assumption) ?_
  rotate_left
  · intro wS hSw
    (obtain ⟨i0, i1, i2⟩ := hSw; have a0 := cell6 i1 0 rfl; have a1 := cell6 i1 1 rfl; have a2 := cell6 i1 2 rfl; have a3 := cell6 i1 3 rfl; have a4 := cell6 i1 4 rfl; have a5 := cell6 i1 5 rfl; have a6 := cell6 i1 6 rfl; have a7 := cell6 i1 7 rfl; have a8 := cell6 i1 8 rfl; have b1 := cell6 i0 1 rfl; have e0 : wS.cell? ⟨tb, ob, none⟩ = some (.int .i64 y.op) := i2 0 _ rfl; have e1 := i2 1 _ rfl; have e2 := i2 2 _ rfl; have e3 := i2 3 _ rfl; have e4 := i2 4 _ rfl; have e5 := i2 5 _ rfl)
    go_simp
    all_goals with_reducible rfl
  (try simp only [List.getElem_toArray, List.getElem_cons_zero, List.getElem_cons_succ, Act.put, List.setIfInBounds_toArray, List.set_cons_zero, List.set_cons_succ])
  refine wpAnyH_take (i := 1) (v := ?_) rfl (by kernel_rfl) (by kernel_rfl) (by kernel_rfl) (fun _ _ _ h => h) (Or.inl ⟨by rfl, ?_⟩) (by assumption) ?_
  rotate_left
  · intro wS hSw
    (obtain ⟨i0, i1, i2⟩ := hSw; have a0 := cell6 i1 0 rfl; have a1 := cell6 i1 1 rfl; have a2 := cell6 i1 2 rfl; have a3 := cell6 i1 3 rfl; have a4 := cell6 i1 4 rfl; have a5 := cell6 i1 5 rfl; have a6 := cell6 i1 6 rfl; have a7 := cell6 i1 7 rfl; have a8 := cell6 i1 8 rfl; have b1 := cell6 i0 1 rfl; have e0 : wS.cell? ⟨tb, ob, none⟩ = some (.int .i64 y.op) := i2 0 _ rfl; have e1 := i2 1 _ rfl; have e2 := i2 2 _ rfl; have e3 := i2 3 _ rfl; have e4 := i2 4 _ rfl; have e5 := i2 5 _ rfl)
    go_simp
    all_goals with_reducible rfl
  (try simp only [List.getElem_toArray, List.getElem_cons_zero, List.getElem_cons_succ, Act.put, List.setIfInBounds_toArray, List.set_cons_zero, List.set_cons_succ])
  refine wpAnyH_take (i := 2) (v := ?_) rfl (by kernel_rfl) (by kernel_rfl) (by kernel_rfl) (fun _ _ _ h => h) (Or.inl ⟨by rfl, ?_⟩) (by assumption) ?_
  rotate_left
  · intro wS hSw
    (obtain ⟨i0, i1, i2⟩ := hSw; have a0 := cell6 i1 0 rfl; have a1 := cell6 i1 1 rfl; have a2 := cell6 i1 2 rfl; have a3 := cell6 i1 3 rfl; have a4 := cell6 i1 4 rfl; have a5 := cell6 i1 5 rfl; have a6 := cell6 i1 6 rfl; have a7 := cell6 i1 7 rfl; have a8 := cell6 i1 8 rfl; have b1 := cell6 i0 1 rfl; have e0 : wS.cell? ⟨tb, ob, none⟩ = some (.int .i64 y.op) := i2 0 _ rfl; have e1 := i2 1 _ rfl; have e2 := i2 2 _ rfl; have e3 := i2 3 _ rfl; have e4 := i2 4 _ rfl; have e5 := i2 5 _ rfl)
    go_simp
    all_goals with_reducible rfl
  (try simp only [List.getElem_toArray, List.getElem_cons_zero, List.getElem_cons_succ, Act.put, List.setIfInBounds_toArray, List.set_cons_zero, List.set_cons_succ])
  refine wpAnyH_take (i := 3) (v := ?_) rfl (by kernel_rfl) (by kernel_rfl) (by kernel_rfl) (fun _ _ _ h => h) (Or.inl ⟨by rfl, ?_⟩) (by assumption) ?_
  rotate_left
  · intro wS hSw
    (obtain ⟨i0, i1, i2⟩ := hSw; have a0 := cell6 i1 0 rfl; have a1 := cell6 i1 1 rfl; have a2 := cell6 i1 2 rfl; have a3 := cell6 i1 3 rfl; have a4 := cell6 i1 4 rfl; have a5 := cell6 i1 5 rfl; have a6 := cell6 i1 6 rfl; have a7 := cell6 i1 7 rfl; have a8 := cell6 i1 8 rfl; have b1 := cell6 i0 1 rfl; have e0 : wS.cell? ⟨tb, ob, none⟩ = some (.int .i64 y.op) := i2 0 _ rfl; have e1 := i2 1 _ rfl; have e2 := i2 2 _ rfl; have e3 := i2 3 _ rfl; have e4 := i2 4 _ rfl; have e5 := i2 5 _ rfl)
    go_simp
    all_goals with_reducible rfl
  (try simp only [List.getElem_toArray, List.getElem_cons_zero, List.getElem_cons_succ, Act.put, List.setIfInBounds_toArray, List.set_cons_zero, List.set_cons_succ])
  refine wpAnyH_take (i := 4) (v := ?_) rfl (by kernel_rfl) (by kernel_rfl) (by kernel_rfl) (fun _ _ _ h => h) (Or.inl ⟨by rfl, ?_⟩) (by assumption) ?_
  rotate_left
  · intro wS hSw
    (obtain ⟨i0, i1, i2⟩ := hSw; have a0 := cell6 i1 0 rfl; have a1 := cell6 i1 1 rfl; have a2 := cell6 i1 2 rfl; have a3 := cell6 i1 3 rfl; have a4 := cell6 i1 4 rfl; have a5 := cell6 i1 5 rfl; have a6 := cell6 i1 6 rfl; have a7 := cell6 i1 7 rfl; have a8 := cell6 i1 8 rfl; have b1 := cell6 i0 1 rfl; have e0 : wS.cell? ⟨tb, ob, none⟩ = some (.int .i64 y.op) := i2 0 _ rfl; have e1 := i2 1 _ rfl; have e2 := i2 2 _ rfl; have e3 := i2 3 _ rfl; have e4 := i2 4 _ rfl; have e5 := i2 5 _ rfl)
    go_simp
    all_goals with_reducible rfl
  (try simp only [List.getElem_toArray, List.getElem_cons_zero, List.getElem_cons_succ, Act.put, List.setIfInBounds_toArray, List.set_cons_zero, List.set_cons_succ])
  refine held_one (i := 5) (by kernel_rfl) rfl (fun K hK => ?_)
  go_simp
  go_at_call 51
  refine HY.out.mono ?_
  rintro e w2 ⟨rfl, hb2⟩
  have HB3 := Lib.hid (HB2.out.trans (hb2.mono HB2.out.size))
  refine hK.out _ _ ⟨(hb2.block _ (Array.getElem?_eq_some_iff.1 HH.out.1).1).trans HH.out.1, (hb2.block _ (Array.getElem?_eq_some_iff.1 HH.out.2.1).1).trans HH.out.2.1, fun j u hj => (hb2.cell (p := ⟨tb, ob + j, none⟩) hZ).trans (HH.out.2.2 j u hj)⟩ (fun hH2 => ?_)
  clear hK K hHeld hb2
  (try simp only [Act.put, List.setIfInBounds_toArray, List.set_cons_zero, List.set_cons_succ, List.getElem_toArray, List.getElem_cons_zero, List.getElem_cons_succ])
  refine wpAnyH_take (i := 6) (v := ?_) rfl (by kernel_rfl) (by kernel_rfl) (by kernel_rfl) (fun _ _ _ h => h) (Or.inl ⟨by rfl, ?_⟩) (by assumption) ?_
  rotate_left
  · intro wS hSw
    (skip)
    go_simp
    all_goals with_reducible rfl
  (try simp only [List.getElem_toArray, List.getElem_cons_zero, List.getElem_cons_succ, Act.put, List.setIfInBounds_toArray, List.set_cons_zero, List.set_cons_succ])
  refine wpAnyH_done (by kernel_rfl) ?_ _
  go_wp2
  go_ret
  exact ⟨rfl, HB3.out⟩
set_option maxRecDepth 100000 in
set_option maxHeartbeats 4000000 in
theorem ref_holds4 (d : Dat) (o : Int) (l : List Ex) (f : Int) (m : Nat) (r : Int) (v : Nat) (A : Option Addr) (cap : Nat) (W : World) (h : ExL W (.mk o l f m r v) A cap) (ho : o = 4) (ih : ∀ k, k < l.length → HoldR d (l.getD k .zero)) :
    Calls Tryd.prog 51 #[exA o A l.length cap f m r v, datV d] W fun e w' => e = .returned (.bool (allF d l)) ∧ Below W.heap.size W w' := by
  have hb := below_of W (W.alloc (exB o A l.length cap f m r v)) (datO d) (lbox W _)
  have HB := Lib.hid hb
  have HX : Hid (((W.alloc (exB o A l.length cap f m r v)).alloc (datO d)).heap[W.heap.size]? = some (exB o A l.length cap f m r v) ∧ ((W.alloc (exB o A l.length cap f m r v)).alloc (datO d)).heap[W.heap.size + 1]? = some (datO d)) := Lib.hid ⟨kept_alloc (World.alloc_heap_new W _) _, (by
    have := World.alloc_heap_new (W.alloc (exB o A l.length cap f m r v)) (datO d)
    simpa using this)⟩
  have q1 : (o == 1) = false := by rw [ho]; rfl
  have q2 : (o == 2) = false := by rw [ho]; rfl
  have q3 : (o == 3) = false := by rw [ho]; rfl
  have q4 : (o == 4) = true := by rw [ho]; rfl
  have q5 : (o == 5) = false := by rw [ho]; rfl
  have q5b : (o == 5) = false := by rw [ho]; rfl
  have HEX := Lib.hid h
  have hlen : l.length ≤ maxLen := h.1
  unfold maxLen at hlen
  have HIH := Lib.hid ih
  obtain ⟨g, hg⟩ : ∃ g, g = allF d l := ⟨_, rfl⟩
  rw [← hg]
  have HG : Hid (g = allF d (l.drop 0)) := Lib.hid hg
  obtain ⟨n, hn⟩ : ∃ n, n = l.length := ⟨_, rfl⟩
  rw [← hn] at HX HB hb hlen ⊢
  have HN := Lib.hid hn
  clear hn hg ih h ho hb
  go_enter Tryd.func51, Tryd.ntmps51
  go_wp2
  go_loopw [6] (fun i wr => ∃ k : Nat, k ≤ n ∧ i = .int .i64 (k : Int) ∧ g = allF d (l.drop k) ∧ Below W.heap.size W wr ∧ wr.heap[W.heap.size]? = some (exB o A n cap f m r v) ∧ wr.heap[W.heap.size + 1]? = some (datO d)) (fun i _ => n - (intOf i).toNat)
  case atStart => exact ⟨0, Nat.zero_le _, rfl, HG.out, HB.out, HX.out.1, HX.out.2⟩
  case round =>
    obtain ⟨k, hk, rfl, hgk, hbw, hbx, hby⟩ := hrel
    have c0 : wr.cell? ⟨W.heap.size, 0, none⟩ = some (.int .i64 o) := cell6 hbx 0 rfl
    have c1 : wr.cell? ⟨W.heap.size, 1, none⟩ = some (.slice A n cap) := cell6 hbx 1 rfl
    by_cases hlt : k < n
    · have hlt' : (k : Int) < (n : Int) := by omega
      have hw : IntKind.i64.wrap ((k : Int) + 1) = ((k + 1 : Nat) : Int) := by rw [IntWalk.i64_in _ (by omega)]; omega
      have hkl : k < l.length := by have := HN.out; omega
      rw [all_at7 d l k hkl] at hgk
      obtain ⟨tb, ob, rfl, htl, A1, cap1, hx1, hc1⟩ := exL_arg (x := .mk o l f m r v) HEX.out k hkl
      have ih2 := HIH.out k hkl
      change ExL W (l.getD k .zero) A1 cap1 at hx1
      change ∀ j u, (exC (l.getD k .zero) A1 cap1)[j]? = some u → W.cell? ⟨tb, ob + k * 6 + j, none⟩ = some u at hc1
      generalize l.getD k .zero = y at hx1 hc1 ih2 hgk
      have HC1 : Hid (∀ j u, (exC y A1 cap1)[j]? = some u → wr.cell? ⟨tb, ob + k * 6 + j, none⟩ = some u) := Lib.hid (fun j u hj => (hbw.cell (p := ⟨tb, ob + k * 6 + j, none⟩) htl).trans (hc1 j u hj))
      have HZ : Hid (tb < wr.heap.size) := Lib.hid (Nat.lt_of_lt_of_le htl hbw.size)
      have HIY := Lib.hid (ih2 wr.drew A1 cap1 (ExL.below (below_drawn (Below.refl _ _) 1) (hx1.below hbw)))
      have HBW := Lib.hid (And.intro hbw (And.intro hbx hby))
      clear hx1 hc1 hbw hbx hby ih2
      have HGK := Lib.hid hgk
      clear hgk
      generalize hbv : holdsF d y = bv at HIY HGK
      clear hbv
      go_wp2
      refine wp_region_held_drew (S := fun W' => W'.heap[W.heap.size]? = some (exB o (some ⟨tb, ob, none⟩) n cap f m r v) ∧ W'.heap[W.heap.size + 1]? = some (datO d) ∧ ∀ j u, (exC y A1 cap1)[j]? = some u → W'.cell? ⟨tb, ob + k * 6 + j, none⟩ = some u) (by kernel_rfl) ⟨HBW.out.2.1, HBW.out.2.2, HC1.out⟩ (fun hHeld => ?_)
      have HB2 : Hid (Below W.heap.size W wr.drew) := Lib.hid (below_drawn HBW.out.1 1)
      have hZ : tb < wr.drew.heap.size := HZ.out
      clear HC1 HZ HBW c0 c1
      generalize wr.drew = Y at HB2 HIY hHeld hZ ⊢
      have HH := Lib.hid hHeld
      refine wpAnyH_take (i := 0) (v := ?_) rfl (by kernel_rfl) (by kernel_rfl) (by kernel_rfl) (fun _ _ _ h => h) (Or.inl ⟨by rfl, ?_⟩) (by assumption) ?_
      rotate_left
      · intro wS hSw
        (obtain ⟨i0, i1, i2⟩ := hSw; have a0 := cell6 i1 0 rfl; have a1 := cell6 i1 1 rfl; have a2 := cell6 i1 2 rfl; have a3 := cell6 i1 3 rfl; have a4 := cell6 i1 4 rfl; have a5 := cell6 i1 5 rfl; have a6 := cell6 i1 6 rfl; have a7 := cell6 i1 7 rfl; have a8 := cell6 i1 8 rfl; have b1 := cell6 i0 1 rfl; have e0 : wS.cell? ⟨tb, ob + k * 6, none⟩ = some (.int .i64 y.op) := i2 0 _ rfl; have e1 := i2 1 _ rfl; have e2 := i2 2 _ rfl; have e3 := i2 3 _ rfl; have e4 := i2 4 _ rfl; have e5 := i2 5 _ rfl)
        go_simp
        all_goals with_reducible rfl
      (try simp only [List.getElem_toArray, List.getElem_cons_zero, List.getElem_cons_succ, Act.put, List.setIfInBounds_toArray, List.set_cons_zero, List.set_cons_succ])
      refine wpAnyH_take (i := 1) (v := ?_) rfl (by kernel_rfl) (by kernel_rfl) (by kernel_rfl) (fun _ _ _ h => h) (Or.inl ⟨by rfl, ?_⟩) (by assumption) ?_
      rotate_left
      · intro wS hSw
        (obtain ⟨i0, i1, i2⟩ := hSw; have a0 := cell6 i1 0 rfl; have a1 := cell6 i1 1 rfl; have a2 := cell6 i1 2 rfl; have a3 := cell6 i1 3 rfl; have a4 := cell6 i1 4 rfl; have a5 := cell6 i1 5 rfl; have a6 := cell6 i1 6 rfl; have a7 := cell6 i1 7 rfl; have a8 := cell6 i1 8 rfl; have b1 := cell6 i0 1 rfl; have e0 : wS.cell? ⟨tb, ob + k * 6, none⟩ = some (.int .i64 y.op) := i2 0 _ rfl; have e1 := i2 1 _ rfl; have e2 := i2 2 _ rfl; have e3 := i2 3 _ rfl; have e4 := i2 4 _ rfl; have e5 := i2 5 _ rfl)
        go_simp
        all_goals with_reducible rfl
      (try simp only [List.getElem_toArray, List.getElem_cons_zero, List.getElem_cons_succ, Act.put, List.setIfInBounds_toArray, List.set_cons_zero, List.set_cons_succ])
      refine wpAnyH_take (i := 2) (v := ?_) rfl (by kernel_rfl) (by kernel_rfl) (by kernel_rfl) (fun _ _ _ h => h) (Or.inl ⟨by rfl, ?_⟩) (by assumption) ?_
      rotate_left
      · intro wS hSw
        (obtain ⟨i0, i1, i2⟩ := hSw; have a0 := cell6 i1 0 rfl; have a1 := cell6 i1 1 rfl; have a2 := cell6 i1 2 rfl; have a3 := cell6 i1 3 rfl; have a4 := cell6 i1 4 rfl; have a5 := cell6 i1 5 rfl; have a6 := cell6 i1 6 rfl; have a7 := cell6 i1 7 rfl; have a8 := cell6 i1 8 rfl; have b1 := cell6 i0 1 rfl; have e0 : wS.cell? ⟨tb, ob + k * 6, none⟩ = some (.int .i64 y.op) := i2 0 _ rfl; have e1 := i2 1 _ rfl; have e2 := i2 2 _ rfl; have e3 := i2 3 _ rfl; have e4 := i2 4 _ rfl; have e5 := i2 5 _ rfl)
        go_simp
        all_goals with_reducible rfl
      (try simp only [List.getElem_toArray, List.getElem_cons_zero, List.getElem_cons_succ, Act.put, List.setIfInBounds_toArray, List.set_cons_zero, List.set_cons_succ])
      refine wpAnyH_take (i := 3) (v := ?_) rfl (by kernel_rfl) (by kernel_rfl) (by kernel_rfl) (fun _ _ _ h => h) (Or.inl ⟨by rfl, ?_⟩) (by assumption) ?_
      rotate_left
      · intro wS hSw
        (obtain ⟨i0, i1, i2⟩ := hSw; have a0 := cell6 i1 0 rfl; have a1 := cell6 i1 1 rfl; have a2 := cell6 i1 2 rfl; have a3 := cell6 i1 3 rfl; have a4 := cell6 i1 4 rfl; have a5 := cell6 i1 5 rfl; have a6 := cell6 i1 6 rfl; have a7 := cell6 i1 7 rfl; have a8 := cell6 i1 8 rfl; have b1 := cell6 i0 1 rfl; have e0 : wS.cell? ⟨tb, ob + k * 6, none⟩ = some (.int .i64 y.op) := i2 0 _ rfl; have e1 := i2 1 _ rfl; have e2 := i2 2 _ rfl; have e3 := i2 3 _ rfl; have e4 := i2 4 _ rfl; have e5 := i2 5 _ rfl)
        go_simp
        all_goals with_reducible rfl
      (try simp only [List.getElem_toArray, List.getElem_cons_zero, List.getElem_cons_succ, Act.put, List.setIfInBounds_toArray, List.set_cons_zero, List.set_cons_succ])
      refine wpAnyH_take (i := 4) (v := ?_) rfl (by kernel_rfl) (by kernel_rfl) (by kernel_rfl) (fun _ _ _ h => h) (Or.inl ⟨by rfl, ?_⟩) (by assumption) ?_
      rotate_left
      · intro wS hSw
        (obtain ⟨i0, i1, i2⟩ := hSw; have a0 := cell6 i1 0 rfl; have a1 := cell6 i1 1 rfl; have a2 := cell6 i1 2 rfl; have a3 := cell6 i1 3 rfl; have a4 := cell6 i1 4 rfl; have a5 := cell6 i1 5 rfl; have a6 := cell6 i1 6 rfl; have a7 := cell6 i1 7 rfl; have a8 := cell6 i1 8 rfl; have b1 := cell6 i0 1 rfl; have e0 : wS.cell? ⟨tb, ob + k * 6, none⟩ = some (.int .i64 y.op) := i2 0 _ rfl; have e1 := i2 1 _ rfl; have e2 := i2 2 _ rfl; have e3 := i2 3 _ rfl; have e4 := i2 4 _ rfl; have e5 := i2 5 _ rfl)
        go_simp
        all_goals with_reducible rfl
      (try simp only [List.getElem_toArray, List.getElem_cons_zero, List.getElem_cons_succ, Act.put, List.setIfInBounds_toArray, List.set_cons_zero, List.set_cons_succ])
      refine wpAnyH_take (i := 5) (v := ?_) rfl (by kernel_rfl) (by kernel_rfl) (by kernel_rfl) (fun _ _ _ h => h) (Or.inl ⟨by rfl, ?_⟩) (by assumption) ?_
      rotate_left
      · intro wS hSw
        (obtain ⟨i0, i1, i2⟩ := hSw; have a0 := cell6 i1 0 rfl; have a1 := cell6 i1 1 rfl; have a2 := cell6 i1 2 rfl; have a3 := cell6 i1 3 rfl; have a4 := cell6 i1 4 rfl; have a5 := cell6 i1 5 rfl; have a6 := cell6 i1 6 rfl; have a7 := cell6 i1 7 rfl; have a8 := cell6 i1 8 rfl; have b1 := cell6 i0 1 rfl; have e0 : wS.cell? ⟨tb, ob + k * 6, none⟩ = some (.int .i64 y.op) := i2 0 _ rfl; have e1 := i2 1 _ rfl; have e2 := i2 2 _ rfl; have e3 := i2 3 _ rfl; have e4 := i2 4 _ rfl; have e5 := i2 5 _ rfl)
        go_simp
        all_goals with_reducible rfl
      (try simp only [List.getElem_toArray, List.getElem_cons_zero, List.getElem_cons_succ, Act.put, List.setIfInBounds_toArray, List.set_cons_zero, List.set_cons_succ])
      refine held_one (i := 6) (by kernel_rfl) rfl (fun K hK => ?_)
      go_simp
      go_at_call 51
      refine HIY.out.mono ?_
      rintro e w2 ⟨rfl, hb2⟩
      have HB3 := Lib.hid (HB2.out.trans (hb2.mono HB2.out.size))
      have hk0 := (hb2.block _ (Array.getElem?_eq_some_iff.1 HH.out.1).1).trans HH.out.1
      have hk1 := (hb2.block _ (Array.getElem?_eq_some_iff.1 HH.out.2.1).1).trans HH.out.2.1
      refine hK.out _ _ ⟨hk0, hk1, fun j u hj => (hb2.cell (p := ⟨tb, ob + k * 6 + j, none⟩) hZ).trans (HH.out.2.2 j u hj)⟩ (fun hH2 => ?_)
      have HK2 := Lib.hid (And.intro hk0 hk1)
      have c0 : w2.cell? ⟨W.heap.size, 0, none⟩ = some (.int .i64 o) := cell6 hk0 0 rfl
      clear hK K hHeld hb2 hk0 hk1
      (try simp only [Act.put, List.setIfInBounds_toArray, List.set_cons_zero, List.set_cons_succ, List.getElem_toArray, List.getElem_cons_zero, List.getElem_cons_succ])
      refine wpAnyH_take (i := 7) (v := ?_) rfl (by kernel_rfl) (by kernel_rfl) (by kernel_rfl) (fun _ _ _ h => h) (Or.inl ⟨by rfl, ?_⟩) (by assumption) ?_
      rotate_left
      · intro wS hSw
        (skip)
        go_simp
        all_goals with_reducible rfl
      (try simp only [List.getElem_toArray, List.getElem_cons_zero, List.getElem_cons_succ, Act.put, List.setIfInBounds_toArray, List.set_cons_zero, List.set_cons_succ])
      refine wpAnyH_done (by kernel_rfl) ?_ _
      cases bv with
      | false =>
        have HG2 : Hid (g = false) := Lib.hid (by rw [HGK.out]; rfl)
        go_wp2
        go_ret
        exact ⟨by rw [HG2.out]; rfl, HB3.out⟩
      | true =>
        have HG2 : Hid (g = allF d (l.drop (k + 1))) := Lib.hid (by rw [HGK.out]; rfl)
        go_wp2
        exact ⟨⟨k + 1, by omega, by go_num, HG2.out, HB3.out, HK2.out.1, HK2.out.2⟩, by simp [intOf]; omega⟩
    · have hlt' : ¬ (k : Int) < (n : Int) := by omega
      rw [all_end d l k (by have := HN.out; omega)] at hgk
      have HGK := Lib.hid hgk
      have HBW := Lib.hid hbw
      have q4b : (o == 4) = true := q4
      clear hgk hbw hbx hby
      go_wp2
      go_ret
      exact ⟨by rw [HGK.out]; rfl, HBW.out⟩
set_option maxRecDepth 100000 in
set_option maxHeartbeats 4000000 in
theorem ref_holds5 (d : Dat) (o : Int) (l : List Ex) (f : Int) (m : Nat) (r : Int) (v : Nat) (A : Option Addr) (cap : Nat) (W : World) (h : ExL W (.mk o l f m r v) A cap) (ho : o = 5) (ih : ∀ k, k < l.length → HoldR d (l.getD k .zero)) :
    Calls Tryd.prog 51 #[exA o A l.length cap f m r v, datV d] W fun e w' => e = .returned (.bool (anyF d l)) ∧ Below W.heap.size W w' := by
  have hb := below_of W (W.alloc (exB o A l.length cap f m r v)) (datO d) (lbox W _)
  have HB := Lib.hid hb
  have HX : Hid (((W.alloc (exB o A l.length cap f m r v)).alloc (datO d)).heap[W.heap.size]? = some (exB o A l.length cap f m r v) ∧ ((W.alloc (exB o A l.length cap f m r v)).alloc (datO d)).heap[W.heap.size + 1]? = some (datO d)) := Lib.hid ⟨kept_alloc (World.alloc_heap_new W _) _, (by
    have := World.alloc_heap_new (W.alloc (exB o A l.length cap f m r v)) (datO d)
    simpa using this)⟩
  have q1 : (o == 1) = false := by rw [ho]; rfl
  have q2 : (o == 2) = false := by rw [ho]; rfl
  have q3 : (o == 3) = false := by rw [ho]; rfl
  have q4 : (o == 4) = false := by rw [ho]; rfl
  have q5 : (o == 5) = true := by rw [ho]; rfl
  have q5b : (o == 5) = true := by rw [ho]; rfl
  have HEX := Lib.hid h
  have hlen : l.length ≤ maxLen := h.1
  unfold maxLen at hlen
  have HIH := Lib.hid ih
  obtain ⟨g, hg⟩ : ∃ g, g = anyF d l := ⟨_, rfl⟩
  rw [← hg]
  have HG : Hid (g = anyF d (l.drop 0)) := Lib.hid hg
  obtain ⟨n, hn⟩ : ∃ n, n = l.length := ⟨_, rfl⟩
  rw [← hn] at HX HB hb hlen ⊢
  have HN := Lib.hid hn
  clear hn hg ih h ho hb
  go_enter Tryd.func51, Tryd.ntmps51
  go_wp2
  go_loopw [6] (fun i wr => ∃ k : Nat, k ≤ n ∧ i = .int .i64 (k : Int) ∧ g = anyF d (l.drop k) ∧ Below W.heap.size W wr ∧ wr.heap[W.heap.size]? = some (exB o A n cap f m r v) ∧ wr.heap[W.heap.size + 1]? = some (datO d)) (fun i _ => n - (intOf i).toNat)
  case atStart => exact ⟨0, Nat.zero_le _, rfl, HG.out, HB.out, HX.out.1, HX.out.2⟩
  case round =>
    obtain ⟨k, hk, rfl, hgk, hbw, hbx, hby⟩ := hrel
    have c0 : wr.cell? ⟨W.heap.size, 0, none⟩ = some (.int .i64 o) := cell6 hbx 0 rfl
    have c1 : wr.cell? ⟨W.heap.size, 1, none⟩ = some (.slice A n cap) := cell6 hbx 1 rfl
    by_cases hlt : k < n
    · have hlt' : (k : Int) < (n : Int) := by omega
      have hw : IntKind.i64.wrap ((k : Int) + 1) = ((k + 1 : Nat) : Int) := by rw [IntWalk.i64_in _ (by omega)]; omega
      have hkl : k < l.length := by have := HN.out; omega
      rw [any_at d l k hkl] at hgk
      obtain ⟨tb, ob, rfl, htl, A1, cap1, hx1, hc1⟩ := exL_arg (x := .mk o l f m r v) HEX.out k hkl
      have ih2 := HIH.out k hkl
      change ExL W (l.getD k .zero) A1 cap1 at hx1
      change ∀ j u, (exC (l.getD k .zero) A1 cap1)[j]? = some u → W.cell? ⟨tb, ob + k * 6 + j, none⟩ = some u at hc1
      generalize l.getD k .zero = y at hx1 hc1 ih2 hgk
      have HC1 : Hid (∀ j u, (exC y A1 cap1)[j]? = some u → wr.cell? ⟨tb, ob + k * 6 + j, none⟩ = some u) := Lib.hid (fun j u hj => (hbw.cell (p := ⟨tb, ob + k * 6 + j, none⟩) htl).trans (hc1 j u hj))
      have HZ : Hid (tb < wr.heap.size) := Lib.hid (Nat.lt_of_lt_of_le htl hbw.size)
      have HIY := Lib.hid (ih2 wr.drew A1 cap1 (ExL.below (below_drawn (Below.refl _ _) 1) (hx1.below hbw)))
      have HBW := Lib.hid (And.intro hbw (And.intro hbx hby))
      clear hx1 hc1 hbw hbx hby ih2
      have HGK := Lib.hid hgk
      clear hgk
      generalize hbv : holdsF d y = bv at HIY HGK
      clear hbv
      go_wp2
      refine wp_region_held_drew (S := fun W' => W'.heap[W.heap.size]? = some (exB o (some ⟨tb, ob, none⟩) n cap f m r v) ∧ W'.heap[W.heap.size + 1]? = some (datO d) ∧ ∀ j u, (exC y A1 cap1)[j]? = some u → W'.cell? ⟨tb, ob + k * 6 + j, none⟩ = some u) (by kernel_rfl) ⟨HBW.out.2.1, HBW.out.2.2, HC1.out⟩ (fun hHeld => ?_)
      have HB2 : Hid (Below W.heap.size W wr.drew) := Lib.hid (below_drawn HBW.out.1 1)
      have hZ : tb < wr.drew.heap.size := HZ.out
      clear HC1 HZ HBW c0 c1
      generalize wr.drew = Y at HB2 HIY hHeld hZ ⊢
      have HH := Lib.hid hHeld
      refine wpAnyH_take (i := 0) (v := ?_) rfl (by kernel_rfl) (by kernel_rfl) (by kernel_rfl) (fun _ _ _ h => h) (Or.inl ⟨by rfl, ?_⟩) (by assumption) ?_
      rotate_left
      · intro wS hSw
        (obtain ⟨i0, i1, i2⟩ := hSw; have a0 := cell6 i1 0 rfl; have a1 := cell6 i1 1 rfl; have a2 := cell6 i1 2 rfl; have a3 := cell6 i1 3 rfl; have a4 := cell6 i1 4 rfl; have a5 := cell6 i1 5 rfl; have a6 := cell6 i1 6 rfl; have a7 := cell6 i1 7 rfl; have a8 := cell6 i1 8 rfl; have b1 := cell6 i0 1 rfl; have e0 : wS.cell? ⟨tb, ob + k * 6, none⟩ = some (.int .i64 y.op) := i2 0 _ rfl; have e1 := i2 1 _ rfl; have e2 := i2 2 _ rfl; have e3 := i2 3 _ rfl; have e4 := i2 4 _ rfl; have e5 := i2 5 _ rfl)
        go_simp
        all_goals with_reducible rfl
      (try simp only [List.getElem_toArray, List.getElem_cons_zero, List.getElem_cons_succ, Act.put, List.setIfInBounds_toArray, List.set_cons_zero, List.set_cons_succ])
      refine wpAnyH_take (i := 1) (v := ?_) rfl (by kernel_rfl) (by kernel_rfl) (by kernel_rfl) (fun _ _ _ h => h) (Or.inl ⟨by rfl, ?_⟩) (by assumption) ?_
      rotate_left
      · intro wS hSw
        (obtain ⟨i0, i1, i2⟩ := hSw; have a0 := cell6 i1 0 rfl; have a1 := cell6 i1 1 rfl; have a2 := cell6 i1 2 rfl; have a3 := cell6 i1 3 rfl; have a4 := cell6 i1 4 rfl; have a5 := cell6 i1 5 rfl; have a6 := cell6 i1 6 rfl; have a7 := cell6 i1 7 rfl; have a8 := cell6 i1 8 rfl; have b1 := cell6 i0 1 rfl; have e0 : wS.cell? ⟨tb, ob + k * 6, none⟩ = some (.int .i64 y.op) := i2 0 _ rfl; have e1 := i2 1 _ rfl; have e2 := i2 2 _ rfl; have e3 := i2 3 _ rfl; have e4 := i2 4 _ rfl; have e5 := i2 5 _ rfl)
        go_simp
        all_goals with_reducible rfl
      (try simp only [List.getElem_toArray, List.getElem_cons_zero, List.getElem_cons_succ, Act.put, List.setIfInBounds_toArray, List.set_cons_zero, List.set_cons_succ])
      refine wpAnyH_take (i := 2) (v := ?_) rfl (by kernel_rfl) (by kernel_rfl) (by kernel_rfl) (fun _ _ _ h => h) (Or.inl ⟨by rfl, ?_⟩) (by assumption) ?_
      rotate_left
      · intro wS hSw
        (obtain ⟨i0, i1, i2⟩ := hSw; have a0 := cell6 i1 0 rfl; have a1 := cell6 i1 1 rfl; have a2 := cell6 i1 2 rfl; have a3 := cell6 i1 3 rfl; have a4 := cell6 i1 4 rfl; have a5 := cell6 i1 5 rfl; have a6 := cell6 i1 6 rfl; have a7 := cell6 i1 7 rfl; have a8 := cell6 i1 8 rfl; have b1 := cell6 i0 1 rfl; have e0 : wS.cell? ⟨tb, ob + k * 6, none⟩ = some (.int .i64 y.op) := i2 0 _ rfl; have e1 := i2 1 _ rfl; have e2 := i2 2 _ rfl; have e3 := i2 3 _ rfl; have e4 := i2 4 _ rfl; have e5 := i2 5 _ rfl)
        go_simp
        all_goals with_reducible rfl
      (try simp only [List.getElem_toArray, List.getElem_cons_zero, List.getElem_cons_succ, Act.put, List.setIfInBounds_toArray, List.set_cons_zero, List.set_cons_succ])
      refine wpAnyH_take (i := 3) (v := ?_) rfl (by kernel_rfl) (by kernel_rfl) (by kernel_rfl) (fun _ _ _ h => h) (Or.inl ⟨by rfl, ?_⟩) (by assumption) ?_
      rotate_left
      · intro wS hSw
        (obtain ⟨i0, i1, i2⟩ := hSw; have a0 := cell6 i1 0 rfl; have a1 := cell6 i1 1 rfl; have a2 := cell6 i1 2 rfl; have a3 := cell6 i1 3 rfl; have a4 := cell6 i1 4 rfl; have a5 := cell6 i1 5 rfl; have a6 := cell6 i1 6 rfl; have a7 := cell6 i1 7 rfl; have a8 := cell6 i1 8 rfl; have b1 := cell6 i0 1 rfl; have e0 : wS.cell? ⟨tb, ob + k * 6, none⟩ = some (.int .i64 y.op) := i2 0 _ rfl; have e1 := i2 1 _ rfl; have e2 := i2 2 _ rfl; have e3 := i2 3 _ rfl; have e4 := i2 4 _ rfl; have e5 := i2 5 _ rfl)
        go_simp
        all_goals with_reducible rfl
      (try simp only [List.getElem_toArray, List.getElem_cons_zero, List.getElem_cons_succ, Act.put, List.setIfInBounds_toArray, List.set_cons_zero, List.set_cons_succ])
      refine wpAnyH_take (i := 4) (v := ?_) rfl (by kernel_rfl) (by kernel_rfl) (by kernel_rfl) (fun _ _ _ h => h) (Or.inl ⟨by rfl, ?_⟩) (by assumption) ?_
      rotate_left
      · intro wS hSw
        (obtain ⟨i0, i1, i2⟩ := hSw; have a0 := cell6 i1 0 rfl; have a1 := cell6 i1 1 rfl; have a2 := cell6 i1 2 rfl; have a3 := cell6 i1 3 rfl; have a4 := cell6 i1 4 rfl; have a5 := cell6 i1 5 rfl; have a6 := cell6 i1 6 rfl; have a7 := cell6 i1 7 rfl; have a8 := cell6 i1 8 rfl; have b1 := cell6 i0 1 rfl; have e0 : wS.cell? ⟨tb, ob + k * 6, none⟩ = some (.int .i64 y.op) := i2 0 _ rfl; have e1 := i2 1 _ rfl; have e2 := i2 2 _ rfl; have e3 := i2 3 _ rfl; have e4 := i2 4 _ rfl; have e5 := i2 5 _ rfl)
        go_simp
        all_goals with_reducible rfl
      (try simp only [List.getElem_toArray, List.getElem_cons_zero, List.getElem_cons_succ, Act.put, List.setIfInBounds_toArray, List.set_cons_zero, List.set_cons_succ])
      refine wpAnyH_take (i := 5) (v := ?_) rfl (by kernel_rfl) (by kernel_rfl) (by kernel_rfl) (fun _ _ _ h => h) (Or.inl ⟨by rfl, ?_⟩) (by assumption) ?_
      rotate_left
      · intro wS hSw
        (obtain ⟨i0, i1, i2⟩ := hSw; have a0 := cell6 i1 0 rfl; have a1 := cell6 i1 1 rfl; have a2 := cell6 i1 2 rfl; have a3 := cell6 i1 3 rfl; have a4 := cell6 i1 4 rfl; have a5 := cell6 i1 5 rfl; have a6 := cell6 i1 6 rfl; have a7 := cell6 i1 7 rfl; have a8 := cell6 i1 8 rfl; have b1 := cell6 i0 1 rfl; have e0 : wS.cell? ⟨tb, ob + k * 6, none⟩ = some (.int .i64 y.op) := i2 0 _ rfl; have e1 := i2 1 _ rfl; have e2 := i2 2 _ rfl; have e3 := i2 3 _ rfl; have e4 := i2 4 _ rfl; have e5 := i2 5 _ rfl)
        go_simp
        all_goals with_reducible rfl
      (try simp only [List.getElem_toArray, List.getElem_cons_zero, List.getElem_cons_succ, Act.put, List.setIfInBounds_toArray, List.set_cons_zero, List.set_cons_succ])
      refine held_one (i := 6) (by kernel_rfl) rfl (fun K hK => ?_)
      go_simp
      go_at_call 51
      refine HIY.out.mono ?_
      rintro e w2 ⟨rfl, hb2⟩
      have HB3 := Lib.hid (HB2.out.trans (hb2.mono HB2.out.size))
      have hk0 := (hb2.block _ (Array.getElem?_eq_some_iff.1 HH.out.1).1).trans HH.out.1
      have hk1 := (hb2.block _ (Array.getElem?_eq_some_iff.1 HH.out.2.1).1).trans HH.out.2.1
      refine hK.out _ _ ⟨hk0, hk1, fun j u hj => (hb2.cell (p := ⟨tb, ob + k * 6 + j, none⟩) hZ).trans (HH.out.2.2 j u hj)⟩ (fun hH2 => ?_)
      have HK2 := Lib.hid (And.intro hk0 hk1)
      have c0 : w2.cell? ⟨W.heap.size, 0, none⟩ = some (.int .i64 o) := cell6 hk0 0 rfl
      clear hK K hHeld hb2 hk0 hk1
      (try simp only [Act.put, List.setIfInBounds_toArray, List.set_cons_zero, List.set_cons_succ, List.getElem_toArray, List.getElem_cons_zero, List.getElem_cons_succ])
      refine wpAnyH_take (i := 7) (v := ?_) rfl (by kernel_rfl) (by kernel_rfl) (by kernel_rfl) (fun _ _ _ h => h) (Or.inl ⟨by rfl, ?_⟩) (by assumption) ?_
      rotate_left
      · intro wS hSw
        (skip)
        go_simp
        all_goals with_reducible rfl
      (try simp only [List.getElem_toArray, List.getElem_cons_zero, List.getElem_cons_succ, Act.put, List.setIfInBounds_toArray, List.set_cons_zero, List.set_cons_succ])
      refine wpAnyH_done (by kernel_rfl) ?_ _
      cases bv with
      | true =>
        have HG2 : Hid (g = true) := Lib.hid (by rw [HGK.out]; rfl)
        go_wp2
        go_ret
        exact ⟨by rw [HG2.out]; rfl, HB3.out⟩
      | false =>
        have HG2 : Hid (g = anyF d (l.drop (k + 1))) := Lib.hid (by rw [HGK.out]; rfl)
        go_wp2
        exact ⟨⟨k + 1, by omega, by go_num, HG2.out, HB3.out, HK2.out.1, HK2.out.2⟩, by simp [intOf]; omega⟩
    · have hlt' : ¬ (k : Int) < (n : Int) := by omega
      rw [any_end d l k (by have := HN.out; omega)] at hgk
      have HGK := Lib.hid hgk
      have HBW := Lib.hid hbw
      have q4b : (o == 4) = false := q4
      clear hgk hbw hbx hby
      go_wp2
      go_ret
      exact ⟨by rw [HGK.out]; rfl, HBW.out⟩
set_option maxRecDepth 100000 in
set_option maxHeartbeats 4000000 in
theorem ref_holds6_0 (d : Dat) (o : Int) (l : List Ex) (m : Nat) (r : Int) (v : Nat) (A : Option Addr) (cap : Nat) (W : World) (h : ExL W (.mk o l 0 m r v) A cap) (h1 : ¬ o = 1) (h2 : ¬ o = 2) (h3 : ¬ o = 3) (h4 : ¬ o = 4) (h5 : ¬ o = 5) (hr : 1 ≤ r ∧ r ≤ 6) :
    Calls Tryd.prog 51 #[exA o A l.length cap 0 m r v, datV d] W fun e w' => e = .returned (.bool (relB r (maskN (d.args 0) m) v)) ∧ Below W.heap.size W w' := by
  have hb := below_of W (W.alloc (exB o A l.length cap 0 m r v)) (datO d) (lbox W _)
  have HB := Lib.hid hb
  have HX : Hid (((W.alloc (exB o A l.length cap 0 m r v)).alloc (datO d)).heap[W.heap.size]? = some (exB o A l.length cap 0 m r v) ∧ ((W.alloc (exB o A l.length cap 0 m r v)).alloc (datO d)).heap[W.heap.size + 1]? = some (datO d)) := Lib.hid ⟨kept_alloc (World.alloc_heap_new W _) _, (by
    have := World.alloc_heap_new (W.alloc (exB o A l.length cap 0 m r v)) (datO d)
    simpa using this)⟩
  have q1 : (o == 1) = false := beq_false_of_ne h1
  have q2 : (o == 2) = false := beq_false_of_ne h2
  have q3 : (o == 3) = false := beq_false_of_ne h3
  have q4 : (o == 4) = false := beq_false_of_ne h4
  have q5 : (o == 5) = false := beq_false_of_ne h5
  clear h1 h2 h3 h4 h5
  have hcl := bits_mask7 (d.args 0) m
  have x0 := cell6 HX.out.1 0 rfl
  have x1 := cell6 HX.out.1 1 rfl
  have x2 := cell6 HX.out.1 2 rfl
  have x3 := cell6 HX.out.1 3 rfl
  have x4 := cell6 HX.out.1 4 rfl
  have x5 := cell6 HX.out.1 5 rfl
  have z0 := cell6 HX.out.2 0 rfl
  have z1 := cell6 HX.out.2 1 rfl
  have z2 := cell6 HX.out.2 2 rfl
  have z3 := cell6 HX.out.2 3 rfl
  have z4 := cell6 HX.out.2 4 rfl
  have z5 := cell6 HX.out.2 5 rfl
  have z6 := cell6 HX.out.2 6 rfl
  have z7 := cell6 HX.out.2 7 rfl
  have z8 := cell6 HX.out.2 8 rfl
  have hrr : r = 1 ∨ r = 2 ∨ r = 3 ∨ r = 4 ∨ r = 5 ∨ r = 6 := by omega
  generalize hn : l.length = n at HB HX hb x1 ⊢
  clear h hb hn hr HX
  generalize maskN (d.args 0) m = a at hcl ⊢
  rcases hrr with rfl | rfl | rfl | rfl | rfl | rfl
  · have hE : relB 1 a v = ((a : Int) == (v : Int)) := by
      have e : relB 1 a v = decide (a = v) := by unfold relB; simp
      rw [e]
      by_cases h : a = v
      · rw [decide_eq_true h]; exact (beq_iff_eq.2 (by omega) : ((a : Int) == (v : Int)) = true).symm
      · rw [decide_eq_false h]; exact (beq_false_of_ne (by omega) : ((a : Int) == (v : Int)) = false).symm
    rw [hE]
    clear hE
    go_enter Tryd.func51, Tryd.ntmps51
    go_wp2
    go_ret
    exact ⟨rfl, HB.out⟩
  · have hE : relB 2 a v = ((a : Int) != (v : Int)) := by
      have e : relB 2 a v = decide (a ≠ v) := by unfold relB; simp
      rw [e]
      by_cases h : a ≠ v
      · rw [decide_eq_true h]; exact (bne_iff_ne.2 (by omega) : ((a : Int) != (v : Int)) = true).symm
      · rw [decide_eq_false h]; exact (by rw [show a = v by omega]; exact bne_self_eq_false _ : ((a : Int) != (v : Int)) = false).symm
    rw [hE]
    clear hE
    go_enter Tryd.func51, Tryd.ntmps51
    go_wp2
    go_ret
    exact ⟨rfl, HB.out⟩
  · have hE : relB 3 a v = decide (a < v) := by unfold relB; simp
    rw [hE]
    clear hE
    go_enter Tryd.func51, Tryd.ntmps51
    go_wp2
    go_ret
    exact ⟨rfl, HB.out⟩
  · have hE : relB 4 a v = decide (a ≤ v) := by unfold relB; simp
    rw [hE]
    clear hE
    go_enter Tryd.func51, Tryd.ntmps51
    go_wp2
    go_ret
    exact ⟨rfl, HB.out⟩
  · have hE : relB 5 a v = decide (v < a) := by unfold relB; simp
    rw [hE]
    clear hE
    go_enter Tryd.func51, Tryd.ntmps51
    go_wp2
    go_ret
    exact ⟨rfl, HB.out⟩
  · have hE : relB 6 a v = decide (v ≤ a) := by unfold relB; simp
    rw [hE]
    clear hE
    go_enter Tryd.func51, Tryd.ntmps51
    go_wp2
    go_ret
    exact ⟨rfl, HB.out⟩
set_option maxRecDepth 100000 in
set_option maxHeartbeats 4000000 in
theorem ref_holds6_1 (d : Dat) (o : Int) (l : List Ex) (m : Nat) (r : Int) (v : Nat) (A : Option Addr) (cap : Nat) (W : World) (h : ExL W (.mk o l 1 m r v) A cap) (h1 : ¬ o = 1) (h2 : ¬ o = 2) (h3 : ¬ o = 3) (h4 : ¬ o = 4) (h5 : ¬ o = 5) (hr : 1 ≤ r ∧ r ≤ 6) :
    Calls Tryd.prog 51 #[exA o A l.length cap 1 m r v, datV d] W fun e w' => e = .returned (.bool (relB r (maskN (d.args 1) m) v)) ∧ Below W.heap.size W w' := by
  have hb := below_of W (W.alloc (exB o A l.length cap 1 m r v)) (datO d) (lbox W _)
  have HB := Lib.hid hb
  have HX : Hid (((W.alloc (exB o A l.length cap 1 m r v)).alloc (datO d)).heap[W.heap.size]? = some (exB o A l.length cap 1 m r v) ∧ ((W.alloc (exB o A l.length cap 1 m r v)).alloc (datO d)).heap[W.heap.size + 1]? = some (datO d)) := Lib.hid ⟨kept_alloc (World.alloc_heap_new W _) _, (by
    have := World.alloc_heap_new (W.alloc (exB o A l.length cap 1 m r v)) (datO d)
    simpa using this)⟩
  have q1 : (o == 1) = false := beq_false_of_ne h1
  have q2 : (o == 2) = false := beq_false_of_ne h2
  have q3 : (o == 3) = false := beq_false_of_ne h3
  have q4 : (o == 4) = false := beq_false_of_ne h4
  have q5 : (o == 5) = false := beq_false_of_ne h5
  clear h1 h2 h3 h4 h5
  have hcl := bits_mask7 (d.args 1) m
  have x0 := cell6 HX.out.1 0 rfl
  have x1 := cell6 HX.out.1 1 rfl
  have x2 := cell6 HX.out.1 2 rfl
  have x3 := cell6 HX.out.1 3 rfl
  have x4 := cell6 HX.out.1 4 rfl
  have x5 := cell6 HX.out.1 5 rfl
  have z0 := cell6 HX.out.2 0 rfl
  have z1 := cell6 HX.out.2 1 rfl
  have z2 := cell6 HX.out.2 2 rfl
  have z3 := cell6 HX.out.2 3 rfl
  have z4 := cell6 HX.out.2 4 rfl
  have z5 := cell6 HX.out.2 5 rfl
  have z6 := cell6 HX.out.2 6 rfl
  have z7 := cell6 HX.out.2 7 rfl
  have z8 := cell6 HX.out.2 8 rfl
  have hrr : r = 1 ∨ r = 2 ∨ r = 3 ∨ r = 4 ∨ r = 5 ∨ r = 6 := by omega
  generalize hn : l.length = n at HB HX hb x1 ⊢
  clear h hb hn hr HX
  generalize maskN (d.args 1) m = a at hcl ⊢
  rcases hrr with rfl | rfl | rfl | rfl | rfl | rfl
  · have hE : relB 1 a v = ((a : Int) == (v : Int)) := by
      have e : relB 1 a v = decide (a = v) := by unfold relB; simp
      rw [e]
      by_cases h : a = v
      · rw [decide_eq_true h]; exact (beq_iff_eq.2 (by omega) : ((a : Int) == (v : Int)) = true).symm
      · rw [decide_eq_false h]; exact (beq_false_of_ne (by omega) : ((a : Int) == (v : Int)) = false).symm
    rw [hE]
    clear hE
    go_enter Tryd.func51, Tryd.ntmps51
    go_wp2
    go_ret
    exact ⟨rfl, HB.out⟩
  · have hE : relB 2 a v = ((a : Int) != (v : Int)) := by
      have e : relB 2 a v = decide (a ≠ v) := by unfold relB; simp
      rw [e]
      by_cases h : a ≠ v
      · rw [decide_eq_true h]; exact (bne_iff_ne.2 (by omega) : ((a : Int) != (v : Int)) = true).symm
      · rw [decide_eq_false h]; exact (by rw [show a = v by omega]; exact bne_self_eq_false _ : ((a : Int) != (v : Int)) = false).symm
    rw [hE]
    clear hE
    go_enter Tryd.func51, Tryd.ntmps51
    go_wp2
    go_ret
    exact ⟨rfl, HB.out⟩
  · have hE : relB 3 a v = decide (a < v) := by unfold relB; simp
    rw [hE]
    clear hE
    go_enter Tryd.func51, Tryd.ntmps51
    go_wp2
    go_ret
    exact ⟨rfl, HB.out⟩
  · have hE : relB 4 a v = decide (a ≤ v) := by unfold relB; simp
    rw [hE]
    clear hE
    go_enter Tryd.func51, Tryd.ntmps51
    go_wp2
    go_ret
    exact ⟨rfl, HB.out⟩
  · have hE : relB 5 a v = decide (v < a) := by unfold relB; simp
    rw [hE]
    clear hE
    go_enter Tryd.func51, Tryd.ntmps51
    go_wp2
    go_ret
    exact ⟨rfl, HB.out⟩
  · have hE : relB 6 a v = decide (v ≤ a) := by unfold relB; simp
    rw [hE]
    clear hE
    go_enter Tryd.func51, Tryd.ntmps51
    go_wp2
    go_ret
    exact ⟨rfl, HB.out⟩
set_option maxRecDepth 100000 in
set_option maxHeartbeats 4000000 in
theorem ref_holds6_2 (d : Dat) (o : Int) (l : List Ex) (m : Nat) (r : Int) (v : Nat) (A : Option Addr) (cap : Nat) (W : World) (h : ExL W (.mk o l 2 m r v) A cap) (h1 : ¬ o = 1) (h2 : ¬ o = 2) (h3 : ¬ o = 3) (h4 : ¬ o = 4) (h5 : ¬ o = 5) (hr : 1 ≤ r ∧ r ≤ 6) :
    Calls Tryd.prog 51 #[exA o A l.length cap 2 m r v, datV d] W fun e w' => e = .returned (.bool (relB r (maskN (d.args 2) m) v)) ∧ Below W.heap.size W w' := by
  have hb := below_of W (W.alloc (exB o A l.length cap 2 m r v)) (datO d) (lbox W _)
  have HB := Lib.hid hb
  have HX : Hid (((W.alloc (exB o A l.length cap 2 m r v)).alloc (datO d)).heap[W.heap.size]? = some (exB o A l.length cap 2 m r v) ∧ ((W.alloc (exB o A l.length cap 2 m r v)).alloc (datO d)).heap[W.heap.size + 1]? = some (datO d)) := Lib.hid ⟨kept_alloc (World.alloc_heap_new W _) _, (by
    have := World.alloc_heap_new (W.alloc (exB o A l.length cap 2 m r v)) (datO d)
    simpa using this)⟩
  have q1 : (o == 1) = false := beq_false_of_ne h1
  have q2 : (o == 2) = false := beq_false_of_ne h2
  have q3 : (o == 3) = false := beq_false_of_ne h3
  have q4 : (o == 4) = false := beq_false_of_ne h4
  have q5 : (o == 5) = false := beq_false_of_ne h5
  clear h1 h2 h3 h4 h5
  have hcl := bits_mask7 (d.args 2) m
  have x0 := cell6 HX.out.1 0 rfl
  have x1 := cell6 HX.out.1 1 rfl
  have x2 := cell6 HX.out.1 2 rfl
  have x3 := cell6 HX.out.1 3 rfl
  have x4 := cell6 HX.out.1 4 rfl
  have x5 := cell6 HX.out.1 5 rfl
  have z0 := cell6 HX.out.2 0 rfl
  have z1 := cell6 HX.out.2 1 rfl
  have z2 := cell6 HX.out.2 2 rfl
  have z3 := cell6 HX.out.2 3 rfl
  have z4 := cell6 HX.out.2 4 rfl
  have z5 := cell6 HX.out.2 5 rfl
  have z6 := cell6 HX.out.2 6 rfl
  have z7 := cell6 HX.out.2 7 rfl
  have z8 := cell6 HX.out.2 8 rfl
  have hrr : r = 1 ∨ r = 2 ∨ r = 3 ∨ r = 4 ∨ r = 5 ∨ r = 6 := by omega
  generalize hn : l.length = n at HB HX hb x1 ⊢
  clear h hb hn hr HX
  generalize maskN (d.args 2) m = a at hcl ⊢
  rcases hrr with rfl | rfl | rfl | rfl | rfl | rfl
  · have hE : relB 1 a v = ((a : Int) == (v : Int)) := by
      have e : relB 1 a v = decide (a = v) := by unfold relB; simp
      rw [e]
      by_cases h : a = v
      · rw [decide_eq_true h]; exact (beq_iff_eq.2 (by omega) : ((a : Int) == (v : Int)) = true).symm
      · rw [decide_eq_false h]; exact (beq_false_of_ne (by omega) : ((a : Int) == (v : Int)) = false).symm
    rw [hE]
    clear hE
    go_enter Tryd.func51, Tryd.ntmps51
    go_wp2
    go_ret
    exact ⟨rfl, HB.out⟩
  · have hE : relB 2 a v = ((a : Int) != (v : Int)) := by
      have e : relB 2 a v = decide (a ≠ v) := by unfold relB; simp
      rw [e]
      by_cases h : a ≠ v
      · rw [decide_eq_true h]; exact (bne_iff_ne.2 (by omega) : ((a : Int) != (v : Int)) = true).symm
      · rw [decide_eq_false h]; exact (by rw [show a = v by omega]; exact bne_self_eq_false _ : ((a : Int) != (v : Int)) = false).symm
    rw [hE]
    clear hE
    go_enter Tryd.func51, Tryd.ntmps51
    go_wp2
    go_ret
    exact ⟨rfl, HB.out⟩
  · have hE : relB 3 a v = decide (a < v) := by unfold relB; simp
    rw [hE]
    clear hE
    go_enter Tryd.func51, Tryd.ntmps51
    go_wp2
    go_ret
    exact ⟨rfl, HB.out⟩
  · have hE : relB 4 a v = decide (a ≤ v) := by unfold relB; simp
    rw [hE]
    clear hE
    go_enter Tryd.func51, Tryd.ntmps51
    go_wp2
    go_ret
    exact ⟨rfl, HB.out⟩
  · have hE : relB 5 a v = decide (v < a) := by unfold relB; simp
    rw [hE]
    clear hE
    go_enter Tryd.func51, Tryd.ntmps51
    go_wp2
    go_ret
    exact ⟨rfl, HB.out⟩
  · have hE : relB 6 a v = decide (v ≤ a) := by unfold relB; simp
    rw [hE]
    clear hE
    go_enter Tryd.func51, Tryd.ntmps51
    go_wp2
    go_ret
    exact ⟨rfl, HB.out⟩
set_option maxRecDepth 100000 in
set_option maxHeartbeats 4000000 in
theorem ref_holds6_3 (d : Dat) (o : Int) (l : List Ex) (m : Nat) (r : Int) (v : Nat) (A : Option Addr) (cap : Nat) (W : World) (h : ExL W (.mk o l 3 m r v) A cap) (h1 : ¬ o = 1) (h2 : ¬ o = 2) (h3 : ¬ o = 3) (h4 : ¬ o = 4) (h5 : ¬ o = 5) (hr : 1 ≤ r ∧ r ≤ 6) :
    Calls Tryd.prog 51 #[exA o A l.length cap 3 m r v, datV d] W fun e w' => e = .returned (.bool (relB r (maskN (d.args 3) m) v)) ∧ Below W.heap.size W w' := by
  have hb := below_of W (W.alloc (exB o A l.length cap 3 m r v)) (datO d) (lbox W _)
  have HB := Lib.hid hb
  have HX : Hid (((W.alloc (exB o A l.length cap 3 m r v)).alloc (datO d)).heap[W.heap.size]? = some (exB o A l.length cap 3 m r v) ∧ ((W.alloc (exB o A l.length cap 3 m r v)).alloc (datO d)).heap[W.heap.size + 1]? = some (datO d)) := Lib.hid ⟨kept_alloc (World.alloc_heap_new W _) _, (by
    have := World.alloc_heap_new (W.alloc (exB o A l.length cap 3 m r v)) (datO d)
    simpa using this)⟩
  have q1 : (o == 1) = false := beq_false_of_ne h1
  have q2 : (o == 2) = false := beq_false_of_ne h2
  have q3 : (o == 3) = false := beq_false_of_ne h3
  have q4 : (o == 4) = false := beq_false_of_ne h4
  have q5 : (o == 5) = false := beq_false_of_ne h5
  clear h1 h2 h3 h4 h5
  have hcl := bits_mask7 (d.args 3) m
  have x0 := cell6 HX.out.1 0 rfl
  have x1 := cell6 HX.out.1 1 rfl
  have x2 := cell6 HX.out.1 2 rfl
  have x3 := cell6 HX.out.1 3 rfl
  have x4 := cell6 HX.out.1 4 rfl
  have x5 := cell6 HX.out.1 5 rfl
  have z0 := cell6 HX.out.2 0 rfl
  have z1 := cell6 HX.out.2 1 rfl
  have z2 := cell6 HX.out.2 2 rfl
  have z3 := cell6 HX.out.2 3 rfl
  have z4 := cell6 HX.out.2 4 rfl
  have z5 := cell6 HX.out.2 5 rfl
  have z6 := cell6 HX.out.2 6 rfl
  have z7 := cell6 HX.out.2 7 rfl
  have z8 := cell6 HX.out.2 8 rfl
  have hrr : r = 1 ∨ r = 2 ∨ r = 3 ∨ r = 4 ∨ r = 5 ∨ r = 6 := by omega
  generalize hn : l.length = n at HB HX hb x1 ⊢
  clear h hb hn hr HX
  generalize maskN (d.args 3) m = a at hcl ⊢
  rcases hrr with rfl | rfl | rfl | rfl | rfl | rfl
  · have hE : relB 1 a v = ((a : Int) == (v : Int)) := by
      have e : relB 1 a v = decide (a = v) := by unfold relB; simp
      rw [e]
      by_cases h : a = v
      · rw [decide_eq_true h]; exact (beq_iff_eq.2 (by omega) : ((a : Int) == (v : Int)) = true).symm
      · rw [decide_eq_false h]; exact (beq_false_of_ne (by omega) : ((a : Int) == (v : Int)) = false).symm
    rw [hE]
    clear hE
    go_enter Tryd.func51, Tryd.ntmps51
    go_wp2
    go_ret
    exact ⟨rfl, HB.out⟩
  · have hE : relB 2 a v = ((a : Int) != (v : Int)) := by
      have e : relB 2 a v = decide (a ≠ v) := by unfold relB; simp
      rw [e]
      by_cases h : a ≠ v
      · rw [decide_eq_true h]; exact (bne_iff_ne.2 (by omega) : ((a : Int) != (v : Int)) = true).symm
      · rw [decide_eq_false h]; exact (by rw [show a = v by omega]; exact bne_self_eq_false _ : ((a : Int) != (v : Int)) = false).symm
    rw [hE]
    clear hE
    go_enter Tryd.func51, Tryd.ntmps51
    go_wp2
    go_ret
    exact ⟨rfl, HB.out⟩
  · have hE : relB 3 a v = decide (a < v) := by unfold relB; simp
    rw [hE]
    clear hE
    go_enter Tryd.func51, Tryd.ntmps51
    go_wp2
    go_ret
    exact ⟨rfl, HB.out⟩
  · have hE : relB 4 a v = decide (a ≤ v) := by unfold relB; simp
    rw [hE]
    clear hE
    go_enter Tryd.func51, Tryd.ntmps51
    go_wp2
    go_ret
    exact ⟨rfl, HB.out⟩
  · have hE : relB 5 a v = decide (v < a) := by unfold relB; simp
    rw [hE]
    clear hE
    go_enter Tryd.func51, Tryd.ntmps51
    go_wp2
    go_ret
    exact ⟨rfl, HB.out⟩
  · have hE : relB 6 a v = decide (v ≤ a) := by unfold relB; simp
    rw [hE]
    clear hE
    go_enter Tryd.func51, Tryd.ntmps51
    go_wp2
    go_ret
    exact ⟨rfl, HB.out⟩
set_option maxRecDepth 100000 in
set_option maxHeartbeats 4000000 in
theorem ref_holds6_4 (d : Dat) (o : Int) (l : List Ex) (m : Nat) (r : Int) (v : Nat) (A : Option Addr) (cap : Nat) (W : World) (h : ExL W (.mk o l 4 m r v) A cap) (h1 : ¬ o = 1) (h2 : ¬ o = 2) (h3 : ¬ o = 3) (h4 : ¬ o = 4) (h5 : ¬ o = 5) (hr : 1 ≤ r ∧ r ≤ 6) :
    Calls Tryd.prog 51 #[exA o A l.length cap 4 m r v, datV d] W fun e w' => e = .returned (.bool (relB r (maskN (d.args 4) m) v)) ∧ Below W.heap.size W w' := by
  have hb := below_of W (W.alloc (exB o A l.length cap 4 m r v)) (datO d) (lbox W _)
  have HB := Lib.hid hb
  have HX : Hid (((W.alloc (exB o A l.length cap 4 m r v)).alloc (datO d)).heap[W.heap.size]? = some (exB o A l.length cap 4 m r v) ∧ ((W.alloc (exB o A l.length cap 4 m r v)).alloc (datO d)).heap[W.heap.size + 1]? = some (datO d)) := Lib.hid ⟨kept_alloc (World.alloc_heap_new W _) _, (by
    have := World.alloc_heap_new (W.alloc (exB o A l.length cap 4 m r v)) (datO d)
    simpa using this)⟩
  have q1 : (o == 1) = false := beq_false_of_ne h1
  have q2 : (o == 2) = false := beq_false_of_ne h2
  have q3 : (o == 3) = false := beq_false_of_ne h3
  have q4 : (o == 4) = false := beq_false_of_ne h4
  have q5 : (o == 5) = false := beq_false_of_ne h5
  clear h1 h2 h3 h4 h5
  have hcl := bits_mask7 (d.args 4) m
  have x0 := cell6 HX.out.1 0 rfl
  have x1 := cell6 HX.out.1 1 rfl
  have x2 := cell6 HX.out.1 2 rfl
  have x3 := cell6 HX.out.1 3 rfl
  have x4 := cell6 HX.out.1 4 rfl
  have x5 := cell6 HX.out.1 5 rfl
  have z0 := cell6 HX.out.2 0 rfl
  have z1 := cell6 HX.out.2 1 rfl
  have z2 := cell6 HX.out.2 2 rfl
  have z3 := cell6 HX.out.2 3 rfl
  have z4 := cell6 HX.out.2 4 rfl
  have z5 := cell6 HX.out.2 5 rfl
  have z6 := cell6 HX.out.2 6 rfl
  have z7 := cell6 HX.out.2 7 rfl
  have z8 := cell6 HX.out.2 8 rfl
  have hrr : r = 1 ∨ r = 2 ∨ r = 3 ∨ r = 4 ∨ r = 5 ∨ r = 6 := by omega
  generalize hn : l.length = n at HB HX hb x1 ⊢
  clear h hb hn hr HX
  generalize maskN (d.args 4) m = a at hcl ⊢
  rcases hrr with rfl | rfl | rfl | rfl | rfl | rfl
  · have hE : relB 1 a v = ((a : Int) == (v : Int)) := by
      have e : relB 1 a v = decide (a = v) := by unfold relB; simp
      rw [e]
      by_cases h : a = v
      · rw [decide_eq_true h]; exact (beq_iff_eq.2 (by omega) : ((a : Int) == (v : Int)) = true).symm
      · rw [decide_eq_false h]; exact (beq_false_of_ne (by omega) : ((a : Int) == (v : Int)) = false).symm
    rw [hE]
    clear hE
    go_enter Tryd.func51, Tryd.ntmps51
    go_wp2
    go_ret
    exact ⟨rfl, HB.out⟩
  · have hE : relB 2 a v = ((a : Int) != (v : Int)) := by
      have e : relB 2 a v = decide (a ≠ v) := by unfold relB; simp
      rw [e]
      by_cases h : a ≠ v
      · rw [decide_eq_true h]; exact (bne_iff_ne.2 (by omega) : ((a : Int) != (v : Int)) = true).symm
      · rw [decide_eq_false h]; exact (by rw [show a = v by omega]; exact bne_self_eq_false _ : ((a : Int) != (v : Int)) = false).symm
    rw [hE]
    clear hE
    go_enter Tryd.func51, Tryd.ntmps51
    go_wp2
    go_ret
    exact ⟨rfl, HB.out⟩
  · have hE : relB 3 a v = decide (a < v) := by unfold relB; simp
    rw [hE]
    clear hE
    go_enter Tryd.func51, Tryd.ntmps51
    go_wp2
    go_ret
    exact ⟨rfl, HB.out⟩
  · have hE : relB 4 a v = decide (a ≤ v) := by unfold relB; simp
    rw [hE]
    clear hE
    go_enter Tryd.func51, Tryd.ntmps51
    go_wp2
    go_ret
    exact ⟨rfl, HB.out⟩
  · have hE : relB 5 a v = decide (v < a) := by unfold relB; simp
    rw [hE]
    clear hE
    go_enter Tryd.func51, Tryd.ntmps51
    go_wp2
    go_ret
    exact ⟨rfl, HB.out⟩
  · have hE : relB 6 a v = decide (v ≤ a) := by unfold relB; simp
    rw [hE]
    clear hE
    go_enter Tryd.func51, Tryd.ntmps51
    go_wp2
    go_ret
    exact ⟨rfl, HB.out⟩
set_option maxRecDepth 100000 in
set_option maxHeartbeats 4000000 in
theorem ref_holds6_5 (d : Dat) (o : Int) (l : List Ex) (m : Nat) (r : Int) (v : Nat) (A : Option Addr) (cap : Nat) (W : World) (h : ExL W (.mk o l 5 m r v) A cap) (h1 : ¬ o = 1) (h2 : ¬ o = 2) (h3 : ¬ o = 3) (h4 : ¬ o = 4) (h5 : ¬ o = 5) (hr : 1 ≤ r ∧ r ≤ 6) :
    Calls Tryd.prog 51 #[exA o A l.length cap 5 m r v, datV d] W fun e w' => e = .returned (.bool (relB r (maskN (d.args 5) m) v)) ∧ Below W.heap.size W w' := by
  have hb := below_of W (W.alloc (exB o A l.length cap 5 m r v)) (datO d) (lbox W _)
  have HB := Lib.hid hb
  have HX : Hid (((W.alloc (exB o A l.length cap 5 m r v)).alloc (datO d)).heap[W.heap.size]? = some (exB o A l.length cap 5 m r v) ∧ ((W.alloc (exB o A l.length cap 5 m r v)).alloc (datO d)).heap[W.heap.size + 1]? = some (datO d)) := Lib.hid ⟨kept_alloc (World.alloc_heap_new W _) _, (by
    have := World.alloc_heap_new (W.alloc (exB o A l.length cap 5 m r v)) (datO d)
    simpa using this)⟩
  have q1 : (o == 1) = false := beq_false_of_ne h1
  have q2 : (o == 2) = false := beq_false_of_ne h2
  have q3 : (o == 3) = false := beq_false_of_ne h3
  have q4 : (o == 4) = false := beq_false_of_ne h4
  have q5 : (o == 5) = false := beq_false_of_ne h5
  clear h1 h2 h3 h4 h5
  have hcl := bits_mask7 (d.args 5) m
  have x0 := cell6 HX.out.1 0 rfl
  have x1 := cell6 HX.out.1 1 rfl
  have x2 := cell6 HX.out.1 2 rfl
  have x3 := cell6 HX.out.1 3 rfl
  have x4 := cell6 HX.out.1 4 rfl
  have x5 := cell6 HX.out.1 5 rfl
  have z0 := cell6 HX.out.2 0 rfl
  have z1 := cell6 HX.out.2 1 rfl
  have z2 := cell6 HX.out.2 2 rfl
  have z3 := cell6 HX.out.2 3 rfl
  have z4 := cell6 HX.out.2 4 rfl
  have z5 := cell6 HX.out.2 5 rfl
  have z6 := cell6 HX.out.2 6 rfl
  have z7 := cell6 HX.out.2 7 rfl
  have z8 := cell6 HX.out.2 8 rfl
  have hrr : r = 1 ∨ r = 2 ∨ r = 3 ∨ r = 4 ∨ r = 5 ∨ r = 6 := by omega
  generalize hn : l.length = n at HB HX hb x1 ⊢
  clear h hb hn hr HX
  generalize maskN (d.args 5) m = a at hcl ⊢
  rcases hrr with rfl | rfl | rfl | rfl | rfl | rfl
  · have hE : relB 1 a v = ((a : Int) == (v : Int)) := by
      have e : relB 1 a v = decide (a = v) := by unfold relB; simp
      rw [e]
      by_cases h : a = v
      · rw [decide_eq_true h]; exact (beq_iff_eq.2 (by omega) : ((a : Int) == (v : Int)) = true).symm
      · rw [decide_eq_false h]; exact (beq_false_of_ne (by omega) : ((a : Int) == (v : Int)) = false).symm
    rw [hE]
    clear hE
    go_enter Tryd.func51, Tryd.ntmps51
    go_wp2
    go_ret
    exact ⟨rfl, HB.out⟩
  · have hE : relB 2 a v = ((a : Int) != (v : Int)) := by
      have e : relB 2 a v = decide (a ≠ v) := by unfold relB; simp
      rw [e]
      by_cases h : a ≠ v
      · rw [decide_eq_true h]; exact (bne_iff_ne.2 (by omega) : ((a : Int) != (v : Int)) = true).symm
      · rw [decide_eq_false h]; exact (by rw [show a = v by omega]; exact bne_self_eq_false _ : ((a : Int) != (v : Int)) = false).symm
    rw [hE]
    clear hE
    go_enter Tryd.func51, Tryd.ntmps51
    go_wp2
    go_ret
    exact ⟨rfl, HB.out⟩
  · have hE : relB 3 a v = decide (a < v) := by unfold relB; simp
    rw [hE]
    clear hE
    go_enter Tryd.func51, Tryd.ntmps51
    go_wp2
    go_ret
    exact ⟨rfl, HB.out⟩
  · have hE : relB 4 a v = decide (a ≤ v) := by unfold relB; simp
    rw [hE]
    clear hE
    go_enter Tryd.func51, Tryd.ntmps51
    go_wp2
    go_ret
    exact ⟨rfl, HB.out⟩
  · have hE : relB 5 a v = decide (v < a) := by unfold relB; simp
    rw [hE]
    clear hE
    go_enter Tryd.func51, Tryd.ntmps51
    go_wp2
    go_ret
    exact ⟨rfl, HB.out⟩
  · have hE : relB 6 a v = decide (v ≤ a) := by unfold relB; simp
    rw [hE]
    clear hE
    go_enter Tryd.func51, Tryd.ntmps51
    go_wp2
    go_ret
    exact ⟨rfl, HB.out⟩
set_option maxRecDepth 100000 in
set_option maxHeartbeats 4000000 in
theorem ref_holds6_6 (d : Dat) (o : Int) (l : List Ex) (m : Nat) (r : Int) (v : Nat) (A : Option Addr) (cap : Nat) (W : World) (h : ExL W (.mk o l 6 m r v) A cap) (h1 : ¬ o = 1) (h2 : ¬ o = 2) (h3 : ¬ o = 3) (h4 : ¬ o = 4) (h5 : ¬ o = 5) (hr : 1 ≤ r ∧ r ≤ 6) :
    Calls Tryd.prog 51 #[exA o A l.length cap 6 m r v, datV d] W fun e w' => e = .returned (.bool (relB r (maskN d.ip m) v)) ∧ Below W.heap.size W w' := by
  have hb := below_of W (W.alloc (exB o A l.length cap 6 m r v)) (datO d) (lbox W _)
  have HB := Lib.hid hb
  have HX : Hid (((W.alloc (exB o A l.length cap 6 m r v)).alloc (datO d)).heap[W.heap.size]? = some (exB o A l.length cap 6 m r v) ∧ ((W.alloc (exB o A l.length cap 6 m r v)).alloc (datO d)).heap[W.heap.size + 1]? = some (datO d)) := Lib.hid ⟨kept_alloc (World.alloc_heap_new W _) _, (by
    have := World.alloc_heap_new (W.alloc (exB o A l.length cap 6 m r v)) (datO d)
    simpa using this)⟩
  have q1 : (o == 1) = false := beq_false_of_ne h1
  have q2 : (o == 2) = false := beq_false_of_ne h2
  have q3 : (o == 3) = false := beq_false_of_ne h3
  have q4 : (o == 4) = false := beq_false_of_ne h4
  have q5 : (o == 5) = false := beq_false_of_ne h5
  clear h1 h2 h3 h4 h5
  have hcl := bits_mask7 d.ip m
  have x0 := cell6 HX.out.1 0 rfl
  have x1 := cell6 HX.out.1 1 rfl
  have x2 := cell6 HX.out.1 2 rfl
  have x3 := cell6 HX.out.1 3 rfl
  have x4 := cell6 HX.out.1 4 rfl
  have x5 := cell6 HX.out.1 5 rfl
  have z0 := cell6 HX.out.2 0 rfl
  have z1 := cell6 HX.out.2 1 rfl
  have z2 := cell6 HX.out.2 2 rfl
  have z3 := cell6 HX.out.2 3 rfl
  have z4 := cell6 HX.out.2 4 rfl
  have z5 := cell6 HX.out.2 5 rfl
  have z6 := cell6 HX.out.2 6 rfl
  have z7 := cell6 HX.out.2 7 rfl
  have z8 := cell6 HX.out.2 8 rfl
  have hrr : r = 1 ∨ r = 2 ∨ r = 3 ∨ r = 4 ∨ r = 5 ∨ r = 6 := by omega
  generalize hn : l.length = n at HB HX hb x1 ⊢
  clear h hb hn hr HX
  generalize maskN d.ip m = a at hcl ⊢
  rcases hrr with rfl | rfl | rfl | rfl | rfl | rfl
  · have hE : relB 1 a v = ((a : Int) == (v : Int)) := by
      have e : relB 1 a v = decide (a = v) := by unfold relB; simp
      rw [e]
      by_cases h : a = v
      · rw [decide_eq_true h]; exact (beq_iff_eq.2 (by omega) : ((a : Int) == (v : Int)) = true).symm
      · rw [decide_eq_false h]; exact (beq_false_of_ne (by omega) : ((a : Int) == (v : Int)) = false).symm
    rw [hE]
    clear hE
    go_enter Tryd.func51, Tryd.ntmps51
    go_wp2
    go_ret
    exact ⟨rfl, HB.out⟩
  · have hE : relB 2 a v = ((a : Int) != (v : Int)) := by
      have e : relB 2 a v = decide (a ≠ v) := by unfold relB; simp
      rw [e]
      by_cases h : a ≠ v
      · rw [decide_eq_true h]; exact (bne_iff_ne.2 (by omega) : ((a : Int) != (v : Int)) = true).symm
      · rw [decide_eq_false h]; exact (by rw [show a = v by omega]; exact bne_self_eq_false _ : ((a : Int) != (v : Int)) = false).symm
    rw [hE]
    clear hE
    go_enter Tryd.func51, Tryd.ntmps51
    go_wp2
    go_ret
    exact ⟨rfl, HB.out⟩
  · have hE : relB 3 a v = decide (a < v) := by unfold relB; simp
    rw [hE]
    clear hE
    go_enter Tryd.func51, Tryd.ntmps51
    go_wp2
    go_ret
    exact ⟨rfl, HB.out⟩
  · have hE : relB 4 a v = decide (a ≤ v) := by unfold relB; simp
    rw [hE]
    clear hE
    go_enter Tryd.func51, Tryd.ntmps51
    go_wp2
    go_ret
    exact ⟨rfl, HB.out⟩
  · have hE : relB 5 a v = decide (v < a) := by unfold relB; simp
    rw [hE]
    clear hE
    go_enter Tryd.func51, Tryd.ntmps51
    go_wp2
    go_ret
    exact ⟨rfl, HB.out⟩
  · have hE : relB 6 a v = decide (v ≤ a) := by unfold relB; simp
    rw [hE]
    clear hE
    go_enter Tryd.func51, Tryd.ntmps51
    go_wp2
    go_ret
    exact ⟨rfl, HB.out⟩
theorem ref_holds6 (d : Dat) (o : Int) (l : List Ex) (f : Int) (m : Nat) (r : Int) (v : Nat) (A : Option Addr) (cap : Nat) (W : World) (h : ExL W (.mk o l f m r v) A cap) (h1 : ¬ o = 1) (h2 : ¬ o = 2) (h3 : ¬ o = 3) (h4 : ¬ o = 4) (h5 : ¬ o = 5) (hf : 0 ≤ f ∧ f ≤ 6) (hr : 1 ≤ r ∧ r ≤ 6) :
    Calls Tryd.prog 51 #[exA o A l.length cap f m r v, datV d] W fun e w' => e = .returned (.bool (relB r (maskN (fieldN d f) m) v)) ∧ Below W.heap.size W w' := by
  have hff : f = 0 ∨ f = 1 ∨ f = 2 ∨ f = 3 ∨ f = 4 ∨ f = 5 ∨ f = 6 := by omega
  rcases hff with rfl | rfl | rfl | rfl | rfl | rfl | rfl
  · exact ref_holds6_0 d o l m r v A cap W h h1 h2 h3 h4 h5 hr
  · exact ref_holds6_1 d o l m r v A cap W h h1 h2 h3 h4 h5 hr
  · exact ref_holds6_2 d o l m r v A cap W h h1 h2 h3 h4 h5 hr
  · exact ref_holds6_3 d o l m r v A cap W h h1 h2 h3 h4 h5 hr
  · exact ref_holds6_4 d o l m r v A cap W h h1 h2 h3 h4 h5 hr
  · exact ref_holds6_5 d o l m r v A cap W h h1 h2 h3 h4 h5 hr
  · exact ref_holds6_6 d o l m r v A cap W h h1 h2 h3 h4 h5 hr
theorem ref_holds (d : Dat) : ∀ (N : Nat) (x : Ex), SizeOf.sizeOf x < N → (∃ k, exF k x = 0) → HoldR d x
  | 0, x, hN, _ => by omega
  | N + 1, .mk o l f m r v, hN, ⟨k, hk⟩ => fun W A cap h => by
    obtain ⟨hs, hp⟩ := wf_parts hk
    have ih : ∀ j, j < l.length → HoldR d (l.getD j .zero) := fun j hj => ref_holds d N _ (by have := ex_sizeOf (.mk o l f m r v) j hj; exact Nat.lt_of_lt_of_le this (Nat.le_of_lt_succ hN)) ⟨k + 1, hp j hj⟩
    rw [holds_is]
    by_cases h1 : o = 1
    · rw [if_pos h1]; exact ref_holds1 d o l f m r v A cap W h h1
    rw [if_neg h1]
    by_cases h2 : o = 2
    · rw [if_pos h2]; exact ref_holds2 d o l f m r v A cap W h h2
    rw [if_neg h2]
    unfold shapeB at hs
    rw [if_neg (fun g => g.elim h1 h2)] at hs
    by_cases h3 : o = 3
    · rw [if_pos h3] at hs ⊢
      have hl : l.length = 1 := of_decide_eq_true hs
      have e : firstF d l = !holdsF d (l.getD 0 .zero) := by
        rcases l with _ | ⟨y, l⟩
        · simp at hl
        · rw [firstF]; rfl
      rw [e]
      exact ref_holds3 d o l f m r v A cap W h h3 hl (ih 0 (by omega))
    rw [if_neg h3] at hs ⊢
    by_cases h4 : o = 4
    · rw [if_pos h4]; exact ref_holds4 d o l f m r v A cap W h h4 ih
    rw [if_neg h4]
    by_cases h5 : o = 5
    · rw [if_pos h5]; exact ref_holds5 d o l f m r v A cap W h h5 ih
    rw [if_neg h5]
    rw [if_neg (fun g => g.elim h4 h5)] at hs
    by_cases h6 : o = 6
    · rw [if_pos h6] at hs
      have hc := of_decide_eq_true hs
      exact ref_holds6 d o l f m r v A cap W h h1 h2 h3 h4 h5 ⟨hc.2.1, hc.2.2.1⟩ hc.2.2.2
    · rw [if_neg h6] at hs; cases hs
end Go.Proofs.YthdmlbgejbpalaaDoor
