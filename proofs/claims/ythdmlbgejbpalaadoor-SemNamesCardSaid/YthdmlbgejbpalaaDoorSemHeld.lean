/-
  Holds of both sides: contracts. Conditions: those that each names.
-/
import Derived.Test.YthdmlbgejbpalaaDoorSemRefH
namespace Go.Proofs.YthdmlbgejbpalaaDoor
open Go Go.RowKit
set_option linter.unusedSimpArgs false
set_option linter.unusedVariables false

/-- What Holds answers. -/
def heldF (d : Dat) (x : Ex) : Bool := if exF 0 x = 0 then holdsF d x else false
/-- Both boxes in memory. -/
def TwoAt (w : World) (b : Nat) (x : Ex) (A : Option Addr) (cap : Nat) (d : Dat) : Prop := w.heap[b]? = some (exCell x A cap) ∧ w.heap[b + 1]? = some (datO d)
theorem TwoAt.up {w w1 : World} {b : Nat} {x : Ex} {A : Option Addr} {cap : Nat} {d : Dat} (h : TwoAt w b x A cap d) (hb : Below w.heap.size w w1) : TwoAt w1 b x A cap d :=
  ⟨(hb.block _ (Array.getElem?_eq_some_iff.1 h.1).1).trans h.1, (hb.block _ (Array.getElem?_eq_some_iff.1 h.2).1).trans h.2⟩
theorem twoAt_new (W : World) (x : Ex) (A : Option Addr) (cap : Nat) (d : Dat) : TwoAt ((W.alloc (exCell x A cap)).alloc (datO d)) W.heap.size x A cap d :=
  ⟨kept_alloc (World.alloc_heap_new W _) _, by
    have := World.alloc_heap_new (W.alloc (exCell x A cap)) (datO d)
    simpa using this⟩
theorem two_x {w : World} {b : Nat} {x : Ex} {A : Option Addr} {cap : Nat} {d : Dat} (h : TwoAt w b x A cap d) :
    w.cell? ⟨b, 0, none⟩ = some (.int .i64 x.op) ∧ w.cell? ⟨b, 1, none⟩ = some (.slice A x.args.length cap) ∧ w.cell? ⟨b, 2, none⟩ = some (.int .i64 x.field) ∧ w.cell? ⟨b, 3, none⟩ = some (.int .u64 (x.mask : Int)) ∧ w.cell? ⟨b, 4, none⟩ = some (.int .i64 x.rel) ∧ w.cell? ⟨b, 5, none⟩ = some (.int .u64 (x.value : Int)) :=
  ⟨cell6 h.1 0 rfl, cell6 h.1 1 rfl, cell6 h.1 2 rfl, cell6 h.1 3 rfl, cell6 h.1 4 rfl, cell6 h.1 5 rfl⟩
theorem two_d {w : World} {b : Nat} {x : Ex} {A : Option Addr} {cap : Nat} {d : Dat} (h : TwoAt w b x A cap d) :
    w.cell? ⟨b + 1, 0, none⟩ = some (.int .u32 (d.nr : Int)) ∧ w.cell? ⟨b + 1, 1, none⟩ = some (.int .u32 (d.arch : Int)) ∧ w.cell? ⟨b + 1, 2, none⟩ = some (.int .u64 (d.ip : Int)) ∧ w.cell? ⟨b + 1, 3, none⟩ = some (.int .u64 (d.args 0 : Int)) ∧ w.cell? ⟨b + 1, 4, none⟩ = some (.int .u64 (d.args 1 : Int)) ∧ w.cell? ⟨b + 1, 5, none⟩ = some (.int .u64 (d.args 2 : Int)) ∧ w.cell? ⟨b + 1, 6, none⟩ = some (.int .u64 (d.args 3 : Int)) ∧ w.cell? ⟨b + 1, 7, none⟩ = some (.int .u64 (d.args 4 : Int)) ∧ w.cell? ⟨b + 1, 8, none⟩ = some (.int .u64 (d.args 5 : Int)) :=
  ⟨cell6 h.2 0 rfl, cell6 h.2 1 rfl, cell6 h.2 2 rfl, cell6 h.2 3 rfl, cell6 h.2 4 rfl, cell6 h.2 5 rfl, cell6 h.2 6 rfl, cell6 h.2 7 rfl, cell6 h.2 8 rfl⟩
set_option maxRecDepth 100000 in
set_option maxHeartbeats 4000000 in
theorem ref_Holds7 (d : Dat) (x : Ex) (A : Option Addr) (cap : Nat) (W : World) (h : ExL W x A cap) :
    Calls Tryd.prog 28 #[exV x A cap, datV d] W fun e w' => e = .returned (.bool (heldF d x)) ∧ Below W.heap.size W w' := by
  have HE := Lib.hid (fun V (hV : ExL V x A cap) => ref_Expr7 x A cap V hV)
  have hb := below_of W (W.alloc (exCell x A cap)) (datO d) (lbox W _)
  have HB := Lib.hid (And.intro (h.below hb) (And.intro hb (twoAt_new W x A cap d)))
  have HH : Hid (exF 0 x = 0 → ∀ V, ExL V x A cap → Calls Tryd.prog 51 #[exV x A cap, datV d] V fun e w' => e = .returned (.bool (holdsF d x)) ∧ Below V.heap.size V w') := Lib.hid (fun he V hV => ref_holds d _ x (Nat.lt_succ_self _) ⟨0, he⟩ V A cap hV)
  unfold heldF
  clear h hb
  generalize holdsF d x = hv at HH ⊢
  generalize exF 0 x = er at HE HH ⊢
  by_cases hr : er = 0
  · have HQ := Lib.hid (HH.out hr)
    rw [if_pos hr]
    have HR := Lib.hid hr
    clear hr HH
    obtain ⟨g, hg⟩ : ∃ g, g = er := ⟨_, rfl⟩
    have q : (er != 0) = false := by rw [HR.out]; rfl
    clear hg
    go_enter Tryd.func28, Tryd.ntmps28
    go_wp2_with (first
      | (go_at_call 25; (with_reducible refine (HE.out _ HB.out.1).mono ?_); rintro e w1 ⟨rfl, hb1⟩; have HB1 := Lib.hid (And.intro (HB.out.1.below hb1) (And.intro (HB.out.2.1.trans (hb1.mono HB.out.2.1.size)) (HB.out.2.2.up hb1))); clear hb1; obtain ⟨x0, x1, x2, x3, x4, x5⟩ := two_x HB1.out.2.2; obtain ⟨z0, z1, z2, z3, z4, z5, z6, z7, z8⟩ := two_d HB1.out.2.2)
      | (go_at_call 51; (with_reducible refine (HQ.out _ HB1.out.1).mono ?_); rintro e w2 ⟨rfl, hb2⟩; have HB2 := Lib.hid (HB1.out.2.1.trans (hb2.mono HB1.out.2.1.size)); clear hb2))
    go_ret
    exact ⟨rfl, HB2.out⟩
  · have q : (er != 0) = true := bne_iff_ne.2 hr
    rw [if_neg hr]
    clear hr HH
    go_enter Tryd.func28, Tryd.ntmps28
    go_wp2_with (go_at_call 25; (with_reducible refine (HE.out _ HB.out.1).mono ?_); rintro e w1 ⟨rfl, hb1⟩; have HB1 := Lib.hid (HB.out.2.1.trans (hb1.mono HB.out.2.1.size)); clear hb1)
    go_ret
    exact ⟨rfl, HB1.out⟩
set_option maxRecDepth 100000 in
set_option maxHeartbeats 4000000 in
theorem p_Holds7 (d : Dat) (x : Ex) (A : Option Addr) (cap : Nat) (W : World) (h : ExL W x A cap) :
    Calls Tryd.prog 27 #[exV x A cap, datV d] W fun e w' => e = .returned (.bool (heldF d x)) ∧ Below W.heap.size W w' := by
  have HE := Lib.hid (fun V (hV : ExL V x A cap) => p_Expr7 x A cap V hV)
  have hb := below_of W (W.alloc (exCell x A cap)) (datO d) (lbox W _)
  have HB := Lib.hid (And.intro (h.below hb) (And.intro hb (twoAt_new W x A cap d)))
  have HH : Hid (exF 0 x = 0 → ∀ mb V, ExL V x A cap → RelMap V mb → Calls Tryd.prog 53 #[lookV d mb, exV x A cap] V fun e w' => e = .returned (.bool (holdsF d x)) ∧ Below V.heap.size V w') := Lib.hid (fun he mb V hV hm => p_holds d mb _ x (Nat.lt_succ_self _) ⟨0, he⟩ V A cap hV hm)
  unfold heldF
  clear h hb
  generalize holdsF d x = hv at HH ⊢
  generalize exF 0 x = er at HE HH ⊢
  by_cases hr : er = 0
  · have HQ := Lib.hid (HH.out hr)
    rw [if_pos hr]
    have HR := Lib.hid hr
    clear hr HH
    have q : (er == 0) = true := by rw [HR.out]; rfl
    go_enter Tryd.func27, Tryd.ntmps27
    go_wp2
    refine wp_region_held_drew (S := fun W' => TwoAt W' W.heap.size x A cap d) (by kernel_rfl) HB.out.2.2 (fun hHeld => ?_)
    have HY : Hid (ExL ((W.alloc (exCell x A cap)).alloc (datO d)).drew x A cap ∧ Below W.heap.size W ((W.alloc (exCell x A cap)).alloc (datO d)).drew ∧ TwoAt ((W.alloc (exCell x A cap)).alloc (datO d)).drew W.heap.size x A cap d) := Lib.hid ⟨HB.out.1.below (below_drawn (Below.refl _ _) 1), below_drawn HB.out.2.1 1, HB.out.2.2⟩
    clear HB
    generalize ((W.alloc (exCell x A cap)).alloc (datO d)).drew = Y at HY hHeld ⊢
    refine wpAnyH_take (i := 0) (v := ?_) rfl (by kernel_rfl) (by kernel_rfl) (by kernel_rfl) (fun _ _ _ h => h) (Or.inl ⟨by rfl, ?_⟩) (by assumption) ?_
    rotate_left
    · intro wS hSw
      (obtain ⟨x0, x1, x2, x3, x4, x5⟩ := two_x hSw)
      go_simp
      all_goals with_reducible rfl
    (try simp only [List.getElem_toArray, List.getElem_cons_zero, List.getElem_cons_succ, Act.put, List.setIfInBounds_toArray, List.set_cons_zero, List.set_cons_succ])
    refine held_one (i := 1) (by kernel_rfl) rfl (fun K hK => ?_)
    go_simp
    go_at_call 15
    refine (HE.out _ HY.out.1).mono ?_
    rintro e w1 ⟨rfl, hb1⟩
    have H1 := Lib.hid (And.intro (HY.out.1.below hb1) (And.intro (HY.out.2.1.trans (hb1.mono HY.out.2.1.size)) (HY.out.2.2.up hb1)))
    refine hK.out _ _ H1.out.2.2 (fun hHeld => ?_)
    clear hK K hb1
    (try simp only [Act.put, List.setIfInBounds_toArray, List.set_cons_zero, List.set_cons_succ, List.getElem_toArray, List.getElem_cons_zero, List.getElem_cons_succ])
    refine wpAnyH_take (i := 2) (v := ?_) rfl (by kernel_rfl) (by kernel_rfl) (by kernel_rfl) (fun _ _ _ h => h) (Or.inl ⟨by rfl, ?_⟩) (by assumption) ?_
    rotate_left
    · intro wS hSw
      (skip)
      go_simp
      all_goals with_reducible rfl
    (try simp only [List.getElem_toArray, List.getElem_cons_zero, List.getElem_cons_succ, Act.put, List.setIfInBounds_toArray, List.set_cons_zero, List.set_cons_succ])
    refine wpAnyH_take (i := 3) (v := ?_) rfl (by kernel_rfl) (by kernel_rfl) (by kernel_rfl) (fun _ _ _ h => h) (Or.inl ⟨by rfl, ?_⟩) (by assumption) ?_
    rotate_left
    · intro wS hSw
      (skip)
      go_simp
      all_goals with_reducible rfl
    (try simp only [List.getElem_toArray, List.getElem_cons_zero, List.getElem_cons_succ, Act.put, List.setIfInBounds_toArray, List.set_cons_zero, List.set_cons_succ])
    refine wpAnyH_take (i := 4) (v := ?_) rfl (by kernel_rfl) (by kernel_rfl) (by kernel_rfl) (fun _ _ _ h => h) (Or.inl ⟨by rfl, ?_⟩) (by assumption) ?_
    rotate_left
    · intro wS hSw
      (obtain ⟨z0, z1, z2, z3, z4, z5, z6, z7, z8⟩ := two_d hSw)
      go_simp
      all_goals with_reducible rfl
    (try simp only [List.getElem_toArray, List.getElem_cons_zero, List.getElem_cons_succ, Act.put, List.setIfInBounds_toArray, List.set_cons_zero, List.set_cons_succ])
    refine wpAnyH_take (i := 6) (v := ?_) rfl (by kernel_rfl) (by kernel_rfl) (by kernel_rfl) (fun _ _ _ h => h) (Or.inl ⟨by rfl, ?_⟩) (by assumption) ?_
    rotate_left
    · intro wS hSw
      (obtain ⟨x0, x1, x2, x3, x4, x5⟩ := two_x hSw)
      go_simp
      all_goals with_reducible rfl
    (try simp only [List.getElem_toArray, List.getElem_cons_zero, List.getElem_cons_succ, Act.put, List.setIfInBounds_toArray, List.set_cons_zero, List.set_cons_succ])
    refine held_one (i := 5) (by kernel_rfl) rfl (fun K hK => ?_)
    rw [if_pos (by kernel_rfl)]
    go_simp
    go_at_call 52
    refine (p_lookAt d w1).mono ?_
    rintro e w2 ⟨mb, rfl, hm, hb2⟩
    have H2 := Lib.hid (And.intro (H1.out.1.below hb2) (And.intro (H1.out.2.1.trans (hb2.mono H1.out.2.1.size)) (And.intro (H1.out.2.2.up hb2) hm)))
    refine hK.out _ _ H2.out.2.2.1 (fun hHeld => ?_)
    clear hK K hb2 hm
    (try simp only [Act.put, List.setIfInBounds_toArray, List.set_cons_zero, List.set_cons_succ, List.getElem_toArray, List.getElem_cons_zero, List.getElem_cons_succ])
    refine held_one (i := 7) (by kernel_rfl) rfl (fun K hK => ?_)
    rw [if_pos (by kernel_rfl)]
    go_simp
    go_at_call 53
    refine (HQ.out mb _ H2.out.1 H2.out.2.2.2).mono ?_
    rintro e w3 ⟨rfl, hb3⟩
    have H3 := Lib.hid (And.intro (H2.out.2.1.trans (hb3.mono H2.out.2.1.size)) (H2.out.2.2.1.up hb3))
    refine hK.out _ _ H3.out.2 (fun hHeld => ?_)
    clear hK K hb3
    (try simp only [Act.put, List.setIfInBounds_toArray, List.set_cons_zero, List.set_cons_succ, List.getElem_toArray, List.getElem_cons_zero, List.getElem_cons_succ])
    refine wpAnyH_take (i := 8) (v := ?_) rfl (by kernel_rfl) (by kernel_rfl) (by kernel_rfl) (fun _ _ _ h => h) (Or.inl ⟨by rfl, ?_⟩) (by assumption) ?_
    rotate_left
    · intro wS hSw
      (skip)
      go_simp
      all_goals with_reducible rfl
    (try simp only [List.getElem_toArray, List.getElem_cons_zero, List.getElem_cons_succ, Act.put, List.setIfInBounds_toArray, List.set_cons_zero, List.set_cons_succ])
    refine wpAnyH_take (i := 9) (v := ?_) rfl (by kernel_rfl) (by kernel_rfl) (by kernel_rfl) (fun _ _ _ h => h) (Or.inl ⟨by rfl, ?_⟩) (by assumption) ?_
    rotate_left
    · intro wS hSw
      (skip)
      go_simp
      all_goals with_reducible rfl
    (try simp only [List.getElem_toArray, List.getElem_cons_zero, List.getElem_cons_succ, Act.put, List.setIfInBounds_toArray, List.set_cons_zero, List.set_cons_succ])
    refine wpAnyH_done (by kernel_rfl) ?_ _
    go_wp2
    go_ret
    exact ⟨rfl, H3.out.1⟩
  · have q : (er == 0) = false := beq_false_of_ne hr
    rw [if_neg hr]
    clear hr HH
    go_enter Tryd.func27, Tryd.ntmps27
    go_wp2
    refine wp_region_held_drew (S := fun W' => TwoAt W' W.heap.size x A cap d) (by kernel_rfl) HB.out.2.2 (fun hHeld => ?_)
    have HY : Hid (ExL ((W.alloc (exCell x A cap)).alloc (datO d)).drew x A cap ∧ Below W.heap.size W ((W.alloc (exCell x A cap)).alloc (datO d)).drew ∧ TwoAt ((W.alloc (exCell x A cap)).alloc (datO d)).drew W.heap.size x A cap d) := Lib.hid ⟨HB.out.1.below (below_drawn (Below.refl _ _) 1), below_drawn HB.out.2.1 1, HB.out.2.2⟩
    clear HB
    generalize ((W.alloc (exCell x A cap)).alloc (datO d)).drew = Y at HY hHeld ⊢
    refine wpAnyH_take (i := 0) (v := ?_) rfl (by kernel_rfl) (by kernel_rfl) (by kernel_rfl) (fun _ _ _ h => h) (Or.inl ⟨by rfl, ?_⟩) (by assumption) ?_
    rotate_left
    · intro wS hSw
      (obtain ⟨x0, x1, x2, x3, x4, x5⟩ := two_x hSw)
      go_simp
      all_goals with_reducible rfl
    (try simp only [List.getElem_toArray, List.getElem_cons_zero, List.getElem_cons_succ, Act.put, List.setIfInBounds_toArray, List.set_cons_zero, List.set_cons_succ])
    refine held_one (i := 1) (by kernel_rfl) rfl (fun K hK => ?_)
    go_simp
    go_at_call 15
    refine (HE.out _ HY.out.1).mono ?_
    rintro e w1 ⟨rfl, hb1⟩
    have H1 := Lib.hid (And.intro (HY.out.1.below hb1) (And.intro (HY.out.2.1.trans (hb1.mono HY.out.2.1.size)) (HY.out.2.2.up hb1)))
    refine hK.out _ _ H1.out.2.2 (fun hHeld => ?_)
    clear hK K hb1
    (try simp only [Act.put, List.setIfInBounds_toArray, List.set_cons_zero, List.set_cons_succ, List.getElem_toArray, List.getElem_cons_zero, List.getElem_cons_succ])
    refine wpAnyH_take (i := 2) (v := ?_) rfl (by kernel_rfl) (by kernel_rfl) (by kernel_rfl) (fun _ _ _ h => h) (Or.inl ⟨by rfl, ?_⟩) (by assumption) ?_
    rotate_left
    · intro wS hSw
      (skip)
      go_simp
      all_goals with_reducible rfl
    (try simp only [List.getElem_toArray, List.getElem_cons_zero, List.getElem_cons_succ, Act.put, List.setIfInBounds_toArray, List.set_cons_zero, List.set_cons_succ])
    refine wpAnyH_take (i := 3) (v := ?_) rfl (by kernel_rfl) (by kernel_rfl) (by kernel_rfl) (fun _ _ _ h => h) (Or.inl ⟨by rfl, ?_⟩) (by assumption) ?_
    rotate_left
    · intro wS hSw
      (skip)
      go_simp
      all_goals with_reducible rfl
    (try simp only [List.getElem_toArray, List.getElem_cons_zero, List.getElem_cons_succ, Act.put, List.setIfInBounds_toArray, List.set_cons_zero, List.set_cons_succ])
    refine wpAnyH_take (i := 4) (v := undef) rfl (by kernel_rfl) (by kernel_rfl) (by kernel_rfl) (fun _ _ _ h => h) (Or.inr ⟨by rfl, rfl⟩) (by assumption) ?_
    (try simp only [List.getElem_toArray, List.getElem_cons_zero, List.getElem_cons_succ, Act.put, List.setIfInBounds_toArray, List.set_cons_zero, List.set_cons_succ])
    refine wpAnyH_take (i := 6) (v := undef) rfl (by kernel_rfl) (by kernel_rfl) (by kernel_rfl) (fun _ _ _ h => h) (Or.inr ⟨by rfl, rfl⟩) (by assumption) ?_
    (try simp only [List.getElem_toArray, List.getElem_cons_zero, List.getElem_cons_succ, Act.put, List.setIfInBounds_toArray, List.set_cons_zero, List.set_cons_succ])
    refine wpAnyH_take (i := 5) (v := undef) rfl (by kernel_rfl) (by kernel_rfl) (by kernel_rfl) (fun _ _ _ h => h) (Or.inr ⟨by rfl, rfl⟩) (by assumption) ?_
    (try simp only [List.getElem_toArray, List.getElem_cons_zero, List.getElem_cons_succ, Act.put, List.setIfInBounds_toArray, List.set_cons_zero, List.set_cons_succ])
    refine wpAnyH_take (i := 7) (v := undef) rfl (by kernel_rfl) (by kernel_rfl) (by kernel_rfl) (fun _ _ _ h => h) (Or.inr ⟨by rfl, rfl⟩) (by assumption) ?_
    (try simp only [List.getElem_toArray, List.getElem_cons_zero, List.getElem_cons_succ, Act.put, List.setIfInBounds_toArray, List.set_cons_zero, List.set_cons_succ])
    refine wpAnyH_take (i := 8) (v := ?_) rfl (by kernel_rfl) (by kernel_rfl) (by kernel_rfl) (fun _ _ _ h => h) (Or.inl ⟨by rfl, ?_⟩) (by assumption) ?_
    rotate_left
    · intro wS hSw
      (skip)
      go_simp
      all_goals with_reducible rfl
    (try simp only [List.getElem_toArray, List.getElem_cons_zero, List.getElem_cons_succ, Act.put, List.setIfInBounds_toArray, List.set_cons_zero, List.set_cons_succ])
    refine wpAnyH_take (i := 9) (v := ?_) rfl (by kernel_rfl) (by kernel_rfl) (by kernel_rfl) (fun _ _ _ h => h) (Or.inl ⟨by rfl, ?_⟩) (by assumption) ?_
    rotate_left
    · intro wS hSw
      (skip)
      go_simp
      all_goals with_reducible rfl
    (try simp only [List.getElem_toArray, List.getElem_cons_zero, List.getElem_cons_succ, Act.put, List.setIfInBounds_toArray, List.set_cons_zero, List.set_cons_succ])
    refine wpAnyH_done (by kernel_rfl) ?_ _
    go_wp2
    go_ret
    exact ⟨rfl, H1.out.2.1⟩
end Go.Proofs.YthdmlbgejbpalaaDoor
