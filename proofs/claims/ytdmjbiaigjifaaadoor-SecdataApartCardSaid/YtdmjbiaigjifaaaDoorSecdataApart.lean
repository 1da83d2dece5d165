/-
  'SecdataApart': for all pairs of data, the law of layer 2 on unlike data returns true, and leaves memory as it was. Condition: the table of the kinds reads as the program's text lays it (the card ties it).
-/
import Derived.Test.YtdmjbiaigjifaaaDoorSecFacts
import Derived.Test.YtdmjbiaigjifaaaDoorRegion
import Derived.Test.YtdmjbiaigjifaaaDoorDataEq
import Derived.Test.YtdmjbiaigjifaaaDoorStrings
import Derived.Test.YtdmjbiaigjifaaaDoorCards
import Derived.SevenTiedAt
namespace Go.Proofs.YtdmjbiaigjifaaaDoor.secdataApart
open Go Go.ChangeShapes Go.WideShapes Go.ChangeAt Go.RowKit
set_option linter.unusedSimpArgs false
set_option linter.unusedVariables false

theorem boxes (w w' : World) (t : TypeId) (nr arch ip nr' arch' ip' : Int) (a a' : Nat → Int)
    (hb : Below ((w.alloc (.cells #[.int .u32 nr, .int .u32 arch, .int .u64 ip, .int .u64 (a 0), .int .u64 (a 1), .int .u64 (a 2), .int .u64 (a 3), .int .u64 (a 4), .int .u64 (a 5)] t)).alloc (.cells #[.int .u32 nr', .int .u32 arch', .int .u64 ip', .int .u64 (a' 0), .int .u64 (a' 1), .int .u64 (a' 2), .int .u64 (a' 3), .int .u64 (a' 4), .int .u64 (a' 5)] t)).heap.size
      ((w.alloc (.cells #[.int .u32 nr, .int .u32 arch, .int .u64 ip, .int .u64 (a 0), .int .u64 (a 1), .int .u64 (a 2), .int .u64 (a 3), .int .u64 (a 4), .int .u64 (a 5)] t)).alloc (.cells #[.int .u32 nr', .int .u32 arch', .int .u64 ip', .int .u64 (a' 0), .int .u64 (a' 1), .int .u64 (a' 2), .int .u64 (a' 3), .int .u64 (a' 4), .int .u64 (a' 5)] t)) w') :
    Box w' w.heap.size nr arch ip a ∧ Box w' (w.heap.size + 1) nr' arch' ip' a' ∧ Below w.heap.size w w' := by
  have h1 := below_box w (.cells #[.int .u32 nr, .int .u32 arch, .int .u64 ip, .int .u64 (a 0), .int .u64 (a 1), .int .u64 (a 2), .int .u64 (a 3), .int .u64 (a 4), .int .u64 (a 5)] t)
  have h2 := h1.alloc h1.size (.cells #[.int .u32 nr', .int .u32 arch', .int .u64 ip', .int .u64 (a' 0), .int .u64 (a' 1), .int .u64 (a' 2), .int .u64 (a' 3), .int .u64 (a' 4), .int .u64 (a' 5)] t)
  have b1 := Box.new w t nr arch ip a
  have b2 := Box.new (w.alloc (.cells #[.int .u32 nr, .int .u32 arch, .int .u64 ip, .int .u64 (a 0), .int .u64 (a 1), .int .u64 (a 2), .int .u64 (a 3), .int .u64 (a 4), .int .u64 (a 5)] t)) t nr' arch' ip' a'
  refine ⟨(b1.below (below_box _ _) (by simp)).below hb (by simp; omega), ?_, h2.trans (hb.mono h2.size)⟩
  have := b2.below hb (by simp)
  simpa using this

theorem ret_eq {b : Bool} (h : b = true) : Ending.returned (.bool b) = .returned (.bool true) := by rw [h]
/-- Bytes are alike just if the data are. -/
theorem apart_says {nr arch ip : Int} {a : Nat → Int} {nr' arch' ip' : Int} {a' : Nat → Int} (hD : DataOK nr arch ip a) (hD' : DataOK nr' arch' ip' a') :
    (((strOf 64 (dbyte nr arch ip a)).toList == (strOf 64 (dbyte nr' arch' ip' a')).toList) == (decide (nr = nr') && (decide (arch = arch') && (decide (ip = ip') && (decide (a 0 = a' 0) && (decide (a 1 = a' 1) && (decide (a 2 = a' 2) && (decide (a 3 = a' 3) && (decide (a 4 = a' 4) && decide (a 5 = a' 5)))))))))) = true := by
  rw [beq_iff_eq, Bool.eq_iff_iff, strOf_beq (dbyte_bd _ _ _ _) (dbyte_bd _ _ _ _)]
  simp only [Bool.and_eq_true, decide_eq_true_eq]
  constructor
  · intro h
    obtain ⟨h1, h2, h3, h4⟩ := dbyte_inj hD.1 hD.2.1 hD.2.2.1 hD.2.2.2 hD'.1 hD'.2.1 hD'.2.2.1 hD'.2.2.2 h
    exact ⟨h1, h2, h3, h4 0 (by decide), h4 1 (by decide), h4 2 (by decide), h4 3 (by decide), h4 4 (by decide), h4 5 (by decide)⟩
  · rintro ⟨rfl, rfl, rfl, h0, h1, h2, h3, h4, h5⟩ j hj
    have key : ∀ i, i < 6 → a i = a' i := fun i hi => by
      match i, hi with
      | 0, _ => exact h0
      | 1, _ => exact h1
      | 2, _ => exact h2
      | 3, _ => exact h3
      | 4, _ => exact h4
      | 5, _ => exact h5
    unfold dbyte
    split
    · rfl
    · split
      · rfl
      · split
        · rfl
        · rw [key _ (by omega)]

set_option maxHeartbeats 2000000 in
theorem walk (nr arch ip : Int) (a : Nat → Int) (nr' arch' ip' : Int) (a' : Nat → Int) (w : World) (hD : DataOK nr arch ip a) (hD' : DataOK nr' arch' ip' a') (hT : Tab w) :
    Calls Tryd.prog 8 #[.agg #[.int .u32 nr, .int .u32 arch, .int .u64 ip, .int .u64 (a 0), .int .u64 (a 1), .int .u64 (a 2), .int .u64 (a 3), .int .u64 (a 4), .int .u64 (a 5)], .agg #[.int .u32 nr', .int .u32 arch', .int .u64 ip', .int .u64 (a' 0), .int .u64 (a' 1), .int .u64 (a' 2), .int .u64 (a' 3), .int .u64 (a' 4), .int .u64 (a' 5)]] w fun e w' => e = .returned (.bool true) ∧ Below w.heap.size w w' := by
  have hb0 := below_box w (.cells #[.int .u32 nr, .int .u32 arch, .int .u64 ip, .int .u64 (a 0), .int .u64 (a 1), .int .u64 (a 2), .int .u64 (a 3), .int .u64 (a 4), .int .u64 (a 5)] 26)
  have hT' := hT.below (hb0.alloc hb0.size (.cells #[.int .u32 nr', .int .u32 arch', .int .u64 ip', .int .u64 (a' 0), .int .u64 (a' 1), .int .u64 (a' 2), .int .u64 (a' 3), .int .u64 (a' 4), .int .u64 (a' 5)] 26)) hT.1
  have HT := Lib.hid hT'
  have HB := Lib.hid (fun w => secdata_Bytes nr arch ip a hD.1 hD.2.1 hD.2.2.1 hD.2.2.2 w)
  have HB' := Lib.hid (fun w => secdata_Bytes nr' arch' ip' a' hD'.1 hD'.2.1 hD'.2.2.1 hD'.2.2.2 w)
  have HD := Lib.hid hD
  have HD' := Lib.hid hD'
  clear hb0 hT hT' hD hD'
  go_enter Tryd.func8, Tryd.ntmps8
  go_wp2_with (first
    | (go_at_call 10; (with_reducible refine (head_true _ HT.out).mono ?_); rintro e w1 ⟨rfl, hbel⟩; obtain ⟨hx, hx', hb0⟩ := boxes _ _ _ _ _ _ _ _ _ _ _ hbel; have HX := Lib.hid hx; have HX' := Lib.hid hx'; have HB0 := Lib.hid hb0; clear hbel hb0 hx hx' HT))
  refine wp_region_held_drew (S := fun w' => Box w' w.heap.size nr arch ip a ∧ Box w' (w.heap.size + 1) nr' arch' ip' a') (by kernel_rfl) ⟨HX.out.drew, HX'.out.drew⟩ (fun hHeld => ?_)
  have eqd := fun w => eq_data nr arch ip (a 0) (a 1) (a 2) (a 3) (a 4) (a 5) nr' arch' ip' (a' 0) (a' 1) (a' 2) (a' 3) (a' 4) (a' 5) w
  refine wpAnyH_take (i := 0) (v := ?_) rfl (by kernel_rfl) (by kernel_rfl) (by kernel_rfl) (fun _ _ _ h => h) (Or.inl ⟨by rfl, ?_⟩) (by assumption) ?_
  rotate_left
  · intro wS hSw
    (have q1 := box_cells hSw.1; have q2 := box_cells hSw.2; clear hSw)
    go_simp
    all_goals with_reducible rfl
  (try simp only [Act.put, List.setIfInBounds_toArray, List.set_cons_zero, List.set_cons_succ])
  refine wpAnyH_take (i := 1) (v := ?_) rfl (by kernel_rfl) (by kernel_rfl) (by kernel_rfl) (fun _ _ _ h => h) (Or.inl ⟨by rfl, ?_⟩) (by assumption) ?_
  rotate_left
  · intro wS hSw
    (have q1 := box_cells hSw.1; have q2 := box_cells hSw.2; clear hSw)
    go_simp
    all_goals with_reducible rfl
  (try simp only [Act.put, List.setIfInBounds_toArray, List.set_cons_zero, List.set_cons_succ])
  refine wpAnyH_take (i := 2) (v := ?_) rfl (by kernel_rfl) (by kernel_rfl) (by kernel_rfl) (fun _ _ _ h => h) (Or.inl ⟨by rfl, ?_⟩) (by assumption) ?_
  rotate_left
  · intro wS hSw
    (have q1 := box_cells hSw.1; have q2 := box_cells hSw.2; clear hSw)
    go_simp
    all_goals with_reducible rfl
  (try simp only [Act.put, List.setIfInBounds_toArray, List.set_cons_zero, List.set_cons_succ])
  refine wpAnyH_take (i := 5) (v := ?_) rfl (by kernel_rfl) (by kernel_rfl) (by kernel_rfl) (fun _ _ _ h => h) (Or.inl ⟨by rfl, ?_⟩) (by assumption) ?_
  rotate_left
  · intro wS hSw
    (have q1 := box_cells hSw.1; have q2 := box_cells hSw.2; clear hSw)
    go_simp
    all_goals with_reducible rfl
  (try simp only [Act.put, List.setIfInBounds_toArray, List.set_cons_zero, List.set_cons_succ])
  refine wpAnyH_take (i := 9) (v := ?_) rfl (by kernel_rfl) (by kernel_rfl) (by kernel_rfl) (fun _ _ _ h => h) (Or.inl ⟨by rfl, ?_⟩) (by assumption) ?_
  rotate_left
  · intro wS hSw
    (have q1 := box_cells hSw.1; have q2 := box_cells hSw.2; clear hSw)
    go_simp
    all_goals with_reducible rfl
  (try simp only [Act.put, List.setIfInBounds_toArray, List.set_cons_zero, List.set_cons_succ])
  refine wpAnyH_take (i := 10) (v := ?_) rfl (by kernel_rfl) (by kernel_rfl) (by kernel_rfl) (fun _ _ _ h => h) (Or.inl ⟨by rfl, ?_⟩) (by assumption) ?_
  rotate_left
  · intro wS hSw
    (have q1 := box_cells hSw.1; have q2 := box_cells hSw.2; clear hSw)
    go_simp
    all_goals with_reducible rfl
  (try simp only [Act.put, List.setIfInBounds_toArray, List.set_cons_zero, List.set_cons_succ])
  refine wpAnyH_take (i := 11) (v := ?_) rfl (by kernel_rfl) (by kernel_rfl) (by kernel_rfl) (fun _ _ _ h => h) (Or.inl ⟨by rfl, ?_⟩) (by assumption) ?_
  rotate_left
  · intro wS hSw
    (have q1 := box_cells hSw.1; have q2 := box_cells hSw.2; clear hSw)
    go_simp
    all_goals with_reducible rfl
  (try simp only [Act.put, List.setIfInBounds_toArray, List.set_cons_zero, List.set_cons_succ])
  refine held_one (i := 3) (by kernel_rfl) rfl (fun K hK => ?_)
  go_simp
  go_at_call 11
  refine (HB.out _).mono ?_
  rintro e w2 ⟨v1, rfl, hm1⟩
  obtain ⟨g1, cap1, rfl, hz1, hb1, hg1⟩ := bytes64_made (dbyte_bd nr arch ip a) hm1
  refine hK.out _ _ ⟨hHeld.1.below hb1 hHeld.1.1, hHeld.2.below hb1 hHeld.2.1⟩ (fun hH2 => ?_)
  have HB2 := Lib.hid ((below_drawn HB0.out 1).trans (hb1.mono HB0.out.size))
  clear hK K hm1 hb1 hg1 hHeld
  refine held_mono (S' := fun w' => (Box w' w.heap.size nr arch ip a ∧ Box w' (w.heap.size + 1) nr' arch' ip' a') ∧ Bytes64 w' g1 0 (dbyte nr arch ip a)) (fun _ h => h.1) _ _ _ _ ?_
  have hHeld : (fun w' => (Box w' w.heap.size nr arch ip a ∧ Box w' (w.heap.size + 1) nr' arch' ip' a') ∧ Bytes64 w' g1 0 (dbyte nr arch ip a)) w2 := ⟨hH2, hz1⟩
  clear hH2 hz1
  (try simp only [Act.put, List.setIfInBounds_toArray, List.set_cons_zero, List.set_cons_succ])
  refine wpAnyH_take (i := 4) (v := ?_) rfl (by kernel_rfl) (by kernel_rfl) (by kernel_rfl) (fun _ _ _ h => h) (Or.inl ⟨by rfl, ?_⟩) (by assumption) ?_
  rotate_left
  · intro wS hSw
    (have q := str64 cap1 hSw.2; clear hSw)
    go_simp
    all_goals with_reducible rfl
  (try simp only [Act.put, List.setIfInBounds_toArray, List.set_cons_zero, List.set_cons_succ])
  refine held_one (i := 6) (by kernel_rfl) rfl (fun K hK => ?_)
  go_simp
  go_at_call 11
  refine (HB'.out _).mono ?_
  rintro e w3 ⟨v2, rfl, hm2⟩
  obtain ⟨g2, cap2, rfl, hz2, hb2, hg2⟩ := bytes64_made (dbyte_bd nr' arch' ip' a') hm2
  refine hK.out _ _ ⟨⟨hHeld.1.1.below hb2 hHeld.1.1.1, hHeld.1.2.below hb2 hHeld.1.2.1⟩, hHeld.2.below hb2 hHeld.2.1⟩ (fun hH3 => ?_)
  have HB3 := Lib.hid (HB2.out.trans (hb2.mono HB2.out.size))
  clear hK K hm2 hb2 hg2 hHeld HB2
  refine held_mono (S' := fun w' => ((Box w' w.heap.size nr arch ip a ∧ Box w' (w.heap.size + 1) nr' arch' ip' a') ∧ Bytes64 w' g1 0 (dbyte nr arch ip a)) ∧ Bytes64 w' g2 0 (dbyte nr' arch' ip' a')) (fun _ h => h.1) _ _ _ _ ?_
  have hHeld : (fun w' => ((Box w' w.heap.size nr arch ip a ∧ Box w' (w.heap.size + 1) nr' arch' ip' a') ∧ Bytes64 w' g1 0 (dbyte nr arch ip a)) ∧ Bytes64 w' g2 0 (dbyte nr' arch' ip' a')) w3 := ⟨hH3, hz2⟩
  clear hH3 hz2
  (try simp only [Act.put, List.setIfInBounds_toArray, List.set_cons_zero, List.set_cons_succ])
  refine wpAnyH_take (i := 7) (v := ?_) rfl (by kernel_rfl) (by kernel_rfl) (by kernel_rfl) (fun _ _ _ h => h) (Or.inl ⟨by rfl, ?_⟩) (by assumption) ?_
  rotate_left
  · intro wS hSw
    (have q := str64 cap2 hSw.2; clear hSw)
    go_simp
    all_goals with_reducible rfl
  (try simp only [Act.put, List.setIfInBounds_toArray, List.set_cons_zero, List.set_cons_succ])
  refine wpAnyH_take (i := 8) (v := ?_) rfl (by kernel_rfl) (by kernel_rfl) (by kernel_rfl) (fun _ _ _ h => h) (Or.inl ⟨by rfl, ?_⟩) (by assumption) ?_
  rotate_left
  · intro wS hSw
    (have q := str64 cap2 hSw.2; clear hSw)
    go_simp
    all_goals with_reducible rfl
  (try simp only [Act.put, List.setIfInBounds_toArray, List.set_cons_zero, List.set_cons_succ])
  refine wpAnyH_take (i := 12) (v := ?_) rfl (by kernel_rfl) (by kernel_rfl) (by kernel_rfl) (fun _ _ _ h => h) (Or.inl ⟨by rfl, ?_⟩) (by assumption) ?_
  rotate_left
  · intro wS hSw
    (have q := str64 cap2 hSw.2; clear hSw)
    go_simp
    all_goals with_reducible rfl
  (try simp only [Act.put, List.setIfInBounds_toArray, List.set_cons_zero, List.set_cons_succ])
  refine wpAnyH_take (i := 13) (v := ?_) rfl (by kernel_rfl) (by kernel_rfl) (by kernel_rfl) (fun _ _ _ h => h) (Or.inl ⟨by rfl, ?_⟩) (by assumption) ?_
  rotate_left
  · intro wS hSw
    (have q := str64 cap2 hSw.2; clear hSw)
    go_simp
    all_goals with_reducible rfl
  (try simp only [Act.put, List.setIfInBounds_toArray, List.set_cons_zero, List.set_cons_succ])
  refine wpAnyH_take (i := 14) (v := ?_) rfl (by kernel_rfl) (by kernel_rfl) (by kernel_rfl) (fun _ _ _ h => h) (Or.inl ⟨by rfl, ?_⟩) (by assumption) ?_
  rotate_left
  · intro wS hSw
    (have q := str64 cap2 hSw.2; clear hSw)
    go_simp
    all_goals with_reducible rfl
  (try simp only [Act.put, List.setIfInBounds_toArray, List.set_cons_zero, List.set_cons_succ])
  refine wpAnyH_done (by kernel_rfl) ?_ _
  go_wp2
  go_ret
  exact ⟨ret_eq (apart_says HD.out HD'.out), HB3.out⟩

/-! ### The row's step, the statement, and the card -/
theorem door_met (os : Os) (args : Array Value) : laidMetH Tryd.prog [("ravelin/secdata.rows", Rows.laid_ravelin_secdata_rows)] ((World.doorLaid Tryd.prog 400 os).forCall (fun _ _ => 0) ⟨#[], args, []⟩).memory :=
  laidMetH_of_parts3 (fuel := 8) (laidMet_of_run' 8 (by kernel_rfl) (by kernel_rfl)) (by kernel_rfl) (by kernel_rfl)

set_option maxRecDepth 100000 in
theorem lifted (os : Os) (started : os.Started) (H : Type) (enc : TypeId × Value → H) :
    ReturnsInHanded {} Tryd.checked os 8 .any (fun w args => (Rows.secdataApartSpec.pre enc Tryd.prog Tryd.f8 [] false w args ∧ laidMetH Tryd.prog [("ravelin/secdata.rows", Rows.laid_ravelin_secdata_rows)] w) ∧ sizedMet enc Tryd.prog Tryd.f8 (OpenSpec.ofChange Rows.secdataApartSpec) false w args)
      (Rows.secdataApartSpec.post enc Tryd.prog Tryd.f8 false true false false) := by
  refine returnsInHanded_of_change_and (C := Tryd.checked) (X := fun w _ => laidMetH Tryd.prog [("ravelin/secdata.rows", Rows.laid_ravelin_secdata_rows)] w) (fun _ _ _ hh h => h.of_heap hh) own started (by kernel_rfl) Tryd.func8
    (ChangeSpec.witness_shaped (enc := enc) (C := Tryd.checked) (os := os) (X := fun w _ => laidMetH Tryd.prog [("ravelin/secdata.rows", Rows.laid_ravelin_secdata_rows)] w) false (World.doorLaid Tryd.prog 400 os) #[.agg #[.int .u32 0, .int .u32 0, .int .u64 0, .int .u64 0, .int .u64 0, .int .u64 0, .int .u64 0, .int .u64 0, .int .u64 0], .agg #[.int .u32 0, .int .u32 0, .int .u64 0, .int .u64 0, .int .u64 0, .int .u64 0, .int .u64 0, .int .u64 0, .int .u64 0]] 8 rfl (World.shaped_of_RefB (by kernel_rfl) (by kernel_rfl)) (by kernel_rfl) (by kernel_rfl) (by kernel_rfl) (door_met os _)) ?_
  intro W base args ds gs before hval0 hW _ _ hL _
  have hval : ∀ (j : Nat) t v, Tryd.f8.params[j]? = some t → args[j]? = some v → Value.okWide Tryd.prog W .any base t v := hval0
  have hW' := hW
  obtain ⟨p, q, hA0, hV, rfl, hfz, hnd⟩ := hW
  have hA : DataW.TrodAll enc Tryd.prog W 0 (fun _ => true) true Tryd.f8.params.toList args.toList ds p := hA0
  rw [Tryd.params8] at hA hval
  obtain ⟨v0, vs0, d0, ds0, p0, q0, hargs, rfl, rfl, h0, r0⟩ := trodAll_cons hA
  obtain ⟨v1, vs1, d1, ds1, p1, q1, rfl, rfl, rfl, h1, r1⟩ := trodAll_cons r0
  obtain ⟨rfl, rfl, rfl⟩ := trodAll_nil r1
  obtain rfl : args = #[v0, v1] := by cases args; simp_all
  obtain ⟨rfl, rfl⟩ := trodVars_none hV
  have k0 := h0
  have lt0 : ∀ x ∈ p0, x.block < W.heap.size := by obtain ⟨m, hm⟩ := k0; exact DataW.trod_lt m _ _ _ hm
  obtain ⟨n0, c0, i0, z0, rfl, w0⟩ := open_data (hval 0 26 v0 rfl rfl) h0
  have k1 := h1
  have lt1 : ∀ x ∈ p1, x.block < W.heap.size := by obtain ⟨m, hm⟩ := k1; exact DataW.trod_lt m _ _ _ hm
  obtain ⟨n1, c1, i1, z1, rfl, w1⟩ := open_data (hval 1 26 v1 rfl rfl) h1
  clear hA0 hval0
  refine (walk n0 c0 i0 z0 n1 c1 i1 z1 W w0 w1 (tab_of_laid hL)).mono fun e W' ⟨he, bel⟩ => ?_
  subst he
  exact ⟨_, rfl, _, _, _, [], _, [], hW', trodAll_mk1 (shut_bool Tryd.underlying4 _), (trodAll_cons_mk (Below.trod laidOut (by kernel_rfl) (of_decide_eq_true (by kernel_rfl)) k0 bel lt0) (trodAll_cons_mk (Below.trod laidOut (by kernel_rfl) (of_decide_eq_true (by kernel_rfl)) k1 bel lt1) trodAll_mk0)), rfl, bel.frame _, fun h => by cases h⟩

theorem over : Rows.secdataApartRow.holds Tryd.pinned (OpenSpec.ofChange Rows.secdataApartSpec) :=
  OpenClaim.holds_of_wide 8 Tryd.f8 rfl rfl rfl rfl rfl rfl rfl ⟨rfl, rfl, rfl, rfl, rfl⟩ rfl rfl rfl rfl rfl (by kernel_rfl) Tryd.func8 (by kernel_rfl)
    (of_decide_eq_true (by kernel_rfl)) (by unfold Func.isWrapper; first | (rw [if_pos (by decide +kernel)]; kernel_rfl) | (rw [if_neg (by decide +kernel)]; exact ⟨rfl, rfl⟩))
    (fun os started H enc _ => lifted os started H enc)

/-- The statement: the row's card, what it lists tied to the program's text. -/
theorem proved : Rows.SecdataApartCardSaid :=
  Claim7.holds_tied_plain_at .later [] [.data] true Rows.secdataApartCard.stood.harness Rows.secdataApartCard.stood.looks
    over (fun _ h => by cases h) (by kernel_rfl) (fun _ h => by cases h) secdataApart_row_tie rfl ⟨rfl, rfl⟩ (by kernel_rfl) rfl
    (fun f fn hf hfn => by
      obtain rfl : f = 8 := Option.some.inj ((show Tryd.prog.funcNamed "ravelin/ravelinlaw02.SecdataApart" = some 8 by kernel_rfl).symm.trans hf) |>.symm
      obtain rfl : fn = Tryd.f8 := (Option.some.inj (Tryd.func8.symm.trans hfn)).symm
      exact ⟨by kernel_rfl, fun j t ht => by
        have hm : t ∈ Tryd.f8.params.toList := by
          have := Array.mem_of_getElem? ht
          simpa using this
        have hall : (Tryd.f8.params.toList.all fun u => !Tryd.prog.wantsStandIn u) = true := by kernel_rfl
        exact (show Tryd.prog.wantsStandIn t = false by simpa using List.all_eq_true.1 hall t hm)⟩)
    (by kernel_rfl)
end Go.Proofs.YtdmjbiaigjifaaaDoor.secdataApart
