/-
  'SecdataBytes': for all data, the law of layer 2 on Bytes and Read returns true, and leaves memory as it was. Condition: the table of the kinds reads as the program's text lays it (the card ties it).
-/
import Derived.Test.YtdmjbiaigjifaaaDoorSecFacts
import Derived.Test.YtdmjbiaigjifaaaDoorCards
import Derived.SevenTiedAt
import Derived.Deep.RegionHeld3
import Derived.Test.YtdmjbiaigjifaaaDoorRegion
import Derived.Test.YtdmjbiaigjifaaaDoorDataEq
import Derived.Test.YtdmjbiaigjifaaaDoorStrings
namespace Go.Proofs.YtdmjbiaigjifaaaDoor.secdataBytes
open Go Go.ChangeShapes Go.WideShapes Go.ChangeAt Go.RowKit
set_option linter.unusedSimpArgs false
set_option linter.unusedVariables false

/-- What the loop knows: the data, the second row of bytes, and the first from place k on. -/
def Round (w W : World) (g1 cap1 g2 : Nat) (nr arch ip : Int) (a : Nat → Int) (k : Nat) : Prop :=
  Box W w.heap.size nr arch ip a ∧ Bytes64 W g2 0 (dbyte nr arch ip a) ∧ Below w.heap.size w W ∧ ∃ F, W.rowIs g1 5 cap1 F ∧ ∀ j, k ≤ j → j < 64 → F j = .int .u8 (dbyte nr arch ip a j)
theorem Round.set {w W : World} {g1 cap1 g2 : Nat} {nr arch ip : Int} {a : Nat → Int} {k : Nat} (h : Round w W g1 cap1 g2 nr arch ip a k) (hne1 : w.heap.size ≠ g1) (hne2 : g2 ≠ g1) (hge : w.heap.size ≤ g1) (u : Value) :
    Round w (W.setCell ⟨g1, k, none⟩ u) g1 cap1 g2 nr arch ip a (k + 1) := by
  obtain ⟨hx, hz, hb, F, hr, hF⟩ := h
  have hg := grown_set (World.grownBy.refl W (some g1)) k u
  exact ⟨hx.grown hg hne1, hz.grown hg hne2, hb.setCell (p := ⟨g1, k, none⟩) hge u, _, hr.set k u, fun j h1 h2 => by show (if j = k then u else F j) = _; rw [if_neg (by omega)]; exact hF j (by omega) h2⟩

set_option maxHeartbeats 2000000 in
theorem walk (nr arch ip : Int) (a : Nat → Int) (w : World) (hD : DataOK nr arch ip a) (hT : Tab w) :
    Calls Tryd.prog 3 #[.agg #[.int .u32 nr, .int .u32 arch, .int .u64 ip, .int .u64 (a 0), .int .u64 (a 1), .int .u64 (a 2), .int .u64 (a 3), .int .u64 (a 4), .int .u64 (a 5)]] w fun e w' => e = .returned (.bool true) ∧ Below w.heap.size w w' := by
  have hT' := hT.below (below_box w (.cells #[.int .u32 nr, .int .u32 arch, .int .u64 ip, .int .u64 (a 0), .int .u64 (a 1), .int .u64 (a 2), .int .u64 (a 3), .int .u64 (a 4), .int .u64 (a 5)] 26)) hT.1
  have HT := Lib.hid hT'
  have HD := Lib.hid hD
  have HB := Lib.hid (fun w => secdata_Bytes nr arch ip a hD.1 hD.2.1 hD.2.2.1 hD.2.2.2 w)
  have HR := Lib.hid (fun w => ref2_Bytes nr arch ip a hD.1 hD.2.1 hD.2.2.1 hD.2.2.2 w)
  clear hT hT' hD
  go_enter Tryd.func3, Tryd.ntmps3
  go_wp2_with (first
    | (go_at_call 10; (with_reducible refine (head_true _ HT.out).mono ?_); rintro e w1 ⟨rfl, hbel⟩; obtain ⟨hbox, hb0, hs0⟩ := after_head hbel; obtain ⟨c0, c1, c2, a0, a1, a2, a3, a4, a5⟩ := box_cells hbox; have HX := Lib.hid hbox; have HB0 := Lib.hid hb0; clear hbel hb0 hbox HT)
    | (go_at_call 11; (with_reducible refine (HB.out _).mono ?_); rintro e w2 ⟨va, rfl, hm1⟩; obtain ⟨g1, cap1, F1, rfl, hr1, hc1, hmx1, hF1, hb1, hg1⟩ := hm1; have HX2 := Lib.hid (HX.out.below hb1 HX.out.1); obtain ⟨d0, d1, d2, e0, e1, e2, e3, e4, e5⟩ := box_cells HX2.out; have HR1 := Lib.hid hr1; have HF1 := Lib.hid hF1; have HB1 := Lib.hid (HB0.out.trans (hb1.mono HB0.out.size)); clear c0 c1 c2 a0 a1 a2 a3 a4 a5 hr1 hF1 hb1 HX HB0)
    | (go_at_call 11; (with_reducible refine (HB.out _).mono ?_); rintro e w3 ⟨vb, rfl, hm2⟩; obtain ⟨g2, cap2, rfl, hz2, hb2, hg2⟩ := bytes64_made (dbyte_bd nr arch ip a) hm2; have HX3 := Lib.hid (HX2.out.below hb2 HX2.out.1); have HR2 := Lib.hid (rowIs_below HR1.out hb2 HR1.out.lt); have HZ2 := Lib.hid hz2; have HB2 := Lib.hid (HB1.out.trans (hb2.mono HB1.out.size)); have hg12 := Nat.lt_of_lt_of_le HR1.out.lt hg2; clear d0 d1 d2 e0 e1 e2 e3 e4 e5 hz2 hb2 hm2 HR1 HX2 HB1))
  refine wp_region_held_drew (S := fun w' => Box w' w.heap.size nr arch ip a ∧ Bytes64 w' g1 0 (dbyte nr arch ip a)) (by kernel_rfl) ⟨HX3.out.drew, bytes64_row (dbyte_bd nr arch ip a) HR2.out.drew hc1 HF1.out⟩ (fun hHeld => ?_)
  refine wpAnyH_take (i := 0) (v := ?_) rfl (by kernel_rfl) (by kernel_rfl) (by kernel_rfl) (fun _ _ _ h => h) (Or.inl ⟨by rfl, ?_⟩) (by assumption) ?_
  rotate_left
  · intro wS hSw
    (have q1 := box_cells hSw.1; have q2 := str64 cap1 hSw.2; clear hSw)
    go_simp
    all_goals with_reducible rfl
  (try simp only [Act.put, List.setIfInBounds_toArray, List.set_cons_zero, List.set_cons_succ])
  refine wpAnyH_take (i := 1) (v := ?_) rfl (by kernel_rfl) (by kernel_rfl) (by kernel_rfl) (fun _ _ _ h => h) (Or.inl ⟨by rfl, ?_⟩) (by assumption) ?_
  rotate_left
  · intro wS hSw
    (have q1 := box_cells hSw.1; have q2 := str64 cap1 hSw.2; clear hSw)
    go_simp
    all_goals with_reducible rfl
  (try simp only [Act.put, List.setIfInBounds_toArray, List.set_cons_zero, List.set_cons_succ])
  refine wpAnyH_take (i := 2) (v := ?_) rfl (by kernel_rfl) (by kernel_rfl) (by kernel_rfl) (fun _ _ _ h => h) (Or.inl ⟨by rfl, ?_⟩) (by assumption) ?_
  rotate_left
  · intro wS hSw
    (have q1 := box_cells hSw.1; have q2 := str64 cap1 hSw.2; clear hSw)
    go_simp
    all_goals with_reducible rfl
  (try simp only [Act.put, List.setIfInBounds_toArray, List.set_cons_zero, List.set_cons_succ])
  refine held_one (i := 3) (by kernel_rfl) rfl (fun K hK => ?_)
  go_simp
  go_at_call 12
  refine (HR.out _).mono ?_
  rintro e w4 ⟨v3, rfl, hm3⟩
  obtain ⟨g3, cap3, rfl, hz3, hb3, hg3⟩ := bytes64_made (dbyte_bd nr arch ip a) hm3
  refine hK.out _ _ ⟨hHeld.1.below hb3 hHeld.1.1, hHeld.2.below hb3 hHeld.2.1⟩ (fun hH2 => ?_)
  have hb3' : Below w3.heap.size w3 w4 := ⟨hb3.os, hb3.tape, hb3.output, hb3.size, hb3.block⟩
  have HB4 := Lib.hid (HB2.out.trans (hb3'.mono HB2.out.size))
  have HX4 := Lib.hid hH2.1
  have HR4 := Lib.hid (rowIs_below HR2.out hb3' HR2.out.lt)
  have HZ4 := Lib.hid (HZ2.out.below hb3' HZ2.out.1)
  clear hK K hm3 hb3 hb3' hg3 hHeld
  refine held_mono (S' := fun w' => (Box w' w.heap.size nr arch ip a ∧ Bytes64 w' g1 0 (dbyte nr arch ip a)) ∧ Bytes64 w' g3 0 (dbyte nr arch ip a)) (fun _ h => h.1) _ _ _ _ ?_
  have hHeld : (fun w' => (Box w' w.heap.size nr arch ip a ∧ Bytes64 w' g1 0 (dbyte nr arch ip a)) ∧ Bytes64 w' g3 0 (dbyte nr arch ip a)) w4 := ⟨hH2, hz3⟩
  clear hH2 hz3
  (try simp only [Act.put, List.setIfInBounds_toArray, List.set_cons_zero, List.set_cons_succ])
  refine wpAnyH_take (i := 4) (v := ?_) rfl (by kernel_rfl) (by kernel_rfl) (by kernel_rfl) (fun _ _ _ h => h) (Or.inl ⟨by rfl, ?_⟩) (by assumption) ?_
  rotate_left
  · intro wS hSw
    (have q2 := str64 cap3 hSw.2; clear hSw)
    go_simp
    all_goals with_reducible rfl
  (try simp only [Act.put, List.setIfInBounds_toArray, List.set_cons_zero, List.set_cons_succ])
  refine wpAnyH_take (i := 5) (v := ?_) rfl (by kernel_rfl) (by kernel_rfl) (by kernel_rfl) (fun _ _ _ h => h) (Or.inl ⟨by rfl, ?_⟩) (by assumption) ?_
  rotate_left
  · intro wS hSw
    (have q2 := str64 cap3 hSw.2; clear hSw)
    go_simp
    all_goals with_reducible rfl
  (try simp only [Act.put, List.setIfInBounds_toArray, List.set_cons_zero, List.set_cons_succ])
  refine wpAnyH_take (i := 6) (v := ?_) rfl (by kernel_rfl) (by kernel_rfl) (by kernel_rfl) (fun _ _ _ h => h) (Or.inl ⟨by rfl, ?_⟩) (by assumption) ?_
  rotate_left
  · intro wS hSw
    (have q2 := str64 cap3 hSw.2; clear hSw)
    go_simp
    all_goals with_reducible rfl
  (try simp only [Act.put, List.setIfInBounds_toArray, List.set_cons_zero, List.set_cons_succ])
  refine wpAnyH_done (by kernel_rfl) ?_ _
  have hne1 : w.heap.size ≠ g1 := by have := HB2.out.size; omega
  have hne2 : g2 ≠ g1 := by omega
  have hge1 : w.heap.size ≤ g1 := by omega
  have S0 := Lib.hid (⟨HX4.out, HZ4.out, HB4.out, F1, HR4.out, fun j _ hj => HF1.out j hj⟩ : Round w w4 g1 cap1 g2 nr arch ip a 0)
  clear hHeld HX3 HR2 HZ2 HB2 HX4 HZ4 HB4 HR4
  go_wp2
  go_loopw [7] (fun i wr => ∃ k : Nat, k ≤ 64 ∧ i = .int .i64 (k : Int) ∧ Round w wr g1 cap1 g2 nr arch ip a k) (fun i _ => 64 - (intOf i).toNat)
  case atStart => exact ⟨0, by omega, rfl, S0.out⟩
  case round =>
    obtain ⟨k, hk, rfl, hst⟩ := hrel
    clear S0
    have HS := Lib.hid hst
    by_cases hlt : k < 64
    · obtain ⟨_, _, _, F, hr, hF⟩ := hst
      have hlt' : (k : Int) < 64 := by omega
      have c0 := (hr.cell (i := k) (by omega)).trans (congrArg some (hF k (Nat.le_refl _) hlt))
      have z0 := hr.frozen k
      have hv := dbyte_bd nr arch ip a k
      clear hr hF
      go_wp2
      go_roundw
      case rel => exact ⟨k + 1, by omega, by go_num, HS.out.set hne1 hne2 hge1 _⟩
      case measure => simp [intOf]; omega
    · obtain rfl : k = 64 := by omega
      clear hst
      obtain ⟨hx5, hz5, hb5, _⟩ := HS.out
      have HX5 := Lib.hid hx5
      have HZ5 := Lib.hid hz5
      have HB5 := Lib.hid hb5
      clear hx5 hz5 hb5 HS
      go_wp2
      refine wp_region_held_drew (S := fun w' => Box w' w.heap.size nr arch ip a ∧ Bytes64 w' g2 0 (dbyte nr arch ip a)) (by kernel_rfl) ⟨HX5.out.drew, HZ5.out⟩ (fun hHeld => ?_)
      refine wpAnyH_take (i := 0) (v := ?_) rfl (by kernel_rfl) (by kernel_rfl) (by kernel_rfl) (fun _ _ _ h => h) (Or.inl ⟨by rfl, ?_⟩) (by assumption) ?_
      rotate_left
      · intro wS hSw
        (have q1 := box_cells hSw.1; have q2 := str64 cap2 hSw.2; clear hSw)
        go_simp
        all_goals with_reducible rfl
      (try simp only [Act.put, List.setIfInBounds_toArray, List.set_cons_zero, List.set_cons_succ])
      refine wpAnyH_take (i := 1) (v := ?_) rfl (by kernel_rfl) (by kernel_rfl) (by kernel_rfl) (fun _ _ _ h => h) (Or.inl ⟨by rfl, ?_⟩) (by assumption) ?_
      rotate_left
      · intro wS hSw
        (have q1 := box_cells hSw.1; have q2 := str64 cap2 hSw.2; clear hSw)
        go_simp
        all_goals with_reducible rfl
      (try simp only [Act.put, List.setIfInBounds_toArray, List.set_cons_zero, List.set_cons_succ])
      refine wpAnyH_take (i := 2) (v := ?_) rfl (by kernel_rfl) (by kernel_rfl) (by kernel_rfl) (fun _ _ _ h => h) (Or.inl ⟨by rfl, ?_⟩) (by assumption) ?_
      rotate_left
      · intro wS hSw
        (have q1 := box_cells hSw.1; have q2 := str64 cap2 hSw.2; clear hSw)
        go_simp
        all_goals with_reducible rfl
      (try simp only [Act.put, List.setIfInBounds_toArray, List.set_cons_zero, List.set_cons_succ])
      refine held_one (i := 3) (by kernel_rfl) rfl (fun K hK => ?_)
      go_simp
      go_at_call 12
      refine (HR.out _).mono ?_
      rintro e w6 ⟨v3, rfl, hm3⟩
      obtain ⟨g4, cap4, rfl, hz4, hb4, hg4⟩ := bytes64_made (dbyte_bd nr arch ip a) hm3
      refine hK.out _ _ ⟨hHeld.1.below hb4 hHeld.1.1, hHeld.2.below hb4 hHeld.2.1⟩ (fun hH2 => ?_)
      have hb4' : Below wr.heap.size wr w6 := ⟨hb4.os, hb4.tape, hb4.output, hb4.size, hb4.block⟩
      have HB6 := Lib.hid (HB5.out.trans (hb4'.mono HB5.out.size))
      have HX6 := Lib.hid hH2.1
      have HZ6 := Lib.hid hH2.2
      clear hK K hm3 hb4 hb4' hg4 hHeld
      refine held_mono (S' := fun w' => (Box w' w.heap.size nr arch ip a ∧ Bytes64 w' g2 0 (dbyte nr arch ip a)) ∧ Bytes64 w' g4 0 (dbyte nr arch ip a)) (fun _ h => h.1) _ _ _ _ ?_
      have hHeld : (fun w' => (Box w' w.heap.size nr arch ip a ∧ Bytes64 w' g2 0 (dbyte nr arch ip a)) ∧ Bytes64 w' g4 0 (dbyte nr arch ip a)) w6 := ⟨hH2, hz4⟩
      clear hH2 hz4
      (try simp only [Act.put, List.setIfInBounds_toArray, List.set_cons_zero, List.set_cons_succ])
      refine wpAnyH_take (i := 4) (v := ?_) rfl (by kernel_rfl) (by kernel_rfl) (by kernel_rfl) (fun _ _ _ h => h) (Or.inl ⟨by rfl, ?_⟩) (by assumption) ?_
      rotate_left
      · intro wS hSw
        (have q2 := str64 cap4 hSw.2; clear hSw)
        go_simp
        all_goals with_reducible rfl
      (try simp only [Act.put, List.setIfInBounds_toArray, List.set_cons_zero, List.set_cons_succ])
      refine wpAnyH_take (i := 5) (v := ?_) rfl (by kernel_rfl) (by kernel_rfl) (by kernel_rfl) (fun _ _ _ h => h) (Or.inl ⟨by rfl, ?_⟩) (by assumption) ?_
      rotate_left
      · intro wS hSw
        (have q2 := str64 cap4 hSw.2; clear hSw)
        go_simp
        all_goals with_reducible rfl
      (try simp only [Act.put, List.setIfInBounds_toArray, List.set_cons_zero, List.set_cons_succ])
      refine wpAnyH_take (i := 6) (v := ?_) rfl (by kernel_rfl) (by kernel_rfl) (by kernel_rfl) (fun _ _ _ h => h) (Or.inl ⟨by rfl, ?_⟩) (by assumption) ?_
      rotate_left
      · intro wS hSw
        (have q2 := str64 cap4 hSw.2; clear hSw)
        go_simp
        all_goals with_reducible rfl
      (try simp only [Act.put, List.setIfInBounds_toArray, List.set_cons_zero, List.set_cons_succ])
      refine wpAnyH_done (by kernel_rfl) ?_ _
      clear hHeld HX5 HZ5 HB5
      have eqd := fun w => eq_data nr arch ip (a 0) (a 1) (a 2) (a 3) (a 4) (a 5) nr arch ip (a 0) (a 1) (a 2) (a 3) (a 4) (a 5) w
      go_wp2_with (go_at_call 13; (with_reducible refine (read_back HD.out g2 cap2 _ HZ6.out).mono ?_); rintro e w7 ⟨rfl, hb7⟩; obtain ⟨c0, c1, c2, a0, a1, a2, a3, a4, a5⟩ := box_cells (HX6.out.below hb7 HX6.out.1); have HB7 := Lib.hid (HB6.out.trans (hb7.mono HB6.out.size)); have hlt7 := Nat.lt_of_lt_of_le HX6.out.1 hb7.size; clear hb7 HX6 HZ6 HB6)
      go_ret
      exact ⟨rfl, HB7.out.alloc HB7.out.size _⟩

/-! ### The row's step, the statement, and the card -/
theorem door_met (os : Os) (args : Array Value) : laidMetH Tryd.prog [("ravelin/secdata.rows", Rows.laid_ravelin_secdata_rows)] ((World.doorLaid Tryd.prog 400 os).forCall (fun _ _ => 0) ⟨#[], args, []⟩).memory :=
  laidMetH_of_parts3 (fuel := 8) (laidMet_of_run' 8 (by kernel_rfl) (by kernel_rfl)) (by kernel_rfl) (by kernel_rfl)

set_option maxRecDepth 100000 in
theorem lifted (os : Os) (started : os.Started) (H : Type) (enc : TypeId × Value → H) :
    ReturnsInHanded {} Tryd.checked os 3 .any (fun w args => (Rows.secdataBytesSpec.pre enc Tryd.prog Tryd.f3 [] false w args ∧ laidMetH Tryd.prog [("ravelin/secdata.rows", Rows.laid_ravelin_secdata_rows)] w) ∧ sizedMet enc Tryd.prog Tryd.f3 (OpenSpec.ofChange Rows.secdataBytesSpec) false w args)
      (Rows.secdataBytesSpec.post enc Tryd.prog Tryd.f3 false true false false) := by
  refine returnsInHanded_of_change_and (C := Tryd.checked) (X := fun w _ => laidMetH Tryd.prog [("ravelin/secdata.rows", Rows.laid_ravelin_secdata_rows)] w) (fun _ _ _ hh h => h.of_heap hh) own started (by kernel_rfl) Tryd.func3
    (ChangeSpec.witness_shaped (enc := enc) (C := Tryd.checked) (os := os) (X := fun w _ => laidMetH Tryd.prog [("ravelin/secdata.rows", Rows.laid_ravelin_secdata_rows)] w) false (World.doorLaid Tryd.prog 400 os) #[.agg #[.int .u32 0, .int .u32 0, .int .u64 0, .int .u64 0, .int .u64 0, .int .u64 0, .int .u64 0, .int .u64 0, .int .u64 0]] 8 rfl (World.shaped_of_RefB (by kernel_rfl) (by kernel_rfl)) (by kernel_rfl) (by kernel_rfl) (by kernel_rfl) (door_met os _)) ?_
  intro W base args ds gs before hval0 hW _ _ hL _
  have hval : ∀ (j : Nat) t v, Tryd.f3.params[j]? = some t → args[j]? = some v → Value.okWide Tryd.prog W .any base t v := hval0
  have hW' := hW
  obtain ⟨p, q, hA0, hV, rfl, hfz, hnd⟩ := hW
  have hA : DataW.TrodAll enc Tryd.prog W 0 (fun _ => true) true Tryd.f3.params.toList args.toList ds p := hA0
  rw [Tryd.params3] at hA hval
  obtain ⟨v0, vs0, d0, ds0, p0, q0, hargs, rfl, rfl, h0, r0⟩ := trodAll_cons hA
  obtain ⟨rfl, rfl, rfl⟩ := trodAll_nil r0
  obtain rfl : args = #[v0] := by cases args; simp_all
  obtain ⟨rfl, rfl⟩ := trodVars_none hV
  have k0 := h0
  have lt0 : ∀ x ∈ p0, x.block < W.heap.size := by obtain ⟨m, hm⟩ := k0; exact DataW.trod_lt m _ _ _ hm
  obtain ⟨n0, c0, i0, z0, rfl, w0⟩ := open_data (hval 0 26 v0 rfl rfl) h0
  clear hA0 hval0
  refine (walk n0 c0 i0 z0 W w0 (tab_of_laid hL)).mono fun e W' ⟨he, bel⟩ => ?_
  subst he
  exact ⟨_, rfl, _, _, _, [], _, [], hW', trodAll_mk1 (shut_bool Tryd.underlying4 _), (trodAll_cons_mk (Below.trod laidOut (by kernel_rfl) (of_decide_eq_true (by kernel_rfl)) k0 bel lt0) trodAll_mk0), rfl, bel.frame _, fun h => by cases h⟩

theorem over : Rows.secdataBytesRow.holds Tryd.pinned (OpenSpec.ofChange Rows.secdataBytesSpec) :=
  OpenClaim.holds_of_wide 3 Tryd.f3 rfl rfl rfl rfl rfl rfl rfl ⟨rfl, rfl, rfl, rfl, rfl⟩ rfl rfl rfl rfl rfl (by kernel_rfl) Tryd.func3 (by kernel_rfl)
    (of_decide_eq_true (by kernel_rfl)) (by unfold Func.isWrapper; first | (rw [if_pos (by decide +kernel)]; kernel_rfl) | (rw [if_neg (by decide +kernel)]; exact ⟨rfl, rfl⟩))
    (fun os started H enc _ => lifted os started H enc)

/-- The statement: the row's card, what it lists tied to the program's text. -/
theorem proved : Rows.SecdataBytesCardSaid :=
  Claim7.holds_tied_plain_at .later [] [.data] true Rows.secdataBytesCard.stood.harness Rows.secdataBytesCard.stood.looks
    over (fun _ h => by cases h) (by kernel_rfl) (fun _ h => by cases h) secdataBytes_row_tie rfl ⟨rfl, rfl⟩ (by kernel_rfl) rfl
    (fun f fn hf hfn => by
      obtain rfl : f = 3 := Option.some.inj ((show Tryd.prog.funcNamed "ravelin/ravelinlaw02.SecdataBytes" = some 3 by kernel_rfl).symm.trans hf) |>.symm
      obtain rfl : fn = Tryd.f3 := (Option.some.inj (Tryd.func3.symm.trans hfn)).symm
      exact ⟨by kernel_rfl, fun j t ht => by
        have hm : t ∈ Tryd.f3.params.toList := by
          have := Array.mem_of_getElem? ht
          simpa using this
        have hall : (Tryd.f3.params.toList.all fun u => !Tryd.prog.wantsStandIn u) = true := by kernel_rfl
        exact (show Tryd.prog.wantsStandIn t = false by simpa using List.all_eq_true.1 hall t hm)⟩)
    (by kernel_rfl)
end Go.Proofs.YtdmjbiaigjifaaaDoor.secdataBytes
