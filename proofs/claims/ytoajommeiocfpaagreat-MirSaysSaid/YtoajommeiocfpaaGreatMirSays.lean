/-
  'MirSays': for every program and all data, the law of layer 12 on what is made of an accepted program returns true: it answers what that one answers; memory is left as it was. No condition.
-/
import Derived.Test.YtoajommeiocfpaaGreatMirHead
import Derived.Test.YtoajommeiocfpaaGreatMirRun
import Derived.Test.YtoajommeiocfpaaGreatMirCon
import Derived.Test.YtoajommeiocfpaaGreatPRun
import Derived.Test.YtoajommeiocfpaaGreatRowsSized
namespace Go.Proofs.YtoajommeiocfpaaGreat.mirSays
open Go Go.ChangeShapes Go.WideShapes Go.ChangeAt Go.RowKit
set_option linter.unusedSimpArgs false
set_option linter.unusedVariables false

/-- What stands while the law goes on. -/
abbrev Sy (w W : World) (A : Option Addr) (N : Nat) (p : Nat → Irx) (bx : Nat) (o : Obj) : Prop := Below w.heap.size w W ∧ IrAt W A N p ∧ W.heap[bx]? = some o
theorem sy_below {w W W' : World} {A : Option Addr} {N : Nat} {p : Nat → Irx} {bx : Nat} {o : Obj} (h : Sy w W A N p bx o) (hb : Below W.heap.size W W') : Sy w W' A N p bx o :=
  ⟨onM h.1 hb, h.2.1.below hb, keepM h.2.2 hb⟩
theorem sy_drew {w W : World} {A : Option Addr} {N : Nat} {p : Nat → Irx} {bx : Nat} {o : Obj} (h : Sy w W A N p bx o) : Sy w W.drew A N p bx o := sy_below h (below_drawn (Below.refl _ _) 1)
/-- One of the slices that came in. -/
theorem bys_one {w : World} {a : Option Addr} {len : Nat} (h : BysAt w a len) {i : Nat} (hi : i < len) : ∃ b o A l c zs, a = some ⟨b, o, none⟩ ∧ b < w.heap.size ∧ w.cell? ⟨b, o + i, none⟩ = some (.slice A l c) ∧ IsRow .u8 w A l c zs := by
  rcases h with ⟨_, h⟩ | ⟨x, rfl, _, hc⟩
  · omega
  · obtain ⟨A, l, c, zs, h1, h2⟩ := hc i hi
    obtain ⟨_, _, _, _, h0, _⟩ := hc 0 (by omega)
    obtain ⟨b, off, spot⟩ := x
    have hspot : spot = none := by simpa [Addr.add] using World.cell?_spot h0
    subst hspot
    rw [addr_add] at h1
    exact ⟨b, off, A, l, c, zs, rfl, cell_lt h1, h1, h2⟩
theorem bys_len {w : World} {a : Option Addr} {len : Nat} (h : BysAt w a len) : len ≤ maxLen := by
  rcases h with ⟨_, h⟩ | ⟨x, rfl, h, hc⟩
  · omega
  · exact h
set_option maxHeartbeats 8000000 in
set_option maxRecDepth 100000 in
theorem walk (a0 : Option Addr) (len0 cap0 : Nat) (a1 : Option Addr) (len1 cap1 : Nat) (w : World) (w0 : RowsOf [.u16, .u8, .u8, .u32] w a0 len0) (s0 : len0 * 8 ≤ 140737488351232) (w1 : BysAt w a1 len1) :
    Calls Tryz.prog 3 #[.slice a0 len0 cap0, .slice a1 len1 cap1] w fun e w' => e = .returned (.bool true) ∧ Below w.heap.size w w' := by
  obtain ⟨q, hp, ho⟩ := prog_of_rows w0
  have hml := bys_len w1
  unfold maxLen at hml
  have HP := Lib.hid hp
  have HO := Lib.hid ho
  have HW := Lib.hid (And.intro w0 w1)
  clear hp ho w0 w1
  by_cases ha : Accepted q len0
  · have HI : Hid (∀ V A cap, ProgAt V A len0 q → Calls Tryz.prog 5 #[.slice A len0 cap] V fun e w' => e = .returned (.bool true) ∧ Below V.heap.size V w') := Lib.hid fun V A cap h => (r_IsM V A len0 cap q h HO.out).mono fun e w' hh => by
      rw [check_is.2 ha] at hh; exact hh
    have HF : Hid (∀ V A cap, ProgAt V A len0 q → Calls Tryz.prog 6 #[.slice A len0 cap] V fun e w' => ∃ A' c, e = .returned (.tuple #[mirV 19 A' (begN q len0) c, .int .i64 0]) ∧ IrAt w' A' (begN q len0) (progT q len0) ∧ Below V.heap.size V w') := Lib.hid fun V A cap h => (p_From V A len0 cap q h HO.out).mono fun e w' hh => hh.1 ha
    have HR2 : Hid (∀ V A c da dcap z, IrAt V A (begN q len0) (progT q len0) → DatAt V da 64 z → Calls Tryz.prog 8 #[mirV 19 A (begN q len0) c, .slice da 64 dcap] V (RunMP 19 (progT q len0) (begN q len0) 64 z V)) := Lib.hid fun V A c da dcap z h h2 => r_RunM 19 A (begN q len0) c (progT q len0) da 64 dcap z V h h2
    have HR3 : Hid (∀ V A c da dcap z, IrAt V A (begN q len0) (progT q len0) → DatAt V da 64 z → Calls Tryz.prog 9 #[mirV 19 A (begN q len0) c, .slice da 64 dcap] V (RunMP 19 (progT q len0) (begN q len0) 64 z V)) := Lib.hid fun V A c da dcap z h h2 => p_RunM 19 A (begN q len0) c (progT q len0) da 64 dcap z V h h2
    have HS := Lib.hid (fun word => And.intro (sim_run ha word) (accepted_runs ha word).1)
    generalize begN q len0 = N at *
    generalize progT q len0 = p at *
    clear ha
    go_enter Tryz.func3, Tryz.ntmps3
    go_wp2_with (first
      | (go_at_call 4; (with_reducible refine (head_M _).mono ?_); rintro e w1 ⟨rfl, hb⟩; have HB1 := Lib.hid hb; have HP1 := Lib.hid (HP.out.below hb); clear hb)
      | (go_at_call 5; (with_reducible refine (HI.out _ _ _ HP1.out).mono ?_); rintro e w2 ⟨rfl, hb⟩; have HB2 := Lib.hid (onM HB1.out hb); have HP2 := Lib.hid (HP1.out.below hb); clear hb HB1 HP1)
      | (go_at_call 6; (with_reducible refine (HF.out _ _ _ HP2.out).mono ?_); rintro e w3 ⟨A2, c2, rfl, hi, hb⟩; have HT3 := Lib.hid (show Sy w (w3.alloc (mirO 19 A2 N c2)) A2 N p w3.heap.size (mirO 19 A2 N c2) from ⟨onM (onM HB2.out hb) (lboxM _ _), hi.below (lboxM _ _), World.alloc_heap_new w3 _⟩); clear hi hb HB2 HP2))
    generalize hY : w3.alloc (mirO 19 A2 N c2) = Y3 at HT3 ⊢
    generalize w3.heap.size = bx at HT3 ⊢
    clear hY
    go_loopw [9] (fun i wr => ∃ m : Nat, i = .int .i64 (m : Int) ∧ m ≤ len1 ∧ Sy w wr A2 N p bx (mirO 19 A2 N c2)) (fun i _ => len1 - (intOf i).toNat)
    case atStart => exact ⟨0, rfl, Nat.zero_le _, HT3.out⟩
    case round =>
      obtain ⟨m, rfl, hm, hT⟩ := hrel
      clear HT3
      have HT := Lib.hid hT
      clear hT
      by_cases hlt : m < len1
      · have hlt' : (m : Int) < (len1 : Int) := by omega
        have hwm : IntKind.i64.wrap ((m : Int) + 1) = (m : Int) + 1 := IntWalk.i64_in _ (by omega)
        obtain ⟨db, dofs, A, l, c, zs, rfl, hdb, hcell, hrow⟩ := bys_one HW.out.2 hlt
        have hc1 := (HT.out.1.cell (p := ⟨db, dofs + m, none⟩) hdb).trans hcell
        by_cases hl : l = 64
        · subst hl
          have HD := Lib.hid (And.intro hdb (And.intro hcell (And.intro hrow (HS.out (wordZ (fun i => zs.getD i 0))))))
          have HR1 : Hid (∀ V, Below w.heap.size w V → Calls Tryz.prog 7 #[.slice a0 len0 cap0, .slice A 64 c] V fun e w' => e = .returned (ansV (runM q len0 64 (wordZ (fun i => zs.getD i 0)))) ∧ Below V.heap.size V w') := Lib.hid fun V hb => ref_Run V a0 len0 cap0 q A 64 c _ ⟨HP.out.below hb, fun e => by
            obtain ⟨db, doff, rfl, h64⟩ := data_of_row hrow rfl
            exact ⟨db, doff, rfl, h64.below hb h64.1⟩, by omega, HO.out⟩
          have HR4 : Hid (∀ V, Below w.heap.size w V → Calls Tryz.prog 10 #[.slice a0 len0 cap0, .slice A 64 c] V fun e w' => e = .returned (ansV (runM q len0 64 (wordZ (fun i => zs.getD i 0)))) ∧ Below V.heap.size V w') := Lib.hid fun V hb => cbpf_Run V a0 len0 cap0 q A 64 c _ ⟨HP.out.below hb, (holds_of_isRow hrow).below hb, isRow_byte hrow, s0, by omega, HO.out⟩
          have HDA : Hid (∀ V, Below w.heap.size w V → DatAt V A 64 (fun i => zs.getD i 0)) := Lib.hid fun V hb => (show DatAt w A 64 (fun i => zs.getD i 0) from fun e => data_of_row hrow rfl).below hb
          unfold RunMP at HR2 HR3
          have HR2 := Lib.hid (fun V (h : IrAt V A2 N p) hb => HR2.out V A2 c2 A c _ h (HDA.out V hb))
          have HR3 := Lib.hid (fun V (h : IrAt V A2 N p) hb => HR3.out V A2 c2 A c _ h (HDA.out V hb))
          have hsim := HD.out.2.2.2
          generalize wordZ (fun i => zs.getD i 0) = word at *
          generalize runM q len0 64 word = M at *
          generalize runR 19 p N 64 word = R at *
          obtain ⟨ra, rn, re, rp⟩ := R
          obtain ⟨⟨hs1, hs2⟩, hs3⟩ := hsim
          simp only at hs1 hs2
          subst hs1 hs2
          have hav : ansV M = .tuple #[.int .u32 (M.ans.toNat : Int), .int .i64 (M.steps : Int), .int .i64 0, .int .i64 0] := by
            show Value.tuple #[.int .u32 (ansA M), .int .i64 (M.steps : Int), .int .i64 M.err, .int .i64 (ansP M)] = _
            unfold ansA ansP
            rw [hs3, if_pos rfl, if_pos rfl]
          rw [hav] at HR1 HR4
          generalize M.ans = ma at *
          generalize M.steps = ms at *
          have HCL : Hid (∀ V, Below w.heap.size w V → V.cell? ⟨db, dofs + m, none⟩ = some (.slice A 64 c)) := Lib.hid fun V hb => (hb.cell (p := ⟨db, dofs + m, none⟩) hdb).trans hcell
          clear hrow hcell hs3 hav HD
          go_wp2_with (go_at_call 7; (with_reducible refine (HR1.out _ HT.out.1).mono ?_); rintro e w5 ⟨rfl, hb⟩; have HT5 := Lib.hid (sy_below HT.out hb); clear hb HT hc1)
          refine wp_region_held_drew (S := fun W' => W'.heap[bx]? = some (mirO 19 A2 N c2) ∧ W'.cell? ⟨db, dofs + m, none⟩ = some (.slice A 64 c)) (by kernel_rfl) ⟨HT5.out.2.2, HCL.out _ (sy_drew HT5.out).1⟩ (fun hHeld => ?_)
          have HY := Lib.hid (sy_drew HT5.out)
          clear HT5
          generalize w5.drew = Y at HY hHeld ⊢
          refine wpAnyH_take (i := 0) (v := ?_) rfl (by kernel_rfl) (by kernel_rfl) (by kernel_rfl) (fun _ _ _ h => h) (Or.inl ⟨by rfl, ?_⟩) (by assumption) ?_
          rotate_left
          · intro wS hSw
            (have d0 := cellM hSw.1 0 rfl; have d1 := cellM hSw.1 1 rfl; have d2 := hSw.2)
            go_simp
            all_goals with_reducible rfl
          (try simp only [List.getElem_toArray, List.getElem_cons_zero, List.getElem_cons_succ, Act.put, List.setIfInBounds_toArray, List.set_cons_zero, List.set_cons_succ])
          refine wpAnyH_take (i := 1) (v := ?_) rfl (by kernel_rfl) (by kernel_rfl) (by kernel_rfl) (fun _ _ _ h => h) (Or.inl ⟨by rfl, ?_⟩) (by assumption) ?_
          rotate_left
          · intro wS hSw
            (have d0 := cellM hSw.1 0 rfl; have d1 := cellM hSw.1 1 rfl; have d2 := hSw.2)
            go_simp
            all_goals with_reducible rfl
          (try simp only [List.getElem_toArray, List.getElem_cons_zero, List.getElem_cons_succ, Act.put, List.setIfInBounds_toArray, List.set_cons_zero, List.set_cons_succ])
          refine wpAnyH_take (i := 2) (v := ?_) rfl (by kernel_rfl) (by kernel_rfl) (by kernel_rfl) (fun _ _ _ h => h) (Or.inl ⟨by rfl, ?_⟩) (by assumption) ?_
          rotate_left
          · intro wS hSw
            (have d0 := cellM hSw.1 0 rfl; have d1 := cellM hSw.1 1 rfl; have d2 := hSw.2)
            go_simp
            all_goals with_reducible rfl
          (try simp only [List.getElem_toArray, List.getElem_cons_zero, List.getElem_cons_succ, Act.put, List.setIfInBounds_toArray, List.set_cons_zero, List.set_cons_succ])
          refine wpAnyH_take (i := 3) (v := ?_) rfl (by kernel_rfl) (by kernel_rfl) (by kernel_rfl) (fun _ _ _ h => h) (Or.inl ⟨by rfl, ?_⟩) (by assumption) ?_
          rotate_left
          · intro wS hSw
            (have d0 := cellM hSw.1 0 rfl; have d1 := cellM hSw.1 1 rfl; have d2 := hSw.2)
            go_simp
            all_goals with_reducible rfl
          (try simp only [List.getElem_toArray, List.getElem_cons_zero, List.getElem_cons_succ, Act.put, List.setIfInBounds_toArray, List.set_cons_zero, List.set_cons_succ])
          refine wpAnyH_take (i := 4) (v := ?_) rfl (by kernel_rfl) (by kernel_rfl) (by kernel_rfl) (fun _ _ _ h => h) (Or.inl ⟨by rfl, ?_⟩) (by assumption) ?_
          rotate_left
          · intro wS hSw
            (have d0 := cellM hSw.1 0 rfl; have d1 := cellM hSw.1 1 rfl; have d2 := hSw.2)
            go_simp
            all_goals with_reducible rfl
          (try simp only [List.getElem_toArray, List.getElem_cons_zero, List.getElem_cons_succ, Act.put, List.setIfInBounds_toArray, List.set_cons_zero, List.set_cons_succ])
          refine held_one (i := 5) (by kernel_rfl) rfl (fun K hK => ?_)
          go_simp
          go_at_call 8
          refine (HR2.out _ HY.out.2.1 HY.out.1).mono ?_
          rintro e w6 ⟨rfl, hb⟩
          have HT6 := Lib.hid (sy_below HY.out hb)
          clear hb HY
          refine hK.out _ _ ⟨HT6.out.2.2, HCL.out _ HT6.out.1⟩ (fun hH6 => ?_)
          clear hK K hHeld
          (try simp only [Act.put, List.setIfInBounds_toArray, List.set_cons_zero, List.set_cons_succ, List.getElem_toArray, List.getElem_cons_zero, List.getElem_cons_succ])
          refine wpAnyH_take (i := 6) (v := ?_) rfl (by kernel_rfl) (by kernel_rfl) (by kernel_rfl) (fun _ _ _ h => h) (Or.inl ⟨by rfl, ?_⟩) (by assumption) ?_
          rotate_left
          · intro wS hSw
            (skip)
            go_simp
            all_goals with_reducible rfl
          (try simp only [List.getElem_toArray, List.getElem_cons_zero, List.getElem_cons_succ, Act.put, List.setIfInBounds_toArray, List.set_cons_zero, List.set_cons_succ])
          refine wpAnyH_take (i := 7) (v := ?_) rfl (by kernel_rfl) (by kernel_rfl) (by kernel_rfl) (fun _ _ _ h => h) (Or.inl ⟨by rfl, ?_⟩) (by assumption) ?_
          rotate_left
          · intro wS hSw
            (skip)
            go_simp
            all_goals with_reducible rfl
          (try simp only [List.getElem_toArray, List.getElem_cons_zero, List.getElem_cons_succ, Act.put, List.setIfInBounds_toArray, List.set_cons_zero, List.set_cons_succ])
          refine wpAnyH_take (i := 8) (v := ?_) rfl (by kernel_rfl) (by kernel_rfl) (by kernel_rfl) (fun _ _ _ h => h) (Or.inl ⟨by rfl, ?_⟩) (by assumption) ?_
          rotate_left
          · intro wS hSw
            (skip)
            go_simp
            all_goals with_reducible rfl
          (try simp only [List.getElem_toArray, List.getElem_cons_zero, List.getElem_cons_succ, Act.put, List.setIfInBounds_toArray, List.set_cons_zero, List.set_cons_succ])
          refine wpAnyH_take (i := 9) (v := ?_) rfl (by kernel_rfl) (by kernel_rfl) (by kernel_rfl) (fun _ _ _ h => h) (Or.inl ⟨by rfl, ?_⟩) (by assumption) ?_
          rotate_left
          · intro wS hSw
            (skip)
            go_simp
            all_goals with_reducible rfl
          (try simp only [List.getElem_toArray, List.getElem_cons_zero, List.getElem_cons_succ, Act.put, List.setIfInBounds_toArray, List.set_cons_zero, List.set_cons_succ])
          refine wpAnyH_take (i := 10) (v := ?_) rfl (by kernel_rfl) (by kernel_rfl) (by kernel_rfl) (fun _ _ _ h => h) (Or.inl ⟨by rfl, ?_⟩) (by assumption) ?_
          rotate_left
          · intro wS hSw
            (skip)
            go_simp
            all_goals with_reducible rfl
          (try simp only [List.getElem_toArray, List.getElem_cons_zero, List.getElem_cons_succ, Act.put, List.setIfInBounds_toArray, List.set_cons_zero, List.set_cons_succ])
          refine wpAnyH_take (i := 11) (v := ?_) rfl (by kernel_rfl) (by kernel_rfl) (by kernel_rfl) (fun _ _ _ h => h) (Or.inl ⟨by rfl, ?_⟩) (by assumption) ?_
          rotate_left
          · intro wS hSw
            (skip)
            go_simp
            all_goals with_reducible rfl
          (try simp only [List.getElem_toArray, List.getElem_cons_zero, List.getElem_cons_succ, Act.put, List.setIfInBounds_toArray, List.set_cons_zero, List.set_cons_succ])
          refine wpAnyH_take (i := 12) (v := ?_) rfl (by kernel_rfl) (by kernel_rfl) (by kernel_rfl) (fun _ _ _ h => h) (Or.inl ⟨by rfl, ?_⟩) (by assumption) ?_
          rotate_left
          · intro wS hSw
            (skip)
            go_simp
            all_goals with_reducible rfl
          (try simp only [List.getElem_toArray, List.getElem_cons_zero, List.getElem_cons_succ, Act.put, List.setIfInBounds_toArray, List.set_cons_zero, List.set_cons_succ])
          refine wpAnyH_take (i := 13) (v := ?_) rfl (by kernel_rfl) (by kernel_rfl) (by kernel_rfl) (fun _ _ _ h => h) (Or.inl ⟨by rfl, ?_⟩) (by assumption) ?_
          rotate_left
          · intro wS hSw
            (skip)
            go_simp
            all_goals with_reducible rfl
          (try simp only [List.getElem_toArray, List.getElem_cons_zero, List.getElem_cons_succ, Act.put, List.setIfInBounds_toArray, List.set_cons_zero, List.set_cons_succ])
          refine wpAnyH_take (i := 14) (v := ?_) rfl (by kernel_rfl) (by kernel_rfl) (by kernel_rfl) (fun _ _ _ h => h) (Or.inl ⟨by rfl, ?_⟩) (by assumption) ?_
          rotate_left
          · intro wS hSw
            (skip)
            go_simp
            all_goals with_reducible rfl
          (try simp only [List.getElem_toArray, List.getElem_cons_zero, List.getElem_cons_succ, Act.put, List.setIfInBounds_toArray, List.set_cons_zero, List.set_cons_succ])
          refine wpAnyH_done (by kernel_rfl) ?_ _
          clear hH6
          go_wp2
          refine wp_region_held_drew (S := fun W' => W'.heap[bx]? = some (mirO 19 A2 N c2) ∧ W'.cell? ⟨db, dofs + m, none⟩ = some (.slice A 64 c)) (by kernel_rfl) ⟨HT6.out.2.2, HCL.out _ (sy_drew HT6.out).1⟩ (fun hHeld => ?_)
          have HY := Lib.hid (sy_drew HT6.out)
          clear HT6
          generalize w6.drew = Y at HY hHeld ⊢
          refine wpAnyH_take (i := 0) (v := ?_) rfl (by kernel_rfl) (by kernel_rfl) (by kernel_rfl) (fun _ _ _ h => h) (Or.inl ⟨by rfl, ?_⟩) (by assumption) ?_
          rotate_left
          · intro wS hSw
            (have d0 := cellM hSw.1 0 rfl; have d1 := cellM hSw.1 1 rfl; have d2 := hSw.2)
            go_simp
            all_goals with_reducible rfl
          (try simp only [List.getElem_toArray, List.getElem_cons_zero, List.getElem_cons_succ, Act.put, List.setIfInBounds_toArray, List.set_cons_zero, List.set_cons_succ])
          refine wpAnyH_take (i := 1) (v := ?_) rfl (by kernel_rfl) (by kernel_rfl) (by kernel_rfl) (fun _ _ _ h => h) (Or.inl ⟨by rfl, ?_⟩) (by assumption) ?_
          rotate_left
          · intro wS hSw
            (have d0 := cellM hSw.1 0 rfl; have d1 := cellM hSw.1 1 rfl; have d2 := hSw.2)
            go_simp
            all_goals with_reducible rfl
          (try simp only [List.getElem_toArray, List.getElem_cons_zero, List.getElem_cons_succ, Act.put, List.setIfInBounds_toArray, List.set_cons_zero, List.set_cons_succ])
          refine wpAnyH_take (i := 2) (v := ?_) rfl (by kernel_rfl) (by kernel_rfl) (by kernel_rfl) (fun _ _ _ h => h) (Or.inl ⟨by rfl, ?_⟩) (by assumption) ?_
          rotate_left
          · intro wS hSw
            (have d0 := cellM hSw.1 0 rfl; have d1 := cellM hSw.1 1 rfl; have d2 := hSw.2)
            go_simp
            all_goals with_reducible rfl
          (try simp only [List.getElem_toArray, List.getElem_cons_zero, List.getElem_cons_succ, Act.put, List.setIfInBounds_toArray, List.set_cons_zero, List.set_cons_succ])
          refine wpAnyH_take (i := 3) (v := ?_) rfl (by kernel_rfl) (by kernel_rfl) (by kernel_rfl) (fun _ _ _ h => h) (Or.inl ⟨by rfl, ?_⟩) (by assumption) ?_
          rotate_left
          · intro wS hSw
            (have d0 := cellM hSw.1 0 rfl; have d1 := cellM hSw.1 1 rfl; have d2 := hSw.2)
            go_simp
            all_goals with_reducible rfl
          (try simp only [List.getElem_toArray, List.getElem_cons_zero, List.getElem_cons_succ, Act.put, List.setIfInBounds_toArray, List.set_cons_zero, List.set_cons_succ])
          refine wpAnyH_take (i := 4) (v := ?_) rfl (by kernel_rfl) (by kernel_rfl) (by kernel_rfl) (fun _ _ _ h => h) (Or.inl ⟨by rfl, ?_⟩) (by assumption) ?_
          rotate_left
          · intro wS hSw
            (have d0 := cellM hSw.1 0 rfl; have d1 := cellM hSw.1 1 rfl; have d2 := hSw.2)
            go_simp
            all_goals with_reducible rfl
          (try simp only [List.getElem_toArray, List.getElem_cons_zero, List.getElem_cons_succ, Act.put, List.setIfInBounds_toArray, List.set_cons_zero, List.set_cons_succ])
          refine held_one (i := 5) (by kernel_rfl) rfl (fun K hK => ?_)
          go_simp
          go_at_call 9
          refine (HR3.out _ HY.out.2.1 HY.out.1).mono ?_
          rintro e w7 ⟨rfl, hb⟩
          have HT7 := Lib.hid (sy_below HY.out hb)
          clear hb HY
          refine hK.out _ _ ⟨HT7.out.2.2, HCL.out _ HT7.out.1⟩ (fun hH6 => ?_)
          clear hK K hHeld
          (try simp only [Act.put, List.setIfInBounds_toArray, List.set_cons_zero, List.set_cons_succ, List.getElem_toArray, List.getElem_cons_zero, List.getElem_cons_succ])
          refine wpAnyH_take (i := 6) (v := ?_) rfl (by kernel_rfl) (by kernel_rfl) (by kernel_rfl) (fun _ _ _ h => h) (Or.inl ⟨by rfl, ?_⟩) (by assumption) ?_
          rotate_left
          · intro wS hSw
            (skip)
            go_simp
            all_goals with_reducible rfl
          (try simp only [List.getElem_toArray, List.getElem_cons_zero, List.getElem_cons_succ, Act.put, List.setIfInBounds_toArray, List.set_cons_zero, List.set_cons_succ])
          refine wpAnyH_take (i := 7) (v := ?_) rfl (by kernel_rfl) (by kernel_rfl) (by kernel_rfl) (fun _ _ _ h => h) (Or.inl ⟨by rfl, ?_⟩) (by assumption) ?_
          rotate_left
          · intro wS hSw
            (skip)
            go_simp
            all_goals with_reducible rfl
          (try simp only [List.getElem_toArray, List.getElem_cons_zero, List.getElem_cons_succ, Act.put, List.setIfInBounds_toArray, List.set_cons_zero, List.set_cons_succ])
          refine wpAnyH_take (i := 8) (v := ?_) rfl (by kernel_rfl) (by kernel_rfl) (by kernel_rfl) (fun _ _ _ h => h) (Or.inl ⟨by rfl, ?_⟩) (by assumption) ?_
          rotate_left
          · intro wS hSw
            (skip)
            go_simp
            all_goals with_reducible rfl
          (try simp only [List.getElem_toArray, List.getElem_cons_zero, List.getElem_cons_succ, Act.put, List.setIfInBounds_toArray, List.set_cons_zero, List.set_cons_succ])
          refine wpAnyH_take (i := 9) (v := ?_) rfl (by kernel_rfl) (by kernel_rfl) (by kernel_rfl) (fun _ _ _ h => h) (Or.inl ⟨by rfl, ?_⟩) (by assumption) ?_
          rotate_left
          · intro wS hSw
            (skip)
            go_simp
            all_goals with_reducible rfl
          (try simp only [List.getElem_toArray, List.getElem_cons_zero, List.getElem_cons_succ, Act.put, List.setIfInBounds_toArray, List.set_cons_zero, List.set_cons_succ])
          refine wpAnyH_take (i := 10) (v := ?_) rfl (by kernel_rfl) (by kernel_rfl) (by kernel_rfl) (fun _ _ _ h => h) (Or.inl ⟨by rfl, ?_⟩) (by assumption) ?_
          rotate_left
          · intro wS hSw
            (skip)
            go_simp
            all_goals with_reducible rfl
          (try simp only [List.getElem_toArray, List.getElem_cons_zero, List.getElem_cons_succ, Act.put, List.setIfInBounds_toArray, List.set_cons_zero, List.set_cons_succ])
          refine wpAnyH_take (i := 11) (v := ?_) rfl (by kernel_rfl) (by kernel_rfl) (by kernel_rfl) (fun _ _ _ h => h) (Or.inl ⟨by rfl, ?_⟩) (by assumption) ?_
          rotate_left
          · intro wS hSw
            (skip)
            go_simp
            all_goals with_reducible rfl
          (try simp only [List.getElem_toArray, List.getElem_cons_zero, List.getElem_cons_succ, Act.put, List.setIfInBounds_toArray, List.set_cons_zero, List.set_cons_succ])
          refine wpAnyH_take (i := 12) (v := ?_) rfl (by kernel_rfl) (by kernel_rfl) (by kernel_rfl) (fun _ _ _ h => h) (Or.inl ⟨by rfl, ?_⟩) (by assumption) ?_
          rotate_left
          · intro wS hSw
            (skip)
            go_simp
            all_goals with_reducible rfl
          (try simp only [List.getElem_toArray, List.getElem_cons_zero, List.getElem_cons_succ, Act.put, List.setIfInBounds_toArray, List.set_cons_zero, List.set_cons_succ])
          refine wpAnyH_take (i := 13) (v := ?_) rfl (by kernel_rfl) (by kernel_rfl) (by kernel_rfl) (fun _ _ _ h => h) (Or.inl ⟨by rfl, ?_⟩) (by assumption) ?_
          rotate_left
          · intro wS hSw
            (skip)
            go_simp
            all_goals with_reducible rfl
          (try simp only [List.getElem_toArray, List.getElem_cons_zero, List.getElem_cons_succ, Act.put, List.setIfInBounds_toArray, List.set_cons_zero, List.set_cons_succ])
          refine wpAnyH_take (i := 14) (v := ?_) rfl (by kernel_rfl) (by kernel_rfl) (by kernel_rfl) (fun _ _ _ h => h) (Or.inl ⟨by rfl, ?_⟩) (by assumption) ?_
          rotate_left
          · intro wS hSw
            (skip)
            go_simp
            all_goals with_reducible rfl
          (try simp only [List.getElem_toArray, List.getElem_cons_zero, List.getElem_cons_succ, Act.put, List.setIfInBounds_toArray, List.set_cons_zero, List.set_cons_succ])
          refine wpAnyH_done (by kernel_rfl) ?_ _
          clear hH6
          have hc7 := HCL.out _ HT7.out.1
          go_wp2_with (go_at_call 10; (with_reducible refine (HR4.out _ HT7.out.1).mono ?_); rintro e w8 ⟨rfl, hb⟩; have HT8 := Lib.hid (sy_below HT7.out hb); clear hb hc7)
          exact ⟨⟨m + 1, rfl, by omega, HT8.out⟩, by simp [intOf]; omega⟩
        · have hl' : ((l : Int) != 64) = true := bne_iff_ne.2 (by omega)
          go_wp2
          exact ⟨⟨m + 1, rfl, by omega, HT.out⟩, by simp [intOf]; omega⟩
      · obtain rfl : m = len1 := by omega
        have hlt' : ¬ (m : Int) < (m : Int) := by omega
        go_wp2
        go_ret
        exact ⟨rfl, HT.out.1⟩
  · have HI : Hid (∀ V A cap, ProgAt V A len0 q → Calls Tryz.prog 5 #[.slice A len0 cap] V fun e w' => e = .returned (.bool false) ∧ Below V.heap.size V w') := Lib.hid fun V A cap h => (r_IsM V A len0 cap q h HO.out).mono fun e w' hh => by
      rw [show (checkE q len0 == 0) = false from beq_false_of_ne (fun g => ha (check_is.1 g))] at hh; exact hh
    clear ha
    go_enter Tryz.func3, Tryz.ntmps3
    go_wp2_with (first
      | (go_at_call 4; (with_reducible refine (head_M _).mono ?_); rintro e w1 ⟨rfl, hb⟩; have HB1 := Lib.hid hb; have HP1 := Lib.hid (HP.out.below hb); clear hb)
      | (go_at_call 5; (with_reducible refine (HI.out _ _ _ HP1.out).mono ?_); rintro e w2 ⟨rfl, hb⟩; have HB2 := Lib.hid (onM HB1.out hb); clear hb HB1 HP1))
    go_ret
    exact ⟨rfl, HB2.out⟩

/-! ### The row's step and the statement -/
set_option maxRecDepth 100000 in
theorem lifted (os : Os) (started : os.Started) (H : Type) (enc : TypeId × Value → H) :
    ReturnsInHanded {} Tryz.checked os 3 .any (Rows.mirSaysSpec.pre6 enc Tryz.prog Tryz.f3 Rows.mirSaysRow.domain false) (Rows.mirSaysSpec.post enc Tryz.prog Tryz.f3 false true false false) := by
  refine returnsInHanded_of_change_sized (C := Tryz.checked) own started (by kernel_rfl) Tryz.func3
    (ChangeSpec.witness6 (enc := enc) (C := Tryz.checked) false ⟨#[], #[.slice none 0 0, .slice none 0 0], []⟩ 8 (by kernel_rfl) (by kernel_rfl) (by kernel_rfl) (by kernel_rfl)) ?_
  intro W base args ds gs before hval0 hW hcnd hsz0 _
  have hsz : (DataW.weightsEach Tryz.prog (Tryz.f3.params.toList ++ Rows.mirSaysSpec.plain.varTypes Tryz.prog) (ds ++ gs)).all (· ≤ reachBytes) = true := hsz0
  clear hsz0
  have hval : ∀ (j : Nat) t v, Tryz.f3.params[j]? = some t → args[j]? = some v → Value.okWide Tryz.prog W .any base t v := hval0
  have hW' := hW
  obtain ⟨p, q, hA0, hV, rfl, hfz, hnd⟩ := hW
  have hA : DataW.TrodAll enc Tryz.prog W 0 (fun _ => true) true Tryz.f3.params.toList args.toList ds p := hA0
  rw [Tryz.params3] at hA hval hsz
  obtain ⟨v0, vs0, d0, ds0, p0, q0, hargs, rfl, rfl, h0, r0⟩ := trodAll_cons hA
  obtain ⟨v1, vs1, d1, ds1, p1, q1, rfl, rfl, rfl, h1, r1⟩ := trodAll_cons r0
  obtain ⟨rfl, rfl, rfl⟩ := trodAll_nil r1
  obtain rfl : args = #[v0, v1] := by cases args; simp_all
  obtain ⟨rfl, rfl⟩ := trodVars_none hV
  obtain ⟨a0, len0, cap0, rfl⟩ := okWide_slice Tryz.underlying22 (hval 0 22 v0 rfl rfl)
  have k0 := h0
  have lt0 : ∀ x ∈ p0, x.block < W.heap.size := by obtain ⟨m, hm⟩ := k0; exact DataW.trod_lt m _ _ _ hm
  have w0 : RowsOf [.u16, .u8, .u8, .u32] W a0 len0 := by
    obtain ⟨fuel, hf⟩ := h0
    rcases rows_fields Tryz.underlying22 Tryz.underlying60 (by kernel_rfl) (by kernel_rfl) hf with hcs | ⟨x, l, c, hcs, hl, hm, hi⟩
    · simp [Value.cells] at hcs
      obtain ⟨rfl, rfl, rfl⟩ := hcs
      exact .inl ⟨rfl, rfl⟩
    · simp [Value.cells] at hcs
      obtain ⟨rfl, rfl, rfl⟩ := hcs
      refine .inr ⟨_, rfl, Nat.le_trans hl hm, fun i hil j K hK => ?_⟩
      match j, hK with
      | 0, hK =>
        obtain ⟨v, y, n, hc, ht⟩ := hi i hil 0 _ rfl
        obtain ⟨z, e, _, wz⟩ := DataW.trod_int Tryz.underlying58 ht
        simp only [List.cons.injEq, and_true] at e; subst e
        obtain rfl := Option.some.inj hK
        exact ⟨z, hc, wz⟩
      | 1, hK =>
        obtain ⟨v, y, n, hc, ht⟩ := hi i hil 1 _ rfl
        obtain ⟨z, e, _, wz⟩ := DataW.trod_int Tryz.underlying5 ht
        simp only [List.cons.injEq, and_true] at e; subst e
        obtain rfl := Option.some.inj hK
        exact ⟨z, hc, wz⟩
      | 2, hK =>
        obtain ⟨v, y, n, hc, ht⟩ := hi i hil 2 _ rfl
        obtain ⟨z, e, _, wz⟩ := DataW.trod_int Tryz.underlying5 ht
        simp only [List.cons.injEq, and_true] at e; subst e
        obtain rfl := Option.some.inj hK
        exact ⟨z, hc, wz⟩
      | 3, hK =>
        obtain ⟨v, y, n, hc, ht⟩ := hi i hil 3 _ rfl
        obtain ⟨z, e, _, wz⟩ := DataW.trod_int Tryz.underlying33 ht
        simp only [List.cons.injEq, and_true] at e; subst e
        obtain rfl := Option.some.inj hK
        exact ⟨z, hc, wz⟩
      | _ + 4, hK => exact absurd hK (by simp)
  have s0 : len0 * 8 ≤ 140737488351232 := by
    obtain ⟨fuel, hf⟩ := h0
    rcases rows_sized Tryz.underlying22 hf with hcs | ⟨x, l, c, elems, rest, hcs, hd, hle⟩
    · simp [Value.cells] at hcs
      obtain ⟨rfl, rfl, rfl⟩ := hcs
      omega
    · simp [Value.cells] at hcs
      obtain ⟨rfl, rfl, rfl⟩ := hcs
      have hr := sized_slice hsz (j := 0) (t := 22) (e := 60) rfl (congrArg some hd) Tryz.underlying22
      rw [show Tryz.prog.bytesOf 60 = 8 by kernel_rfl] at hr
      simp only [reachBytes] at hr
      have := Nat.mul_le_mul_right 8 hle
      omega
  obtain ⟨a1, len1, cap1, rfl⟩ := okWide_slice Tryz.underlying23 (hval 1 23 v1 rfl rfl)
  have k1 := h1
  have lt1 : ∀ x ∈ p1, x.block < W.heap.size := by obtain ⟨m, hm⟩ := k1; exact DataW.trod_lt m _ _ _ hm
  have w1 : BysAt W a1 len1 := by
    obtain ⟨fuel, hf⟩ := h1
    rcases rows_bytes Tryz.underlying23 Tryz.underlying32 Tryz.underlying5 (by kernel_rfl) (by kernel_rfl) hf with hcs | ⟨x, l, c, hcs, hl, hm, hi⟩
    · simp [Value.cells] at hcs
      obtain ⟨rfl, rfl, rfl⟩ := hcs
      exact .inl ⟨rfl, rfl⟩
    · simp [Value.cells] at hcs
      obtain ⟨rfl, rfl, rfl⟩ := hcs
      exact .inr ⟨_, rfl, by omega, hi⟩
  clear hA0 hval0
  refine (walk a0 len0 cap0 a1 len1 cap1 W w0 s0 w1).mono fun e W' ⟨he, bel⟩ => ?_
  subst he
  exact ⟨_, rfl, _, _, _, [], _, [], hW', trodAll_mk1 (shut_bool Tryz.underlying4 _), (trodAll_cons_mk (Below.trod laidOut (by kernel_rfl) (of_decide_eq_true (by kernel_rfl)) k0 bel lt0) (trodAll_cons_mk (Below.trod laidOut (by kernel_rfl) (of_decide_eq_true (by kernel_rfl)) k1 bel lt1) trodAll_mk0)), rfl, bel.frame _, fun h => by cases h⟩

theorem over : Rows.mirSaysRow.holds Tryz.pinned (OpenSpec.ofChange Rows.mirSaysSpec) :=
  OpenClaim.holds_of_wide 3 Tryz.f3 rfl rfl rfl rfl rfl rfl rfl ⟨rfl, rfl, rfl, rfl, rfl⟩ rfl rfl rfl rfl rfl (by kernel_rfl) Tryz.func3 (by kernel_rfl)
    (of_decide_eq_true (by kernel_rfl)) (by unfold Func.isWrapper; first | (rw [if_pos (by decide +kernel)]; kernel_rfl) | (rw [if_neg (by decide +kernel)]; exact ⟨rfl, rfl⟩))
    (fun os started H enc _ => lifted os started H enc)

/-- The statement. -/
theorem proved : Rows.MirSaysSaid := over
end Go.Proofs.YtoajommeiocfpaaGreat.mirSays
