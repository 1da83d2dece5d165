/-
  'MirTells': for every program of registers and all numbers, the law of layer 12 on Uses and Next returns true, and leaves memory as it was. No condition.
-/
import Derived.Test.YtbjndcbnkmjfdaaMirLaw
import Derived.Test.YtbjndcbnkmjfdaaMirNext2
namespace Go.Proofs.Ytbjndcbnkmjfdaa.mirTells
open Go Go.ChangeShapes Go.WideShapes Go.ChangeAt Go.RowKit
set_option linter.unusedSimpArgs false
set_option linter.unusedVariables false

set_option maxHeartbeats 8000000 in
set_option maxRecDepth 100000 in
theorem walk (g0 : Int) (a0 : Option Addr) (len0 cap0 : Nat) (q : Nat → Irx) (a1 : Option Addr) (len1 cap1 : Nat) (z1 : List Int) (w : World) (w0 : IrAt w a0 len0 q) (s0 : len0 * 56 ≤ 140737488351232) (w1 : IsRow .i64 w a1 len1 cap1 z1 ∧ cap1 * 8 ≤ 140737488351232) :
    Calls Try.prog 6 #[mirV g0 a0 len0 cap0, .slice a1 len1 cap1] w fun e w' => e = .returned (.bool true) ∧ Below w.heap.size w w' := by
  have hl1 : len1 ≤ 140737488351232 := by have := isRow_len w1.1; omega
  have hl0 : len0 ≤ 140737488351232 := by omega
  obtain ⟨z, HZ⟩ : ∃ z : Nat → Int, Hid (Holds w a1 len1 (fun i => .int .i64 (z i))) := ⟨fun i => z1.getD i 0, Lib.hid (holds_of_isRow w1.1)⟩
  have H0 := Lib.hid (FM.first (regs := g0) (cap := cap0) w0)
  have HU1 := Lib.hid (fun x V => p_Uses x V)
  have HU2 := Lib.hid (fun x V => r_Uses x V)
  clear w0 w1
  go_enter Try.func6, Try.ntmps6
  go_wp2_with (go_at_call 10; (with_reducible refine (head_M _).mono ?_); rintro e w1 ⟨rfl, hb⟩; have H1 := Lib.hid (H0.out.up hb); clear hb)
  go_loopw [6] (fun v wr => ∃ k : Nat, k ≤ len0 ∧ v = .int .i64 (k : Int) ∧ FM w wr g0 a0 len0 cap0 q) (fun v _ => len0 - (intOf v).toNat)
  case atStart => exact ⟨0, by omega, rfl, H1.out⟩
  case round =>
    obtain ⟨k, hk, rfl, hF⟩ := hrel
    clear H1 H0
    have HF := Lib.hid hF
    have p0 := cellM hF.2.2 0 rfl
    have p1 := cellM hF.2.2 1 rfl
    by_cases hlt : k < len0
    · have hlt' : (k : Int) < (len0 : Int) := by omega
      obtain ⟨qb, qo, rfl, hl, c0, c1, c2, c3, c4, c5, c6⟩ := ir_at hF.1 hlt
      have HA := Lib.hid (And.intro (HU1.out (q k)) (HU2.out (q k)))
      unfold UsesP UseP at HA
      have hul := use_len (q k)
      generalize useL (q k) = L at HA hul
      generalize useD (q k) = D at HA
      have HIR : Hid (∀ V, Below wr.heap.size wr V → FM w V g0 (some ⟨qb, qo, none⟩) len0 cap0 q ∧ (V.cell? ⟨qb, qo + k * 7, none⟩ = some (.int .i64 (q k).op) ∧ V.cell? ⟨qb, qo + k * 7 + 1, none⟩ = some (.int .i64 (q k).d) ∧ V.cell? ⟨qb, qo + k * 7 + 2, none⟩ = some (.int .i64 (q k).a) ∧ V.cell? ⟨qb, qo + k * 7 + 3, none⟩ = some (.int .i64 (q k).b) ∧ V.cell? ⟨qb, qo + k * 7 + 4, none⟩ = some (.int .u32 ((q k).k.toNat : Int)) ∧ V.cell? ⟨qb, qo + k * 7 + 5, none⟩ = some (.int .i64 (q k).t) ∧ V.cell? ⟨qb, qo + k * 7 + 6, none⟩ = some (.int .i64 (q k).f))) := Lib.hid fun V hb => ⟨HF.out.up hb,
        (hb.cell (p := ⟨qb, qo + k * 7, none⟩) hl).trans c0, (hb.cell (p := ⟨qb, qo + k * 7 + 1, none⟩) hl).trans c1, (hb.cell (p := ⟨qb, qo + k * 7 + 2, none⟩) hl).trans c2, (hb.cell (p := ⟨qb, qo + k * 7 + 3, none⟩) hl).trans c3, (hb.cell (p := ⟨qb, qo + k * 7 + 4, none⟩) hl).trans c4, (hb.cell (p := ⟨qb, qo + k * 7 + 5, none⟩) hl).trans c5, (hb.cell (p := ⟨qb, qo + k * 7 + 6, none⟩) hl).trans c6⟩
      generalize q k = x at HA HIR c0 c1 c2 c3 c4 c5 c6
      obtain ⟨op, d, a, b, kk, t, f⟩ := x
      clear hF
      go_wp2_with (first
        | (go_at_call 17; (with_reducible refine (HA.out.1 _).mono ?_); rintro e w2 ⟨A2, c2', rfl, hi, hb⟩; have H2 := Lib.hid (And.intro hi hb); clear hi p0 p1 c0 c1 c2 c3 c4 c5 c6; obtain ⟨hfm, c0, c1, c2, c3, c4, c5, c6⟩ := HIR.out _ hb; have p0 := cellM hfm.2.2 0 rfl; have p1 := cellM hfm.2.2 1 rfl; have hl2 : qb < w2.heap.size := Nat.lt_of_lt_of_le hl hb.size; clear hfm hb)
        | (go_at_call 18; (with_reducible refine (HA.out.2 _).mono ?_); rintro e w3 ⟨A3, c3', rfl, hi, hb⟩; have H3 := Lib.hid (And.intro (H2.out.1.below hb) (And.intro hi (onM H2.out.2 hb))); clear hi hb p0 p1 c0 c1 c2 c3 c4 c5 c6)
        | (go_at_call 19; (with_reducible refine (p_Numbers _ _ _ _ L (by omega) _ H3.out.1 H3.out.2.1).mono ?_); rintro e w4 ⟨rfl, hb⟩; have H4 := Lib.hid (onM H3.out.2.2 hb); clear hb))
      exact ⟨⟨k + 1, by omega, by go_num, HF.out.up H4.out⟩, by simp [intOf]; omega⟩
    · obtain rfl : k = len0 := by omega
      clear hF
      go_wp2
      clear p0 p1
      go_loopw [12] (fun v wr => ∃ j : Nat, j ≤ len1 ∧ v = .int .i64 (j : Int) ∧ FM w wr g0 a0 k cap0 q) (fun v _ => len1 - (intOf v).toNat)
      case atStart => exact ⟨0, by omega, rfl, HF.out⟩
      case round =>
        obtain ⟨j, hj, rfl, hF⟩ := hrel
        clear HF
        have HF := Lib.hid hF
        by_cases hlt : j < len1
        · have hlt' : (j : Int) < (len1 : Int) := by omega
          obtain ⟨zb, zo, rfl, hzl, hzc⟩ := HZ.out (by omega)
          have HC : Hid (zb < w.heap.size ∧ w.cell? ⟨zb, zo + j, none⟩ = some (.int .i64 (z j))) := Lib.hid (And.intro hzl (hzc j hlt))
          have HN1 := Lib.hid (fun V hV => p_Next g0 a0 k cap0 q (z j) V hV)
          have HN2 := Lib.hid (fun V hV => r_Next g0 a0 k cap0 q (z j) V hV)
          unfold NexP at HN1 HN2
          have hnl := next_len k q (z j)
          generalize nextM k q (z j) = L at HN1 HN2 hnl
          generalize z j = zj at HC HN1 HN2
          clear hzl hzc hF
          go_wp2
          refine wp_region_held_drew (S := fun W' => Below wr.heap.size wr W') (by kernel_rfl) (Below.refl wr.heap.size wr).drew (fun hHeld => ?_)
          have HY := Lib.hid ((Below.refl wr.heap.size wr).drew)
          generalize wr.drew = Y at HY hHeld ⊢
          refine wpAnyH_take (i := 0) (v := ?_) rfl (by kernel_rfl) (by kernel_rfl) (by kernel_rfl) (fun _ _ _ h => h) (Or.inl ⟨by rfl, ?_⟩) (by assumption) ?_
          rotate_left
          · intro wS hSw
            (have i1 := keepM HF.out.2.2 hSw; have e0 := cellM i1 0 rfl; have e1 := cellM i1 1 rfl; have e2 : wS.cell? ⟨zb, zo + j, none⟩ = some (.int .i64 zj) := ((onM HF.out.2.1 hSw).cell (p := ⟨zb, zo + j, none⟩) HC.out.1).trans HC.out.2; clear hSw i1)
            go_simp
            all_goals with_reducible rfl
          (try simp only [List.getElem_toArray, List.getElem_cons_zero, List.getElem_cons_succ, Act.put, List.setIfInBounds_toArray, List.set_cons_zero, List.set_cons_succ])
          refine wpAnyH_take (i := 1) (v := ?_) rfl (by kernel_rfl) (by kernel_rfl) (by kernel_rfl) (fun _ _ _ h => h) (Or.inl ⟨by rfl, ?_⟩) (by assumption) ?_
          rotate_left
          · intro wS hSw
            (have i1 := keepM HF.out.2.2 hSw; have e0 := cellM i1 0 rfl; have e1 := cellM i1 1 rfl; have e2 : wS.cell? ⟨zb, zo + j, none⟩ = some (.int .i64 zj) := ((onM HF.out.2.1 hSw).cell (p := ⟨zb, zo + j, none⟩) HC.out.1).trans HC.out.2; clear hSw i1)
            go_simp
            all_goals with_reducible rfl
          (try simp only [List.getElem_toArray, List.getElem_cons_zero, List.getElem_cons_succ, Act.put, List.setIfInBounds_toArray, List.set_cons_zero, List.set_cons_succ])
          refine wpAnyH_take (i := 2) (v := ?_) rfl (by kernel_rfl) (by kernel_rfl) (by kernel_rfl) (fun _ _ _ h => h) (Or.inl ⟨by rfl, ?_⟩) (by assumption) ?_
          rotate_left
          · intro wS hSw
            (have i1 := keepM HF.out.2.2 hSw; have e0 := cellM i1 0 rfl; have e1 := cellM i1 1 rfl; have e2 : wS.cell? ⟨zb, zo + j, none⟩ = some (.int .i64 zj) := ((onM HF.out.2.1 hSw).cell (p := ⟨zb, zo + j, none⟩) HC.out.1).trans HC.out.2; clear hSw i1)
            go_simp
            all_goals with_reducible rfl
          (try simp only [List.getElem_toArray, List.getElem_cons_zero, List.getElem_cons_succ, Act.put, List.setIfInBounds_toArray, List.set_cons_zero, List.set_cons_succ])
          refine wpAnyH_take (i := 3) (v := ?_) rfl (by kernel_rfl) (by kernel_rfl) (by kernel_rfl) (fun _ _ _ h => h) (Or.inl ⟨by rfl, ?_⟩) (by assumption) ?_
          rotate_left
          · intro wS hSw
            (have i1 := keepM HF.out.2.2 hSw; have e0 := cellM i1 0 rfl; have e1 := cellM i1 1 rfl; have e2 : wS.cell? ⟨zb, zo + j, none⟩ = some (.int .i64 zj) := ((onM HF.out.2.1 hSw).cell (p := ⟨zb, zo + j, none⟩) HC.out.1).trans HC.out.2; clear hSw i1)
            go_simp
            all_goals with_reducible rfl
          (try simp only [List.getElem_toArray, List.getElem_cons_zero, List.getElem_cons_succ, Act.put, List.setIfInBounds_toArray, List.set_cons_zero, List.set_cons_succ])
          refine wpAnyH_take (i := 4) (v := ?_) rfl (by kernel_rfl) (by kernel_rfl) (by kernel_rfl) (fun _ _ _ h => h) (Or.inl ⟨by rfl, ?_⟩) (by assumption) ?_
          rotate_left
          · intro wS hSw
            (have i1 := keepM HF.out.2.2 hSw; have e0 := cellM i1 0 rfl; have e1 := cellM i1 1 rfl; have e2 : wS.cell? ⟨zb, zo + j, none⟩ = some (.int .i64 zj) := ((onM HF.out.2.1 hSw).cell (p := ⟨zb, zo + j, none⟩) HC.out.1).trans HC.out.2; clear hSw i1)
            go_simp
            all_goals with_reducible rfl
          (try simp only [List.getElem_toArray, List.getElem_cons_zero, List.getElem_cons_succ, Act.put, List.setIfInBounds_toArray, List.set_cons_zero, List.set_cons_succ])
          refine wpAnyH_take (i := 6) (v := ?_) rfl (by kernel_rfl) (by kernel_rfl) (by kernel_rfl) (fun _ _ _ h => h) (Or.inl ⟨by rfl, ?_⟩) (by assumption) ?_
          rotate_left
          · intro wS hSw
            (have i1 := keepM HF.out.2.2 hSw; have e0 := cellM i1 0 rfl; have e1 := cellM i1 1 rfl; have e2 : wS.cell? ⟨zb, zo + j, none⟩ = some (.int .i64 zj) := ((onM HF.out.2.1 hSw).cell (p := ⟨zb, zo + j, none⟩) HC.out.1).trans HC.out.2; clear hSw i1)
            go_simp
            all_goals with_reducible rfl
          (try simp only [List.getElem_toArray, List.getElem_cons_zero, List.getElem_cons_succ, Act.put, List.setIfInBounds_toArray, List.set_cons_zero, List.set_cons_succ])
          refine wpAnyH_take (i := 7) (v := ?_) rfl (by kernel_rfl) (by kernel_rfl) (by kernel_rfl) (fun _ _ _ h => h) (Or.inl ⟨by rfl, ?_⟩) (by assumption) ?_
          rotate_left
          · intro wS hSw
            (have i1 := keepM HF.out.2.2 hSw; have e0 := cellM i1 0 rfl; have e1 := cellM i1 1 rfl; have e2 : wS.cell? ⟨zb, zo + j, none⟩ = some (.int .i64 zj) := ((onM HF.out.2.1 hSw).cell (p := ⟨zb, zo + j, none⟩) HC.out.1).trans HC.out.2; clear hSw i1)
            go_simp
            all_goals with_reducible rfl
          (try simp only [List.getElem_toArray, List.getElem_cons_zero, List.getElem_cons_succ, Act.put, List.setIfInBounds_toArray, List.set_cons_zero, List.set_cons_succ])
          refine wpAnyH_take (i := 8) (v := ?_) rfl (by kernel_rfl) (by kernel_rfl) (by kernel_rfl) (fun _ _ _ h => h) (Or.inl ⟨by rfl, ?_⟩) (by assumption) ?_
          rotate_left
          · intro wS hSw
            (have i1 := keepM HF.out.2.2 hSw; have e0 := cellM i1 0 rfl; have e1 := cellM i1 1 rfl; have e2 : wS.cell? ⟨zb, zo + j, none⟩ = some (.int .i64 zj) := ((onM HF.out.2.1 hSw).cell (p := ⟨zb, zo + j, none⟩) HC.out.1).trans HC.out.2; clear hSw i1)
            go_simp
            all_goals with_reducible rfl
          (try simp only [List.getElem_toArray, List.getElem_cons_zero, List.getElem_cons_succ, Act.put, List.setIfInBounds_toArray, List.set_cons_zero, List.set_cons_succ])
          refine wpAnyH_take (i := 9) (v := ?_) rfl (by kernel_rfl) (by kernel_rfl) (by kernel_rfl) (fun _ _ _ h => h) (Or.inl ⟨by rfl, ?_⟩) (by assumption) ?_
          rotate_left
          · intro wS hSw
            (have i1 := keepM HF.out.2.2 hSw; have e0 := cellM i1 0 rfl; have e1 := cellM i1 1 rfl; have e2 : wS.cell? ⟨zb, zo + j, none⟩ = some (.int .i64 zj) := ((onM HF.out.2.1 hSw).cell (p := ⟨zb, zo + j, none⟩) HC.out.1).trans HC.out.2; clear hSw i1)
            go_simp
            all_goals with_reducible rfl
          (try simp only [List.getElem_toArray, List.getElem_cons_zero, List.getElem_cons_succ, Act.put, List.setIfInBounds_toArray, List.set_cons_zero, List.set_cons_succ])
          refine wpAnyH_take (i := 10) (v := ?_) rfl (by kernel_rfl) (by kernel_rfl) (by kernel_rfl) (fun _ _ _ h => h) (Or.inl ⟨by rfl, ?_⟩) (by assumption) ?_
          rotate_left
          · intro wS hSw
            (have i1 := keepM HF.out.2.2 hSw; have e0 := cellM i1 0 rfl; have e1 := cellM i1 1 rfl; have e2 : wS.cell? ⟨zb, zo + j, none⟩ = some (.int .i64 zj) := ((onM HF.out.2.1 hSw).cell (p := ⟨zb, zo + j, none⟩) HC.out.1).trans HC.out.2; clear hSw i1)
            go_simp
            all_goals with_reducible rfl
          (try simp only [List.getElem_toArray, List.getElem_cons_zero, List.getElem_cons_succ, Act.put, List.setIfInBounds_toArray, List.set_cons_zero, List.set_cons_succ])
          refine held_one (i := 5) (by kernel_rfl) rfl (fun K hK => ?_)
          go_simp
          go_at_call 20
          refine (HN1.out _ (HF.out.1.below HY.out)).mono ?_
          rintro e w4 ⟨A4, c4, rfl, hi4, hb4⟩
          have hb5 := onM HY.out hb4
          refine hK.out _ _ hb5 (fun hH1 => ?_)
          have H4 := Lib.hid (And.intro hi4 hb5)
          clear hK K hHeld hi4 hb4 hb5
          (try simp only [Act.put, List.setIfInBounds_toArray, List.set_cons_zero, List.set_cons_succ, List.getElem_toArray, List.getElem_cons_zero, List.getElem_cons_succ])
          refine held_one (i := 11) (by kernel_rfl) rfl (fun K hK => ?_)
          go_simp
          go_at_call 21
          refine (HN2.out _ (HF.out.1.below H4.out.2)).mono ?_
          rintro e w5 ⟨A5, c5, rfl, hi5, hb6⟩
          have hb7 := onM H4.out.2 hb6
          refine hK.out _ _ hb7 (fun hH2 => ?_)
          have H5 := Lib.hid (And.intro (H4.out.1.below hb6) (And.intro hi5 hb7))
          clear hK K hH1 hi5 hb6 hb7 H4
          (try simp only [Act.put, List.setIfInBounds_toArray, List.set_cons_zero, List.set_cons_succ, List.getElem_toArray, List.getElem_cons_zero, List.getElem_cons_succ])
          refine held_one (i := 12) (by kernel_rfl) rfl (fun K hK => ?_)
          go_simp
          go_at_call 19
          refine (p_Numbers _ _ _ _ L (by omega) _ H5.out.1 H5.out.2.1).mono ?_
          rintro e w6 ⟨rfl, hb8⟩
          have hb9 := onM H5.out.2.2 hb8
          refine hK.out _ _ hb9 (fun hH3 => ?_)
          have H6 := Lib.hid hb9
          clear hK K hH2 hb8 hb9 H5
          (try simp only [Act.put, List.setIfInBounds_toArray, List.set_cons_zero, List.set_cons_succ, List.getElem_toArray, List.getElem_cons_zero, List.getElem_cons_succ])
          refine wpAnyH_take (i := 13) (v := ?_) rfl (by kernel_rfl) (by kernel_rfl) (by kernel_rfl) (fun _ _ _ h => h) (Or.inl ⟨by rfl, ?_⟩) (by assumption) ?_
          rotate_left
          · intro wS hSw
            (skip)
            go_simp
            all_goals with_reducible rfl
          (try simp only [List.getElem_toArray, List.getElem_cons_zero, List.getElem_cons_succ, Act.put, List.setIfInBounds_toArray, List.set_cons_zero, List.set_cons_succ])
          refine wpAnyH_done (by kernel_rfl) ?_ _
          go_wp2
          exact ⟨⟨j + 1, by omega, by go_num, HF.out.up H6.out⟩, by simp [intOf]; omega⟩
        · clear hF
          go_wp2
          go_ret
          exact ⟨rfl, HF.out.2.1⟩

/-! ### The row's step and the statement -/
set_option maxRecDepth 100000 in
theorem lifted (os : Os) (started : os.Started) (H : Type) (enc : TypeId × Value → H) :
    ReturnsInHanded {} Try.checked os 6 .any (Rows.mirTellsSpec.pre6 enc Try.prog Try.f6 Rows.mirTellsRow.domain false) (Rows.mirTellsSpec.post enc Try.prog Try.f6 false true false false) := by
  refine returnsInHanded_of_change_sized (C := Try.checked) own started (by kernel_rfl) Try.func6
    (ChangeSpec.witness6 (enc := enc) (C := Try.checked) false ⟨#[], #[.agg #[.int .i64 0, .slice none 0 0], .slice none 0 0], []⟩ 8 (by kernel_rfl) (by kernel_rfl) (by kernel_rfl) (by kernel_rfl)) ?_
  intro W base args ds gs before hval0 hW hcnd hsz0 _
  have hsz : (DataW.weightsEach Try.prog (Try.f6.params.toList ++ Rows.mirTellsSpec.plain.varTypes Try.prog) (ds ++ gs)).all (· ≤ reachBytes) = true := hsz0
  clear hsz0
  have hval : ∀ (j : Nat) t v, Try.f6.params[j]? = some t → args[j]? = some v → Value.okWide Try.prog W .any base t v := hval0
  have hW' := hW
  obtain ⟨p, q, hA0, hV, rfl, hfz, hnd⟩ := hW
  have hA : DataW.TrodAll enc Try.prog W 0 (fun _ => true) true Try.f6.params.toList args.toList ds p := hA0
  rw [Try.params6] at hA hval hsz
  obtain ⟨v0, vs0, d0, ds0, p0, q0, hargs, rfl, rfl, h0, r0⟩ := trodAll_cons hA
  obtain ⟨v1, vs1, d1, ds1, p1, q1, rfl, rfl, rfl, h1, r1⟩ := trodAll_cons r0
  obtain ⟨rfl, rfl, rfl⟩ := trodAll_nil r1
  obtain rfl : args = #[v0, v1] := by cases args; simp_all
  obtain ⟨rfl, rfl⟩ := trodVars_none hV
  have k0 := h0
  have lt0 : ∀ x ∈ p0, x.block < W.heap.size := by obtain ⟨m, hm⟩ := k0; exact DataW.trod_lt m _ _ _ hm
  obtain ⟨g0, a0, len0, cap0, q0, rfl, w0, ww0⟩ := open_mir (hval 0 24 v0 rfl rfl) h0
  have s0 := ww0 _ _ 0 hsz rfl rfl
  obtain ⟨a1, len1, cap1, rfl⟩ := okWide_slice Try.underlying41 (hval 1 41 v1 rfl rfl)
  have k1 := h1
  have lt1 : ∀ x ∈ p1, x.block < W.heap.size := by obtain ⟨m, hm⟩ := k1; exact DataW.trod_lt m _ _ _ hm
  obtain ⟨z1, w1⟩ : ∃ zs, IsRow .i64 W a1 len1 cap1 zs ∧ cap1 * 8 ≤ 140737488351232 := by
    obtain ⟨fuel, hf⟩ := h1
    rcases open_ints Try.underlying41 Try.underlying3 (by kernel_rfl) hf with ⟨hcs, _⟩ | ⟨x, l, c, zs, hcs, _, hl, hm, hz, hx, hcell, hwz⟩
    · simp [Value.cells] at hcs
      obtain ⟨rfl, rfl, rfl⟩ := hcs
      exact ⟨[], ⟨.inl ⟨rfl, rfl, rfl, rfl⟩, by omega⟩⟩
    · simp [Value.cells] at hcs
      obtain ⟨rfl, rfl, rfl⟩ := hcs
      have hd : d1 = _ := congrArg Prod.fst hx
      have hr := sized_slice hsz (j := 1) (t := 41) (e := 3) rfl (congrArg some hd) Try.underlying41
      rw [show Try.prog.bytesOf 3 = 8 by kernel_rfl] at hr
      simp only [lits, List.length_map, List.length_take, List.length_drop, reachBytes] at hr
      have hzl : zs.length = _ := hz
      simp only [if_true] at hzl
      exact ⟨zs, ⟨.inr ⟨_, rfl, hl, hm, by simpa using hz, hcell, hwz⟩, by omega⟩⟩
  clear hA0 hval0
  refine (walk g0 a0 len0 cap0 q0 a1 len1 cap1 z1 W w0 s0 w1).mono fun e W' ⟨he, bel⟩ => ?_
  subst he
  exact ⟨_, rfl, _, _, _, [], _, [], hW', trodAll_mk1 (shut_bool Try.underlying4 _), (trodAll_cons_mk (Below.trod laidOut (by kernel_rfl) (of_decide_eq_true (by kernel_rfl)) k0 bel lt0) (trodAll_cons_mk (Below.trod laidOut (by kernel_rfl) (of_decide_eq_true (by kernel_rfl)) k1 bel lt1) trodAll_mk0)), rfl, bel.frame _, fun h => by cases h⟩

theorem over : Rows.mirTellsRow.holds Try.pinned (OpenSpec.ofChange Rows.mirTellsSpec) :=
  OpenClaim.holds_of_wide 6 Try.f6 rfl rfl rfl rfl rfl rfl rfl ⟨rfl, rfl, rfl, rfl, rfl⟩ rfl rfl rfl rfl rfl (by kernel_rfl) Try.func6 (by kernel_rfl)
    (of_decide_eq_true (by kernel_rfl)) (by unfold Func.isWrapper; first | (rw [if_pos (by decide +kernel)]; kernel_rfl) | (rw [if_neg (by decide +kernel)]; exact ⟨rfl, rfl⟩))
    (fun os started H enc _ => lifted os started H enc)

/-- The statement. -/
theorem proved : Rows.MirTellsSaid := over
end Go.Proofs.Ytbjndcbnkmjfdaa.mirTells
