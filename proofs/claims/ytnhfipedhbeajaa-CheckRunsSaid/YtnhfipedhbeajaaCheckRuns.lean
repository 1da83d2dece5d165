/-
  'CheckRuns': for every program and all bytes, the law of layer 4 on runs of what is accepted returns true, and leaves memory as it was. No condition.
-/
import Derived.Test.YtnhfipedhbeajaaCheckHead
import Derived.Test.YtnhfipedhbeajaaCbpfHead
import Derived.Test.YtnhfipedhbeajaaPArgs
import Derived.Test.YtnhfipedhbeajaaRowsSized
namespace Go.Proofs.Ytnhfipedhbeajaa.checkRuns
open Go Go.ChangeShapes Go.WideShapes Go.ChangeAt Go.RowKit
set_option linter.unusedSimpArgs false
set_option linter.unusedVariables false

set_option maxHeartbeats 1000000 in
theorem walk (a0 : Option Addr) (len0 cap0 : Nat) (a1 : Option Addr) (len1 cap1 : Nat) (z1 : List Int) (w : World) (w0 : RowsOf [.u16, .u8, .u8, .u32] w a0 len0) (s0 : len0 * 8 ≤ 140737488351232) (w1 : IsRow .u8 w a1 len1 cap1 z1 ∧ cap1 * 1 ≤ 140737488351232) :
    Calls Try.prog 6 #[.slice a0 len0 cap0, .slice a1 len1 cap1] w fun e w' => e = .returned (.bool true) ∧ Below w.heap.size w w' := by
  obtain ⟨q, _, hL⟩ := plies_of_args w0 s0 w1.1 w1.2
  clear w0 w1 s0
  have HL := Lib.hid hL
  clear hL
  by_cases hE : checkE q len0 = 0
  · have HE := Lib.hid hE
    by_cases hd : len1 = 64
    · subst hd
      have hst := run_within q len0 64 (wordZ fun i => z1.getD i 0)
      have hac := accepted_runs (check_is.1 hE) (wordZ fun i => z1.getD i 0)
      have HA : Hid (∃ (a p n : Int), ansV (runM q len0 64 (wordZ fun i => z1.getD i 0)) = .tuple #[.int .u32 a, .int .i64 n, .int .i64 0, .int .i64 p] ∧ 1 ≤ n ∧ n ≤ (len0 : Int)) := Lib.hid ⟨_, _, _, by rw [ansV, hac.1], by omega, by omega⟩
      clear hst hac hE
      obtain ⟨a, p, n, hans, hn1, hn2⟩ := HA.out
      have HN := Lib.hid hans
      clear HA hans
      go_enter Try.func6, Try.ntmps6
      go_wp2_with (first
        | (go_at_call 9; (with_reducible refine (head4_is _).mono ?_); rintro e w1 ⟨rfl, hb⟩; have HB1 := Lib.hid hb; have HL1 := Lib.hid (HL.out.below hb); clear hb HL)
        | (go_at_call 11; (with_reducible refine (check_Check _ _ _ _ q HL1.out.prog HL1.out.ok).mono ?_); rintro e w2 ⟨rfl, hb⟩; rw [HE.out]; have HB2 := Lib.hid (HB1.out.trans (hb.mono HB1.out.size)); have HL2 := Lib.hid (HL1.out.below hb); clear hb HL1)
        | (go_at_call 18; (with_reducible refine (cbpf_Run _ _ _ _ q _ _ _ _ HL2.out).mono ?_); rintro e w3 ⟨rfl, hb⟩; rw [HN.out]; have HB3 := Lib.hid (HB2.out.trans (hb.mono HB2.out.size)); clear hb))
      go_ret
      exact ⟨rfl, HB3.out⟩
    · have hd' : ¬ (len1 : Int) = 64 := by omega
      have hd2 : ((len1 : Int) != 64) = true := bne_iff_ne.2 hd'
      clear hE
      go_enter Try.func6, Try.ntmps6
      go_wp2_with (first
        | (go_at_call 9; (with_reducible refine (head4_is _).mono ?_); rintro e w1 ⟨rfl, hb⟩; have HB1 := Lib.hid hb; have HL1 := Lib.hid (HL.out.below hb); clear hb HL)
        | (go_at_call 11; (with_reducible refine (check_Check _ _ _ _ q HL1.out.prog HL1.out.ok).mono ?_); rintro e w2 ⟨rfl, hb⟩; rw [HE.out]; have HB2 := Lib.hid (HB1.out.trans (hb.mono HB1.out.size)); clear hb HL1))
      go_ret
      exact ⟨rfl, HB2.out⟩
  · have hE2 : (checkE q len0 != 0) = true := bne_iff_ne.2 hE
    have HC : Hid (∀ w cap, ProgAt w a0 len0 q → Calls Try.prog 11 #[.slice a0 len0 cap] w (CheckP w q len0)) := Lib.hid fun w cap h => check_Check w a0 len0 cap q h HL.out.ok
    unfold CheckP at HC
    generalize checkE q len0 = E at hE hE2 HC
    go_enter Try.func6, Try.ntmps6
    go_wp2_with (first
      | (go_at_call 9; (with_reducible refine (head4_is _).mono ?_); rintro e w1 ⟨rfl, hb⟩; have HB1 := Lib.hid hb; have HL1 := Lib.hid (HL.out.below hb); clear hb HL)
      | (go_at_call 11; (with_reducible refine (HC.out _ _ HL1.out.prog).mono ?_); rintro e w2 ⟨rfl, hb⟩; have HB2 := Lib.hid (HB1.out.trans (hb.mono HB1.out.size)); clear hb HL1))
    go_ret
    exact ⟨rfl, HB2.out⟩

/-! ### The row's step and the statement -/
set_option maxRecDepth 100000 in
theorem lifted (os : Os) (started : os.Started) (H : Type) (enc : TypeId × Value → H) :
    ReturnsInHanded {} Try.checked os 6 .any (Rows.checkRunsSpec.pre6 enc Try.prog Try.f6 Rows.checkRunsRow.domain false) (Rows.checkRunsSpec.post enc Try.prog Try.f6 false true false false) := by
  refine returnsInHanded_of_change_sized (C := Try.checked) own started (by kernel_rfl) Try.func6
    (ChangeSpec.witness6 (enc := enc) (C := Try.checked) false ⟨#[], #[.slice none 0 0, .slice none 0 0], []⟩ 8 (by kernel_rfl) (by kernel_rfl) (by kernel_rfl) (by kernel_rfl)) ?_
  intro W base args ds gs before hval0 hW hcnd hsz0 _
  have hsz : (DataW.weightsEach Try.prog (Try.f6.params.toList ++ Rows.checkRunsSpec.plain.varTypes Try.prog) (ds ++ gs)).all (· ≤ reachBytes) = true := hsz0
  clear hsz0
  have hval : ∀ (j : Nat) t v, Try.f6.params[j]? = some t → args[j]? = some v → Value.okWide Try.prog W .any base t v := hval0
  have hW' := hW
  obtain ⟨p, q, hA0, hV, rfl, hfz, hnd⟩ := hW
  have hA : DataW.TrodAll enc Try.prog W 0 (fun _ => true) true Try.f6.params.toList args.toList ds p := hA0
  rw [Try.params6] at hA hval hsz
  obtain ⟨v0, vs0, d0, ds0, p0, q0, hargs, rfl, rfl, h0, r0⟩ := trodAll_cons hA
  obtain ⟨v1, vs1, d1, ds1, p1, q1, rfl, rfl, rfl, h1, r1⟩ := trodAll_cons r0
  obtain ⟨rfl, rfl, rfl⟩ := trodAll_nil r1
  obtain rfl : args = #[v0, v1] := by cases args; simp_all
  obtain ⟨rfl, rfl⟩ := trodVars_none hV
  obtain ⟨a0, len0, cap0, rfl⟩ := okWide_slice Try.underlying22 (hval 0 22 v0 rfl rfl)
  have k0 := h0
  have lt0 : ∀ x ∈ p0, x.block < W.heap.size := by obtain ⟨m, hm⟩ := k0; exact DataW.trod_lt m _ _ _ hm
  have w0 : RowsOf [.u16, .u8, .u8, .u32] W a0 len0 := by
    obtain ⟨fuel, hf⟩ := h0
    rcases rows_fields Try.underlying22 Try.underlying38 (by kernel_rfl) (by kernel_rfl) hf with hcs | ⟨x, l, c, hcs, hl, hm, hi⟩
    · simp [Value.cells] at hcs
      obtain ⟨rfl, rfl, rfl⟩ := hcs
      exact .inl ⟨rfl, rfl⟩
    · simp [Value.cells] at hcs
      obtain ⟨rfl, rfl, rfl⟩ := hcs
      refine .inr ⟨_, rfl, Nat.le_trans hl hm, fun i hil j K hK => ?_⟩
      match j, hK with
      | 0, hK =>
        obtain ⟨v, y, n, hc, ht⟩ := hi i hil 0 _ rfl
        obtain ⟨z, e, _, wz⟩ := DataW.trod_int Try.underlying34 ht
        simp only [List.cons.injEq, and_true] at e; subst e
        obtain rfl := Option.some.inj hK
        exact ⟨z, hc, wz⟩
      | 1, hK =>
        obtain ⟨v, y, n, hc, ht⟩ := hi i hil 1 _ rfl
        obtain ⟨z, e, _, wz⟩ := DataW.trod_int Try.underlying5 ht
        simp only [List.cons.injEq, and_true] at e; subst e
        obtain rfl := Option.some.inj hK
        exact ⟨z, hc, wz⟩
      | 2, hK =>
        obtain ⟨v, y, n, hc, ht⟩ := hi i hil 2 _ rfl
        obtain ⟨z, e, _, wz⟩ := DataW.trod_int Try.underlying5 ht
        simp only [List.cons.injEq, and_true] at e; subst e
        obtain rfl := Option.some.inj hK
        exact ⟨z, hc, wz⟩
      | 3, hK =>
        obtain ⟨v, y, n, hc, ht⟩ := hi i hil 3 _ rfl
        obtain ⟨z, e, _, wz⟩ := DataW.trod_int Try.underlying36 ht
        simp only [List.cons.injEq, and_true] at e; subst e
        obtain rfl := Option.some.inj hK
        exact ⟨z, hc, wz⟩
      | _ + 4, hK => exact absurd hK (by simp)
  have s0 : len0 * 8 ≤ 140737488351232 := by
    obtain ⟨fuel, hf⟩ := h0
    rcases rows_sized Try.underlying22 hf with hcs | ⟨x, l, c, elems, rest, hcs, hd, hle⟩
    · simp [Value.cells] at hcs
      obtain ⟨rfl, rfl, rfl⟩ := hcs
      omega
    · simp [Value.cells] at hcs
      obtain ⟨rfl, rfl, rfl⟩ := hcs
      have hr := sized_slice hsz (j := 0) (t := 22) (e := 38) rfl (congrArg some hd) Try.underlying22
      rw [show Try.prog.bytesOf 38 = 8 by kernel_rfl] at hr
      simp only [reachBytes] at hr
      have := Nat.mul_le_mul_right 8 hle
      omega
  obtain ⟨a1, len1, cap1, rfl⟩ := okWide_slice Try.underlying40 (hval 1 40 v1 rfl rfl)
  have k1 := h1
  have lt1 : ∀ x ∈ p1, x.block < W.heap.size := by obtain ⟨m, hm⟩ := k1; exact DataW.trod_lt m _ _ _ hm
  obtain ⟨z1, w1⟩ : ∃ zs, IsRow .u8 W a1 len1 cap1 zs ∧ cap1 * 1 ≤ 140737488351232 := by
    obtain ⟨fuel, hf⟩ := h1
    rcases open_ints Try.underlying40 Try.underlying5 (by kernel_rfl) hf with ⟨hcs, _⟩ | ⟨x, l, c, zs, hcs, _, hl, hm, hz, hx, hcell, hwz⟩
    · simp [Value.cells] at hcs
      obtain ⟨rfl, rfl, rfl⟩ := hcs
      exact ⟨[], ⟨.inl ⟨rfl, rfl, rfl, rfl⟩, by omega⟩⟩
    · simp [Value.cells] at hcs
      obtain ⟨rfl, rfl, rfl⟩ := hcs
      have hd : d1 = _ := congrArg Prod.fst hx
      have hr := sized_slice hsz (j := 1) (t := 40) (e := 5) rfl (congrArg some hd) Try.underlying40
      rw [show Try.prog.bytesOf 5 = 1 by kernel_rfl] at hr
      simp only [lits, List.length_map, List.length_take, List.length_drop, reachBytes] at hr
      have hzl : zs.length = _ := hz
      simp only [if_true] at hzl
      exact ⟨zs, ⟨.inr ⟨_, rfl, hl, hm, by simpa using hz, hcell, hwz⟩, by omega⟩⟩
  clear hA0 hval0
  refine (walk a0 len0 cap0 a1 len1 cap1 z1 W w0 s0 w1).mono fun e W' ⟨he, bel⟩ => ?_
  subst he
  exact ⟨_, rfl, _, _, _, [], _, [], hW', trodAll_mk1 (shut_bool Try.underlying4 _), (trodAll_cons_mk (Below.trod laidOut (by kernel_rfl) (of_decide_eq_true (by kernel_rfl)) k0 bel lt0) (trodAll_cons_mk (Below.trod laidOut (by kernel_rfl) (of_decide_eq_true (by kernel_rfl)) k1 bel lt1) trodAll_mk0)), rfl, bel.frame _, fun h => by cases h⟩

theorem over : Rows.checkRunsRow.holds Try.pinned (OpenSpec.ofChange Rows.checkRunsSpec) :=
  OpenClaim.holds_of_wide 6 Try.f6 rfl rfl rfl rfl rfl rfl rfl ⟨rfl, rfl, rfl, rfl, rfl⟩ rfl rfl rfl rfl rfl (by kernel_rfl) Try.func6 (by kernel_rfl)
    (of_decide_eq_true (by kernel_rfl)) (by unfold Func.isWrapper; first | (rw [if_pos (by decide +kernel)]; kernel_rfl) | (rw [if_neg (by decide +kernel)]; exact ⟨rfl, rfl⟩))
    (fun os started H enc _ => lifted os started H enc)

/-- The statement. -/
theorem proved : Rows.CheckRunsSaid := over
end Go.Proofs.Ytnhfipedhbeajaa.checkRuns
