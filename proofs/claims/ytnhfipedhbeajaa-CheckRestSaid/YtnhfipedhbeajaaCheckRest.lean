/-
  'CheckRest': for every program and number, the law of layer 4 on what is left of an accepted program returns true, and leaves memory as it was. No condition.
-/
import Derived.Test.YtnhfipedhbeajaaCheckHead
import Derived.Test.YtnhfipedhbeajaaRowsSized
namespace Go.Proofs.Ytnhfipedhbeajaa.checkRest
open Go Go.ChangeShapes Go.WideShapes Go.ChangeAt Go.RowKit
set_option linter.unusedSimpArgs false
set_option linter.unusedVariables false

/-- What is left of a program, behind its first k instructions. -/
theorem prog_from {w : World} {A : Option Addr} {n k : Nat} {q : Nat → Ins} (h : ProgAt w A n q) (A' : Option Addr) (hA : ∀ qb qo, A = some ⟨qb, qo, none⟩ → A' = some ⟨qb, qo + k * 4, none⟩) : ProgAt w A' (n - k) (fun i => q (k + i)) := fun hn => by
  obtain ⟨qb, qo, rfl, hl, hc⟩ := h (by omega)
  refine ⟨qb, qo + k * 4, hA _ _ rfl, hl, fun i hi => ?_⟩
  have := hc (k + i) (by omega)
  rwa [show qo + (k + i) * 4 = qo + k * 4 + i * 4 by omega] at this
theorem rest_run (w : World) (A : Option Addr) (n k cap : Nat) (q : Nat → Ins) (h : ProgAt w A n q) (hok : ∀ i, i < n → (q i).OK) (hk : k < n) (hE : checkE q n = 0) (A' : Option Addr) (hA : ∀ qb qo, A = some ⟨qb, qo, none⟩ → A' = some ⟨qb, qo + k * 4, none⟩) :
    Calls Try.prog 11 #[.slice A' (n - k) cap] w fun e w' => (∃ p, e = .returned (.tuple #[.int .i64 0, .int .i64 p])) ∧ Below w.heap.size w w' := by
  refine (check_Check w A' (n - k) cap _ (prog_from h A' hA) (fun i hi => hok (k + i) (by omega))).mono ?_
  rintro e w' ⟨rfl, hb⟩
  exact ⟨⟨_, by rw [check_is.2 (accepted_rest (check_is.1 hE) hk)]⟩, hb⟩
set_option maxHeartbeats 1000000 in
theorem walk (a0 : Option Addr) (len0 cap0 : Nat) (a1 : Int) (w : World) (w0 : RowsOf [.u16, .u8, .u8, .u32] w a0 len0) (s0 : len0 * 8 ≤ 140737488351232) (c0 : len0 ≤ cap0) (w1 : (Lit.int .i64 a1).wf = true) :
    Calls Try.prog 7 #[.slice a0 len0 cap0, .int .i64 a1] w fun e w' => e = .returned (.bool true) ∧ Below w.heap.size w w' := by
  obtain ⟨q, hp, ho⟩ := prog_of_rows w0
  clear w0
  have hb1 : -9223372036854775808 ≤ a1 ∧ a1 ≤ 9223372036854775807 := by simpa [Lit.wf, IntKind.min, IntKind.max, IntKind.bits, IntKind.signed] using w1
  clear w1
  have HP := Lib.hid hp
  have HO := Lib.hid ho
  clear hp ho
  by_cases hE : checkE q len0 = 0
  · have HE := Lib.hid hE
    have hpos := (check_is.1 hE).pos
    have hmax := (check_is.1 hE).max
    clear hE
    obtain ⟨qb, qo, rfl, hl, _⟩ := HP.out hpos
    have HR : Hid (∀ k cap w, k < len0 → ProgAt w (some ⟨qb, qo, none⟩) len0 q → Calls Try.prog 11 #[.slice (some ⟨qb, qo + k * 4, none⟩) (len0 - k) cap] w fun e w' => (∃ p, e = .returned (.tuple #[.int .i64 0, .int .i64 p])) ∧ Below w.heap.size w w') := Lib.hid fun k cap w hk h => rest_run w _ len0 k cap q h HO.out hk HE.out _ (fun qb' qo' e => by injection e with e; injection e with e1 e2; subst e1; subst e2; rfl)
    by_cases hneg : a1 < 0
    · obtain ⟨m, rfl⟩ : ∃ m : Nat, a1 = -(m : Int) - 1 := ⟨(-(a1 + 1)).toNat, by omega⟩
      have hk : m % len0 < len0 := Nat.mod_lt _ hpos
      have g1 : IntKind.i64.wrap (-(m : Int) - 1 + 1) = -(m : Int) := by rw [IntWalk.i64_in _ (by omega)]; omega
      have g2 : IntKind.i64.wrap (m : Int) = (m : Int) := IntWalk.i64_in _ (by omega)
      have g3 : (m : Int).tmod (len0 : Int) = ((m % len0 : Nat) : Int) := by rw [Int.tmod_eq_emod_of_nonneg (by omega)]; simp
      generalize m % len0 = k at hk g3
      have g4 : ¬ cap0 = k := by omega
      have g5 : k ≤ len0 := by omega
      replace HR := Lib.hid (fun w cap h => HR.out k cap w hk h)
      have hmark : True := trivial
      go_enter Try.func7, Try.ntmps7
      go_wp2_with (first
        | (go_at_call 9; (with_reducible refine (head4_is _).mono ?_); rintro e w1 ⟨rfl, hb⟩; have HB1 := Lib.hid hb; have HP1 := Lib.hid (HP.out.below hb); clear hb HP)
        | (go_at_call 11; (with_reducible refine (check_Check _ _ _ _ q HP1.out HO.out).mono ?_); rintro e w2 ⟨rfl, hb⟩; rw [HE.out]; have HB2 := Lib.hid (HB1.out.trans (hb.mono HB1.out.size)); have HP2 := Lib.hid (HP1.out.below hb); clear hb HP1)
        | (go_at_call 11; (with_reducible refine (HR.out _ _ HP2.out).mono ?_); rintro e w3 ⟨⟨p, rfl⟩, hb⟩; have HB3 := Lib.hid (HB2.out.trans (hb.mono HB2.out.size)); clear hb HB2))
      go_ret
      exact ⟨rfl, HB3.out⟩
    · obtain ⟨m, rfl⟩ : ∃ m : Nat, a1 = (m : Int) := ⟨a1.toNat, by omega⟩
      have hk : m % len0 < len0 := Nat.mod_lt _ hpos
      have g3 : (m : Int).tmod (len0 : Int) = ((m % len0 : Nat) : Int) := by rw [Int.tmod_eq_emod_of_nonneg (by omega)]; simp
      generalize m % len0 = k at hk g3
      have g4 : ¬ cap0 = k := by omega
      have g5 : k ≤ len0 := by omega
      replace HR := Lib.hid (fun w cap h => HR.out k cap w hk h)
      go_enter Try.func7, Try.ntmps7
      go_wp2_with (first
        | (go_at_call 9; (with_reducible refine (head4_is _).mono ?_); rintro e w1 ⟨rfl, hb⟩; have HB1 := Lib.hid hb; have HP1 := Lib.hid (HP.out.below hb); clear hb HP)
        | (go_at_call 11; (with_reducible refine (check_Check _ _ _ _ q HP1.out HO.out).mono ?_); rintro e w2 ⟨rfl, hb⟩; rw [HE.out]; have HB2 := Lib.hid (HB1.out.trans (hb.mono HB1.out.size)); have HP2 := Lib.hid (HP1.out.below hb); clear hb HP1)
        | (go_at_call 11; (with_reducible refine (HR.out _ _ HP2.out).mono ?_); rintro e w3 ⟨⟨p, rfl⟩, hb⟩; have HB3 := Lib.hid (HB2.out.trans (hb.mono HB2.out.size)); clear hb HB2))
      go_ret
      exact ⟨rfl, HB3.out⟩
  · have hE2 : (checkE q len0 != 0) = true := bne_iff_ne.2 hE
    have HC : Hid (∀ w cap, ProgAt w a0 len0 q → Calls Try.prog 11 #[.slice a0 len0 cap] w (CheckP w q len0)) := Lib.hid fun w cap h => check_Check w a0 len0 cap q h HO.out
    unfold CheckP at HC
    generalize checkE q len0 = E at hE hE2 HC
    go_enter Try.func7, Try.ntmps7
    go_wp2_with (first
      | (go_at_call 9; (with_reducible refine (head4_is _).mono ?_); rintro e w1 ⟨rfl, hb⟩; have HB1 := Lib.hid hb; have HP1 := Lib.hid (HP.out.below hb); clear hb HP)
      | (go_at_call 11; (with_reducible refine (HC.out _ _ HP1.out).mono ?_); rintro e w2 ⟨rfl, hb⟩; have HB2 := Lib.hid (HB1.out.trans (hb.mono HB1.out.size)); clear hb HP1))
    go_ret
    exact ⟨rfl, HB2.out⟩

/-! ### The row's step and the statement -/
set_option maxRecDepth 100000 in
theorem lifted (os : Os) (started : os.Started) (H : Type) (enc : TypeId × Value → H) :
    ReturnsInHanded {} Try.checked os 7 .any (Rows.checkRestSpec.pre6 enc Try.prog Try.f7 Rows.checkRestRow.domain false) (Rows.checkRestSpec.post enc Try.prog Try.f7 false true false false) := by
  refine returnsInHanded_of_change_sized (C := Try.checked) own started (by kernel_rfl) Try.func7
    (ChangeSpec.witness6 (enc := enc) (C := Try.checked) false ⟨#[], #[.slice none 0 0, .int .i64 0], []⟩ 8 (by kernel_rfl) (by kernel_rfl) (by kernel_rfl) (by kernel_rfl)) ?_
  intro W base args ds gs before hval0 hW hcnd hsz0 _
  have hsz : (DataW.weightsEach Try.prog (Try.f7.params.toList ++ Rows.checkRestSpec.plain.varTypes Try.prog) (ds ++ gs)).all (· ≤ reachBytes) = true := hsz0
  clear hsz0
  have hval : ∀ (j : Nat) t v, Try.f7.params[j]? = some t → args[j]? = some v → Value.okWide Try.prog W .any base t v := hval0
  have hW' := hW
  obtain ⟨p, q, hA0, hV, rfl, hfz, hnd⟩ := hW
  have hA : DataW.TrodAll enc Try.prog W 0 (fun _ => true) true Try.f7.params.toList args.toList ds p := hA0
  rw [Try.params7] at hA hval hsz
  obtain ⟨v0, vs0, d0, ds0, p0, q0, hargs, rfl, rfl, h0, r0⟩ := trodAll_cons hA
  obtain ⟨v1, vs1, d1, ds1, p1, q1, rfl, rfl, rfl, h1, r1⟩ := trodAll_cons r0
  obtain ⟨rfl, rfl, rfl⟩ := trodAll_nil r1
  obtain rfl : args = #[v0, v1] := by cases args; simp_all
  obtain ⟨rfl, rfl⟩ := trodVars_none hV
  obtain ⟨a0, len0, cap0, rfl⟩ := okWide_slice Try.underlying22 (hval 0 22 v0 rfl rfl)
  have k0 := h0
  have lt0 : ∀ x ∈ p0, x.block < W.heap.size := by obtain ⟨m, hm⟩ := k0; exact DataW.trod_lt m _ _ _ hm
  have w0 : RowsOf [.u16, .u8, .u8, .u32] W a0 len0 := by
    obtain ⟨fuel, hf⟩ := h0
    rcases rows_fields Try.underlying22 Try.underlying38 (by kernel_rfl) (by kernel_rfl) hf with hcs | ⟨x, l, c, hcs, hl, hm, hi⟩
    · simp [Value.cells] at hcs
      obtain ⟨rfl, rfl, rfl⟩ := hcs
      exact .inl ⟨rfl, rfl⟩
    · simp [Value.cells] at hcs
      obtain ⟨rfl, rfl, rfl⟩ := hcs
      refine .inr ⟨_, rfl, Nat.le_trans hl hm, fun i hil j K hK => ?_⟩
      match j, hK with
      | 0, hK =>
        obtain ⟨v, y, n, hc, ht⟩ := hi i hil 0 _ rfl
        obtain ⟨z, e, _, wz⟩ := DataW.trod_int Try.underlying34 ht
        simp only [List.cons.injEq, and_true] at e; subst e
        obtain rfl := Option.some.inj hK
        exact ⟨z, hc, wz⟩
      | 1, hK =>
        obtain ⟨v, y, n, hc, ht⟩ := hi i hil 1 _ rfl
        obtain ⟨z, e, _, wz⟩ := DataW.trod_int Try.underlying5 ht
        simp only [List.cons.injEq, and_true] at e; subst e
        obtain rfl := Option.some.inj hK
        exact ⟨z, hc, wz⟩
      | 2, hK =>
        obtain ⟨v, y, n, hc, ht⟩ := hi i hil 2 _ rfl
        obtain ⟨z, e, _, wz⟩ := DataW.trod_int Try.underlying5 ht
        simp only [List.cons.injEq, and_true] at e; subst e
        obtain rfl := Option.some.inj hK
        exact ⟨z, hc, wz⟩
      | 3, hK =>
        obtain ⟨v, y, n, hc, ht⟩ := hi i hil 3 _ rfl
        obtain ⟨z, e, _, wz⟩ := DataW.trod_int Try.underlying36 ht
        simp only [List.cons.injEq, and_true] at e; subst e
        obtain rfl := Option.some.inj hK
        exact ⟨z, hc, wz⟩
      | _ + 4, hK => exact absurd hK (by simp)
  have s0 : len0 * 8 ≤ 140737488351232 := by
    obtain ⟨fuel, hf⟩ := h0
    rcases rows_sized Try.underlying22 hf with hcs | ⟨x, l, c, elems, rest, hcs, hd, hle⟩
    · simp [Value.cells] at hcs
      obtain ⟨rfl, rfl, rfl⟩ := hcs
      omega
    · simp [Value.cells] at hcs
      obtain ⟨rfl, rfl, rfl⟩ := hcs
      have hr := sized_slice hsz (j := 0) (t := 22) (e := 38) rfl (congrArg some hd) Try.underlying22
      rw [show Try.prog.bytesOf 38 = 8 by kernel_rfl] at hr
      simp only [reachBytes] at hr
      have := Nat.mul_le_mul_right 8 hle
      omega
  have c0 : len0 ≤ cap0 := by
    obtain ⟨fuel, hf⟩ := h0
    rcases rows_fields Try.underlying22 Try.underlying38 (by kernel_rfl) (by kernel_rfl) hf with hcs | ⟨x, l, c, hcs, hl, hm, hi⟩
    · simp [Value.cells] at hcs
      obtain ⟨rfl, rfl, rfl⟩ := hcs
      exact Nat.le_refl _
    · simp [Value.cells] at hcs
      obtain ⟨rfl, rfl, rfl⟩ := hcs
      exact hl
  obtain ⟨a1, rfl, rfl, rfl, w1⟩ := open_int Try.underlying3 (hval 1 3 v1 rfl rfl) h1
  clear hA0 hval0
  refine (walk a0 len0 cap0 a1 W w0 s0 c0 w1).mono fun e W' ⟨he, bel⟩ => ?_
  subst he
  exact ⟨_, rfl, _, _, _, [], _, [], hW', trodAll_mk1 (shut_bool Try.underlying4 _), (trodAll_cons_mk (Below.trod laidOut (by kernel_rfl) (of_decide_eq_true (by kernel_rfl)) k0 bel lt0) (trodAll_cons_mk (shut_int Try.underlying3 w1) trodAll_mk0)), rfl, bel.frame _, fun h => by cases h⟩

theorem over : Rows.checkRestRow.holds Try.pinned (OpenSpec.ofChange Rows.checkRestSpec) :=
  OpenClaim.holds_of_wide 7 Try.f7 rfl rfl rfl rfl rfl rfl rfl ⟨rfl, rfl, rfl, rfl, rfl⟩ rfl rfl rfl rfl rfl (by kernel_rfl) Try.func7 (by kernel_rfl)
    (of_decide_eq_true (by kernel_rfl)) (by unfold Func.isWrapper; first | (rw [if_pos (by decide +kernel)]; kernel_rfl) | (rw [if_neg (by decide +kernel)]; exact ⟨rfl, rfl⟩))
    (fun os started H enc _ => lifted os started H enc)

/-- The statement. -/
theorem proved : Rows.CheckRestSaid := over
end Go.Proofs.Ytnhfipedhbeajaa.checkRest
