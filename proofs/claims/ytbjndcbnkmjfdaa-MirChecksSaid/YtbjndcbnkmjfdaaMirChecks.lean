/-
  'MirChecks': for every program of registers, the law of layer 12 on Check returns true, and leaves memory as it was. No condition.
-/
import Derived.Test.YtbjndcbnkmjfdaaMirLaw
import Derived.Test.YtbjndcbnkmjfdaaMirChk
namespace Go.Proofs.Ytbjndcbnkmjfdaa.mirChecks
open Go Go.ChangeShapes Go.WideShapes Go.ChangeAt Go.RowKit
set_option linter.unusedSimpArgs false
set_option linter.unusedVariables false

set_option maxHeartbeats 2000000 in
theorem walk (g0 : Int) (a0 : Option Addr) (len0 cap0 : Nat) (q : Nat → Irx) (w : World) (w0 : IrAt w a0 len0 q) (s0 : len0 * 56 ≤ 140737488351232) :
    Calls Try.prog 3 #[mirV g0 a0 len0 cap0] w fun e w' => e = .returned (.bool true) ∧ Below w.heap.size w w' := by
  have H0 := Lib.hid (FM.first (regs := g0) (cap := cap0) w0)
  clear w0
  have HC1 : Hid (∀ V A cap, IrAt V A len0 q → Calls Try.prog 12 #[mirV g0 A len0 cap] V (ChkMP g0 q len0 V)) := Lib.hid fun V A cap h => p_ChkM g0 A len0 cap q V h
  have HC2 : Hid (∀ V A cap, IrAt V A len0 q → Calls Try.prog 13 #[mirV g0 A len0 cap] V (ChkMP g0 q len0 V)) := Lib.hid fun V A cap h => r_ChkM g0 A len0 cap q V h
  unfold ChkMP at HC1 HC2
  generalize chkE g0 q len0 = ee at HC1 HC2
  generalize chkP g0 q len0 = pp at HC1 HC2
  go_enter Try.func3, Try.ntmps3
  go_wp2_with (first
    | (go_at_call 10; (with_reducible refine (head_M _).mono ?_); rintro e w1 ⟨rfl, hb⟩; have H1 := Lib.hid (H0.out.up hb); clear hb; have p0 := cellM H1.out.2.2 0 rfl; have p1 := cellM H1.out.2.2 1 rfl)
    | (go_at_call 11; (with_reducible refine (lent_M _ _ _ _ _ q s0 H1.out.1).mono ?_); rintro e w2 ⟨g, cap', rfl, hL⟩; have hcap := hL.cap; have H2 := Lib.hid (SL.first H1.out hL); clear hL p0 p1)
    | (go_at_call 12; (with_reducible refine (HC1.out _ _ _ H2.out.2.1).mono ?_); rintro e w3 ⟨rfl, hb⟩; have H3 := Lib.hid (H2.out.up hb); clear hb; have p0 := cellM H3.out.1.2.2 0 rfl; have p1 := cellM H3.out.1.2.2 1 rfl)
    | (go_at_call 13; (with_reducible refine (HC2.out _ _ _ H3.out.1.1).mono ?_); rintro e w4 ⟨rfl, hb⟩; have H4 := Lib.hid (H3.out.up hb); clear hb p0 p1; have p0 := cellM H4.out.1.2.2 0 rfl; have p1 := cellM H4.out.1.2.2 1 rfl; have x0 := cellM H4.out.2.2.2.2 0 rfl; have x1 := cellM H4.out.2.2.2.2 1 rfl)
    | (go_at_call 14; (with_reducible refine (kept_M _ _ _ _ _ _ _ q s0 hcap H4.out.2.1 H4.out.2.2.1 H4.out.2.2.2.1 H4.out.1.1).mono ?_); rintro e w5 ⟨rfl, hb⟩; have H5 := Lib.hid (onM H4.out.1.2.1 hb); clear hb))
  go_ret
  exact ⟨rfl, H5.out⟩

/-! ### The row's step and the statement -/
set_option maxRecDepth 100000 in
theorem lifted (os : Os) (started : os.Started) (H : Type) (enc : TypeId × Value → H) :
    ReturnsInHanded {} Try.checked os 3 .any (Rows.mirChecksSpec.pre6 enc Try.prog Try.f3 Rows.mirChecksRow.domain false) (Rows.mirChecksSpec.post enc Try.prog Try.f3 false true false false) := by
  refine returnsInHanded_of_change_sized (C := Try.checked) own started (by kernel_rfl) Try.func3
    (ChangeSpec.witness6 (enc := enc) (C := Try.checked) false ⟨#[], #[.agg #[.int .i64 0, .slice none 0 0]], []⟩ 8 (by kernel_rfl) (by kernel_rfl) (by kernel_rfl) (by kernel_rfl)) ?_
  intro W base args ds gs before hval0 hW hcnd hsz0 _
  have hsz : (DataW.weightsEach Try.prog (Try.f3.params.toList ++ Rows.mirChecksSpec.plain.varTypes Try.prog) (ds ++ gs)).all (· ≤ reachBytes) = true := hsz0
  clear hsz0
  have hval : ∀ (j : Nat) t v, Try.f3.params[j]? = some t → args[j]? = some v → Value.okWide Try.prog W .any base t v := hval0
  have hW' := hW
  obtain ⟨p, q, hA0, hV, rfl, hfz, hnd⟩ := hW
  have hA : DataW.TrodAll enc Try.prog W 0 (fun _ => true) true Try.f3.params.toList args.toList ds p := hA0
  rw [Try.params3] at hA hval hsz
  obtain ⟨v0, vs0, d0, ds0, p0, q0, hargs, rfl, rfl, h0, r0⟩ := trodAll_cons hA
  obtain ⟨rfl, rfl, rfl⟩ := trodAll_nil r0
  obtain rfl : args = #[v0] := by cases args; simp_all
  obtain ⟨rfl, rfl⟩ := trodVars_none hV
  have k0 := h0
  have lt0 : ∀ x ∈ p0, x.block < W.heap.size := by obtain ⟨m, hm⟩ := k0; exact DataW.trod_lt m _ _ _ hm
  obtain ⟨g0, a0, len0, cap0, q0, rfl, w0, ww0⟩ := open_mir (hval 0 24 v0 rfl rfl) h0
  have s0 := ww0 _ _ 0 hsz rfl rfl
  clear hA0 hval0
  refine (walk g0 a0 len0 cap0 q0 W w0 s0).mono fun e W' ⟨he, bel⟩ => ?_
  subst he
  exact ⟨_, rfl, _, _, _, [], _, [], hW', trodAll_mk1 (shut_bool Try.underlying4 _), (trodAll_cons_mk (Below.trod laidOut (by kernel_rfl) (of_decide_eq_true (by kernel_rfl)) k0 bel lt0) trodAll_mk0), rfl, bel.frame _, fun h => by cases h⟩

theorem over : Rows.mirChecksRow.holds Try.pinned (OpenSpec.ofChange Rows.mirChecksSpec) :=
  OpenClaim.holds_of_wide 3 Try.f3 rfl rfl rfl rfl rfl rfl rfl ⟨rfl, rfl, rfl, rfl, rfl⟩ rfl rfl rfl rfl rfl (by kernel_rfl) Try.func3 (by kernel_rfl)
    (of_decide_eq_true (by kernel_rfl)) (by unfold Func.isWrapper; first | (rw [if_pos (by decide +kernel)]; kernel_rfl) | (rw [if_neg (by decide +kernel)]; exact ⟨rfl, rfl⟩))
    (fun os started H enc _ => lifted os started H enc)

/-- The statement. -/
theorem proved : Rows.MirChecksSaid := over
end Go.Proofs.Ytbjndcbnkmjfdaa.mirChecks
