/-
  'CheckAll': for every program, the law of layer 4 on Check returns true, and leaves memory as it was. No condition.
-/
import Derived.Test.YtnhfipedhbeajaaCheckHead
import Derived.Test.YtnhfipedhbeajaaRowsSized
namespace Go.Proofs.Ytnhfipedhbeajaa.checkAll
open Go Go.ChangeShapes Go.WideShapes Go.ChangeAt Go.RowKit
set_option linter.unusedSimpArgs false
set_option linter.unusedVariables false

/-- What stands while the law goes on: the argument, the lent program with its mark. -/
abbrev St (w W : World) (a0 : Option Addr) (n : Nat) (q : Nat → Ins) (g : Nat) : Prop :=
  ProgAt W a0 n q ∧ ProgAt W (some ⟨g, 0, none⟩) n q ∧ W.cell? ⟨g, n * 4, none⟩ = some (.int .u16 30583) ∧ Below w.heap.size w W ∧ g < W.heap.size
theorem st_below {w W W' : World} {a0 : Option Addr} {n : Nat} {q : Nat → Ins} {g : Nat} (h : St w W a0 n q g) (hb : Below W.heap.size W W') : St w W' a0 n q g :=
  ⟨h.1.below hb, h.2.1.below hb, (hb.cell (p := ⟨g, n * 4, none⟩) h.2.2.2.2).trans h.2.2.1, h.2.2.2.1.trans (hb.mono h.2.2.2.1.size), Nat.lt_of_lt_of_le h.2.2.2.2 hb.size⟩
set_option maxHeartbeats 1000000 in
theorem walk (a0 : Option Addr) (len0 cap0 : Nat) (w : World) (w0 : RowsOf [.u16, .u8, .u8, .u32] w a0 len0) (s0 : len0 * 8 ≤ 140737488351232) :
    Calls Try.prog 3 #[.slice a0 len0 cap0] w fun e w' => e = .returned (.bool true) ∧ Below w.heap.size w w' := by
  obtain ⟨q, hp, ho⟩ := prog_of_rows w0
  clear w0
  have HP := Lib.hid hp
  have HO := Lib.hid ho
  clear hp ho
  go_enter Try.func3, Try.ntmps3
  go_wp2_with (first
    | (go_at_call 9; (with_reducible refine (head4_is _).mono ?_); rintro e w1 ⟨rfl, hb⟩; have HB1 := Lib.hid hb; have HP1 := Lib.hid (HP.out.below hb); clear hb HP)
    | (go_at_call 10; (with_reducible refine (lent_is _ _ _ _ q s0 HP1.out).mono ?_); rintro e w2 ⟨g, capx, rfl, hlent⟩; obtain ⟨F, hr, hc, hm, hF, h77, hb, hge⟩ := hlent; have HT2 := Lib.hid (show St w w2 a0 len0 q g from ⟨HP1.out.below hb, prog_of_row hr hF (by omega), (World.rowIs.cell hr (i := len0 * 4) (by omega)).trans (congrArg some h77), HB1.out.trans (hb.mono HB1.out.size), hr.lt⟩); clear hr hF h77 hb hge HP1 HB1)
    | (go_at_call 11; (with_reducible refine (check_Check _ _ _ _ q HT2.out.2.1 HO.out).mono ?_); rintro e w3 ⟨rfl, hb⟩; have HT3 := Lib.hid (st_below HT2.out hb); clear hb HT2)
    | (go_at_call 12; (with_reducible refine (ref_Check _ _ _ _ q HT3.out.1 HO.out).mono ?_); rintro e w4 ⟨rfl, hb⟩; have HT4 := Lib.hid (st_below HT3.out hb); clear hb HT3)
    | (go_at_call 13; (with_reducible refine (kept_is _ _ _ _ _ _ q s0 hc HT4.out.2.1 HT4.out.2.2.1 HT4.out.1).mono ?_); rintro e w5 ⟨rfl, m, rfl⟩))
  go_ret
  exact ⟨rfl, below_drawn HT4.out.2.2.2.1 m⟩

/-! ### The row's step and the statement -/
set_option maxRecDepth 100000 in
theorem lifted (os : Os) (started : os.Started) (H : Type) (enc : TypeId × Value → H) :
    ReturnsInHanded {} Try.checked os 3 .any (Rows.checkAllSpec.pre6 enc Try.prog Try.f3 Rows.checkAllRow.domain false) (Rows.checkAllSpec.post enc Try.prog Try.f3 false true false false) := by
  refine returnsInHanded_of_change_sized (C := Try.checked) own started (by kernel_rfl) Try.func3
    (ChangeSpec.witness6 (enc := enc) (C := Try.checked) false ⟨#[], #[.slice none 0 0], []⟩ 8 (by kernel_rfl) (by kernel_rfl) (by kernel_rfl) (by kernel_rfl)) ?_
  intro W base args ds gs before hval0 hW hcnd hsz0 _
  have hsz : (DataW.weightsEach Try.prog (Try.f3.params.toList ++ Rows.checkAllSpec.plain.varTypes Try.prog) (ds ++ gs)).all (· ≤ reachBytes) = true := hsz0
  clear hsz0
  have hval : ∀ (j : Nat) t v, Try.f3.params[j]? = some t → args[j]? = some v → Value.okWide Try.prog W .any base t v := hval0
  have hW' := hW
  obtain ⟨p, q, hA0, hV, rfl, hfz, hnd⟩ := hW
  have hA : DataW.TrodAll enc Try.prog W 0 (fun _ => true) true Try.f3.params.toList args.toList ds p := hA0
  rw [Try.params3] at hA hval hsz
  obtain ⟨v0, vs0, d0, ds0, p0, q0, hargs, rfl, rfl, h0, r0⟩ := trodAll_cons hA
  obtain ⟨rfl, rfl, rfl⟩ := trodAll_nil r0
  obtain rfl : args = #[v0] := by cases args; simp_all
  obtain ⟨rfl, rfl⟩ := trodVars_none hV
  obtain ⟨a0, len0, cap0, rfl⟩ := okWide_slice Try.underlying22 (hval 0 22 v0 rfl rfl)
  have k0 := h0
  have lt0 : ∀ x ∈ p0, x.block < W.heap.size := by obtain ⟨m, hm⟩ := k0; exact DataW.trod_lt m _ _ _ hm
  have w0 : RowsOf [.u16, .u8, .u8, .u32] W a0 len0 := by
    obtain ⟨fuel, hf⟩ := h0
    rcases rows_fields Try.underlying22 Try.underlying38 (by kernel_rfl) (by kernel_rfl) hf with hcs | ⟨x, l, c, hcs, hl, hm, hi⟩
    · simp [Value.cells] at hcs
      obtain ⟨rfl, rfl, rfl⟩ := hcs
      exact .inl ⟨rfl, rfl⟩
    · simp [Value.cells] at hcs
      obtain ⟨rfl, rfl, rfl⟩ := hcs
      refine .inr ⟨_, rfl, Nat.le_trans hl hm, fun i hil j K hK => ?_⟩
      match j, hK with
      | 0, hK =>
        obtain ⟨v, y, n, hc, ht⟩ := hi i hil 0 _ rfl
        obtain ⟨z, e, _, wz⟩ := DataW.trod_int Try.underlying34 ht
        simp only [List.cons.injEq, and_true] at e; subst e
        obtain rfl := Option.some.inj hK
        exact ⟨z, hc, wz⟩
      | 1, hK =>
        obtain ⟨v, y, n, hc, ht⟩ := hi i hil 1 _ rfl
        obtain ⟨z, e, _, wz⟩ := DataW.trod_int Try.underlying5 ht
        simp only [List.cons.injEq, and_true] at e; subst e
        obtain rfl := Option.some.inj hK
        exact ⟨z, hc, wz⟩
      | 2, hK =>
        obtain ⟨v, y, n, hc, ht⟩ := hi i hil 2 _ rfl
        obtain ⟨z, e, _, wz⟩ := DataW.trod_int Try.underlying5 ht
        simp only [List.cons.injEq, and_true] at e; subst e
        obtain rfl := Option.some.inj hK
        exact ⟨z, hc, wz⟩
      | 3, hK =>
        obtain ⟨v, y, n, hc, ht⟩ := hi i hil 3 _ rfl
        obtain ⟨z, e, _, wz⟩ := DataW.trod_int Try.underlying36 ht
        simp only [List.cons.injEq, and_true] at e; subst e
        obtain rfl := Option.some.inj hK
        exact ⟨z, hc, wz⟩
      | _ + 4, hK => exact absurd hK (by simp)
  have s0 : len0 * 8 ≤ 140737488351232 := by
    obtain ⟨fuel, hf⟩ := h0
    rcases rows_sized Try.underlying22 hf with hcs | ⟨x, l, c, elems, rest, hcs, hd, hle⟩
    · simp [Value.cells] at hcs
      obtain ⟨rfl, rfl, rfl⟩ := hcs
      omega
    · simp [Value.cells] at hcs
      obtain ⟨rfl, rfl, rfl⟩ := hcs
      have hr := sized_slice hsz (j := 0) (t := 22) (e := 38) rfl (congrArg some hd) Try.underlying22
      rw [show Try.prog.bytesOf 38 = 8 by kernel_rfl] at hr
      simp only [reachBytes] at hr
      have := Nat.mul_le_mul_right 8 hle
      omega
  clear hA0 hval0
  refine (walk a0 len0 cap0 W w0 s0).mono fun e W' ⟨he, bel⟩ => ?_
  subst he
  exact ⟨_, rfl, _, _, _, [], _, [], hW', trodAll_mk1 (shut_bool Try.underlying4 _), (trodAll_cons_mk (Below.trod laidOut (by kernel_rfl) (of_decide_eq_true (by kernel_rfl)) k0 bel lt0) trodAll_mk0), rfl, bel.frame _, fun h => by cases h⟩

theorem over : Rows.checkAllRow.holds Try.pinned (OpenSpec.ofChange Rows.checkAllSpec) :=
  OpenClaim.holds_of_wide 3 Try.f3 rfl rfl rfl rfl rfl rfl rfl ⟨rfl, rfl, rfl, rfl, rfl⟩ rfl rfl rfl rfl rfl (by kernel_rfl) Try.func3 (by kernel_rfl)
    (of_decide_eq_true (by kernel_rfl)) (by unfold Func.isWrapper; first | (rw [if_pos (by decide +kernel)]; kernel_rfl) | (rw [if_neg (by decide +kernel)]; exact ⟨rfl, rfl⟩))
    (fun os started H enc _ => lifted os started H enc)

/-- The statement. -/
theorem proved : Rows.CheckAllSaid := over
end Go.Proofs.Ytnhfipedhbeajaa.checkAll
