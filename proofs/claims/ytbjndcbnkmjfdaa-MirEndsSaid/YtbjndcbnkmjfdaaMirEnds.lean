/-
  'MirEnds': for every program of registers and all bytes, the law of layer 12 on ends returns true, and leaves memory as it was. No condition.
-/
import Derived.Test.YtbjndcbnkmjfdaaMirLaw
namespace Go.Proofs.Ytbjndcbnkmjfdaa.mirEnds
open Go Go.ChangeShapes Go.WideShapes Go.ChangeAt Go.RowKit
set_option linter.unusedSimpArgs false
set_option linter.unusedVariables false

set_option maxHeartbeats 4000000 in
theorem walk (g0 : Int) (a0 : Option Addr) (len0 cap0 : Nat) (q : Nat → Irx) (a1 : Option Addr) (len1 cap1 : Nat) (z1 : List Int) (w : World) (w0 : IrAt w a0 len0 q) (s0 : len0 * 56 ≤ 140737488351232) (w1 : IsRow .u8 w a1 len1 cap1 z1 ∧ cap1 * 1 ≤ 140737488351232) :
    Calls Try.prog 8 #[mirV g0 a0 len0 cap0, .slice a1 len1 cap1] w fun e w' => e = .returned (.bool true) ∧ Below w.heap.size w w' := by
  have HD := Lib.hid (dat_of_row w1.1)
  have H0 := Lib.hid (FM.first (regs := g0) (cap := cap0) w0)
  clear w0 w1
  generalize (fun i => z1.getD i 0) = z at HD
  have HC1 : Hid (∀ V A cap, IrAt V A len0 q → Calls Try.prog 12 #[mirV g0 A len0 cap] V (ChkMP g0 q len0 V)) := Lib.hid fun V A cap h => p_ChkM g0 A len0 cap q V h
  have HC2 : Hid (∀ V A cap da dcap, IrAt V A len0 q → DatAt V da len1 z → Calls Try.prog 15 #[mirV g0 A len0 cap, .slice da len1 dcap] V (RunMP g0 q len0 len1 z V)) := Lib.hid fun V A cap da dcap h h2 => p_RunM g0 A len0 cap q da len1 dcap z V h h2
  unfold ChkMP at HC1
  unfold RunMP at HC2
  by_cases he : chkE g0 q len0 = 0
  · rw [he] at HC1
    generalize chkP g0 q len0 = pp at HC1
    by_cases hl : len1 = 64
    · subst hl
      rw [run_right he] at HC2
      have hR := chk_is.1 he
      have hE := go_ends hR (fun i => i) (wordZ z) len0 0 zeroR hR.pos (Nat.sub_le _ _)
      rw [show goM q (fun i => i) (wordZ z) len0 0 zeroR = atM q len0 (fun i => i) (wordZ z) 0 zeroR from rfl] at hE
      have hn0 := hR.max
      clear hR he
      generalize atM q len0 (fun i => i) (wordZ z) 0 zeroR = E at HC2 hE
      obtain ⟨ea, en, ee, ep⟩ := E
      simp only at hE
      rcases hE with ⟨rfl, h1, h2, rfl⟩ | ⟨rfl, rfl, h1, h2, h3⟩
      · have h1' : (1 : Int) ≤ (en : Int) := by omega
        have h2' : (en : Int) ≤ (len0 : Int) := by omega
        go_enter Try.func8, Try.ntmps8
        go_wp2_with (first
          | (go_at_call 10; (with_reducible refine (head_M _).mono ?_); rintro e w1 ⟨rfl, hb⟩; have H1 := Lib.hid (H0.out.up hb); clear hb; have p0 := cellM H1.out.2.2 0 rfl; have p1 := cellM H1.out.2.2 1 rfl)
          | (go_at_call 12; (with_reducible refine (HC1.out _ _ _ H1.out.1).mono ?_); rintro e w3 ⟨rfl, hb⟩; have H3 := Lib.hid (H1.out.up hb); clear hb p0 p1; have p0 := cellM H3.out.2.2 0 rfl; have p1 := cellM H3.out.2.2 1 rfl)
          | (go_at_call 15; (with_reducible refine (HC2.out _ _ _ _ _ H3.out.1 (HD.out.below H3.out.2.1)).mono ?_); rintro e w4 ⟨rfl, hb⟩; have H4 := Lib.hid (H3.out.up hb); clear hb p0 p1; have p0 := cellM H4.out.2.2 0 rfl; have p1 := cellM H4.out.2.2 1 rfl))
        go_ret
        exact ⟨rfl, H4.out.2.1⟩
      · have h1' : (en : Int) ≤ (ep : Int) := by omega
        have h2' : (ep : Int) < (len0 : Int) := by omega
        go_enter Try.func8, Try.ntmps8
        go_wp2_with (first
          | (go_at_call 10; (with_reducible refine (head_M _).mono ?_); rintro e w1 ⟨rfl, hb⟩; have H1 := Lib.hid (H0.out.up hb); clear hb; have p0 := cellM H1.out.2.2 0 rfl; have p1 := cellM H1.out.2.2 1 rfl)
          | (go_at_call 12; (with_reducible refine (HC1.out _ _ _ H1.out.1).mono ?_); rintro e w3 ⟨rfl, hb⟩; have H3 := Lib.hid (H1.out.up hb); clear hb p0 p1; have p0 := cellM H3.out.2.2 0 rfl; have p1 := cellM H3.out.2.2 1 rfl)
          | (go_at_call 15; (with_reducible refine (HC2.out _ _ _ _ _ H3.out.1 (HD.out.below H3.out.2.1)).mono ?_); rintro e w4 ⟨rfl, hb⟩; have H4 := Lib.hid (H3.out.up hb); clear hb p0 p1; have p0 := cellM H4.out.2.2 0 rfl; have p1 := cellM H4.out.2.2 1 rfl; obtain ⟨qb, qo, rfl, hlq, c0, _⟩ := ir_at H4.out.1 h2; rw [h3] at c0))
        go_ret
        exact ⟨rfl, H4.out.2.1⟩
    · have hl' : ¬ (len1 : Int) = 64 := by omega
      have hl2 : ((len1 : Int) != 64) = true := bne_iff_ne.2 hl'
      clear he HC2 HD
      go_enter Try.func8, Try.ntmps8
      go_wp2_with (first
        | (go_at_call 10; (with_reducible refine (head_M _).mono ?_); rintro e w1 ⟨rfl, hb⟩; have H1 := Lib.hid (H0.out.up hb); clear hb; have p0 := cellM H1.out.2.2 0 rfl; have p1 := cellM H1.out.2.2 1 rfl)
        | (go_at_call 12; (with_reducible refine (HC1.out _ _ _ H1.out.1).mono ?_); rintro e w3 ⟨rfl, hb⟩; have H3 := Lib.hid (H1.out.up hb); clear hb p0 p1))
      go_ret
      exact ⟨rfl, H3.out.2.1⟩
  · have he' : (chkE g0 q len0 != 0) = true := bne_iff_ne.2 he
    clear HC2 HD
    generalize chkE g0 q len0 = ee at HC1 he he'
    generalize chkP g0 q len0 = pp at HC1
    go_enter Try.func8, Try.ntmps8
    go_wp2_with (first
      | (go_at_call 10; (with_reducible refine (head_M _).mono ?_); rintro e w1 ⟨rfl, hb⟩; have H1 := Lib.hid (H0.out.up hb); clear hb; have p0 := cellM H1.out.2.2 0 rfl; have p1 := cellM H1.out.2.2 1 rfl)
      | (go_at_call 12; (with_reducible refine (HC1.out _ _ _ H1.out.1).mono ?_); rintro e w3 ⟨rfl, hb⟩; have H3 := Lib.hid (H1.out.up hb); clear hb p0 p1))
    go_ret
    exact ⟨rfl, H3.out.2.1⟩

/-! ### The row's step and the statement -/
set_option maxRecDepth 100000 in
theorem lifted (os : Os) (started : os.Started) (H : Type) (enc : TypeId × Value → H) :
    ReturnsInHanded {} Try.checked os 8 .any (Rows.mirEndsSpec.pre6 enc Try.prog Try.f8 Rows.mirEndsRow.domain false) (Rows.mirEndsSpec.post enc Try.prog Try.f8 false true false false) := by
  refine returnsInHanded_of_change_sized (C := Try.checked) own started (by kernel_rfl) Try.func8
    (ChangeSpec.witness6 (enc := enc) (C := Try.checked) false ⟨#[], #[.agg #[.int .i64 0, .slice none 0 0], .slice none 0 0], []⟩ 8 (by kernel_rfl) (by kernel_rfl) (by kernel_rfl) (by kernel_rfl)) ?_
  intro W base args ds gs before hval0 hW hcnd hsz0 _
  have hsz : (DataW.weightsEach Try.prog (Try.f8.params.toList ++ Rows.mirEndsSpec.plain.varTypes Try.prog) (ds ++ gs)).all (· ≤ reachBytes) = true := hsz0
  clear hsz0
  have hval : ∀ (j : Nat) t v, Try.f8.params[j]? = some t → args[j]? = some v → Value.okWide Try.prog W .any base t v := hval0
  have hW' := hW
  obtain ⟨p, q, hA0, hV, rfl, hfz, hnd⟩ := hW
  have hA : DataW.TrodAll enc Try.prog W 0 (fun _ => true) true Try.f8.params.toList args.toList ds p := hA0
  rw [Try.params8] at hA hval hsz
  obtain ⟨v0, vs0, d0, ds0, p0, q0, hargs, rfl, rfl, h0, r0⟩ := trodAll_cons hA
  obtain ⟨v1, vs1, d1, ds1, p1, q1, rfl, rfl, rfl, h1, r1⟩ := trodAll_cons r0
  obtain ⟨rfl, rfl, rfl⟩ := trodAll_nil r1
  obtain rfl : args = #[v0, v1] := by cases args; simp_all
  obtain ⟨rfl, rfl⟩ := trodVars_none hV
  have k0 := h0
  have lt0 : ∀ x ∈ p0, x.block < W.heap.size := by obtain ⟨m, hm⟩ := k0; exact DataW.trod_lt m _ _ _ hm
  obtain ⟨g0, a0, len0, cap0, q0, rfl, w0, ww0⟩ := open_mir (hval 0 24 v0 rfl rfl) h0
  have s0 := ww0 _ _ 0 hsz rfl rfl
  obtain ⟨a1, len1, cap1, rfl⟩ := okWide_slice Try.underlying37 (hval 1 37 v1 rfl rfl)
  have k1 := h1
  have lt1 : ∀ x ∈ p1, x.block < W.heap.size := by obtain ⟨m, hm⟩ := k1; exact DataW.trod_lt m _ _ _ hm
  obtain ⟨z1, w1⟩ : ∃ zs, IsRow .u8 W a1 len1 cap1 zs ∧ cap1 * 1 ≤ 140737488351232 := by
    obtain ⟨fuel, hf⟩ := h1
    rcases open_ints Try.underlying37 Try.underlying5 (by kernel_rfl) hf with ⟨hcs, _⟩ | ⟨x, l, c, zs, hcs, _, hl, hm, hz, hx, hcell, hwz⟩
    · simp [Value.cells] at hcs
      obtain ⟨rfl, rfl, rfl⟩ := hcs
      exact ⟨[], ⟨.inl ⟨rfl, rfl, rfl, rfl⟩, by omega⟩⟩
    · simp [Value.cells] at hcs
      obtain ⟨rfl, rfl, rfl⟩ := hcs
      have hd : d1 = _ := congrArg Prod.fst hx
      have hr := sized_slice hsz (j := 1) (t := 37) (e := 5) rfl (congrArg some hd) Try.underlying37
      rw [show Try.prog.bytesOf 5 = 1 by kernel_rfl] at hr
      simp only [lits, List.length_map, List.length_take, List.length_drop, reachBytes] at hr
      have hzl : zs.length = _ := hz
      simp only [if_true] at hzl
      exact ⟨zs, ⟨.inr ⟨_, rfl, hl, hm, by simpa using hz, hcell, hwz⟩, by omega⟩⟩
  clear hA0 hval0
  refine (walk g0 a0 len0 cap0 q0 a1 len1 cap1 z1 W w0 s0 w1).mono fun e W' ⟨he, bel⟩ => ?_
  subst he
  exact ⟨_, rfl, _, _, _, [], _, [], hW', trodAll_mk1 (shut_bool Try.underlying4 _), (trodAll_cons_mk (Below.trod laidOut (by kernel_rfl) (of_decide_eq_true (by kernel_rfl)) k0 bel lt0) (trodAll_cons_mk (Below.trod laidOut (by kernel_rfl) (of_decide_eq_true (by kernel_rfl)) k1 bel lt1) trodAll_mk0)), rfl, bel.frame _, fun h => by cases h⟩

theorem over : Rows.mirEndsRow.holds Try.pinned (OpenSpec.ofChange Rows.mirEndsSpec) :=
  OpenClaim.holds_of_wide 8 Try.f8 rfl rfl rfl rfl rfl rfl rfl ⟨rfl, rfl, rfl, rfl, rfl⟩ rfl rfl rfl rfl rfl (by kernel_rfl) Try.func8 (by kernel_rfl)
    (of_decide_eq_true (by kernel_rfl)) (by unfold Func.isWrapper; first | (rw [if_pos (by decide +kernel)]; kernel_rfl) | (rw [if_neg (by decide +kernel)]; exact ⟨rfl, rfl⟩))
    (fun os started H enc _ => lifted os started H enc)

/-- The statement. -/
theorem proved : Rows.MirEndsSaid := over
end Go.Proofs.Ytbjndcbnkmjfdaa.mirEnds
