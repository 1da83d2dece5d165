/-
  'MirRuns': for every program of registers and all bytes, the law of layer 12 on whole runs returns true, and leaves memory as it was. No condition.
-/
import Derived.Test.YtbjndcbnkmjfdaaMirLaw
import Derived.Test.YtbjndcbnkmjfdaaMirRun
namespace Go.Proofs.Ytbjndcbnkmjfdaa.mirRuns
open Go Go.ChangeShapes Go.WideShapes Go.ChangeAt Go.RowKit
set_option linter.unusedSimpArgs false
set_option linter.unusedVariables false

set_option maxHeartbeats 4000000 in
set_option maxRecDepth 100000 in
theorem walk (g0 : Int) (a0 : Option Addr) (len0 cap0 : Nat) (q : Nat → Irx) (a1 : Option Addr) (len1 cap1 : Nat) (z1 : List Int) (w : World) (w0 : IrAt w a0 len0 q) (s0 : len0 * 56 ≤ 140737488351232) (w1 : IsRow .u8 w a1 len1 cap1 z1 ∧ cap1 * 1 ≤ 140737488351232) :
    Calls Try.prog 5 #[mirV g0 a0 len0 cap0, .slice a1 len1 cap1] w fun e w' => e = .returned (.bool true) ∧ Below w.heap.size w w' := by
  have hl1 : len1 ≤ 140737488351232 := by have := isRow_len w1.1; omega
  obtain ⟨z, HD⟩ : ∃ z : Nat → Int, Hid (Holds w a1 len1 (fun i => .int .u8 (z i)) ∧ ∀ i, 0 ≤ z i ∧ z i < 256) := ⟨fun i => z1.getD i 0, Lib.hid ⟨holds_of_isRow w1.1, isRow_byte w1.1⟩⟩
  have H0 := Lib.hid (FM.first (regs := g0) (cap := cap0) w0)
  clear w0 w1
  have HC1 : Hid (∀ V A cap da dcap, IrAt V A len0 q → DatAt V da len1 z → Calls Try.prog 15 #[mirV g0 A len0 cap, .slice da len1 dcap] V (RunMP g0 q len0 len1 z V)) := Lib.hid fun V A cap da dcap h h2 => p_RunM g0 A len0 cap q da len1 dcap z V h h2
  have HC2 : Hid (∀ V A cap da dcap, IrAt V A len0 q → DatAt V da len1 z → Calls Try.prog 16 #[mirV g0 A len0 cap, .slice da len1 dcap] V (RunMP g0 q len0 len1 z V)) := Lib.hid fun V A cap da dcap h h2 => r_RunM g0 A len0 cap q da len1 dcap z V h h2
  unfold RunMP at HC1 HC2
  generalize runR g0 q len0 len1 (wordZ z) = E at HC1 HC2
  obtain ⟨ea, en, ee, ep⟩ := E
  go_enter Try.func5, Try.ntmps5
  go_wp2_with (first
    | (go_at_call 10; (with_reducible refine (head_M _).mono ?_); rintro e w1 ⟨rfl, hb⟩; have H1 := Lib.hid (H0.out.up hb); clear hb; have p0 := cellM H1.out.2.2 0 rfl; have p1 := cellM H1.out.2.2 1 rfl)
    | (go_at_call 11; (with_reducible refine (lent_M _ _ _ _ _ q s0 H1.out.1).mono ?_); rintro e w2 ⟨g, cap', rfl, hL⟩; have hcap := hL.cap; have H2 := Lib.hid (SL.first H1.out hL); have HS2 := Lib.hid (HD.out.1.below (onM H2.out.1.2.1 (lboxM _ (.cells #[] 5)))); have hsz : (w2.alloc (mirO g0 (some ⟨g, 0, none⟩) len0 cap')).heap.size = w2.heap.size + 1 := by { simp }; have hr0 := World.rowIs_alloc (w2.alloc (mirO g0 (some ⟨g, 0, none⟩) len0 cap')) #[] 5 (fun _ => undef) (fun i hi => absurd hi (by simp)); rw [hsz] at hr0; have HR2 := Lib.hid hr0; clear hr0 hL p0 p1; have HZ := Lib.hid hsz; clear hsz)
    | (at_builtin; refine wpList_append_row _ rfl (.tmp 20) (.tmp 21) 37 rfl 5 (.int .u8 0) 1 Try.underlying37 rfl rfl (w2.heap.size + 1) 0 0 (fun _ => undef) rfl HR2.out (Nat.le_refl _) (by decide) a1 len1 cap1 (fun i => .int .u8 (z i)) rfl HS2.out (fun _ => rfl) (by unfold maxLen; omega) (by omega) ?_; intro g1 cap2 F1 w3 hr1 hc1 hm1 _ hF1 hg1 hgg1; simp only [Nat.zero_add] at hc1 hF1; rw [← HZ.out] at hg1 hgg1; obtain ⟨hb1, hge1⟩ := append_new_below hg1 hgg1; have H3 := Lib.hid (And.intro (H2.out.up hb1) (And.intro ((holds_of_row hr1 (by omega)).congr hF1) (HD.out.1.below (H2.out.up hb1).1.2.1))); clear hg1 hgg1 hF1 hr1 hb1 hge1 HS2; have x0 := cellM H3.out.1.2.2.2.2 0 rfl; have x1 := cellM H3.out.1.2.2.2.2 1 rfl)
    | (go_at_call 15; (with_reducible refine (HC1.out _ _ _ _ _ H3.out.1.2.1 (dat_of_holds H3.out.2.1 HD.out.2)).mono ?_); rintro e w4 ⟨rfl, hb⟩; have H4 := Lib.hid (And.intro (H3.out.1.up hb) (And.intro (H3.out.2.1.below hb) (H3.out.2.2.below hb))); clear hb x0 x1; have p0 := cellM H4.out.1.1.2.2 0 rfl; have p1 := cellM H4.out.1.1.2.2 1 rfl)
    | (go_at_call 16; (with_reducible refine (HC2.out _ _ _ _ _ H4.out.1.1.1 (dat_of_holds H4.out.2.2 HD.out.2)).mono ?_); rintro e w5 ⟨rfl, hb⟩; have H5 := Lib.hid (And.intro (H4.out.1.up hb) (And.intro (H4.out.2.1.below hb) (H4.out.2.2.below hb))); clear hb p0 p1; have p0 := cellM H5.out.1.1.2.2 0 rfl; have p1 := cellM H5.out.1.1.2.2 1 rfl; have x0 := cellM H5.out.1.2.2.2.2 0 rfl; have x1 := cellM H5.out.1.2.2.2.2 1 rfl)
    | (go_at_call 14; (with_reducible refine (kept_M _ _ _ _ _ _ _ q s0 hcap H5.out.1.2.1 H5.out.1.2.2.1 H5.out.1.2.2.2.1 H5.out.1.1.1).mono ?_); rintro e w6 ⟨rfl, hb⟩; have H6 := Lib.hid (onM H5.out.1.1.2.1 hb); have q1 := run_string_of (P := Try.prog) w6 37 9 5 Try.underlying37 Try.underlying5 Try.underlying9 (some ⟨g1, 0, none⟩) len1 cap2 z (H5.out.2.1.below hb); have q2 := run_string_of (P := Try.prog) w6 37 9 5 Try.underlying37 Try.underlying5 Try.underlying9 a1 len1 cap1 z (H5.out.2.2.below hb); clear hb p0 p1 x0 x1))
  go_ret
  exact ⟨rfl, H6.out⟩

/-! ### The row's step and the statement -/
set_option maxRecDepth 100000 in
theorem lifted (os : Os) (started : os.Started) (H : Type) (enc : TypeId × Value → H) :
    ReturnsInHanded {} Try.checked os 5 .any (Rows.mirRunsSpec.pre6 enc Try.prog Try.f5 Rows.mirRunsRow.domain false) (Rows.mirRunsSpec.post enc Try.prog Try.f5 false true false false) := by
  refine returnsInHanded_of_change_sized (C := Try.checked) own started (by kernel_rfl) Try.func5
    (ChangeSpec.witness6 (enc := enc) (C := Try.checked) false ⟨#[], #[.agg #[.int .i64 0, .slice none 0 0], .slice none 0 0], []⟩ 8 (by kernel_rfl) (by kernel_rfl) (by kernel_rfl) (by kernel_rfl)) ?_
  intro W base args ds gs before hval0 hW hcnd hsz0 _
  have hsz : (DataW.weightsEach Try.prog (Try.f5.params.toList ++ Rows.mirRunsSpec.plain.varTypes Try.prog) (ds ++ gs)).all (· ≤ reachBytes) = true := hsz0
  clear hsz0
  have hval : ∀ (j : Nat) t v, Try.f5.params[j]? = some t → args[j]? = some v → Value.okWide Try.prog W .any base t v := hval0
  have hW' := hW
  obtain ⟨p, q, hA0, hV, rfl, hfz, hnd⟩ := hW
  have hA : DataW.TrodAll enc Try.prog W 0 (fun _ => true) true Try.f5.params.toList args.toList ds p := hA0
  rw [Try.params5] at hA hval hsz
  obtain ⟨v0, vs0, d0, ds0, p0, q0, hargs, rfl, rfl, h0, r0⟩ := trodAll_cons hA
  obtain ⟨v1, vs1, d1, ds1, p1, q1, rfl, rfl, rfl, h1, r1⟩ := trodAll_cons r0
  obtain ⟨rfl, rfl, rfl⟩ := trodAll_nil r1
  obtain rfl : args = #[v0, v1] := by cases args; simp_all
  obtain ⟨rfl, rfl⟩ := trodVars_none hV
  have k0 := h0
  have lt0 : ∀ x ∈ p0, x.block < W.heap.size := by obtain ⟨m, hm⟩ := k0; exact DataW.trod_lt m _ _ _ hm
  obtain ⟨g0, a0, len0, cap0, q0, rfl, w0, ww0⟩ := open_mir (hval 0 24 v0 rfl rfl) h0
  have s0 := ww0 _ _ 0 hsz rfl rfl
  obtain ⟨a1, len1, cap1, rfl⟩ := okWide_slice Try.underlying37 (hval 1 37 v1 rfl rfl)
  have k1 := h1
  have lt1 : ∀ x ∈ p1, x.block < W.heap.size := by obtain ⟨m, hm⟩ := k1; exact DataW.trod_lt m _ _ _ hm
  obtain ⟨z1, w1⟩ : ∃ zs, IsRow .u8 W a1 len1 cap1 zs ∧ cap1 * 1 ≤ 140737488351232 := by
    obtain ⟨fuel, hf⟩ := h1
    rcases open_ints Try.underlying37 Try.underlying5 (by kernel_rfl) hf with ⟨hcs, _⟩ | ⟨x, l, c, zs, hcs, _, hl, hm, hz, hx, hcell, hwz⟩
    · simp [Value.cells] at hcs
      obtain ⟨rfl, rfl, rfl⟩ := hcs
      exact ⟨[], ⟨.inl ⟨rfl, rfl, rfl, rfl⟩, by omega⟩⟩
    · simp [Value.cells] at hcs
      obtain ⟨rfl, rfl, rfl⟩ := hcs
      have hd : d1 = _ := congrArg Prod.fst hx
      have hr := sized_slice hsz (j := 1) (t := 37) (e := 5) rfl (congrArg some hd) Try.underlying37
      rw [show Try.prog.bytesOf 5 = 1 by kernel_rfl] at hr
      simp only [lits, List.length_map, List.length_take, List.length_drop, reachBytes] at hr
      have hzl : zs.length = _ := hz
      simp only [if_true] at hzl
      exact ⟨zs, ⟨.inr ⟨_, rfl, hl, hm, by simpa using hz, hcell, hwz⟩, by omega⟩⟩
  clear hA0 hval0
  refine (walk g0 a0 len0 cap0 q0 a1 len1 cap1 z1 W w0 s0 w1).mono fun e W' ⟨he, bel⟩ => ?_
  subst he
  exact ⟨_, rfl, _, _, _, [], _, [], hW', trodAll_mk1 (shut_bool Try.underlying4 _), (trodAll_cons_mk (Below.trod laidOut (by kernel_rfl) (of_decide_eq_true (by kernel_rfl)) k0 bel lt0) (trodAll_cons_mk (Below.trod laidOut (by kernel_rfl) (of_decide_eq_true (by kernel_rfl)) k1 bel lt1) trodAll_mk0)), rfl, bel.frame _, fun h => by cases h⟩

theorem over : Rows.mirRunsRow.holds Try.pinned (OpenSpec.ofChange Rows.mirRunsSpec) :=
  OpenClaim.holds_of_wide 5 Try.f5 rfl rfl rfl rfl rfl rfl rfl ⟨rfl, rfl, rfl, rfl, rfl⟩ rfl rfl rfl rfl rfl (by kernel_rfl) Try.func5 (by kernel_rfl)
    (of_decide_eq_true (by kernel_rfl)) (by unfold Func.isWrapper; first | (rw [if_pos (by decide +kernel)]; kernel_rfl) | (rw [if_neg (by decide +kernel)]; exact ⟨rfl, rfl⟩))
    (fun os started H enc _ => lifted os started H enc)

/-- The statement. -/
theorem proved : Rows.MirRunsSaid := over
end Go.Proofs.Ytbjndcbnkmjfdaa.mirRuns
