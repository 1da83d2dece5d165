/-
  'CbpfRuns': for every program and all bytes, the law of layer 3 on whole runs returns true, and leaves memory as it was. No condition.
-/
import Derived.Test.YtlfbkalpnbjdjaaCbpfHead
import Derived.Test.YtlfbkalpnbjdjaaPArgs
import Derived.Test.YtlfbkalpnbjdjaaRowsSized
namespace Go.Proofs.Ytlfbkalpnbjdjaa.cbpfRuns
open Go Go.ChangeShapes Go.WideShapes Go.ChangeAt Go.RowKit
set_option linter.unusedSimpArgs false
set_option linter.unusedVariables false

/-- What stands while the law goes on: the arguments, the lent program with its mark, the call's own copy of the data. -/
abbrev St (w W : World) (a0 : Option Addr) (n : Nat) (q : Nat → Ins) (a1 : Option Addr) (len : Nat) (z : Nat → Int) (g : Nat) (A : Option Addr) : Prop :=
  Lies W a0 n q a1 len z ∧ PLies W (some ⟨g, 0, none⟩) n q A len z ∧ W.cell? ⟨g, n * 4, none⟩ = some (.int .u16 30583) ∧ Holds W a1 len (fun i => .int .u8 (z i)) ∧ Below w.heap.size w W ∧ g < W.heap.size
theorem st_below {w W W' : World} {a0 : Option Addr} {n : Nat} {q : Nat → Ins} {a1 : Option Addr} {len : Nat} {z : Nat → Int} {g : Nat} {A : Option Addr} (h : St w W a0 n q a1 len z g A) (hb : Below W.heap.size W W') : St w W' a0 n q a1 len z g A :=
  ⟨h.1.below hb, h.2.1.below hb, (hb.cell (p := ⟨g, n * 4, none⟩) h.2.2.2.2.2).trans h.2.2.1, h.2.2.2.1.below hb, h.2.2.2.2.1.trans (hb.mono h.2.2.2.2.1.size), Nat.lt_of_lt_of_le h.2.2.2.2.2 hb.size⟩
set_option maxHeartbeats 2000000 in
theorem walk (a0 : Option Addr) (len0 cap0 : Nat) (a1 : Option Addr) (len1 cap1 : Nat) (z1 : List Int) (w : World) (w0 : RowsOf [.u16, .u8, .u8, .u32] w a0 len0) (s0 : len0 * 8 ≤ 140737488351232) (w1 : IsRow .u8 w a1 len1 cap1 z1 ∧ cap1 * 1 ≤ 140737488351232) :
    Calls Try.prog 5 #[.slice a0 len0 cap0, .slice a1 len1 cap1] w fun e w' => e = .returned (.bool true) ∧ Below w.heap.size w w' := by
  obtain ⟨q, hL, hP⟩ := plies_of_args w0 s0 w1.1 w1.2
  clear w0 w1
  have HL := Lib.hid (And.intro hL hP)
  have hl1 := hP.dlen
  clear hL hP
  generalize (fun i => z1.getD i 0) = z at HL
  go_enter Try.func5, Try.ntmps5
  go_wp2_with (first
    | (go_at_call 10; (with_reducible refine (head_is _).mono ?_); rintro e w1 ⟨rfl, hb⟩; have HB1 := Lib.hid hb; have HL1 := Lib.hid (And.intro (HL.out.1.below hb) (HL.out.2.below hb)); clear hb HL)
    | (go_at_call 11; (with_reducible refine (lent_is _ _ _ _ q s0 HL1.out.2.prog).mono ?_); rintro e w2 ⟨g, capx, rfl, hlent⟩; obtain ⟨F, hr, hc, hm, hF, h77, hb, hge⟩ := hlent; have HT2 := Lib.hid (And.intro (prog_of_row hr hF (by omega)) (And.intro ((World.rowIs.cell hr (i := len0 * 4) (by omega)).trans (congrArg some h77)) hr.lt)); have HL2 := Lib.hid (And.intro (HL1.out.1.below hb) (HL1.out.2.below hb)); have HB2 := Lib.hid (HB1.out.trans (hb.mono HB1.out.size)); have HS2 := Lib.hid ((HL2.out.2.data).below (box_below w2 (.cells #[] 5))); clear hr hF h77 hb HL1 HB1 hge)
    | (at_builtin; refine wpList_append_row _ rfl (.tmp 20) (.tmp 21) 25 rfl 5 (.int .u8 0) 1 Try.underlying25 rfl rfl w2.heap.size 0 0 (fun _ => undef) rfl (World.rowIs_alloc w2 #[] 5 (fun _ => undef) (fun i hi => absurd hi (by simp))) (Nat.le_refl _) (by decide) a1 len1 cap1 (fun i => .int .u8 (z i)) rfl HS2.out (fun _ => rfl) (by unfold maxLen; omega) (by omega) ?_; intro g1 cap2 F1 w3 hr1 hc1 hm1 _ hF1 hg1 hgg1; simp only [Nat.zero_add] at hc1 hF1; obtain ⟨hb1, hge1⟩ := append_new_below hg1 hgg1; have HT := Lib.hid (show St w w3 a0 len0 q a1 len1 z g (some ⟨g1, 0, none⟩) from ⟨HL2.out.1.below hb1, ⟨HT2.out.1.below hb1, (holds_of_row hr1 (by omega)).congr hF1, HL2.out.2.bytes, s0, hl1, HL2.out.2.ok⟩, (hb1.cell (p := ⟨g, len0 * 4, none⟩) HT2.out.2.2).trans HT2.out.2.1, HL2.out.2.data.below hb1, HB2.out.trans (hb1.mono HB2.out.size), Nat.lt_of_lt_of_le HT2.out.2.2 hb1.size⟩); clear hg1 hgg1 hF1 hr1 hb1 HL2 HT2 HB2 HS2)
    | (go_at_call 18; (with_reducible refine (cbpf_Run _ _ _ _ q _ _ _ z HT.out.2.1).mono ?_); rintro e w4 ⟨rfl, hb⟩; have HT4 := Lib.hid (st_below HT.out hb); clear hb HT)
    | (go_at_call 19; (with_reducible refine (ref_Run _ _ _ _ q _ _ _ z HT4.out.1).mono ?_); rintro e w5 ⟨rfl, hb⟩; have HT5 := Lib.hid (st_below HT4.out hb); clear hb HT4)
    | (go_at_call 15; (with_reducible refine (kept_is _ _ _ _ _ _ q s0 hc HT5.out.2.1.prog HT5.out.2.2.1 HT5.out.1.prog).mono ?_); rintro e w6 ⟨rfl, m, rfl⟩; have q1 := run_string_of (P := Try.prog) (w5.drewN m) 25 9 5 Try.underlying25 Try.underlying5 Try.underlying9 (some ⟨g1, 0, none⟩) len1 cap2 z (HT5.out.2.1.data.drawn m); have q2 := run_string_of (P := Try.prog) (w5.drewN m) 25 9 5 Try.underlying25 Try.underlying5 Try.underlying9 a1 len1 cap1 z (HT5.out.2.2.2.1.drawn m)))
  go_ret
  exact ⟨rfl, below_drawn HT5.out.2.2.2.2.1 m⟩

/-! ### The row's step and the statement -/
set_option maxRecDepth 100000 in
theorem lifted (os : Os) (started : os.Started) (H : Type) (enc : TypeId × Value → H) :
    ReturnsInHanded {} Try.checked os 5 .any (Rows.cbpfRunsSpec.pre6 enc Try.prog Try.f5 Rows.cbpfRunsRow.domain false) (Rows.cbpfRunsSpec.post enc Try.prog Try.f5 false true false false) := by
  refine returnsInHanded_of_change_sized (C := Try.checked) own started (by kernel_rfl) Try.func5
    (ChangeSpec.witness6 (enc := enc) (C := Try.checked) false ⟨#[], #[.slice none 0 0, .slice none 0 0], []⟩ 8 (by kernel_rfl) (by kernel_rfl) (by kernel_rfl) (by kernel_rfl)) ?_
  intro W base args ds gs before hval0 hW hcnd hsz0 _
  have hsz : (DataW.weightsEach Try.prog (Try.f5.params.toList ++ Rows.cbpfRunsSpec.plain.varTypes Try.prog) (ds ++ gs)).all (· ≤ reachBytes) = true := hsz0
  clear hsz0
  have hval : ∀ (j : Nat) t v, Try.f5.params[j]? = some t → args[j]? = some v → Value.okWide Try.prog W .any base t v := hval0
  have hW' := hW
  obtain ⟨p, q, hA0, hV, rfl, hfz, hnd⟩ := hW
  have hA : DataW.TrodAll enc Try.prog W 0 (fun _ => true) true Try.f5.params.toList args.toList ds p := hA0
  rw [Try.params5] at hA hval hsz
  obtain ⟨v0, vs0, d0, ds0, p0, q0, hargs, rfl, rfl, h0, r0⟩ := trodAll_cons hA
  obtain ⟨v1, vs1, d1, ds1, p1, q1, rfl, rfl, rfl, h1, r1⟩ := trodAll_cons r0
  obtain ⟨rfl, rfl, rfl⟩ := trodAll_nil r1
  obtain rfl : args = #[v0, v1] := by cases args; simp_all
  obtain ⟨rfl, rfl⟩ := trodVars_none hV
  obtain ⟨a0, len0, cap0, rfl⟩ := okWide_slice Try.underlying22 (hval 0 22 v0 rfl rfl)
  have k0 := h0
  have lt0 : ∀ x ∈ p0, x.block < W.heap.size := by obtain ⟨m, hm⟩ := k0; exact DataW.trod_lt m _ _ _ hm
  have w0 : RowsOf [.u16, .u8, .u8, .u32] W a0 len0 := by
    obtain ⟨fuel, hf⟩ := h0
    rcases rows_fields Try.underlying22 Try.underlying43 (by kernel_rfl) (by kernel_rfl) hf with hcs | ⟨x, l, c, hcs, hl, hm, hi⟩
    · simp [Value.cells] at hcs
      obtain ⟨rfl, rfl, rfl⟩ := hcs
      exact .inl ⟨rfl, rfl⟩
    · simp [Value.cells] at hcs
      obtain ⟨rfl, rfl, rfl⟩ := hcs
      refine .inr ⟨_, rfl, Nat.le_trans hl hm, fun i hil j K hK => ?_⟩
      match j, hK with
      | 0, hK =>
        obtain ⟨v, y, n, hc, ht⟩ := hi i hil 0 _ rfl
        obtain ⟨z, e, _, wz⟩ := DataW.trod_int Try.underlying41 ht
        simp only [List.cons.injEq, and_true] at e; subst e
        obtain rfl := Option.some.inj hK
        exact ⟨z, hc, wz⟩
      | 1, hK =>
        obtain ⟨v, y, n, hc, ht⟩ := hi i hil 1 _ rfl
        obtain ⟨z, e, _, wz⟩ := DataW.trod_int Try.underlying5 ht
        simp only [List.cons.injEq, and_true] at e; subst e
        obtain rfl := Option.some.inj hK
        exact ⟨z, hc, wz⟩
      | 2, hK =>
        obtain ⟨v, y, n, hc, ht⟩ := hi i hil 2 _ rfl
        obtain ⟨z, e, _, wz⟩ := DataW.trod_int Try.underlying5 ht
        simp only [List.cons.injEq, and_true] at e; subst e
        obtain rfl := Option.some.inj hK
        exact ⟨z, hc, wz⟩
      | 3, hK =>
        obtain ⟨v, y, n, hc, ht⟩ := hi i hil 3 _ rfl
        obtain ⟨z, e, _, wz⟩ := DataW.trod_int Try.underlying33 ht
        simp only [List.cons.injEq, and_true] at e; subst e
        obtain rfl := Option.some.inj hK
        exact ⟨z, hc, wz⟩
      | _ + 4, hK => exact absurd hK (by simp)
  have s0 : len0 * 8 ≤ 140737488351232 := by
    obtain ⟨fuel, hf⟩ := h0
    rcases rows_sized Try.underlying22 hf with hcs | ⟨x, l, c, elems, rest, hcs, hd, hle⟩
    · simp [Value.cells] at hcs
      obtain ⟨rfl, rfl, rfl⟩ := hcs
      omega
    · simp [Value.cells] at hcs
      obtain ⟨rfl, rfl, rfl⟩ := hcs
      have hr := sized_slice hsz (j := 0) (t := 22) (e := 43) rfl (congrArg some hd) Try.underlying22
      rw [show Try.prog.bytesOf 43 = 8 by kernel_rfl] at hr
      simp only [reachBytes] at hr
      have := Nat.mul_le_mul_right 8 hle
      omega
  obtain ⟨a1, len1, cap1, rfl⟩ := okWide_slice Try.underlying25 (hval 1 25 v1 rfl rfl)
  have k1 := h1
  have lt1 : ∀ x ∈ p1, x.block < W.heap.size := by obtain ⟨m, hm⟩ := k1; exact DataW.trod_lt m _ _ _ hm
  obtain ⟨z1, w1⟩ : ∃ zs, IsRow .u8 W a1 len1 cap1 zs ∧ cap1 * 1 ≤ 140737488351232 := by
    obtain ⟨fuel, hf⟩ := h1
    rcases open_ints Try.underlying25 Try.underlying5 (by kernel_rfl) hf with ⟨hcs, _⟩ | ⟨x, l, c, zs, hcs, _, hl, hm, hz, hx, hcell, hwz⟩
    · simp [Value.cells] at hcs
      obtain ⟨rfl, rfl, rfl⟩ := hcs
      exact ⟨[], ⟨.inl ⟨rfl, rfl, rfl, rfl⟩, by omega⟩⟩
    · simp [Value.cells] at hcs
      obtain ⟨rfl, rfl, rfl⟩ := hcs
      have hd : d1 = _ := congrArg Prod.fst hx
      have hr := sized_slice hsz (j := 1) (t := 25) (e := 5) rfl (congrArg some hd) Try.underlying25
      rw [show Try.prog.bytesOf 5 = 1 by kernel_rfl] at hr
      simp only [lits, List.length_map, List.length_take, List.length_drop, reachBytes] at hr
      have hzl : zs.length = _ := hz
      simp only [if_true] at hzl
      exact ⟨zs, ⟨.inr ⟨_, rfl, hl, hm, by simpa using hz, hcell, hwz⟩, by omega⟩⟩
  clear hA0 hval0
  refine (walk a0 len0 cap0 a1 len1 cap1 z1 W w0 s0 w1).mono fun e W' ⟨he, bel⟩ => ?_
  subst he
  exact ⟨_, rfl, _, _, _, [], _, [], hW', trodAll_mk1 (shut_bool Try.underlying4 _), (trodAll_cons_mk (Below.trod laidOut (by kernel_rfl) (of_decide_eq_true (by kernel_rfl)) k0 bel lt0) (trodAll_cons_mk (Below.trod laidOut (by kernel_rfl) (of_decide_eq_true (by kernel_rfl)) k1 bel lt1) trodAll_mk0)), rfl, bel.frame _, fun h => by cases h⟩

theorem over : Rows.cbpfRunsRow.holds Try.pinned (OpenSpec.ofChange Rows.cbpfRunsSpec) :=
  OpenClaim.holds_of_wide 5 Try.f5 rfl rfl rfl rfl rfl rfl rfl ⟨rfl, rfl, rfl, rfl, rfl⟩ rfl rfl rfl rfl rfl (by kernel_rfl) Try.func5 (by kernel_rfl)
    (of_decide_eq_true (by kernel_rfl)) (by unfold Func.isWrapper; first | (rw [if_pos (by decide +kernel)]; kernel_rfl) | (rw [if_neg (by decide +kernel)]; exact ⟨rfl, rfl⟩))
    (fun os started H enc _ => lifted os started H enc)

/-- The statement. -/
theorem proved : Rows.CbpfRunsSaid := over
end Go.Proofs.Ytlfbkalpnbjdjaa.cbpfRuns
