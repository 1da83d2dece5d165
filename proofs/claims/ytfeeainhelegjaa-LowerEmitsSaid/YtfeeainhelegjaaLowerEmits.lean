/-
  'LowerEmits': for every slice of nodes, any number of tests put ahead of them, on either side, the law of layer 9 on programs returns true, and leaves memory as it was. No condition but the statement's own.
-/
import Derived.Test.YtfeeainhelegjaaLowSame
import Derived.Test.YtfeeainhelegjaaLowREmit
import Derived.Test.YtfeeainhelegjaaLowGrown
import Derived.Test.YtfeeainhelegjaaRowsSized
import Derived.OpenShut
namespace Go.Proofs.Ytfeeainhelegjaa.lowerEmits
open Go Go.ChangeShapes Go.WideShapes Go.ChangeAt Go.RowKit
set_option linter.unusedSimpArgs false
set_option linter.unusedVariables false

/-- A node that came in. -/
theorem node_at {W : World} {x : Addr} {i : Nat} {z0 : Bool} {z1 z2 z3 z4 z5 z6 z7 : Int} (c0 : W.cell? (x.add (i * 8 + 0)) = some (.bool z0)) (c1 : W.cell? (x.add (i * 8 + 1)) = some (.int .u32 z1)) (c2 : W.cell? (x.add (i * 8 + 2)) = some (.int .i64 z2)) (c3 : W.cell? (x.add (i * 8 + 3)) = some (.int .u32 z3)) (c4 : W.cell? (x.add (i * 8 + 4)) = some (.int .i64 z4)) (c5 : W.cell? (x.add (i * 8 + 5)) = some (.int .u32 z5)) (c6 : W.cell? (x.add (i * 8 + 6)) = some (.int .i64 z6)) (c7 : W.cell? (x.add (i * 8 + 7)) = some (.int .i64 z7))
    (f1 : (Lit.int .u32 z1).wf = true) (f3 : (Lit.int .u32 z3).wf = true) (f5 : (Lit.int .u32 z5).wf = true) : ∃ nd : Nd, ∀ j u, (ndC nd)[j]? = some u → W.cell? (x.add (i * 8 + j)) = some u := by
  have g1 : 0 ≤ z1 ∧ z1 ≤ 4294967295 := by simpa [Lit.wf, IntKind.min, IntKind.max, IntKind.bits, IntKind.signed] using f1
  have g3 : 0 ≤ z3 ∧ z3 ≤ 4294967295 := by simpa [Lit.wf, IntKind.min, IntKind.max, IntKind.bits, IntKind.signed] using f3
  have g5 : 0 ≤ z5 ∧ z5 ≤ 4294967295 := by simpa [Lit.wf, IntKind.min, IntKind.max, IntKind.bits, IntKind.signed] using f5
  have e1 : ((z1.toNat : Nat) : Int) = z1 := by omega
  have e3 : ((z3.toNat : Nat) : Int) = z3 := by omega
  have e5 : ((z5.toNat : Nat) : Int) = z5 := by omega
  refine ⟨⟨z0, z1.toNat, z2, z3.toNat, z4, z5.toNat, z6, z7⟩, fun j u hj => ?_⟩
  match j, hj with
  | 0, hj => obtain rfl := Option.some.inj hj; exact c0
  | 1, hj => obtain rfl := Option.some.inj hj; rw [e1]; exact c1
  | 2, hj => obtain rfl := Option.some.inj hj; exact c2
  | 3, hj => obtain rfl := Option.some.inj hj; rw [e3]; exact c3
  | 4, hj => obtain rfl := Option.some.inj hj; exact c4
  | 5, hj => obtain rfl := Option.some.inj hj; rw [e5]; exact c5
  | 6, hj => obtain rfl := Option.some.inj hj; exact c6
  | 7, hj => obtain rfl := Option.some.inj hj; exact c7
  | n + 8, hj => exact absurd (List.getElem?_eq_some_iff.1 hj).1 (by show ¬ n + 8 < 8; omega)
/-- Nodes that came in. -/
theorem nodes_at {W : World} {x : Addr} {l : Nat} (hl : l ≤ maxLen) (h : ∀ i, i < l → ∃ nd : Nd, ∀ j u, (ndC nd)[j]? = some u → W.cell? (x.add (i * 8 + j)) = some u) : ∃ nd, NdAt W (some x) l nd := by
  have hc : ∃ f : Nat → Nd, ∀ i, i < l → ∀ j u, (ndC (f i))[j]? = some u → W.cell? (x.add (i * 8 + j)) = some u :=
    ⟨fun i => if g : i < l then (h i g).choose else ⟨true, 0, 0, 0, 0, 0, 0, 0⟩, fun i g => by
      show ∀ j u, (ndC (if g : i < l then (h i g).choose else ⟨true, 0, 0, 0, 0, 0, 0, 0⟩))[j]? = some u → _
      rw [dif_pos g]; exact (h i g).choose_spec⟩
  obtain ⟨f, hf⟩ := hc
  refine ⟨f, hl, fun hp => ?_⟩
  obtain ⟨b, off, spot⟩ := x
  have c0 := hf 0 hp 0 _ rfl
  have hspot : spot = none := by simpa [Addr.add] using World.cell?_spot c0
  subst hspot
  rw [addr_add] at c0
  refine ⟨b, off, rfl, cell_lt c0, fun i hi j u hj => ?_⟩
  have := hf i hi j u hj
  rw [addr_add] at this
  rw [Nat.add_assoc]; exact this
theorem emit_few (nd : Nat → Nd) (n : Nat) : (emitR nd n).1.length ≤ 100000 := by
  unfold emitR
  split
  · split
    · exact Nat.zero_le _
    · rename_i g
      show (emitN nd (longN nd n) n).length ≤ 100000
      rw [emit_len]; omega
  · exact Nat.zero_le _
set_option maxHeartbeats 4000000 in
set_option maxRecDepth 100000 in
theorem walk (a0 : Option Addr) (len0 cap0 : Nat) (nd0 : Nat → Nd) (a1 : Int) (a2 : Bool) (W : World) (w0 : NdAt W a0 len0 nd0) (s0 : len0 * 56 ≤ 140737488351232) (w1 : (Lit.int .u16 a1).wf = true) :
    Calls Try.prog 3 #[.slice a0 len0 cap0, .int .u16 a1, .bool a2] W fun e W' => e = .returned (.bool true) ∧ Below W.heap.size W W' := by
  have g1 : 0 ≤ a1 ∧ a1 ≤ 65535 := by simpa [Lit.wf, IntKind.min, IntKind.max, IntKind.bits, IntKind.signed] using w1
  obtain ⟨m, rfl⟩ : ∃ m : Nat, a1 = (m : Int) := ⟨a1.toNat, by omega⟩
  have HG := Lib.hid (fun V (hV : NdAt V a0 len0 nd0) => p_Grown (cap := cap0) hV (by omega) m (by omega) a2)
  have H0 := Lib.hid w0
  clear w0 g1 w1
  go_enter Try.func3, Try.ntmps3
  go_wp2_with (first
    | (go_at_call 10; (refine (r_Same (own_below H5.out.1 H6.out.2.2) H6.out.1 (emit_few _ _)).mono ?_); rintro e w8 ⟨rfl, hb8⟩; have H8 := Lib.hid (H6.out.2.1.trans (hb8.mono H6.out.2.1.size)); clear hb8)
    | (go_at_call 9; (with_reducible refine (r_Emit _ _ _ _ _ H5.out.2.1).mono ?_); rintro e w6 ⟨v6, rfl, ho6, hb6⟩; have H6 := Lib.hid (And.intro ho6 (And.intro (H5.out.2.2.trans (hb6.mono H5.out.2.2.size)) hb6)); clear ho6 hb6)
    | (go_at_call 8; (with_reducible refine (p_LEmit _ _ _ _ _ H4.out.1).mono ?_); rintro e w5 ⟨v5, rfl, ho5, hb5⟩; have H5 := Lib.hid (And.intro ho5 (And.intro (H4.out.1.below hb5) (H4.out.2.trans (hb5.mono H4.out.2.size)))); clear ho5 hb5)
    | (go_at_call 7; (with_reducible refine (r_Size _ _ _ _ _ H3.out.1).mono ?_); rintro e w4 ⟨rfl, hb4⟩; have H4 := Lib.hid (And.intro (H3.out.1.below hb4) (H3.out.2.trans (hb4.mono H3.out.2.size))); clear hb4)
    | (go_at_call 6; (with_reducible refine (p_LSize _ _ _ _ _ H2.out.1).mono ?_); rintro e w3 ⟨rfl, hb3⟩; have H3 := Lib.hid (And.intro (H2.out.1.below hb3) (H2.out.2.trans (hb3.mono H2.out.2.size))); clear hb3)
    | (go_at_call 5; (with_reducible refine (HG.out _ H1.out.1).mono ?_); rintro e w2 ⟨A2, m2, c2, nd2, rfl, hn2, hb2⟩; have H2 := Lib.hid (And.intro hn2 (H1.out.2.trans (hb2.mono H1.out.2.size))); clear hn2 hb2)
    | (go_at_call 4; (with_reducible refine (p_lives9 W).mono ?_); rintro e w1 ⟨rfl, hb1⟩; have H1 := Lib.hid (And.intro (H0.out.below hb1) hb1); clear hb1))
  go_ret
  exact ⟨rfl, H8.out⟩

/-! ### The row's step and the statement -/
set_option maxRecDepth 100000 in
theorem lifted (os : Os) (started : os.Started) (H : Type) (enc : TypeId × Value → H) :
    ReturnsInHanded {} Try.checked os 3 .any (Rows.lowerEmitsSpec.pre6 enc Try.prog Try.f3 Rows.lowerEmitsRow.domain false) (Rows.lowerEmitsSpec.post enc Try.prog Try.f3 false true false false) := by
  refine returnsInHanded_of_change_sized (C := Try.checked) own started (by kernel_rfl) Try.func3
    (ChangeSpec.witness6 (enc := enc) (C := Try.checked) false ⟨#[], #[.slice none 0 0, .int .u16 0, .bool false], []⟩ 8 (by kernel_rfl) (by kernel_rfl) (by kernel_rfl) (by kernel_rfl)) ?_
  intro W base args ds gs before hval0 hW hcnd hsz0 _
  have hsz : (DataW.weightsEach Try.prog (Try.f3.params.toList ++ Rows.lowerEmitsSpec.plain.varTypes Try.prog) (ds ++ gs)).all (· ≤ reachBytes) = true := hsz0
  clear hsz0
  have hval : ∀ (j : Nat) t v, Try.f3.params[j]? = some t → args[j]? = some v → Value.okWide Try.prog W .any base t v := hval0
  have hW' := hW
  obtain ⟨p, q, hA0, hV, rfl, hfz, hnd⟩ := hW
  have hA : DataW.TrodAll enc Try.prog W 0 (fun _ => true) true Try.f3.params.toList args.toList ds p := hA0
  rw [Try.params3] at hA hval hsz
  obtain ⟨v0, vs0, d0, ds0, p0, q0, hargs, rfl, rfl, h0, r0⟩ := trodAll_cons hA
  obtain ⟨v1, vs1, d1, ds1, p1, q1, rfl, rfl, rfl, h1, r1⟩ := trodAll_cons r0
  obtain ⟨v2, vs2, d2, ds2, p2, q2, rfl, rfl, rfl, h2, r2⟩ := trodAll_cons r1
  obtain ⟨rfl, rfl, rfl⟩ := trodAll_nil r2
  obtain rfl : args = #[v0, v1, v2] := by cases args; simp_all
  obtain ⟨rfl, rfl⟩ := trodVars_none hV
  obtain ⟨a0, len0, cap0, rfl⟩ := okWide_slice Try.underlying22 (hval 0 22 v0 rfl rfl)
  have k0 := h0
  have lt0 : ∀ x ∈ p0, x.block < W.heap.size := by obtain ⟨m, hm⟩ := k0; exact DataW.trod_lt m _ _ _ hm
  obtain ⟨nd0, w0⟩ : ∃ nd, NdAt W a0 len0 nd := by
    obtain ⟨fuel, hf⟩ := h0
    rcases rows_fields Try.underlying22 Try.underlying37 (by kernel_rfl) (by kernel_rfl) hf with hcs | ⟨x, l, c, hcs, hl, hm, hi⟩
    · simp [Value.cells] at hcs
      obtain ⟨rfl, rfl, rfl⟩ := hcs
      exact ⟨fun _ => ⟨true, 0, 0, 0, 0, 0, 0, 0⟩, by unfold maxLen; omega, fun h => absurd h (by omega)⟩
    · simp [Value.cells] at hcs
      obtain ⟨rfl, rfl, rfl⟩ := hcs
      refine nodes_at (Nat.le_trans hl hm) (fun i hil => ?_)
      obtain ⟨v0_, y0_, m0_, c0_, t0_⟩ := hi i hil 0 _ rfl
      obtain ⟨z0_, e0_, _⟩ := DataW.trod_bool Try.underlying4 t0_
      simp only [List.cons.injEq, and_true] at e0_; subst e0_
      obtain ⟨v1_, y1_, m1_, c1_, t1_⟩ := hi i hil 1 _ rfl
      obtain ⟨z1_, e1_, _, f1_⟩ := DataW.trod_int Try.underlying34 t1_
      simp only [List.cons.injEq, and_true] at e1_; subst e1_
      obtain ⟨v2_, y2_, m2_, c2_, t2_⟩ := hi i hil 2 _ rfl
      obtain ⟨z2_, e2_, _, f2_⟩ := DataW.trod_int Try.underlying3 t2_
      simp only [List.cons.injEq, and_true] at e2_; subst e2_
      obtain ⟨v3_, y3_, m3_, c3_, t3_⟩ := hi i hil 3 _ rfl
      obtain ⟨z3_, e3_, _, f3_⟩ := DataW.trod_int Try.underlying34 t3_
      simp only [List.cons.injEq, and_true] at e3_; subst e3_
      obtain ⟨v4_, y4_, m4_, c4_, t4_⟩ := hi i hil 4 _ rfl
      obtain ⟨z4_, e4_, _, f4_⟩ := DataW.trod_int Try.underlying35 t4_
      simp only [List.cons.injEq, and_true] at e4_; subst e4_
      obtain ⟨v5_, y5_, m5_, c5_, t5_⟩ := hi i hil 5 _ rfl
      obtain ⟨z5_, e5_, _, f5_⟩ := DataW.trod_int Try.underlying34 t5_
      simp only [List.cons.injEq, and_true] at e5_; subst e5_
      obtain ⟨v6_, y6_, m6_, c6_, t6_⟩ := hi i hil 6 _ rfl
      obtain ⟨z6_, e6_, _, f6_⟩ := DataW.trod_int Try.underlying3 t6_
      simp only [List.cons.injEq, and_true] at e6_; subst e6_
      obtain ⟨v7_, y7_, m7_, c7_, t7_⟩ := hi i hil 7 _ rfl
      obtain ⟨z7_, e7_, _, f7_⟩ := DataW.trod_int Try.underlying3 t7_
      simp only [List.cons.injEq, and_true] at e7_; subst e7_
      exact node_at c0_ c1_ c2_ c3_ c4_ c5_ c6_ c7_ f1_ f3_ f5_
  have s0 : len0 * 56 ≤ 140737488351232 := by
    obtain ⟨fuel, hf⟩ := h0
    rcases rows_sized Try.underlying22 hf with hcs | ⟨x, l, c, elems, rest, hcs, hd, hle⟩
    · simp [Value.cells] at hcs
      obtain ⟨rfl, rfl, rfl⟩ := hcs
      omega
    · simp [Value.cells] at hcs
      obtain ⟨rfl, rfl, rfl⟩ := hcs
      have hr := sized_slice hsz (j := 0) (t := 22) (e := 37) rfl (congrArg some hd) Try.underlying22
      rw [show Try.prog.bytesOf 37 = 56 by kernel_rfl] at hr
      simp only [reachBytes] at hr
      have := Nat.mul_le_mul_right 56 hle
      omega
  obtain ⟨a1, rfl, rfl, rfl, w1⟩ := open_int Try.underlying23 (hval 1 23 v1 rfl rfl) h1
  obtain ⟨a2, rfl, rfl, rfl⟩ := open_bool Try.underlying4 (hval 2 4 v2 rfl rfl) h2
  clear hA0 hval0
  refine (walk a0 len0 cap0 nd0 a1 a2 W w0 s0 w1).mono fun e W' ⟨he, bel⟩ => ?_
  subst he
  exact ⟨_, rfl, _, _, _, [], _, [], hW', trodAll_mk1 (shut_bool Try.underlying4 _), (trodAll_cons_mk (Below.trod laidOut (by kernel_rfl) (of_decide_eq_true (by kernel_rfl)) k0 bel lt0) (trodAll_cons_mk (shut_int Try.underlying23 w1) (trodAll_cons_mk (shut_bool Try.underlying4 _) trodAll_mk0))), rfl, bel.frame _, fun h => by cases h⟩

theorem over : Rows.lowerEmitsRow.holds Try.pinned (OpenSpec.ofChange Rows.lowerEmitsSpec) :=
  OpenClaim.holds_of_wide 3 Try.f3 rfl rfl rfl rfl rfl rfl rfl ⟨rfl, rfl, rfl, rfl, rfl⟩ rfl rfl rfl rfl rfl (by kernel_rfl) Try.func3 (by kernel_rfl)
    (of_decide_eq_true (by kernel_rfl)) (by unfold Func.isWrapper; first | (rw [if_pos (by decide +kernel)]; kernel_rfl) | (rw [if_neg (by decide +kernel)]; exact ⟨rfl, rfl⟩))
    (fun os started H enc _ => lifted os started H enc)

/-- The statement. -/
theorem proved : Rows.LowerEmitsSaid := over
end Go.Proofs.Ytfeeainhelegjaa.lowerEmits
