/-
  'LowerSays': for every slice of nodes, any number of tests put ahead of them, and all data, a decision's program is accepted and answers what the decision answers, within five steps a node: the law of layer 9 returns true, and leaves memory as it was. No condition but the statement's own.
-/
import Derived.Test.YtgpjiflgocgolaaLowSay
import Derived.Test.YtgpjiflgocgolaaLowSame
import Derived.Test.YtgpjiflgocgolaaRowsSized
import Derived.OpenShut
namespace Go.Proofs.Ytgpjiflgocgolaa.lowerSays
open Go Go.ChangeShapes Go.WideShapes Go.ChangeAt Go.RowKit
set_option linter.unusedSimpArgs false
set_option linter.unusedVariables false

/-- A node that came in. -/
theorem node_at {W : World} {x : Addr} {i : Nat} {z0 : Bool} {z1 z2 z3 z4 z5 z6 z7 : Int} (c0 : W.cell? (x.add (i * 8 + 0)) = some (.bool z0)) (c1 : W.cell? (x.add (i * 8 + 1)) = some (.int .u32 z1)) (c2 : W.cell? (x.add (i * 8 + 2)) = some (.int .i64 z2)) (c3 : W.cell? (x.add (i * 8 + 3)) = some (.int .u32 z3)) (c4 : W.cell? (x.add (i * 8 + 4)) = some (.int .i64 z4)) (c5 : W.cell? (x.add (i * 8 + 5)) = some (.int .u32 z5)) (c6 : W.cell? (x.add (i * 8 + 6)) = some (.int .i64 z6)) (c7 : W.cell? (x.add (i * 8 + 7)) = some (.int .i64 z7))
    (f1 : (Lit.int .u32 z1).wf = true) (f3 : (Lit.int .u32 z3).wf = true) (f5 : (Lit.int .u32 z5).wf = true) : ∃ nd : Nd, NdB nd ∧ ∀ j u, (ndC nd)[j]? = some u → W.cell? (x.add (i * 8 + j)) = some u := by
  have g1 : 0 ≤ z1 ∧ z1 ≤ 4294967295 := by simpa [Lit.wf, IntKind.min, IntKind.max, IntKind.bits, IntKind.signed] using f1
  have g3 : 0 ≤ z3 ∧ z3 ≤ 4294967295 := by simpa [Lit.wf, IntKind.min, IntKind.max, IntKind.bits, IntKind.signed] using f3
  have g5 : 0 ≤ z5 ∧ z5 ≤ 4294967295 := by simpa [Lit.wf, IntKind.min, IntKind.max, IntKind.bits, IntKind.signed] using f5
  have e1 : ((z1.toNat : Nat) : Int) = z1 := by omega
  have e3 : ((z3.toNat : Nat) : Int) = z3 := by omega
  have e5 : ((z5.toNat : Nat) : Int) = z5 := by omega
  refine ⟨⟨z0, z1.toNat, z2, z3.toNat, z4, z5.toNat, z6, z7⟩, ⟨by show z1.toNat < 4294967296; omega, by show z3.toNat < 4294967296; omega, by show z5.toNat < 4294967296; omega⟩, fun j u hj => ?_⟩
  match j, hj with
  | 0, hj => obtain rfl := Option.some.inj hj; exact c0
  | 1, hj => obtain rfl := Option.some.inj hj; rw [e1]; exact c1
  | 2, hj => obtain rfl := Option.some.inj hj; exact c2
  | 3, hj => obtain rfl := Option.some.inj hj; rw [e3]; exact c3
  | 4, hj => obtain rfl := Option.some.inj hj; exact c4
  | 5, hj => obtain rfl := Option.some.inj hj; rw [e5]; exact c5
  | 6, hj => obtain rfl := Option.some.inj hj; exact c6
  | 7, hj => obtain rfl := Option.some.inj hj; exact c7
  | n + 8, hj => exact absurd (List.getElem?_eq_some_iff.1 hj).1 (by show ¬ n + 8 < 8; omega)
/-- Nodes that came in. -/
theorem nodes_at {W : World} {x : Addr} {l : Nat} (hl : l ≤ maxLen) (h : ∀ i, i < l → ∃ nd : Nd, NdB nd ∧ ∀ j u, (ndC nd)[j]? = some u → W.cell? (x.add (i * 8 + j)) = some u) : ∃ nd, NdAt W (some x) l nd ∧ ∀ i, i < l → NdB (nd i) := by
  have hc : ∃ f : Nat → Nd, ∀ i, i < l → NdB (f i) ∧ ∀ j u, (ndC (f i))[j]? = some u → W.cell? (x.add (i * 8 + j)) = some u :=
    ⟨fun i => if g : i < l then (h i g).choose else ⟨true, 0, 0, 0, 0, 0, 0, 0⟩, fun i g => by
      show NdB (if g : i < l then (h i g).choose else ⟨true, 0, 0, 0, 0, 0, 0, 0⟩) ∧ ∀ j u, (ndC (if g : i < l then (h i g).choose else ⟨true, 0, 0, 0, 0, 0, 0, 0⟩))[j]? = some u → _
      rw [dif_pos g]; exact (h i g).choose_spec⟩
  obtain ⟨f, hf⟩ := hc
  refine ⟨f, ⟨hl, fun hp => ?_⟩, fun i hi => (hf i hi).1⟩
  obtain ⟨b, off, spot⟩ := x
  have c0 := (hf 0 hp).2 0 _ rfl
  have hspot : spot = none := by simpa [Addr.add] using World.cell?_spot c0
  subst hspot
  rw [addr_add] at c0
  refine ⟨b, off, rfl, cell_lt c0, fun i hi j u hj => ?_⟩
  have := (hf i hi).2 j u hj
  rw [addr_add] at this
  rw [Nat.add_assoc]; exact this
set_option maxHeartbeats 4000000 in
set_option maxRecDepth 100000 in
theorem walk (a0 : Option Addr) (len0 cap0 : Nat) (nd0 : Nat → Nd) (a1 : Int) (l : List Dat) (D : Option Addr) (capd : Nat) (W : World) (w0 : NdAt W a0 len0 nd0 ∧ ∀ i, i < len0 → NdB (nd0 i)) (s0 : len0 * 56 ≤ 140737488351232) (w1 : (Lit.int .u16 a1).wf = true) (hl : DatsL W l D) (hlw : ∀ d ∈ l, DatW d) :
    Calls Try.prog 3 #[.slice a0 len0 cap0, .int .u16 a1, .slice D l.length capd] W fun e W' => e = .returned (.bool true) ∧ Below W.heap.size W W' := by
  have g1 : 0 ≤ a1 ∧ a1 ≤ 65535 := by simpa [Lit.wf, IntKind.min, IntKind.max, IntKind.bits, IntKind.signed] using w1
  obtain ⟨m, rfl⟩ : ∃ m : Nat, a1 = (m : Int) := ⟨a1.toNat, by omega⟩
  have HG := Lib.hid (fun V (hV : NdAt V a0 len0 nd0) => p_GrownP NdB (fun _ _ _ _ _ _ hm hk => ⟨by show (0 : Nat) < _; decide, hm, hk⟩) (fun _ _ _ _ _ _ _ _ _ _ h => ⟨h.word, h.mask, h.k⟩) (cap := cap0) hV w0.2 (by omega) m (by omega) ((l.length : Int) % 2 == 0))
  have H0 := Lib.hid (And.intro w0.1 hl)
  have HW := Lib.hid hlw
  have hlenl : l.length ≤ maxLen := hl.1
  unfold maxLen at hlenl
  clear w0 g1 w1 hl hlw
  go_enter Try.func3, Try.ntmps3
  go_upto_region 4 with (first
    | (go_at_call 6; (with_reducible refine (p_LEmit _ _ _ _ _ H2.out.1).mono ?_); rintro e w5 ⟨v5, rfl, ho5, hb5⟩; generalize hxe : emitR nd2 m2 = er at ho5 ⊢; obtain ⟨xs, ec⟩ := er; have H5 : Hid (SayAt W w5 A2 m2 nd2 l D _ v5 xs ∧ (∀ i, i < m2 → NdB (nd2 i)) ∧ emitR nd2 m2 = (xs, ec)) := Lib.hid ⟨⟨H2.out.1.below hb5, H2.out.2.2.1.below hb5, ho5, H2.out.2.2.2.trans (hb5.mono H2.out.2.2.2.size)⟩, H2.out.2.1, hxe⟩; clear ho5 hb5 hxe)
    | (go_at_call 5; (with_reducible refine (HG.out _ H1.out.1).mono ?_); rintro e w2 ⟨A2, m2, c2, nd2, rfl, hn2, hp2, hb2⟩; have H2 := Lib.hid (And.intro hn2 (And.intro hp2 (And.intro (H1.out.2.1.below hb2) (H1.out.2.2.trans (hb2.mono H1.out.2.2.size))))); clear hn2 hb2 hp2)
    | (go_at_call 4; (with_reducible refine (p_lives9 W).mono ?_); rintro e w1 ⟨rfl, hb1⟩; have H1 := Lib.hid (And.intro (H0.out.1.below hb1) (And.intro (H0.out.2.below hb1) hb1)); clear hb1))
  rcases emit_told H5.out.2.2 with ⟨hc, hec⟩ | ⟨hc, rfl⟩ | ⟨hc, rfl, rfl, hN⟩
  · have HC := Lib.hid (fun V hV => r_Check V A2 m2 c2 nd2 hV)
    rw [hc] at HC
    generalize (chkN nd2 m2).2 = cz at HC
    have H6 := Lib.hid H5.out.1
    clear H5 hc
    rcases hec with rfl | rfl | rfl
    · go_wp2_with (go_at_call 7; (with_reducible refine (HC.out _ H6.out.nodes).mono ?_); rintro e w6 ⟨rfl, hb6⟩; have H7 := Lib.hid (H6.out.up hb6); clear hb6)
      go_ret
      exact ⟨rfl, H7.out.below⟩
    · go_wp2_with (go_at_call 7; (with_reducible refine (HC.out _ H6.out.nodes).mono ?_); rintro e w6 ⟨rfl, hb6⟩; have H7 := Lib.hid (H6.out.up hb6); clear hb6)
      go_ret
      exact ⟨rfl, H7.out.below⟩
    · go_wp2_with (go_at_call 7; (with_reducible refine (HC.out _ H6.out.nodes).mono ?_); rintro e w6 ⟨rfl, hb6⟩; have H7 := Lib.hid (H6.out.up hb6); clear hb6)
      go_ret
      exact ⟨rfl, H7.out.below⟩
  · have HC := Lib.hid (fun V hV => r_Check V A2 m2 c2 nd2 hV)
    rw [hc] at HC
    generalize (chkN nd2 m2).2 = cz at HC
    have H6 := Lib.hid H5.out.1
    clear H5 hc
    go_wp2_with (go_at_call 7; (with_reducible refine (HC.out _ H6.out.nodes).mono ?_); rintro e w6 ⟨rfl, hb6⟩; have H7 := Lib.hid (H6.out.up hb6); clear hb6)
    go_ret
    exact ⟨rfl, H7.out.below⟩
  · obtain ⟨cp, hck⟩ := say_check hc H5.out.2.1 hN
    have HC := Lib.hid hck
    have HS := Lib.hid (fun d hd => say_both hc H5.out.2.1 hN d hd)
    have H6 := Lib.hid H5.out.1
    clear H5 hc hck hN
    generalize emitN nd2 (longN nd2 m2) m2 = xs at HC HS H6
    go_wp2_with (go_at_call 8; (with_reducible refine (HC.out _ _ _ H6.out.prog).mono ?_); rintro e w6 ⟨rfl, hb6⟩; have H7 := Lib.hid (H6.out.up hb6); clear hb6)
    clear HC HG H0 H1 H2
    go_loopw [15] (fun v wr => ∃ i : Nat, i ≤ l.length ∧ v = .int .i64 (i : Int) ∧ SayAt W wr A2 m2 nd2 l D w2.heap.size v5 xs) (fun v _ => l.length - (intOf v).toNat)
    case atStart => exact ⟨0, Nat.zero_le _, rfl, H7.out⟩
    case round =>
      obtain ⟨i, hi, rfl, hat⟩ := hrel
      have HA := Lib.hid hat
      by_cases hil : i < l.length
      · have hil' : (i : Int) < (l.length : Int) := by omega
        have hwi : IntKind.i64.wrap ((i : Int) + 1) = ((i + 1 : Nat) : Int) := by rw [IntWalk.i64_in _ (by omega)]; omega
        obtain ⟨tb, o, rfl⟩ := dats_form9 hat.dats hil
        obtain ⟨d, hd⟩ : ∃ d, l[i] = d := ⟨_, rfl⟩
        have hdw : DatW d := hd ▸ HW.out _ (List.getElem_mem hil)
        obtain ⟨c0, c1, c2_, c3, c4, c5, c6, c7, c8⟩ := dats_nine hat.dats hil hd
        have HD := Lib.hid hd
        obtain ⟨a, g, mm, ha, hg1, hg2, hm1, hm2, hrun, hvm⟩ := HS.out d hdw
        have HRUN : Hid (∀ V A cap, NdAt V A m2 nd2 → Calls Try.prog 9 #[.slice A m2 cap, .agg #[.int .u32 (d.nr : Int), .int .u32 (d.arch : Int), .int .u64 (d.ip : Int), .int .u64 (d.args 0 : Int), .int .u64 (d.args 1 : Int), .int .u64 (d.args 2 : Int), .int .u64 (d.args 3 : Int), .int .u64 (d.args 4 : Int), .int .u64 (d.args 5 : Int)]] V fun e w' => e = .returned (.tuple #[.int .u32 (a : Int), .int .i64 (g : Int), .int .i64 0]) ∧ Below V.heap.size V w') := Lib.hid hrun
        have HVM := Lib.hid hvm
        have HBY : Hid (∀ V, Calls Try.prog 11 #[.agg #[.int .u32 (d.nr : Int), .int .u32 (d.arch : Int), .int .u64 (d.ip : Int), .int .u64 (d.args 0 : Int), .int .u64 (d.args 1 : Int), .int .u64 (d.args 2 : Int), .int .u64 (d.args 3 : Int), .int .u64 (d.args 4 : Int), .int .u64 (d.args 5 : Int)]] V (MadeV V 64 (fun k => .int .u8 (dbyte d.nr d.arch d.ip (fun i => (d.args i : Int)) k)))) := Lib.hid (fun V => secdata_Bytes d.nr d.arch d.ip (fun i => (d.args i : Int)) ⟨by omega, by have := hdw.1; omega⟩ ⟨by omega, by have := hdw.2.1; omega⟩ ⟨by omega, by have := hdw.2.2.1; omega⟩ (fun i => ⟨by omega, by have := hdw.2.2.2 i; omega⟩) V)
        have hw5 : IntKind.i64.wrap (5 * (g : Int)) = 5 * (g : Int) := IntWalk.i64_in _ (by omega)
        have hgt : ¬ (5 * (g : Int) < (mm : Int)) := by omega
        clear hat hd hdw hrun hvm HS HW H7 H6 ha
        go_wp2_with (first
          | (go_at_call 10; (with_reducible refine (HVM.out _ _ _ _ _ HA8.out.prog HH8.out).mono ?_); rintro e w9 ⟨rfl, hb9⟩; have HA9 := Lib.hid (HA8.out.up hb9); clear hb9)
          | (go_at_call 11; (with_reducible refine (HBY.out _).mono ?_); rintro e w8 ⟨vb, rfl, hm8⟩; obtain ⟨gb, capb, rfl, hh8, hb8⟩ := made_bytes hm8; have HA8 := Lib.hid (HA7.out.up hb8); have HH8 := Lib.hid hh8; clear hm8 hh8 hb8)
          | (go_at_call 9; (with_reducible refine (HRUN.out _ _ _ HA.out.nodes).mono ?_); rintro e w7 ⟨rfl, hb7⟩; have HA7 := Lib.hid (HA.out.up hb7); clear c0 c1 c2_ c3 c4 c5 c6 c7 c8 hb7; obtain ⟨c0, c1, c2_, c3, c4, c5, c6, c7, c8⟩ := dats_nine HA7.out.dats hil HD.out))
        exact ⟨⟨i + 1, by omega, by go_num, HA9.out⟩, by simp [intOf]; omega⟩
      · have hil' : ¬ (i : Int) < (l.length : Int) := by omega
        go_wp2
        go_ret
        exact ⟨rfl, HA.out.below⟩

/-! ### The row's step and the statement -/
set_option maxRecDepth 100000 in
theorem lifted (os : Os) (started : os.Started) (H : Type) (enc : TypeId × Value → H) :
    ReturnsInHanded {} Try.checked os 3 .any (Rows.lowerSaysSpec.pre6 enc Try.prog Try.f3 Rows.lowerSaysRow.domain false) (Rows.lowerSaysSpec.post enc Try.prog Try.f3 false true false false) := by
  refine returnsInHanded_of_change_sized (C := Try.checked) own started (by kernel_rfl) Try.func3
    (ChangeSpec.witness6 (enc := enc) (C := Try.checked) false ⟨#[], #[.slice none 0 0, .int .u16 0, .slice none 0 0], []⟩ 8 (by kernel_rfl) (by kernel_rfl) (by kernel_rfl) (by kernel_rfl)) ?_
  intro W base args ds gs before hval0 hW hcnd hsz0 _
  have hsz : (DataW.weightsEach Try.prog (Try.f3.params.toList ++ Rows.lowerSaysSpec.plain.varTypes Try.prog) (ds ++ gs)).all (· ≤ reachBytes) = true := hsz0
  clear hsz0
  have hval : ∀ (j : Nat) t v, Try.f3.params[j]? = some t → args[j]? = some v → Value.okWide Try.prog W .any base t v := hval0
  have hW' := hW
  obtain ⟨p, q, hA0, hV, rfl, hfz, hnd⟩ := hW
  have hA : DataW.TrodAll enc Try.prog W 0 (fun _ => true) true Try.f3.params.toList args.toList ds p := hA0
  rw [Try.params3] at hA hval hsz
  obtain ⟨v0, vs0, d0, ds0, p0, q0, hargs, rfl, rfl, h0, r0⟩ := trodAll_cons hA
  obtain ⟨v1, vs1, d1, ds1, p1, q1, rfl, rfl, rfl, h1, r1⟩ := trodAll_cons r0
  obtain ⟨v2, vs2, d2, ds2, p2, q2, rfl, rfl, rfl, h2, r2⟩ := trodAll_cons r1
  obtain ⟨rfl, rfl, rfl⟩ := trodAll_nil r2
  obtain rfl : args = #[v0, v1, v2] := by cases args; simp_all
  obtain ⟨rfl, rfl⟩ := trodVars_none hV
  obtain ⟨a0, len0, cap0, rfl⟩ := okWide_slice Try.underlying22 (hval 0 22 v0 rfl rfl)
  have k0 := h0
  have lt0 : ∀ x ∈ p0, x.block < W.heap.size := by obtain ⟨m, hm⟩ := k0; exact DataW.trod_lt m _ _ _ hm
  obtain ⟨nd0, w0⟩ : ∃ nd, NdAt W a0 len0 nd ∧ ∀ i, i < len0 → NdB (nd i) := by
    obtain ⟨fuel, hf⟩ := h0
    rcases rows_fields Try.underlying22 Try.underlying48 (by kernel_rfl) (by kernel_rfl) hf with hcs | ⟨x, l, c, hcs, hl, hm, hi⟩
    · simp [Value.cells] at hcs
      obtain ⟨rfl, rfl, rfl⟩ := hcs
      exact ⟨fun _ => ⟨true, 0, 0, 0, 0, 0, 0, 0⟩, ⟨by unfold maxLen; omega, fun h => absurd h (by omega)⟩, fun i hi => absurd hi (by omega)⟩
    · simp [Value.cells] at hcs
      obtain ⟨rfl, rfl, rfl⟩ := hcs
      refine nodes_at (Nat.le_trans hl hm) (fun i hil => ?_)
      obtain ⟨v0_, y0_, m0_, c0_, t0_⟩ := hi i hil 0 _ rfl
      obtain ⟨z0_, e0_, _⟩ := DataW.trod_bool Try.underlying4 t0_
      simp only [List.cons.injEq, and_true] at e0_; subst e0_
      obtain ⟨v1_, y1_, m1_, c1_, t1_⟩ := hi i hil 1 _ rfl
      obtain ⟨z1_, e1_, _, f1_⟩ := DataW.trod_int Try.underlying34 t1_
      simp only [List.cons.injEq, and_true] at e1_; subst e1_
      obtain ⟨v2_, y2_, m2_, c2_, t2_⟩ := hi i hil 2 _ rfl
      obtain ⟨z2_, e2_, _, f2_⟩ := DataW.trod_int Try.underlying3 t2_
      simp only [List.cons.injEq, and_true] at e2_; subst e2_
      obtain ⟨v3_, y3_, m3_, c3_, t3_⟩ := hi i hil 3 _ rfl
      obtain ⟨z3_, e3_, _, f3_⟩ := DataW.trod_int Try.underlying34 t3_
      simp only [List.cons.injEq, and_true] at e3_; subst e3_
      obtain ⟨v4_, y4_, m4_, c4_, t4_⟩ := hi i hil 4 _ rfl
      obtain ⟨z4_, e4_, _, f4_⟩ := DataW.trod_int Try.underlying46 t4_
      simp only [List.cons.injEq, and_true] at e4_; subst e4_
      obtain ⟨v5_, y5_, m5_, c5_, t5_⟩ := hi i hil 5 _ rfl
      obtain ⟨z5_, e5_, _, f5_⟩ := DataW.trod_int Try.underlying34 t5_
      simp only [List.cons.injEq, and_true] at e5_; subst e5_
      obtain ⟨v6_, y6_, m6_, c6_, t6_⟩ := hi i hil 6 _ rfl
      obtain ⟨z6_, e6_, _, f6_⟩ := DataW.trod_int Try.underlying3 t6_
      simp only [List.cons.injEq, and_true] at e6_; subst e6_
      obtain ⟨v7_, y7_, m7_, c7_, t7_⟩ := hi i hil 7 _ rfl
      obtain ⟨z7_, e7_, _, f7_⟩ := DataW.trod_int Try.underlying3 t7_
      simp only [List.cons.injEq, and_true] at e7_; subst e7_
      exact node_at c0_ c1_ c2_ c3_ c4_ c5_ c6_ c7_ f1_ f3_ f5_
  have s0 : len0 * 56 ≤ 140737488351232 := by
    obtain ⟨fuel, hf⟩ := h0
    rcases rows_sized Try.underlying22 hf with hcs | ⟨x, l, c, elems, rest, hcs, hd, hle⟩
    · simp [Value.cells] at hcs
      obtain ⟨rfl, rfl, rfl⟩ := hcs
      omega
    · simp [Value.cells] at hcs
      obtain ⟨rfl, rfl, rfl⟩ := hcs
      have hr := sized_slice hsz (j := 0) (t := 22) (e := 48) rfl (congrArg some hd) Try.underlying22
      rw [show Try.prog.bytesOf 48 = 56 by kernel_rfl] at hr
      simp only [reachBytes] at hr
      have := Nat.mul_le_mul_right 56 hle
      omega
  obtain ⟨a1, rfl, rfl, rfl, w1⟩ := open_int Try.underlying23 (hval 1 23 v1 rfl rfl) h1
  have k2 := h2
  have lt2 : ∀ x ∈ p2, x.block < W.heap.size := by obtain ⟨m, hm⟩ := k2; exact DataW.trod_lt m _ _ _ hm
  obtain ⟨q2, a2, cap2, rfl, w2, ww2⟩ := open_dats (hval 2 24 v2 rfl rfl) h2
  clear hA0 hval0
  refine (walk a0 len0 cap0 nd0 a1 q2 a2 cap2 W w0 s0 w1 w2 ww2).mono fun e W' ⟨he, bel⟩ => ?_
  subst he
  exact ⟨_, rfl, _, _, _, [], _, [], hW', trodAll_mk1 (shut_bool Try.underlying4 _), (trodAll_cons_mk (Below.trod laidOut (by kernel_rfl) (of_decide_eq_true (by kernel_rfl)) k0 bel lt0) (trodAll_cons_mk (shut_int Try.underlying23 w1) (trodAll_cons_mk (Below.trod laidOut (by kernel_rfl) (of_decide_eq_true (by kernel_rfl)) k2 bel lt2) trodAll_mk0))), rfl, bel.frame _, fun h => by cases h⟩

theorem over : Rows.lowerSaysRow.holds Try.pinned (OpenSpec.ofChange Rows.lowerSaysSpec) :=
  OpenClaim.holds_of_wide 3 Try.f3 rfl rfl rfl rfl rfl rfl rfl ⟨rfl, rfl, rfl, rfl, rfl⟩ rfl rfl rfl rfl rfl (by kernel_rfl) Try.func3 (by kernel_rfl)
    (of_decide_eq_true (by kernel_rfl)) (by unfold Func.isWrapper; first | (rw [if_pos (by decide +kernel)]; kernel_rfl) | (rw [if_neg (by decide +kernel)]; exact ⟨rfl, rfl⟩))
    (fun os started H enc _ => lifted os started H enc)

/-- The statement. -/
theorem proved : Rows.LowerSaysSaid := over
end Go.Proofs.Ytgpjiflgocgolaa.lowerSays
