/-
  'FlowRest': for every program, and what is left of it behind any number of its instructions, the law of layer 10 returns true, and leaves memory as it was. No condition.
-/
import Derived.Test.YtaphbcjehcnggaaFlowProg
import Derived.Test.YtaphbcjehcnggaaRowsSized
import Derived.Test.YtaphbcjehcnggaaCbpfArgs
namespace Go.Proofs.Ytaphbcjehcnggaa.flowRest
open Go Go.ChangeShapes Go.WideShapes Go.ChangeAt Go.RowKit
set_option linter.unusedSimpArgs false
set_option linter.unusedVariables false

theorem next_shift (q : Nat → Ins) {n k p : Nat} (h : p + k < n) : nextF10 q n (p + k) = (nextF10 (fun i => q (k + i)) (n - k) p).map (· + k) := by
  unfold nextF10
  rw [if_pos h, if_pos (by omega)]
  show List.filter _ (candF n (q (p + k)) (p + k)) = List.map _ (List.filter _ (candF (n - k) (q (k + p)) p))
  rw [Nat.add_comm k p]
  generalize q (p + k) = x
  have one : ∀ y, (([p + k + y] : List Nat).filter fun j => decide (j < n)) = ((([p + y] : List Nat).filter fun j => decide (j < n - k)).map (· + k)) := fun y => by
    by_cases g : p + k + y < n
    · rw [List.filter_cons, if_pos (by simpa using g), List.filter_cons, if_pos (by simp; omega)]
      simp; omega
    · rw [List.filter_cons, if_neg (by simpa using g), List.filter_cons, if_neg (by simp; omega)]; rfl
  have two : ∀ y z, (([p + k + y, p + k + z] : List Nat).filter fun j => decide (j < n)) = ((([p + y, p + z] : List Nat).filter fun j => decide (j < n - k)).map (· + k)) := fun y z => by
    have e1 : ([p + k + y, p + k + z] : List Nat) = [p + k + y] ++ [p + k + z] := rfl
    have e2 : ([p + y, p + z] : List Nat) = [p + y] ++ [p + z] := rfl
    rw [e1, e2, List.filter_append, List.filter_append, List.map_append, one, one]
  unfold candF
  split
  · rfl
  · split
    · by_cases g : x.k.toNat < n - k
      · rw [if_pos (by omega), if_pos g]
        have := one (1 + x.k.toNat)
        rwa [show p + k + (1 + x.k.toNat) = p + k + 1 + x.k.toNat by omega, show p + (1 + x.k.toNat) = p + 1 + x.k.toNat by omega] at this
      · rw [if_neg g]
        split
        · rw [List.filter_cons, if_neg (by simp; omega)]; rfl
        · rfl
    · split
      · split
        · have := one (1 + x.jt)
          rwa [show p + k + (1 + x.jt) = p + k + 1 + x.jt by omega, show p + (1 + x.jt) = p + 1 + x.jt by omega] at this
        · have := two (1 + x.jt) (1 + x.jf)
          rwa [show p + k + (1 + x.jt) = p + k + 1 + x.jt by omega, show p + (1 + x.jt) = p + 1 + x.jt by omega, show p + k + (1 + x.jf) = p + k + 1 + x.jf by omega, show p + (1 + x.jf) = p + 1 + x.jf by omega] at this
      · exact one 1
theorem prog_from {w : World} {A : Option Addr} {n k : Nat} {q : Nat → Ins} (h : ProgAt w A n q) (A' : Option Addr) (hA : ∀ qb qo, A = some ⟨qb, qo, none⟩ → A' = some ⟨qb, qo + k * 4, none⟩) : ProgAt w A' (n - k) (fun i => q (k + i)) := fun hn => by
  obtain ⟨qb, qo, rfl, hl, hc⟩ := h (by omega)
  refine ⟨qb, qo + k * 4, hA _ _ rfl, hl, fun i hi => ?_⟩
  have := hc (k + i) (by omega)
  rwa [show qo + (k + i) * 4 = qo + k * 4 + i * 4 by omega] at this
set_option maxHeartbeats 1000000 in
theorem walk (a0 : Option Addr) (len0 cap0 : Nat) (a1 a2 : Int) (w : World) (w0 : RowsOf [.u16, .u8, .u8, .u32] w a0 len0) (s0 : len0 * 8 ≤ 140737488351232) (c0 : len0 ≤ cap0) (w1 : (Lit.int .i64 a1).wf = true) (w2 : (Lit.int .i64 a2).wf = true) :
    Calls Try.prog 7 #[.slice a0 len0 cap0, .int .i64 a1, .int .i64 a2] w fun e w' => e = .returned (.bool true) ∧ Below w.heap.size w w' := by
  obtain ⟨q, hp, ho⟩ := prog_of_rows w0
  clear w0
  have hb1 : -9223372036854775808 ≤ a1 ∧ a1 ≤ 9223372036854775807 := by simpa [Lit.wf, IntKind.min, IntKind.max, IntKind.bits, IntKind.signed] using w1
  have hb2 : -9223372036854775808 ≤ a2 ∧ a2 ≤ 9223372036854775807 := by simpa [Lit.wf, IntKind.min, IntKind.max, IntKind.bits, IntKind.signed] using w2
  clear w1 w2
  have hn : len0 ≤ 17592186044416 := by omega
  by_cases h1 : a1 < 0
  · clear hp ho
    go_enter Try.func7, Try.ntmps7
    go_wp2_with (go_at_call 8; (with_reducible refine (l_head10 _).mono ?_); rintro e w1 ⟨rfl, hb⟩; have HB1 := Lib.hid hb; clear hb)
    go_ret
    exact ⟨rfl, HB1.out⟩
  have h1' : 0 ≤ a1 := by omega
  by_cases h2 : (len0 : Int) < a1
  · clear hp ho
    go_enter Try.func7, Try.ntmps7
    go_wp2_with (go_at_call 8; (with_reducible refine (l_head10 _).mono ?_); rintro e w1 ⟨rfl, hb⟩; have HB1 := Lib.hid hb; clear hb)
    go_ret
    exact ⟨rfl, HB1.out⟩
  by_cases h3 : a2 < 0
  · clear hp ho
    go_enter Try.func7, Try.ntmps7
    go_wp2_with (go_at_call 8; (with_reducible refine (l_head10 _).mono ?_); rintro e w1 ⟨rfl, hb⟩; have HB1 := Lib.hid hb; clear hb)
    go_ret
    exact ⟨rfl, HB1.out⟩
  have h3' : 0 ≤ a2 := by omega
  have hw0 : IntKind.i64.wrap ((len0 : Int) - a1) = (len0 : Int) - a1 := IntWalk.i64_in _ (by omega)
  by_cases h4 : (len0 : Int) - a1 ≤ a2
  · clear hp ho
    go_enter Try.func7, Try.ntmps7
    go_wp2_with (go_at_call 8; (with_reducible refine (l_head10 _).mono ?_); rintro e w1 ⟨rfl, hb⟩; have HB1 := Lib.hid hb; clear hb)
    go_ret
    exact ⟨rfl, HB1.out⟩
  obtain ⟨k, rfl⟩ : ∃ k : Nat, a1 = (k : Int) := ⟨a1.toNat, by omega⟩
  obtain ⟨p, rfl⟩ : ∃ p : Nat, a2 = (p : Int) := ⟨a2.toNat, by omega⟩
  have hpk : p + k < len0 := by omega
  obtain ⟨qb, qo, rfl, hl, _⟩ := hp (by omega)
  have HP := Lib.hid hp
  have g4 : ¬ cap0 = k := by omega
  have g5 : k ≤ len0 := by omega
  have g6 : (k : Int) ≤ (len0 : Int) := by omega
  have g7 : (k : Int) ≤ (cap0 : Int) := by omega
  have g8 : (len0 : Int) ≤ (cap0 : Int) := by omega
  have hwa : IntKind.i64.wrap ((p : Int) + (k : Int)) = (p : Int) + (k : Int) := IntWalk.i64_in _ (by omega)
  have hs := next_shift q hpk
  obtain ⟨l, hl1⟩ : ∃ l, l = nextF10 (fun i => q (k + i)) (len0 - k) p := ⟨_, rfl⟩
  obtain ⟨m, hm⟩ : ∃ m, m = nextF10 q len0 (p + k) := ⟨_, rfl⟩
  have hlen : m.length = l.length := by rw [hm, hs, List.length_map, hl1]
  have hlen2 : l.length ≤ 2 := by rw [hl1]; exact next_len p
  have HG : Hid (∀ i, i < l.length → m.getD i 0 = l.getD i 0 + k ∧ l.getD i 0 < len0) := Lib.hid (fun i hi => by
    rw [hm, hs, ← hl1]
    rw [List.getD_eq_getElem?_getD, List.getD_eq_getElem?_getD, List.getElem?_map, List.getElem?_eq_getElem hi]
    refine ⟨rfl, ?_⟩
    have hin : l[i] ∈ nextF10 (fun i => q (k + i)) (len0 - k) p := by rw [← hl1]; exact List.getElem_mem hi
    have := (next_in hin).2.1
    show l[i] < len0
    omega)
  have HN1 : Hid (∀ V, ProgAt V (some ⟨qb, qo, none⟩) len0 q → ∀ cap, Calls Try.prog 10 #[.slice (some ⟨qb, qo, none⟩) len0 cap, .int .i64 ((p : Int) + (k : Int))] V fun e w' => ∃ A' c, e = .returned (.slice A' l.length c) ∧ IntsAt w' A' m ∧ Below V.heap.size V w') := Lib.hid (fun V hV cap => by
    have := p_Next10 cap hV ho hn ((p + k : Nat) : Int)
    rw [next_z, ← hm, hlen, Int.natCast_add] at this
    exact this)
  have HN2 : Hid (∀ V, ProgAt V (some ⟨qb, qo, none⟩) len0 q → ∀ cap, Calls Try.prog 10 #[.slice (some ⟨qb, qo + k * 4, none⟩) (len0 - k) cap, .int .i64 (p : Int)] V fun e w' => ∃ A' c, e = .returned (.slice A' l.length c) ∧ IntsAt w' A' l ∧ Below V.heap.size V w') := Lib.hid (fun V hV cap => by
    have := p_Next10 cap (prog_from hV (some ⟨qb, qo + k * 4, none⟩) (fun qb' qo' e => by injection e with e; injection e with e1 e2; subst e1; subst e2; rfl)) (fun i hi => ho (k + i) (by omega)) (by omega) (p : Int)
    rw [next_z, ← hl1] at this
    exact this)
  have HLE := Lib.hid hlen
  clear hp ho hs hl1 hm hlen hl
  go_enter Try.func7, Try.ntmps7
  go_wp2_with (first
    | (go_at_call 10; (with_reducible refine (HN2.out _ H2.out.2.1 _).mono ?_); rintro e w3 ⟨A3, c3, rfl, hi, hb⟩; have H3 := Lib.hid (And.intro (show IntsAt w3 A2 m from H2.out.1.below hb) (And.intro (show IntsAt w3 A3 l from hi) (H2.out.2.2.trans (hb.mono H2.out.2.2.size)))); clear hi hb)
    | (go_at_call 10; (with_reducible refine (HN1.out _ HP1.out _).mono ?_); rintro e w2 ⟨A2, c2, rfl, hi, hb⟩; have H2 := Lib.hid (And.intro hi (And.intro (HP1.out.below hb) (HB1.out.trans (hb.mono HB1.out.size)))); clear hi hb)
    | (go_at_call 8; (with_reducible refine (l_head10 _).mono ?_); rintro e w1 ⟨rfl, hb⟩; have HB1 := Lib.hid hb; have HP1 := Lib.hid (HP.out.below hb); clear hb HP))
  go_loopw [10] (fun i wr => ∃ j : Nat, j ≤ l.length ∧ i = .int .i64 (j : Int) ∧ IntsAt wr A2 m ∧ IntsAt wr A3 l ∧ Below w.heap.size w wr) (fun i _ => l.length - (intOf i).toNat)
  case atStart => exact ⟨0, by omega, rfl, H3.out⟩
  case round =>
    obtain ⟨j, hj, rfl, hm, hl, hbl⟩ := hrel
    have HR := Lib.hid (And.intro hm (And.intro hl hbl))
    by_cases hlt : j < l.length
    · have hlt' : (j : Int) < (l.length : Int) := by omega
      have hw1 : IntKind.i64.wrap ((j : Int) + 1) = ((j + 1 : Nat) : Int) := by rw [IntWalk.i64_in _ (by omega)]; omega
      obtain ⟨b1, o1, rfl, _, e1⟩ := ints_cell hm (i := j) (by rw [HLE.out]; exact hlt)
      obtain ⟨b2, o2, rfl, _, e2⟩ := ints_cell hl hlt
      obtain ⟨g1, g2⟩ := HG.out j hlt
      rw [g1] at e1
      clear hm hl hbl g1
      generalize l.getD j 0 = y at e1 e2 g2
      have hw2 : IntKind.i64.wrap ((y : Int) + (k : Int)) = (y : Int) + (k : Int) := IntWalk.i64_in _ (by omega)
      have hne : ((y : Int) + (k : Int) != (y : Int) + (k : Int)) = false := bne_self_eq_false _
      rw [Int.natCast_add] at e1
      go_wp2
      go_quiet (fail)
      go_wp2
      exact ⟨⟨j + 1, by omega, by go_num, HR.out.1, HR.out.2.1, below_drawn HR.out.2.2 _⟩, by simp [intOf]; omega⟩
    · obtain rfl : l.length = j := by omega
      clear hm hl hbl
      go_wp2
      go_ret
      exact ⟨rfl, HR.out.2.2⟩

/-! ### The row's step and the statement -/
set_option maxRecDepth 100000 in
theorem lifted (os : Os) (started : os.Started) (H : Type) (enc : TypeId × Value → H) :
    ReturnsInHanded {} Try.checked os 7 .any (Rows.flowRestSpec.pre6 enc Try.prog Try.f7 Rows.flowRestRow.domain false) (Rows.flowRestSpec.post enc Try.prog Try.f7 false true false false) := by
  refine returnsInHanded_of_change_sized (C := Try.checked) own started (by kernel_rfl) Try.func7
    (ChangeSpec.witness6 (enc := enc) (C := Try.checked) false ⟨#[], #[.slice none 0 0, .int .i64 0, .int .i64 0], []⟩ 8 (by kernel_rfl) (by kernel_rfl) (by kernel_rfl) (by kernel_rfl)) ?_
  intro W base args ds gs before hval0 hW hcnd hsz0 _
  have hsz : (DataW.weightsEach Try.prog (Try.f7.params.toList ++ Rows.flowRestSpec.plain.varTypes Try.prog) (ds ++ gs)).all (· ≤ reachBytes) = true := hsz0
  clear hsz0
  have hval : ∀ (j : Nat) t v, Try.f7.params[j]? = some t → args[j]? = some v → Value.okWide Try.prog W .any base t v := hval0
  have hW' := hW
  obtain ⟨p, q, hA0, hV, rfl, hfz, hnd⟩ := hW
  have hA : DataW.TrodAll enc Try.prog W 0 (fun _ => true) true Try.f7.params.toList args.toList ds p := hA0
  rw [Try.params7] at hA hval hsz
  obtain ⟨v0, vs0, d0, ds0, p0, q0, hargs, rfl, rfl, h0, r0⟩ := trodAll_cons hA
  obtain ⟨v1, vs1, d1, ds1, p1, q1, rfl, rfl, rfl, h1, r1⟩ := trodAll_cons r0
  obtain ⟨v2, vs2, d2, ds2, p2, q2, rfl, rfl, rfl, h2, r2⟩ := trodAll_cons r1
  obtain ⟨rfl, rfl, rfl⟩ := trodAll_nil r2
  obtain rfl : args = #[v0, v1, v2] := by cases args; simp_all
  obtain ⟨rfl, rfl⟩ := trodVars_none hV
  obtain ⟨a0, len0, cap0, rfl⟩ := okWide_slice Try.underlying22 (hval 0 22 v0 rfl rfl)
  have k0 := h0
  have lt0 : ∀ x ∈ p0, x.block < W.heap.size := by obtain ⟨m, hm⟩ := k0; exact DataW.trod_lt m _ _ _ hm
  have w0 : RowsOf [.u16, .u8, .u8, .u32] W a0 len0 := by
    obtain ⟨fuel, hf⟩ := h0
    rcases rows_fields Try.underlying22 Try.underlying56 (by kernel_rfl) (by kernel_rfl) hf with hcs | ⟨x, l, c, hcs, hl, hm, hi⟩
    · simp [Value.cells] at hcs
      obtain ⟨rfl, rfl, rfl⟩ := hcs
      exact .inl ⟨rfl, rfl⟩
    · simp [Value.cells] at hcs
      obtain ⟨rfl, rfl, rfl⟩ := hcs
      refine .inr ⟨_, rfl, Nat.le_trans hl hm, fun i hil j K hK => ?_⟩
      match j, hK with
      | 0, hK =>
        obtain ⟨v, y, n, hc, ht⟩ := hi i hil 0 _ rfl
        obtain ⟨z, e, _, wz⟩ := DataW.trod_int Try.underlying53 ht
        simp only [List.cons.injEq, and_true] at e; subst e
        obtain rfl := Option.some.inj hK
        exact ⟨z, hc, wz⟩
      | 1, hK =>
        obtain ⟨v, y, n, hc, ht⟩ := hi i hil 1 _ rfl
        obtain ⟨z, e, _, wz⟩ := DataW.trod_int Try.underlying5 ht
        simp only [List.cons.injEq, and_true] at e; subst e
        obtain rfl := Option.some.inj hK
        exact ⟨z, hc, wz⟩
      | 2, hK =>
        obtain ⟨v, y, n, hc, ht⟩ := hi i hil 2 _ rfl
        obtain ⟨z, e, _, wz⟩ := DataW.trod_int Try.underlying5 ht
        simp only [List.cons.injEq, and_true] at e; subst e
        obtain rfl := Option.some.inj hK
        exact ⟨z, hc, wz⟩
      | 3, hK =>
        obtain ⟨v, y, n, hc, ht⟩ := hi i hil 3 _ rfl
        obtain ⟨z, e, _, wz⟩ := DataW.trod_int Try.underlying54 ht
        simp only [List.cons.injEq, and_true] at e; subst e
        obtain rfl := Option.some.inj hK
        exact ⟨z, hc, wz⟩
      | _ + 4, hK => exact absurd hK (by simp)
  have s0 : len0 * 8 ≤ 140737488351232 := by
    obtain ⟨fuel, hf⟩ := h0
    rcases rows_sized Try.underlying22 hf with hcs | ⟨x, l, c, elems, rest, hcs, hd, hle⟩
    · simp [Value.cells] at hcs
      obtain ⟨rfl, rfl, rfl⟩ := hcs
      omega
    · simp [Value.cells] at hcs
      obtain ⟨rfl, rfl, rfl⟩ := hcs
      have hr := sized_slice hsz (j := 0) (t := 22) (e := 56) rfl (congrArg some hd) Try.underlying22
      rw [show Try.prog.bytesOf 56 = 8 by kernel_rfl] at hr
      simp only [reachBytes] at hr
      have := Nat.mul_le_mul_right 8 hle
      omega
  have c0 : len0 ≤ cap0 := by
    obtain ⟨fuel, hf⟩ := h0
    rcases rows_fields Try.underlying22 Try.underlying56 (by kernel_rfl) (by kernel_rfl) hf with hcs | ⟨x, l, c, hcs, hl, hm, hi⟩
    · simp [Value.cells] at hcs
      obtain ⟨rfl, rfl, rfl⟩ := hcs
      exact Nat.le_refl _
    · simp [Value.cells] at hcs
      obtain ⟨rfl, rfl, rfl⟩ := hcs
      exact hl
  obtain ⟨a1, rfl, rfl, rfl, w1⟩ := open_int Try.underlying3 (hval 1 3 v1 rfl rfl) h1
  obtain ⟨a2, rfl, rfl, rfl, w2⟩ := open_int Try.underlying3 (hval 2 3 v2 rfl rfl) h2
  clear hA0 hval0
  refine (walk a0 len0 cap0 a1 a2 W w0 s0 c0 w1 w2).mono fun e W' ⟨he, bel⟩ => ?_
  subst he
  exact ⟨_, rfl, _, _, _, [], _, [], hW', trodAll_mk1 (shut_bool Try.underlying4 _), (trodAll_cons_mk (Below.trod laidOut (by kernel_rfl) (of_decide_eq_true (by kernel_rfl)) k0 bel lt0) (trodAll_cons_mk (shut_int Try.underlying3 w1) (trodAll_cons_mk (shut_int Try.underlying3 w2) trodAll_mk0))), rfl, bel.frame _, fun h => by cases h⟩

theorem over : Rows.flowRestRow.holds Try.pinned (OpenSpec.ofChange Rows.flowRestSpec) :=
  OpenClaim.holds_of_wide 7 Try.f7 rfl rfl rfl rfl rfl rfl rfl ⟨rfl, rfl, rfl, rfl, rfl⟩ rfl rfl rfl rfl rfl (by kernel_rfl) Try.func7 (by kernel_rfl)
    (of_decide_eq_true (by kernel_rfl)) (by unfold Func.isWrapper; first | (rw [if_pos (by decide +kernel)]; kernel_rfl) | (rw [if_neg (by decide +kernel)]; exact ⟨rfl, rfl⟩))
    (fun os started H enc _ => lifted os started H enc)

/-- The statement. -/
theorem proved : Rows.FlowRestSaid := over
end Go.Proofs.Ytaphbcjehcnggaa.flowRest
