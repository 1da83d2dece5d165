/-
  'FlowNext': for every program and all places, the law of layer 10 on where instructions lead returns true, and leaves memory as it was. No condition.
-/
import Derived.Test.YtaphbcjehcnggaaFlowProg
import Derived.Test.YtaphbcjehcnggaaRowsSized
import Derived.Test.YtaphbcjehcnggaaCbpfArgs
namespace Go.Proofs.Ytaphbcjehcnggaa.flowNext
open Go Go.ChangeShapes Go.WideShapes Go.ChangeAt Go.RowKit
set_option linter.unusedSimpArgs false
set_option linter.unusedVariables false

/-- What stands while the law goes on: the argument, the lent program with its mark, the places. -/
structure St (w W : World) (a0 : Option Addr) (n : Nat) (q : Nat → Ins) (g : Nat) (a1 : Option Addr) (n1 : Nat) (z1 : List Int) : Prop where
  prog : ProgAt W a0 n q
  lent : ProgAt W (some ⟨g, 0, none⟩) n q
  mark : W.cell? ⟨g, n * 4, none⟩ = some (.int .u16 30583)
  plc : Holds W a1 n1 fun i => .int .i64 (z1.getD i 0)
  bel : Below w.heap.size w W
  lt : g < W.heap.size
theorem St.up {w W W' : World} {a0 : Option Addr} {n : Nat} {q : Nat → Ins} {g : Nat} {a1 : Option Addr} {n1 : Nat} {z1 : List Int} (h : St w W a0 n q g a1 n1 z1) (hb : Below W.heap.size W W') : St w W' a0 n q g a1 n1 z1 :=
  ⟨h.prog.below hb, h.lent.below hb, (hb.cell (p := ⟨g, n * 4, none⟩) h.lt).trans h.mark, h.plc.below hb, h.bel.trans (hb.mono h.bel.size), Nat.lt_of_lt_of_le h.lt hb.size⟩
theorem same_ints {w : World} {A B : Option Addr} {l : List Nat} {ca cb : Nat} (ha : IntsAt w A l) (hb : IntsAt w B l) (hn : l.length ≤ 2) : Calls Try.prog 11 #[.slice A l.length ca, .slice B l.length cb] w fun e w' => e = .returned (.bool true) ∧ Below w.heap.size w w' := by
  refine (l_numbers ha hb (by omega)).mono fun e w' h => ?_
  rw [eqN_true rfl (fun i _ => rfl)] at h
  exact h
set_option maxHeartbeats 1000000 in
theorem walk (a0 : Option Addr) (len0 cap0 : Nat) (a1 : Option Addr) (len1 cap1 : Nat) (z1 : List Int) (w : World) (w0 : RowsOf [.u16, .u8, .u8, .u32] w a0 len0) (s0 : len0 * 8 ≤ 140737488351232) (w1 : IsRow .i64 w a1 len1 cap1 z1 ∧ cap1 * 8 ≤ 140737488351232) :
    Calls Try.prog 3 #[.slice a0 len0 cap0, .slice a1 len1 cap1] w fun e w' => e = .returned (.bool true) ∧ Below w.heap.size w w' := by
  obtain ⟨q, hp, ho⟩ := prog_of_rows w0
  have hlen1 : len1 ≤ 17592186043904 := by
    have h2 := w1.2
    rcases w1.1 with ⟨_, h, _⟩ | ⟨_, _, h, _⟩
    · omega
    · omega
  have HP := Lib.hid (And.intro hp (holds_of_isRow w1.1))
  have HO := Lib.hid ho
  have hn : len0 ≤ 17592186044416 := by omega
  have HPN := Lib.hid (fun V g hV at_ => p_Next10 (w := V) (A := some ⟨g, 0, none⟩) len0 hV ho hn at_)
  clear w0 w1 hp ho
  go_enter Try.func3, Try.ntmps3
  go_wp2_with (first
    | (go_at_call 8; (with_reducible refine (l_head10 _).mono ?_); rintro e w1 ⟨rfl, hb⟩; have HB1 := Lib.hid hb; have HP1 := Lib.hid (And.intro (HP.out.1.below hb) (HP.out.2.below hb)); clear hb HP)
    | (go_at_call 9; (with_reducible refine (lent_is _ _ _ _ q s0 HP1.out.1).mono ?_); rintro e w2 ⟨g, capx, rfl, hlent⟩; obtain ⟨F, hr, hc, hm, hF, h77, hb, hge⟩ := hlent; have HT := Lib.hid (show St w w2 a0 len0 q g a1 len1 z1 from ⟨HP1.out.1.below hb, prog_of_row hr hF (by omega), (World.rowIs.cell hr (by omega)).trans (congrArg some h77), HP1.out.2.below hb, HB1.out.trans (hb.mono HB1.out.size), World.rowIs.lt hr⟩); clear hr hF h77 hb hge HP1 HB1))
  go_loopw [7] (fun i wr => ∃ k : Nat, k ≤ len1 ∧ i = .int .i64 (k : Int) ∧ St w wr a0 len0 q g a1 len1 z1) (fun i _ => len1 - (intOf i).toNat)
  case atStart => exact ⟨0, by omega, rfl, HT.out⟩
  case round =>
    obtain ⟨k, hk, rfl, hT⟩ := hrel
    have HR := Lib.hid hT
    clear HT
    by_cases hlt : k < len1
    · have hlt' : (k : Int) < (len1 : Int) := by omega
      have hw1 : IntKind.i64.wrap ((k : Int) + 1) = ((k + 1 : Nat) : Int) := by rw [IntWalk.i64_in _ (by omega)]; omega
      obtain ⟨b1, o1, rfl, hbl, hc1⟩ := hT.plc (by omega)
      have g1 : wr.cell? ⟨b1, o1 + k, none⟩ = some (.int .i64 (z1.getD k 0)) := hc1 k hlt
      clear hT hc1
      generalize z1.getD k 0 = at_ at g1
      have HN1 := Lib.hid (p_Next10 (A := some ⟨g, 0, none⟩) capx HR.out.lent HO.out hn at_)
      have HN2 := Lib.hid (fun V (hV : ProgAt V a0 len0 q) => r_Next cap0 hV HO.out hn at_)
      have hl2 : (nextZ q len0 at_).length ≤ 2 := by unfold nextZ; split; exact next_len _; exact Nat.zero_le _
      generalize nextZ q len0 at_ = l at HN1 HN2 hl2
      go_wp2_with (first
        | (go_at_call 11; (with_reducible refine (same_ints H3.out.1 H3.out.2.1 hl2).mono ?_); rintro e w5 ⟨rfl, hb⟩; have H5 := Lib.hid (H3.out.2.2.up hb); clear hb)
        | (go_at_call 12; (with_reducible refine (HN2.out _ H2.out.2.prog).mono ?_); rintro e w4 ⟨A3, c3, rfl, hi, _, hb⟩; have H3 := Lib.hid (And.intro (show IntsAt w4 A2 l from H2.out.1.below hb) (And.intro (show IntsAt w4 A3 l from hi) (H2.out.2.up hb))); clear hi hb)
        | (go_at_call 10; (with_reducible refine HN1.out.mono ?_); rintro e w3 ⟨A2, c2, rfl, hi, hb⟩; have H2 := Lib.hid (And.intro hi (HR.out.up hb)); have g2 := (hb.cell (p := ⟨b1, o1 + k, none⟩) hbl).trans g1; clear hi hb))
      exact ⟨⟨k + 1, by omega, by go_num, H5.out⟩, by simp [intOf]; omega⟩
    · obtain rfl : len1 = k := by omega
      clear hT
      go_wp2_with (go_at_call 13; (with_reducible refine (kept_is _ _ _ _ _ _ q s0 hc HR.out.lent HR.out.mark HR.out.prog).mono ?_); rintro e w5 ⟨rfl, m, rfl⟩)
      go_ret
      exact ⟨rfl, below_drawn HR.out.bel m⟩

/-! ### The row's step and the statement -/
set_option maxRecDepth 100000 in
theorem lifted (os : Os) (started : os.Started) (H : Type) (enc : TypeId × Value → H) :
    ReturnsInHanded {} Try.checked os 3 .any (Rows.flowNextSpec.pre6 enc Try.prog Try.f3 Rows.flowNextRow.domain false) (Rows.flowNextSpec.post enc Try.prog Try.f3 false true false false) := by
  refine returnsInHanded_of_change_sized (C := Try.checked) own started (by kernel_rfl) Try.func3
    (ChangeSpec.witness6 (enc := enc) (C := Try.checked) false ⟨#[], #[.slice none 0 0, .slice none 0 0], []⟩ 8 (by kernel_rfl) (by kernel_rfl) (by kernel_rfl) (by kernel_rfl)) ?_
  intro W base args ds gs before hval0 hW hcnd hsz0 _
  have hsz : (DataW.weightsEach Try.prog (Try.f3.params.toList ++ Rows.flowNextSpec.plain.varTypes Try.prog) (ds ++ gs)).all (· ≤ reachBytes) = true := hsz0
  clear hsz0
  have hval : ∀ (j : Nat) t v, Try.f3.params[j]? = some t → args[j]? = some v → Value.okWide Try.prog W .any base t v := hval0
  have hW' := hW
  obtain ⟨p, q, hA0, hV, rfl, hfz, hnd⟩ := hW
  have hA : DataW.TrodAll enc Try.prog W 0 (fun _ => true) true Try.f3.params.toList args.toList ds p := hA0
  rw [Try.params3] at hA hval hsz
  obtain ⟨v0, vs0, d0, ds0, p0, q0, hargs, rfl, rfl, h0, r0⟩ := trodAll_cons hA
  obtain ⟨v1, vs1, d1, ds1, p1, q1, rfl, rfl, rfl, h1, r1⟩ := trodAll_cons r0
  obtain ⟨rfl, rfl, rfl⟩ := trodAll_nil r1
  obtain rfl : args = #[v0, v1] := by cases args; simp_all
  obtain ⟨rfl, rfl⟩ := trodVars_none hV
  obtain ⟨a0, len0, cap0, rfl⟩ := okWide_slice Try.underlying22 (hval 0 22 v0 rfl rfl)
  have k0 := h0
  have lt0 : ∀ x ∈ p0, x.block < W.heap.size := by obtain ⟨m, hm⟩ := k0; exact DataW.trod_lt m _ _ _ hm
  have w0 : RowsOf [.u16, .u8, .u8, .u32] W a0 len0 := by
    obtain ⟨fuel, hf⟩ := h0
    rcases rows_fields Try.underlying22 Try.underlying56 (by kernel_rfl) (by kernel_rfl) hf with hcs | ⟨x, l, c, hcs, hl, hm, hi⟩
    · simp [Value.cells] at hcs
      obtain ⟨rfl, rfl, rfl⟩ := hcs
      exact .inl ⟨rfl, rfl⟩
    · simp [Value.cells] at hcs
      obtain ⟨rfl, rfl, rfl⟩ := hcs
      refine .inr ⟨_, rfl, Nat.le_trans hl hm, fun i hil j K hK => ?_⟩
      match j, hK with
      | 0, hK =>
        obtain ⟨v, y, n, hc, ht⟩ := hi i hil 0 _ rfl
        obtain ⟨z, e, _, wz⟩ := DataW.trod_int Try.underlying53 ht
        simp only [List.cons.injEq, and_true] at e; subst e
        obtain rfl := Option.some.inj hK
        exact ⟨z, hc, wz⟩
      | 1, hK =>
        obtain ⟨v, y, n, hc, ht⟩ := hi i hil 1 _ rfl
        obtain ⟨z, e, _, wz⟩ := DataW.trod_int Try.underlying5 ht
        simp only [List.cons.injEq, and_true] at e; subst e
        obtain rfl := Option.some.inj hK
        exact ⟨z, hc, wz⟩
      | 2, hK =>
        obtain ⟨v, y, n, hc, ht⟩ := hi i hil 2 _ rfl
        obtain ⟨z, e, _, wz⟩ := DataW.trod_int Try.underlying5 ht
        simp only [List.cons.injEq, and_true] at e; subst e
        obtain rfl := Option.some.inj hK
        exact ⟨z, hc, wz⟩
      | 3, hK =>
        obtain ⟨v, y, n, hc, ht⟩ := hi i hil 3 _ rfl
        obtain ⟨z, e, _, wz⟩ := DataW.trod_int Try.underlying54 ht
        simp only [List.cons.injEq, and_true] at e; subst e
        obtain rfl := Option.some.inj hK
        exact ⟨z, hc, wz⟩
      | _ + 4, hK => exact absurd hK (by simp)
  have s0 : len0 * 8 ≤ 140737488351232 := by
    obtain ⟨fuel, hf⟩ := h0
    rcases rows_sized Try.underlying22 hf with hcs | ⟨x, l, c, elems, rest, hcs, hd, hle⟩
    · simp [Value.cells] at hcs
      obtain ⟨rfl, rfl, rfl⟩ := hcs
      omega
    · simp [Value.cells] at hcs
      obtain ⟨rfl, rfl, rfl⟩ := hcs
      have hr := sized_slice hsz (j := 0) (t := 22) (e := 56) rfl (congrArg some hd) Try.underlying22
      rw [show Try.prog.bytesOf 56 = 8 by kernel_rfl] at hr
      simp only [reachBytes] at hr
      have := Nat.mul_le_mul_right 8 hle
      omega
  obtain ⟨a1, len1, cap1, rfl⟩ := okWide_slice Try.underlying23 (hval 1 23 v1 rfl rfl)
  have k1 := h1
  have lt1 : ∀ x ∈ p1, x.block < W.heap.size := by obtain ⟨m, hm⟩ := k1; exact DataW.trod_lt m _ _ _ hm
  obtain ⟨z1, w1⟩ : ∃ zs, IsRow .i64 W a1 len1 cap1 zs ∧ cap1 * 8 ≤ 140737488351232 := by
    obtain ⟨fuel, hf⟩ := h1
    rcases open_ints Try.underlying23 Try.underlying3 (by kernel_rfl) hf with ⟨hcs, _⟩ | ⟨x, l, c, zs, hcs, _, hl, hm, hz, hx, hcell, hwz⟩
    · simp [Value.cells] at hcs
      obtain ⟨rfl, rfl, rfl⟩ := hcs
      exact ⟨[], ⟨.inl ⟨rfl, rfl, rfl, rfl⟩, by omega⟩⟩
    · simp [Value.cells] at hcs
      obtain ⟨rfl, rfl, rfl⟩ := hcs
      have hd : d1 = _ := congrArg Prod.fst hx
      have hr := sized_slice hsz (j := 1) (t := 23) (e := 3) rfl (congrArg some hd) Try.underlying23
      rw [show Try.prog.bytesOf 3 = 8 by kernel_rfl] at hr
      simp only [lits, List.length_map, List.length_take, List.length_drop, reachBytes] at hr
      have hzl : zs.length = _ := hz
      simp only [if_true] at hzl
      exact ⟨zs, ⟨.inr ⟨_, rfl, hl, hm, by simpa using hz, hcell, hwz⟩, by omega⟩⟩
  clear hA0 hval0
  refine (walk a0 len0 cap0 a1 len1 cap1 z1 W w0 s0 w1).mono fun e W' ⟨he, bel⟩ => ?_
  subst he
  exact ⟨_, rfl, _, _, _, [], _, [], hW', trodAll_mk1 (shut_bool Try.underlying4 _), (trodAll_cons_mk (Below.trod laidOut (by kernel_rfl) (of_decide_eq_true (by kernel_rfl)) k0 bel lt0) (trodAll_cons_mk (Below.trod laidOut (by kernel_rfl) (of_decide_eq_true (by kernel_rfl)) k1 bel lt1) trodAll_mk0)), rfl, bel.frame _, fun h => by cases h⟩

theorem over : Rows.flowNextRow.holds Try.pinned (OpenSpec.ofChange Rows.flowNextSpec) :=
  OpenClaim.holds_of_wide 3 Try.f3 rfl rfl rfl rfl rfl rfl rfl ⟨rfl, rfl, rfl, rfl, rfl⟩ rfl rfl rfl rfl rfl (by kernel_rfl) Try.func3 (by kernel_rfl)
    (of_decide_eq_true (by kernel_rfl)) (by unfold Func.isWrapper; first | (rw [if_pos (by decide +kernel)]; kernel_rfl) | (rw [if_neg (by decide +kernel)]; exact ⟨rfl, rfl⟩))
    (fun os started H enc _ => lifted os started H enc)

/-- The statement. -/
theorem proved : Rows.FlowNextSaid := over
end Go.Proofs.Ytaphbcjehcnggaa.flowNext
