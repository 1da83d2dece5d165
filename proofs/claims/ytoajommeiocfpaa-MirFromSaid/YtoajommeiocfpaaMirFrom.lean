/-
  'MirFrom': for every program, the law of layer 12 on From returns true, and leaves memory as it was. No condition.
-/
import Derived.Test.YtoajommeiocfpaaMirLaw
import Derived.Test.YtoajommeiocfpaaMirChk
import Derived.Test.YtoajommeiocfpaaMirCon
import Derived.Test.YtoajommeiocfpaaCbpfLent
import Derived.Test.YtoajommeiocfpaaCbpfArgs
import Derived.Test.YtoajommeiocfpaaRowsSized
namespace Go.Proofs.Ytoajommeiocfpaa.mirFrom
open Go Go.ChangeShapes Go.WideShapes Go.ChangeAt Go.RowKit
set_option linter.unusedSimpArgs false
set_option linter.unusedVariables false

/-- What stands while the law goes on: the argument, the lent program with its mark. -/
abbrev St (w W : World) (a0 : Option Addr) (n : Nat) (q : Nat → Ins) (g : Nat) : Prop :=
  ProgAt W a0 n q ∧ ProgAt W (some ⟨g, 0, none⟩) n q ∧ W.cell? ⟨g, n * 4, none⟩ = some (.int .u16 30583) ∧ Below w.heap.size w W ∧ g < W.heap.size
theorem st_below {w W W' : World} {a0 : Option Addr} {n : Nat} {q : Nat → Ins} {g : Nat} (h : St w W a0 n q g) (hb : Below W.heap.size W W') : St w W' a0 n q g :=
  ⟨h.1.below hb, h.2.1.below hb, (hb.cell (p := ⟨g, n * 4, none⟩) h.2.2.2.2).trans h.2.2.1, h.2.2.2.1.trans (hb.mono h.2.2.2.1.size), Nat.lt_of_lt_of_le h.2.2.2.2 hb.size⟩
/-- .. and what was made. -/
abbrev Sm (w W : World) (a0 : Option Addr) (n : Nat) (q : Nat → Ins) (g : Nat) (A : Option Addr) (N : Nat) (p : Nat → Irx) (bx : Nat) (o : Obj) : Prop := St w W a0 n q g ∧ IrAt W A N p ∧ W.heap[bx]? = some o
theorem sm_below {w W W' : World} {a0 : Option Addr} {n : Nat} {q : Nat → Ins} {g : Nat} {A : Option Addr} {N : Nat} {p : Nat → Irx} {bx : Nat} {o : Obj} (h : Sm w W a0 n q g A N p bx o) (hb : Below W.heap.size W W') : Sm w W' a0 n q g A N p bx o :=
  ⟨st_below h.1 hb, h.2.1.below hb, keepM h.2.2 hb⟩
set_option maxHeartbeats 4000000 in
theorem walk (a0 : Option Addr) (len0 cap0 : Nat) (w : World) (w0 : RowsOf [.u16, .u8, .u8, .u32] w a0 len0) (s0 : len0 * 8 ≤ 140737488351232) :
    Calls Try.prog 3 #[.slice a0 len0 cap0] w fun e w' => e = .returned (.bool true) ∧ Below w.heap.size w w' := by
  obtain ⟨q, hp, ho⟩ := prog_of_rows w0
  clear w0
  have HP := Lib.hid hp
  have HO := Lib.hid ho
  clear hp ho
  by_cases ha : Accepted q len0
  · have HF : Hid (∀ V A cap, ProgAt V A len0 q → Calls Try.prog 6 #[.slice A len0 cap] V fun e w' => ∃ A' c, e = .returned (.tuple #[mirV 19 A' (begN q len0) c, .int .i64 0]) ∧ IrAt w' A' (begN q len0) (progT q len0) ∧ Below V.heap.size V w') := Lib.hid fun V A cap h => (p_From V A len0 cap q h HO.out).mono fun e w' hh => hh.1 ha
    have HI : Hid (∀ V A cap, ProgAt V A len0 q → Calls Try.prog 8 #[.slice A len0 cap] V fun e w' => e = .returned (.bool true) ∧ Below V.heap.size V w') := Lib.hid fun V A cap h => (r_IsM V A len0 cap q h HO.out).mono fun e w' hh => by
      rw [check_is.2 ha] at hh; exact hh
    have HR : Hid (∀ V A cap, IrAt V A (begN q len0) (progT q len0) → Calls Try.prog 9 #[mirV 19 A (begN q len0) cap] V fun e w' => e = .returned (.bool true) ∧ Below V.heap.size V w') := Lib.hid fun V A cap h => (r_RightM 19 A (begN q len0) cap (progT q len0) V h).mono fun e w' hh => by
      rw [chk_is.2 (right_T ha)] at hh; exact hh
    have HCn := Lib.hid (fun V A cap (h : ProgAt V A len0 q) k (hk : MayK q len0 k) => r_constM V A len0 cap q h ha k hk)
    have HCt := Lib.hid (fun k (hk : k < begN q len0) => const_T ha hk)
    have hmost := beg_most q len0
    have hmax := ha.max
    generalize begN q len0 = N at *
    generalize progT q len0 = p at *
    have hw4 : IntKind.i64.wrap (4 * (len0 : Int)) = 4 * (len0 : Int) := IntWalk.i64_in _ (by omega)
    have hle : ¬ (4 * (len0 : Int) < (N : Int)) := by omega
    clear ha
    go_enter Try.func3, Try.ntmps3
    go_wp2_with (first
      | (go_at_call 4; (with_reducible refine (head_M _).mono ?_); rintro e w1 ⟨rfl, hb⟩; have HB1 := Lib.hid hb; have HP1 := Lib.hid (HP.out.below hb); clear hb HP)
      | (go_at_call 5; (with_reducible refine (lent_is _ _ _ _ q s0 HP1.out).mono ?_); rintro e w2 ⟨g, capx, rfl, hlent⟩; obtain ⟨F, hr, hc, hm, hF, h77, hb, hge⟩ := hlent; have HT2 := Lib.hid (show St w w2 a0 len0 q g from ⟨HP1.out.below hb, prog_of_row hr hF (by omega), (World.rowIs.cell hr (i := len0 * 4) (by omega)).trans (congrArg some h77), HB1.out.trans (hb.mono HB1.out.size), hr.lt⟩); clear hr hF h77 hb hge HP1 HB1)
      | (go_at_call 6; (with_reducible refine (HF.out _ _ _ HT2.out.2.1).mono ?_); rintro e w3 ⟨A2, c2, rfl, hi, hb⟩; have HT3 := Lib.hid (show Sm w (w3.alloc (mirO 19 A2 N c2)) a0 len0 q g A2 N p w3.heap.size (mirO 19 A2 N c2) from ⟨st_below (st_below HT2.out hb) (lboxM _ _), hi.below (lboxM _ _), World.alloc_heap_new w3 _⟩); clear hi hb HT2)
      | (go_at_call 7; (with_reducible refine (kept_is _ _ _ _ _ _ q s0 hc HT3.out.1.2.1 HT3.out.1.2.2.1 HT3.out.1.1).mono ?_); rintro e w5 ⟨rfl, m, rfl⟩; have HT5 := Lib.hid (sm_below HT3.out (below_drawn (Below.refl _ _) m)); clear HT3; generalize (w3.alloc (mirO 19 A2 N c2)).drewN m = w5 at HT5 ⊢)
      | (go_at_call 8; (with_reducible refine (HI.out _ _ _ HT5.out.1.1).mono ?_); rintro e w6 ⟨rfl, hb⟩; have HT6 := Lib.hid (sm_below HT5.out hb); clear hb HT5; have x0 := cellM HT6.out.2.2 0 rfl; have x1 := cellM HT6.out.2.2 1 rfl)
      | (go_at_call 9; (with_reducible refine (HR.out _ _ _ HT6.out.2.1).mono ?_); rintro e w7 ⟨rfl, hb⟩; have HT7 := Lib.hid (sm_below HT6.out hb); clear hb HT6 x0 x1; have x0 := cellM HT7.out.2.2 0 rfl; have x1 := cellM HT7.out.2.2 1 rfl))
    go_loopw [10] (fun i wr => ∃ m : Nat, i = .int .i64 (m : Int) ∧ m ≤ N ∧ wr = w7) (fun i _ => N - (intOf i).toNat)
    case atStart => exact ⟨0, rfl, Nat.zero_le _, rfl⟩
    case round =>
      obtain ⟨m', rfl, hm', rfl⟩ := hrel
      by_cases hlt : m' < N
      · have hlt' : (m' : Int) < (N : Int) := by omega
        obtain ⟨ib, io, rfl, hil, c0, _, _, _, c4, _⟩ := ir_at HT7.out.2.1 hlt
        have hwm : IntKind.i64.wrap ((m' : Int) + 1) = (m' : Int) + 1 := IntWalk.i64_in _ (by omega)
        by_cases hop : (p m').op = 1
        · have HK := Lib.hid (HCn.out wr a0 cap0 HT7.out.1.1 (p m').k (HCt.out m' hlt hop))
          rw [hop] at c0
          go_wp2_with (go_at_call 10; (refine HK.out.mono ?_); rintro e w8 ⟨rfl, rfl⟩)
          exact ⟨⟨m' + 1, rfl, by omega, trivial⟩, by simp [intOf]; omega⟩
        · have hop' : ((p m').op != 1) = true := bne_iff_ne.2 hop
          go_wp2
          exact ⟨⟨m' + 1, rfl, by omega, trivial⟩, by simp [intOf]; omega⟩
      · obtain rfl : m' = N := by omega
        have hlt' : ¬ (m' : Int) < (m' : Int) := by omega
        go_wp2
        go_ret
        exact ⟨rfl, HT7.out.1.2.2.2.1⟩
  · have HF : Hid (∀ V A cap, ProgAt V A len0 q → Calls Try.prog 6 #[.slice A len0 cap] V fun e w' => e = .returned (.tuple #[mirV 0 none 0 0, .int .i64 1]) ∧ Below V.heap.size V w') := Lib.hid fun V A cap h => (p_From V A len0 cap q h HO.out).mono fun e w' hh => hh.2 ha
    have HI : Hid (∀ V A cap, ProgAt V A len0 q → Calls Try.prog 8 #[.slice A len0 cap] V fun e w' => e = .returned (.bool false) ∧ Below V.heap.size V w') := Lib.hid fun V A cap h => (r_IsM V A len0 cap q h HO.out).mono fun e w' hh => by
      rw [show (checkE q len0 == 0) = false from beq_false_of_ne (fun g => ha (check_is.1 g))] at hh; exact hh
    clear ha
    go_enter Try.func3, Try.ntmps3
    go_wp2_with (first
      | (go_at_call 4; (with_reducible refine (head_M _).mono ?_); rintro e w1 ⟨rfl, hb⟩; have HB1 := Lib.hid hb; have HP1 := Lib.hid (HP.out.below hb); clear hb HP)
      | (go_at_call 5; (with_reducible refine (lent_is _ _ _ _ q s0 HP1.out).mono ?_); rintro e w2 ⟨g, capx, rfl, hlent⟩; obtain ⟨F, hr, hc, hm, hF, h77, hb, hge⟩ := hlent; have HT2 := Lib.hid (show St w w2 a0 len0 q g from ⟨HP1.out.below hb, prog_of_row hr hF (by omega), (World.rowIs.cell hr (i := len0 * 4) (by omega)).trans (congrArg some h77), HB1.out.trans (hb.mono HB1.out.size), hr.lt⟩); clear hr hF h77 hb hge HP1 HB1)
      | (go_at_call 6; (with_reducible refine (HF.out _ _ _ HT2.out.2.1).mono ?_); rintro e w3 ⟨rfl, hb⟩; have HT3 := Lib.hid (show Sm w (w3.alloc (mirO 0 none 0 0)) a0 len0 q g none 0 (fun _ => irZ) w3.heap.size (mirO 0 none 0 0) from ⟨st_below (st_below HT2.out hb) (lboxM _ _), ⟨Nat.zero_le _, fun h => absurd h (by omega)⟩, World.alloc_heap_new w3 _⟩); clear hb HT2)
      | (go_at_call 7; (with_reducible refine (kept_is _ _ _ _ _ _ q s0 hc HT3.out.1.2.1 HT3.out.1.2.2.1 HT3.out.1.1).mono ?_); rintro e w5 ⟨rfl, m, rfl⟩; have HT5 := Lib.hid (sm_below HT3.out (below_drawn (Below.refl _ _) m)); clear HT3; generalize (w3.alloc (mirO 0 none 0 0)).drewN m = w5 at HT5 ⊢)
      | (go_at_call 8; (with_reducible refine (HI.out _ _ _ HT5.out.1.1).mono ?_); rintro e w6 ⟨rfl, hb⟩; have HT6 := Lib.hid (sm_below HT5.out hb); clear hb HT5; have x0 := cellM HT6.out.2.2 0 rfl; have x1 := cellM HT6.out.2.2 1 rfl))
    go_ret
    exact ⟨rfl, HT6.out.1.2.2.2.1⟩

/-! ### The row's step and the statement -/
set_option maxRecDepth 100000 in
theorem lifted (os : Os) (started : os.Started) (H : Type) (enc : TypeId × Value → H) :
    ReturnsInHanded {} Try.checked os 3 .any (Rows.mirFromSpec.pre6 enc Try.prog Try.f3 Rows.mirFromRow.domain false) (Rows.mirFromSpec.post enc Try.prog Try.f3 false true false false) := by
  refine returnsInHanded_of_change_sized (C := Try.checked) own started (by kernel_rfl) Try.func3
    (ChangeSpec.witness6 (enc := enc) (C := Try.checked) false ⟨#[], #[.slice none 0 0], []⟩ 8 (by kernel_rfl) (by kernel_rfl) (by kernel_rfl) (by kernel_rfl)) ?_
  intro W base args ds gs before hval0 hW hcnd hsz0 _
  have hsz : (DataW.weightsEach Try.prog (Try.f3.params.toList ++ Rows.mirFromSpec.plain.varTypes Try.prog) (ds ++ gs)).all (· ≤ reachBytes) = true := hsz0
  clear hsz0
  have hval : ∀ (j : Nat) t v, Try.f3.params[j]? = some t → args[j]? = some v → Value.okWide Try.prog W .any base t v := hval0
  have hW' := hW
  obtain ⟨p, q, hA0, hV, rfl, hfz, hnd⟩ := hW
  have hA : DataW.TrodAll enc Try.prog W 0 (fun _ => true) true Try.f3.params.toList args.toList ds p := hA0
  rw [Try.params3] at hA hval hsz
  obtain ⟨v0, vs0, d0, ds0, p0, q0, hargs, rfl, rfl, h0, r0⟩ := trodAll_cons hA
  obtain ⟨rfl, rfl, rfl⟩ := trodAll_nil r0
  obtain rfl : args = #[v0] := by cases args; simp_all
  obtain ⟨rfl, rfl⟩ := trodVars_none hV
  obtain ⟨a0, len0, cap0, rfl⟩ := okWide_slice Try.underlying22 (hval 0 22 v0 rfl rfl)
  have k0 := h0
  have lt0 : ∀ x ∈ p0, x.block < W.heap.size := by obtain ⟨m, hm⟩ := k0; exact DataW.trod_lt m _ _ _ hm
  have w0 : RowsOf [.u16, .u8, .u8, .u32] W a0 len0 := by
    obtain ⟨fuel, hf⟩ := h0
    rcases rows_fields Try.underlying22 Try.underlying44 (by kernel_rfl) (by kernel_rfl) hf with hcs | ⟨x, l, c, hcs, hl, hm, hi⟩
    · simp [Value.cells] at hcs
      obtain ⟨rfl, rfl, rfl⟩ := hcs
      exact .inl ⟨rfl, rfl⟩
    · simp [Value.cells] at hcs
      obtain ⟨rfl, rfl, rfl⟩ := hcs
      refine .inr ⟨_, rfl, Nat.le_trans hl hm, fun i hil j K hK => ?_⟩
      match j, hK with
      | 0, hK =>
        obtain ⟨v, y, n, hc, ht⟩ := hi i hil 0 _ rfl
        obtain ⟨z, e, _, wz⟩ := DataW.trod_int Try.underlying42 ht
        simp only [List.cons.injEq, and_true] at e; subst e
        obtain rfl := Option.some.inj hK
        exact ⟨z, hc, wz⟩
      | 1, hK =>
        obtain ⟨v, y, n, hc, ht⟩ := hi i hil 1 _ rfl
        obtain ⟨z, e, _, wz⟩ := DataW.trod_int Try.underlying5 ht
        simp only [List.cons.injEq, and_true] at e; subst e
        obtain rfl := Option.some.inj hK
        exact ⟨z, hc, wz⟩
      | 2, hK =>
        obtain ⟨v, y, n, hc, ht⟩ := hi i hil 2 _ rfl
        obtain ⟨z, e, _, wz⟩ := DataW.trod_int Try.underlying5 ht
        simp only [List.cons.injEq, and_true] at e; subst e
        obtain rfl := Option.some.inj hK
        exact ⟨z, hc, wz⟩
      | 3, hK =>
        obtain ⟨v, y, n, hc, ht⟩ := hi i hil 3 _ rfl
        obtain ⟨z, e, _, wz⟩ := DataW.trod_int Try.underlying35 ht
        simp only [List.cons.injEq, and_true] at e; subst e
        obtain rfl := Option.some.inj hK
        exact ⟨z, hc, wz⟩
      | _ + 4, hK => exact absurd hK (by simp)
  have s0 : len0 * 8 ≤ 140737488351232 := by
    obtain ⟨fuel, hf⟩ := h0
    rcases rows_sized Try.underlying22 hf with hcs | ⟨x, l, c, elems, rest, hcs, hd, hle⟩
    · simp [Value.cells] at hcs
      obtain ⟨rfl, rfl, rfl⟩ := hcs
      omega
    · simp [Value.cells] at hcs
      obtain ⟨rfl, rfl, rfl⟩ := hcs
      have hr := sized_slice hsz (j := 0) (t := 22) (e := 44) rfl (congrArg some hd) Try.underlying22
      rw [show Try.prog.bytesOf 44 = 8 by kernel_rfl] at hr
      simp only [reachBytes] at hr
      have := Nat.mul_le_mul_right 8 hle
      omega
  clear hA0 hval0
  refine (walk a0 len0 cap0 W w0 s0).mono fun e W' ⟨he, bel⟩ => ?_
  subst he
  exact ⟨_, rfl, _, _, _, [], _, [], hW', trodAll_mk1 (shut_bool Try.underlying4 _), (trodAll_cons_mk (Below.trod laidOut (by kernel_rfl) (of_decide_eq_true (by kernel_rfl)) k0 bel lt0) trodAll_mk0), rfl, bel.frame _, fun h => by cases h⟩

theorem over : Rows.mirFromRow.holds Try.pinned (OpenSpec.ofChange Rows.mirFromSpec) :=
  OpenClaim.holds_of_wide 3 Try.f3 rfl rfl rfl rfl rfl rfl rfl ⟨rfl, rfl, rfl, rfl, rfl⟩ rfl rfl rfl rfl rfl (by kernel_rfl) Try.func3 (by kernel_rfl)
    (of_decide_eq_true (by kernel_rfl)) (by unfold Func.isWrapper; first | (rw [if_pos (by decide +kernel)]; kernel_rfl) | (rw [if_neg (by decide +kernel)]; exact ⟨rfl, rfl⟩))
    (fun os started H enc _ => lifted os started H enc)

/-- The statement. -/
theorem proved : Rows.MirFromSaid := over
end Go.Proofs.Ytoajommeiocfpaa.mirFrom
