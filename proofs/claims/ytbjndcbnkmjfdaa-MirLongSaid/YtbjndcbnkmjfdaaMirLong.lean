/-
  'MirLong': for every number, the law of layer 12 on long programs of registers returns true, and leaves memory as it was. No condition.
-/
import Derived.Test.YtbjndcbnkmjfdaaMirLaw
import Derived.Test.YtbjndcbnkmjfdaaMirChk
import Derived.Laws.MakeOwn
namespace Go.Proofs.Ytbjndcbnkmjfdaa.mirLong
open Go Go.ChangeShapes Go.WideShapes Go.ChangeAt Go.RowKit
set_option linter.unusedSimpArgs false
set_option linter.unusedVariables false

abbrev zI : Irx := ⟨0, 0, 0, 0, 0#32, 0, 0⟩
abbrev rI : Irx := ⟨19, 0, 0, 0, 0#32, 0, 0⟩
def lQ (k i : Nat) : Irx := if i < k then rI else zI
theorem lQ_lt {k i : Nat} (h : i < k) : lQ k i = rI := if_pos h
theorem lQ_ge {k i : Nat} (h : ¬ i < k) : lQ k i = zI := if_neg h
/-- make of instructions: zeros. -/
theorem make_irs (w : World) {ops : Array Oper} {rest : List Oper} {o : Oper} {a : Act} {Q : Exit → Act → World → Prop} (hg : o.guard = none) (l c : Operand) (hop : o.op = Op.makeSlice 22 l c) (n : Nat) (hl : a.eval l = .int .i64 (n : Int)) (hc : a.eval c = .int .i64 (n : Int)) (hn : n ≤ 70000)
    (h : ∀ w' : World, w'.rowIs w.heap.size 35 (n * 7) (irF fun _ => zI) → Below w.heap.size w w' → wpList Try.prog ops Q rest (a.put o.dst (.slice (some ⟨w.heap.size, 0, none⟩) n n)) w') : wpList Try.prog ops Q (o :: rest) a w := by
  obtain ⟨i, hi, hz, hsize, hby⟩ := info_partsN info_irM
  refine wpList_plain hg fun K hK' => ?_
  have hb : (i.bytes : Int) * (n : Int) ≤ 281474976710656 := by rw [hby]; omega
  have hrun := run_make (P := Try.prog) w 22 35 i _ Try.underlying22 hi hz .i64 .i64 n n (by omega) (Int.le_refl _) hb (by omega)
  simp only [Int.toNat_natCast, hsize] at hrun
  have hr : (w.alloc (.cells (madeCells (Value.cells (.agg #[.int .i64 0, .int .i64 0, .int .i64 0, .int .i64 0, .int .u32 0, .int .i64 0, .int .i64 0])) (n * 7)) 35)).rowIs w.heap.size 35 (n * 7) (irF fun _ => zI) := by
    have := World.rowIs_alloc w (madeCells (Value.cells (.agg #[.int .i64 0, .int .i64 0, .int .i64 0, .int .i64 0, .int .u32 0, .int .i64 0, .int .i64 0])) (n * 7)) 35 (irF fun _ => zI) (fun j hj => by
      rw [size_madeCells] at hj
      unfold madeCells
      have h7 : j % 7 = 0 ∨ j % 7 = 1 ∨ j % 7 = 2 ∨ j % 7 = 3 ∨ j % 7 = 4 ∨ j % 7 = 5 ∨ j % 7 = 6 := by omega
      rcases h7 with h | h | h | h | h | h | h <;> simp [hj, irF, h, Value.cells, irL])
    rwa [size_madeCells] at this
  unfold Oper.wp
  simp [execOp, hop, hl, hc, hrun, Result.andThen]
  exact hK' _ _ (h _ hr (lboxM w _))
/-- What stands while the operations are set. -/
abbrev LL (w W : World) (g bx N k : Nat) : Prop := W.rowIs g 35 (N * 7) (irF (lQ k)) ∧ W.heap[bx]? = some (mirO 1 (some ⟨g, 0, none⟩) N N) ∧ Below w.heap.size w W ∧ w.heap.size ≤ g ∧ g ≠ bx
theorem LL.put {w W : World} {g bx N k : Nat} (h : LL w W g bx N k) : LL w (W.setCell ⟨g, k * 7, none⟩ (.int .i64 19)) g bx N (k + 1) :=
  ⟨(World.rowIs.set h.1 (k * 7) _).congr fun j hj => by
    by_cases e : j = k * 7
    · subst e
      show (if k * 7 = k * 7 then _ else _) = _
      rw [if_pos rfl]
      unfold irF
      rw [show k * 7 / 7 = k by omega, show k * 7 % 7 = 0 by omega, lQ_lt (by omega)]
      rfl
    · show (if j = k * 7 then _ else _) = _
      rw [if_neg e]
      unfold irF
      by_cases h1 : j / 7 < k
      · rw [lQ_lt h1, lQ_lt (by omega)]
      · rw [lQ_ge h1]
        by_cases h2 : j / 7 = k
        · rw [lQ_lt (by omega)]
          have h7 : j % 7 = 1 ∨ j % 7 = 2 ∨ j % 7 = 3 ∨ j % 7 = 4 ∨ j % 7 = 5 ∨ j % 7 = 6 := by omega
          rcases h7 with g | g | g | g | g | g <;> rw [g] <;> rfl
        · rw [lQ_ge (by omega)], (Below.heap_setCell W ⟨g, k * 7, none⟩ _ _ (fun e => h.2.2.2.2 e.symm)).trans h.2.1, h.2.2.1.setCell (p := ⟨g, k * 7, none⟩) h.2.2.2.1 _, h.2.2.2.1, h.2.2.2.2⟩
set_option maxHeartbeats 4000000 in
set_option maxRecDepth 100000 in
theorem walk (a0 : Int) (w : World) (w0 : (Lit.int .u32 a0).wf = true) : Calls Try.prog 4 #[.int .u32 a0] w fun e w' => e = .returned (.bool true) ∧ Below w.heap.size w w' := by
  have hb0 : 0 ≤ a0 ∧ a0 ≤ 4294967295 := by simpa [Lit.wf, IntKind.min, IntKind.max, IntKind.bits, IntKind.signed] using w0
  obtain ⟨N, hN, h70⟩ : ∃ N : Nat, a0.tmod 70000 = (N : Int) ∧ N < 70000 := ⟨(a0 % 70000).toNat, by rw [Int.tmod_eq_emod_of_nonneg hb0.1]; omega, by omega⟩
  have hcv : IntKind.i64.wrap a0 = a0 := IntWalk.i64_in _ (by omega)
  clear w0
  go_enter Try.func4, Try.ntmps4
  go_wp2_with (first
    | (go_at_call 10; (with_reducible refine (head_M _).mono ?_); rintro e w1 ⟨rfl, hb⟩; have HB1 := Lib.hid hb; clear hb)
    | (refine make_irs _ rfl _ _ rfl N rfl rfl (by omega) ?_; intro w2 hr2 hb2))
  have hL := Lib.hid (show LL w (w2.alloc (mirO 1 (some ⟨w1.heap.size, 0, none⟩) N N)) w1.heap.size w2.heap.size N 0 from
    ⟨(rowIs_below hr2 (lboxM w2 _) hr2.lt).congr (fun j hj => by unfold irF; rw [lQ_ge (by omega)]), World.alloc_heap_new w2 _, onM (onM HB1.out hb2) (lboxM w2 _), HB1.out.size, Nat.ne_of_lt hr2.lt⟩)
  clear hr2 hb2 HB1
  generalize w2.alloc (.cells #[.int .i64 1, .slice (some ⟨w1.heap.size, 0, none⟩) N N] 24) = X at hL ⊢
  generalize w1.heap.size = g at hL ⊢
  generalize w2.heap.size = bx at hL ⊢
  go_loopw [5] (fun v wr => ∃ k : Nat, k ≤ N ∧ v = .int .i64 (k : Int) ∧ LL w wr g bx N k) (fun v _ => N - (intOf v).toNat)
  case atStart => exact ⟨0, by omega, rfl, hL.out⟩
  case round =>
    obtain ⟨k, hk, rfl, hS⟩ := hrel
    clear hL
    have HS := Lib.hid hS
    have p0 := cellM hS.2.1 0 rfl
    have p1 := cellM hS.2.1 1 rfl
    have hgb := hS.2.2.2.2
    by_cases hlt : k < N
    · have hlt' : (k : Int) < (N : Int) := by omega
      have c0 : wr.cell? ⟨g, k * 7, none⟩ = some (.int .i64 0) := by
        rw [World.rowIs.cell hS.1 (i := k * 7) (by omega)]
        unfold irF
        rw [show k * 7 / 7 = k by omega, show k * 7 % 7 = 0 by omega, lQ_ge (by omega)]; rfl
      have z0 := World.rowIs.frozen hS.1 (k * 7)
      clear hS
      go_wp2
      exact ⟨⟨k + 1, by omega, by go_num, HS.out.put⟩, by simp [intOf]; omega⟩
    · obtain rfl : k = N := by omega
      have hI : IrAt wr (some ⟨g, 0, none⟩) k (lQ k) := ir_of_row hS.1 (fun _ _ => rfl) (Nat.le_refl _) (by unfold maxLen; omega)
      have HI := Lib.hid hI
      generalize lQ k = q at HI
      have HC1 : Hid (∀ V, IrAt V (some ⟨g, 0, none⟩) k q → Calls Try.prog 12 #[mirV 1 (some ⟨g, 0, none⟩) k k] V (ChkMP 1 q k V)) := Lib.hid fun V h => p_ChkM 1 _ k k q V h
      have HC2 : Hid (∀ V, IrAt V (some ⟨g, 0, none⟩) k q → Calls Try.prog 13 #[mirV 1 (some ⟨g, 0, none⟩) k k] V (ChkMP 1 q k V)) := Lib.hid fun V h => r_ChkM 1 _ k k q V h
      unfold ChkMP at HC1 HC2
      generalize chkE 1 q k = ee at HC1 HC2
      generalize chkP 1 q k = pp at HC1 HC2
      clear hS hI
      go_wp2_with (first
        | (go_at_call 12; (with_reducible refine (HC1.out _ HI.out).mono ?_); rintro e w3 ⟨rfl, hb⟩; have H3 := Lib.hid (And.intro (HI.out.below hb) (And.intro (keepM HS.out.2.1 hb) (onM HS.out.2.2.1 hb))); clear hb p0 p1; have p0 := cellM H3.out.2.1 0 rfl; have p1 := cellM H3.out.2.1 1 rfl)
        | (go_at_call 13; (with_reducible refine (HC2.out _ H3.out.1).mono ?_); rintro e w4 ⟨rfl, hb⟩; have H4 := Lib.hid (onM H3.out.2.2 hb); clear hb))
      go_ret
      exact ⟨rfl, H4.out⟩

/-! ### The row's step and the statement -/
set_option maxRecDepth 100000 in
theorem lifted (os : Os) (started : os.Started) (H : Type) (enc : TypeId × Value → H) :
    ReturnsInHanded {} Try.checked os 4 .any (Rows.mirLongSpec.pre6 enc Try.prog Try.f4 Rows.mirLongRow.domain false) (Rows.mirLongSpec.post enc Try.prog Try.f4 false true false false) := by
  refine returnsInHanded_of_change_sized (C := Try.checked) own started (by kernel_rfl) Try.func4
    (ChangeSpec.witness6 (enc := enc) (C := Try.checked) false ⟨#[], #[.int .u32 0], []⟩ 8 (by kernel_rfl) (by kernel_rfl) (by kernel_rfl) (by kernel_rfl)) ?_
  intro W base args ds gs before hval0 hW hcnd hsz0 _
  have hsz : (DataW.weightsEach Try.prog (Try.f4.params.toList ++ Rows.mirLongSpec.plain.varTypes Try.prog) (ds ++ gs)).all (· ≤ reachBytes) = true := hsz0
  clear hsz0
  have hval : ∀ (j : Nat) t v, Try.f4.params[j]? = some t → args[j]? = some v → Value.okWide Try.prog W .any base t v := hval0
  have hW' := hW
  obtain ⟨p, q, hA0, hV, rfl, hfz, hnd⟩ := hW
  have hA : DataW.TrodAll enc Try.prog W 0 (fun _ => true) true Try.f4.params.toList args.toList ds p := hA0
  rw [Try.params4] at hA hval hsz
  obtain ⟨v0, vs0, d0, ds0, p0, q0, hargs, rfl, rfl, h0, r0⟩ := trodAll_cons hA
  obtain ⟨rfl, rfl, rfl⟩ := trodAll_nil r0
  obtain rfl : args = #[v0] := by cases args; simp_all
  obtain ⟨rfl, rfl⟩ := trodVars_none hV
  obtain ⟨a0, rfl, rfl, rfl, w0⟩ := open_int Try.underlying32 (hval 0 32 v0 rfl rfl) h0
  clear hA0 hval0
  refine (walk a0 W w0).mono fun e W' ⟨he, bel⟩ => ?_
  subst he
  exact ⟨_, rfl, _, _, _, [], _, [], hW', trodAll_mk1 (shut_bool Try.underlying4 _), (trodAll_cons_mk (shut_int Try.underlying32 w0) trodAll_mk0), rfl, bel.frame _, fun h => by cases h⟩

theorem over : Rows.mirLongRow.holds Try.pinned (OpenSpec.ofChange Rows.mirLongSpec) :=
  OpenClaim.holds_of_wide 4 Try.f4 rfl rfl rfl rfl rfl rfl rfl ⟨rfl, rfl, rfl, rfl, rfl⟩ rfl rfl rfl rfl rfl (by kernel_rfl) Try.func4 (by kernel_rfl)
    (of_decide_eq_true (by kernel_rfl)) (by unfold Func.isWrapper; first | (rw [if_pos (by decide +kernel)]; kernel_rfl) | (rw [if_neg (by decide +kernel)]; exact ⟨rfl, rfl⟩))
    (fun os started H enc _ => lifted os started H enc)

/-- The statement. -/
theorem proved : Rows.MirLongSaid := over
end Go.Proofs.Ytbjndcbnkmjfdaa.mirLong
