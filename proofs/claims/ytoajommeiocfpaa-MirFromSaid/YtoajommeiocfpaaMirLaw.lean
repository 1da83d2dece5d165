/-
  The statements' own Lent and Kept of layer 12, their argument, what stands while a law goes on: contracts. Conditions: those that each names.
-/
import Derived.Test.YtoajommeiocfpaaMirRegs
import Derived.Test.YtoajommeiocfpaaRowsN
import Derived.Deep.Cut
import Derived.Test.YtoajommeiocfpaaMirMem
import Derived.Test.YtoajommeiocfpaaRowsSized
import Derived.Test.YtoajommeiocfpaaMirHead
namespace Go.Proofs.Ytoajommeiocfpaa
open Go Go.RowKit
set_option linter.unusedSimpArgs false
set_option linter.unusedVariables false
set_option maxRecDepth 100000

/-- append onto a row of the call's own, where a region draws its order. -/
theorem oper_append_rowsM {P : Program} {w : World} {o : Oper} {a : Act} {K : Act → World → Prop} {Q : Exit → Act → World → Prop} (s x : Operand) (t : TypeId)
    (ho : o.op = .call { callee := .builtin .append, args := #[s, x], argTypes := #[t, t] }) (e : TypeId) (z : Value) (sz bytes : Nat) (ht : P.underlying t = some (.slice e))
    (hinfo : (P.info? e).map (fun i => (i.zero, i.size, i.bytes)) = some (some z, sz, bytes)) (hzs : z.cells.size = sz) (hpos : 0 < sz) (g n0 c0 : Nat) (F : Nat → Value) (hv : a.eval s = .slice (some ⟨g, 0, none⟩) n0 c0) (hr : w.rowIs g e (c0 * sz) F) (h0 : n0 ≤ c0) (hm : c0 ≤ maxLen)
    (A : Option Addr) (n c : Nat) (Z : Nat → Value) (hu : a.eval x = .slice A n c) (hs : Holds w A (n * sz) Z) (h1 : ∀ k, (Z k).oneCell' = true) (hlen : n0 + n ≤ maxLen) (hbytes : (n0 + n) * bytes ≤ 140737488355328)
    (h : ∀ (g' cap' : Nat) (F' : Nat → Value) (w' : World), w'.rowIs g' e (cap' * sz) F' → n0 + n ≤ cap' → cap' ≤ maxLen → (∀ k, k < n0 * sz → F' k = F k) → (∀ k, k < n * sz → F' (n0 * sz + k) = Z k) → w.grownBy w' (some g) → (g' = g ∨ g' = w.heap.size) →
      K (a.put o.dst (.slice (some ⟨g', 0, none⟩) (n0 + n) cap')) w') : Oper.wp P o a w K Q := by
  obtain ⟨i, hi, hz, hsize, hby⟩ := info_partsN hinfo
  obtain ⟨g', cap', F', w', hrun, b1, b2, b3, b4, b5, b6, b7⟩ := append_rows w t o.type e i z sz bytes ht hi hz hsize hby hzs hpos g n0 c0 F hr h0 hm A n c Z hs h1 hlen hbytes
  unfold Oper.wp execOp
  simp only [ho, resolve, invoke, builtin, Sem.run_bind, Sem.run_pure, Result.andThen_ok, List.map_toArray, List.map_cons, List.map_nil, hv, hu, hrun]
  exact h g' cap' F' w' b1 b2 b3 b4 b5 b6 b7
/-- A program's cells. -/
def irF (q : Nat → Irx) (k : Nat) : Value := (irL (q (k / 7))).getD (k % 7) undef
theorem irF_at (q : Nat → Irx) (i j : Nat) (hj : j < 7) : irF q (i * 7 + j) = (irL (q i)).getD j undef := by
  rw [irF, show (i * 7 + j) / 7 = i by omega, show (i * 7 + j) % 7 = j by omega]
theorem irF_one (q : Nat → Irx) (k : Nat) : (irF q k).oneCell' = true := by
  rw [irF]
  have : k % 7 = 0 ∨ k % 7 = 1 ∨ k % 7 = 2 ∨ k % 7 = 3 ∨ k % 7 = 4 ∨ k % 7 = 5 ∨ k % 7 = 6 := by omega
  rcases this with h | h | h | h | h | h | h <;> rw [h] <;> rfl
theorem irL_get (x : Irx) {j : Nat} (hj : j < 7) : (irL x)[j]? = some ((irL x).getD j undef) := by
  rw [List.getD_eq_getElem?_getD, List.getElem?_eq_getElem (show j < (irL x).length from hj)]; rfl
theorem holds_of_ir {w : World} {A : Option Addr} {n : Nat} {q : Nat → Irx} (h : IrAt w A n q) : Holds w A (n * 7) (irF q) := fun hn => by
  obtain ⟨b, o, rfl, hl, hc⟩ := h.2 (by omega)
  refine ⟨b, o, rfl, hl, fun i hi => ?_⟩
  have := hc (i / 7) (by omega) (i % 7) _ (irL_get _ (Nat.mod_lt _ (by decide)))
  rw [irF, ← this]
  congr 2
  omega
theorem ir_of_row {w : World} {g m n : Nat} {t : TypeId} {F : Nat → Value} {q : Nat → Irx} (h : w.rowIs g t m F) (hF : ∀ k, k < n * 7 → F k = irF q k) (hm : n * 7 ≤ m) (hn : n ≤ maxLen) : IrAt w (some ⟨g, 0, none⟩) n q := ⟨hn, fun _ => by
  refine ⟨g, 0, rfl, h.lt, fun i hi j u hj => ?_⟩
  have hj7 : j < 7 := (List.getElem?_eq_some_iff.1 hj).1
  rw [show 0 + i * 7 + j = i * 7 + j by omega, World.rowIs.cell h (by omega), hF _ (by omega), irF_at _ _ _ hj7, ← hj, irL_get _ hj7]⟩
abbrev markI : Irx := ⟨77, 0, 0, 0, 0#32, 0, 0⟩
abbrev markO : Obj := .cells #[.int .i64 77, .int .i64 0, .int .i64 0, .int .i64 0, .int .u32 0, .int .i64 0, .int .i64 0] 37
theorem mark_made (w : World) : Holds (w.alloc markO) (some ⟨w.heap.size, 0, none⟩) (1 * 7) (irF fun _ => markI) := fun _ =>
  ⟨w.heap.size, 0, rfl, by simp, fun i hi => by
    have : i = 0 ∨ i = 1 ∨ i = 2 ∨ i = 3 ∨ i = 4 ∨ i = 5 ∨ i = 6 := by omega
    rcases this with rfl | rfl | rfl | rfl | rfl | rfl | rfl <;> simp [irF, irL, markI]⟩
theorem info_irM : (Try.prog.info? 37).map (fun i => (i.zero, i.size, i.bytes)) = some (some (.agg #[.int .i64 0, .int .i64 0, .int .i64 0, .int .i64 0, .int .u32 0, .int .i64 0, .int .i64 0]), 7, 56) := by kernel_rfl
/-- What Lent leaves: the same instructions in new memory, the mark behind. -/
def LentM (w w' : World) (g cap n : Nat) (q : Nat → Irx) : Prop :=
  ∃ F, w'.rowIs g 37 (cap * 7) F ∧ n + 1 ≤ cap ∧ cap ≤ maxLen ∧ (∀ k, k < n * 7 → F k = irF q k) ∧ F (n * 7) = .int .i64 77 ∧ Below w.heap.size w w' ∧ w.heap.size ≤ g
theorem LentM.prog {w w' : World} {g cap n : Nat} {q : Nat → Irx} (h : LentM w w' g cap n q) : IrAt w' (some ⟨g, 0, none⟩) n q := by
  obtain ⟨F, hr, hc, hm, hF, _⟩ := h
  exact ir_of_row hr hF (by omega) (by omega)
theorem LentM.mark {w w' : World} {g cap n : Nat} {q : Nat → Irx} (h : LentM w w' g cap n q) : w'.cell? ⟨g, n * 7, none⟩ = some (.int .i64 77) := by
  obtain ⟨F, hr, hc, _, _, h77, _⟩ := h
  rw [← h77]; exact World.rowIs.cell hr (by omega)
theorem LentM.lt {w w' : World} {g cap n : Nat} {q : Nat → Irx} (h : LentM w w' g cap n q) : g < w'.heap.size := by
  obtain ⟨F, hr, _⟩ := h
  exact hr.lt
theorem LentM.bel {w w' : World} {g cap n : Nat} {q : Nat → Irx} (h : LentM w w' g cap n q) : Below w.heap.size w w' := by
  obtain ⟨F, _, _, _, _, _, hb, _⟩ := h
  exact hb
theorem LentM.cap {w w' : World} {g cap n : Nat} {q : Nat → Irx} (h : LentM w w' g cap n q) : n + 1 ≤ cap := by
  obtain ⟨F, _, hc, _⟩ := h
  exact hc

theorem neq_irM (x : Irx) (W : World) : (binOp BinOp.neq 37 (irV x) (irV x)).run Try.prog W = .ok (.bool false) W := by
  rw [run_neq_struct, show (10000 : Nat) = 9999 + 1 from rfl, run_equalIn_agg W 9999 37 _ _ (by kernel_rfl) (by kernel_rfl)]
  simp only [Program.fieldsOf, Try.underlying37]
  go_simp
abbrev FK (w V : World) (regs : Int) (g cap : Nat) (A : Option Addr) (n cap' : Nat) (q : Nat → Irx) : Prop := Below w.heap.size w V ∧ V.heap[w.heap.size]? = some (mirO regs (some ⟨g, 0, none⟩) n cap) ∧ V.heap[w.heap.size + 1]? = some (mirO regs A n cap') ∧ IrAt V (some ⟨g, 0, none⟩) n q ∧ IrAt V A n q
end Go.Proofs.Ytoajommeiocfpaa
namespace Go.Proofs.Ytoajommeiocfpaa
open Go Go.ChangeShapes Go.WideShapes Go.ChangeAt Go.RowKit Go.Deep
set_option linter.unusedSimpArgs false
set_option linter.unusedVariables false

/-- An instruction that came in. -/
theorem ir_at_in {W : World} {x : Addr} {i : Nat} {z0 z1 z2 z3 z4 z5 z6 : Int} (c0 : W.cell? (x.add (i * 7 + 0)) = some (.int .i64 z0)) (c1 : W.cell? (x.add (i * 7 + 1)) = some (.int .i64 z1)) (c2 : W.cell? (x.add (i * 7 + 2)) = some (.int .i64 z2)) (c3 : W.cell? (x.add (i * 7 + 3)) = some (.int .i64 z3)) (c4 : W.cell? (x.add (i * 7 + 4)) = some (.int .u32 z4)) (c5 : W.cell? (x.add (i * 7 + 5)) = some (.int .i64 z5)) (c6 : W.cell? (x.add (i * 7 + 6)) = some (.int .i64 z6))
    (f4 : (Lit.int .u32 z4).wf = true) : ∃ y : Irx, ∀ j u, (irL y)[j]? = some u → W.cell? (x.add (i * 7 + j)) = some u := by
  have g4 : 0 ≤ z4 ∧ z4 ≤ 4294967295 := by simpa [Lit.wf, IntKind.min, IntKind.max, IntKind.bits, IntKind.signed] using f4
  have e4 : (((BitVec.ofNat 32 z4.toNat).toNat : Nat) : Int) = z4 := by
    rw [BitVec.toNat_ofNat, Nat.mod_eq_of_lt (by omega), Int.toNat_of_nonneg g4.1]
  refine ⟨⟨z0, z1, z2, z3, BitVec.ofNat 32 z4.toNat, z5, z6⟩, fun j u hj => ?_⟩
  match j, hj with
  | 0, hj => obtain rfl := Option.some.inj hj; exact c0
  | 1, hj => obtain rfl := Option.some.inj hj; exact c1
  | 2, hj => obtain rfl := Option.some.inj hj; exact c2
  | 3, hj => obtain rfl := Option.some.inj hj; exact c3
  | 4, hj => obtain rfl := Option.some.inj hj; rw [e4]; exact c4
  | 5, hj => obtain rfl := Option.some.inj hj; exact c5
  | 6, hj => obtain rfl := Option.some.inj hj; exact c6
  | n + 7, hj => exact absurd (List.getElem?_eq_some_iff.1 hj).1 (by show ¬ n + 7 < 7; omega)
theorem irs_at_in {W : World} {x : Addr} {l : Nat} (hl : l ≤ maxLen) (h : ∀ i, i < l → ∃ y : Irx, ∀ j u, (irL y)[j]? = some u → W.cell? (x.add (i * 7 + j)) = some u) : ∃ q, IrAt W (some x) l q := by
  have hc : ∃ f : Nat → Irx, ∀ i, i < l → ∀ j u, (irL (f i))[j]? = some u → W.cell? (x.add (i * 7 + j)) = some u :=
    ⟨fun i => if g : i < l then (h i g).choose else ⟨0, 0, 0, 0, 0#32, 0, 0⟩, fun i g => by
      show ∀ j u, (irL (if g : i < l then (h i g).choose else ⟨0, 0, 0, 0, 0#32, 0, 0⟩))[j]? = some u → _
      rw [dif_pos g]; exact (h i g).choose_spec⟩
  obtain ⟨f, hf⟩ := hc
  refine ⟨f, hl, fun hp => ?_⟩
  obtain ⟨b, off, spot⟩ := x
  have c0 := hf 0 hp 0 _ rfl
  have hspot : spot = none := by simpa [Addr.add] using World.cell?_spot c0
  subst hspot
  rw [addr_add] at c0
  refine ⟨b, off, rfl, cell_lt c0, fun i hi j u hj => ?_⟩
  have := hf i hi j u hj
  rw [addr_add] at this
  rw [Nat.add_assoc]; exact this
section
variable {H : Type} {enc : TypeId × Value → H} {W : World} {base : Nat} {spare : Nat → Bool} {held : Bool}
theorem irs_of_trod {fuel : Nat} {cs : List Value} {x : DataW H × List MemPlace} (h : DataW.trod enc Try.prog W base spare held fuel 25 cs = some x) : ∃ A len cap q, cs = [.slice A len cap] ∧ IrAt W A len q := by
  rcases rows_fields Try.underlying25 Try.underlying37 (by kernel_rfl) (by kernel_rfl) h with hcs | ⟨x, l, c, hcs, hl, hm, hi⟩
  · exact ⟨none, 0, 0, fun _ => ⟨0, 0, 0, 0, 0#32, 0, 0⟩, hcs, by unfold maxLen; omega, fun h => absurd h (by omega)⟩
  · obtain ⟨q, hq⟩ := irs_at_in (Nat.le_trans hl hm) (fun i hil => by
      obtain ⟨v0, y0, m0, c0, t0⟩ := hi i hil 0 _ rfl
      obtain ⟨z0, e0, _, _⟩ := DataW.trod_int Try.underlying34 t0
      simp only [List.cons.injEq, and_true] at e0; subst e0
      obtain ⟨v1, y1, m1, c1, t1⟩ := hi i hil 1 _ rfl
      obtain ⟨z1, e1, _, _⟩ := DataW.trod_int Try.underlying3 t1
      simp only [List.cons.injEq, and_true] at e1; subst e1
      obtain ⟨v2, y2, m2, c2, t2⟩ := hi i hil 2 _ rfl
      obtain ⟨z2, e2, _, _⟩ := DataW.trod_int Try.underlying3 t2
      simp only [List.cons.injEq, and_true] at e2; subst e2
      obtain ⟨v3, y3, m3, c3, t3⟩ := hi i hil 3 _ rfl
      obtain ⟨z3, e3, _, _⟩ := DataW.trod_int Try.underlying3 t3
      simp only [List.cons.injEq, and_true] at e3; subst e3
      obtain ⟨v4, y4, m4, c4, t4⟩ := hi i hil 4 _ rfl
      obtain ⟨z4, e4, _, f4⟩ := DataW.trod_int Try.underlying35 t4
      simp only [List.cons.injEq, and_true] at e4; subst e4
      obtain ⟨v5, y5, m5, c5, t5⟩ := hi i hil 5 _ rfl
      obtain ⟨z5, e5, _, _⟩ := DataW.trod_int Try.underlying3 t5
      simp only [List.cons.injEq, and_true] at e5; subst e5
      obtain ⟨v6, y6, m6, c6, t6⟩ := hi i hil 6 _ rfl
      obtain ⟨z6, e6, _, _⟩ := DataW.trod_int Try.underlying3 t6
      simp only [List.cons.injEq, and_true] at e6; subst e6
      exact ir_at_in c0 c1 c2 c3 c4 c5 c6 f4)
    exact ⟨some x, l, c, q, hcs, hq⟩
/-- A part of a struct that came in, a slice: no more than the statement's own reach. -/
theorem sized_part {P : Program} {ts : List TypeId} {ds : List (DataW H)} (h : (DataW.weightsEach P ts ds).all (· ≤ reachBytes) = true) {j : Nat} {t : TypeId} {fs : Array Field} {parts : List (DataW H)} (ht : ts[j]? = some t) (hd : ds[j]? = some (.agg parts)) (hu : P.underlying t = some (.struct fs))
    {i : Nat} {ft e : TypeId} {elems rest : List (DataW H)} (hft : (fs.toList.map (·.type))[i]? = some ft) (hp : parts[i]? = some (.slice elems rest)) (hu2 : P.underlying ft = some (.slice e)) : (elems.length + rest.length) * P.bytesOf e ≤ reachBytes := by
  have h1 : (elems.length + rest.length) * P.bytesOf e ∈ DataW.weightsEach P (fs.toList.map (·.type)) parts := DataW.weights_mem_each hft hp _ (by simp [DataW.weights, hu2])
  have := List.all_eq_true.1 h _ (DataW.weights_mem_each ht hd ((elems.length + rest.length) * P.bytesOf e) (by simp only [DataW.weights, hu]; exact h1))
  simpa using this
set_option maxRecDepth 100000 in
theorem open_mir {r : Reach} {b0 : Nat} {v : Value} {d : DataW H} {p : List MemPlace} (hv : Value.okWide Try.prog W r b0 27 v) (h : DataW.Trod enc Try.prog W base spare held 27 v d p) :
    ∃ regs A len cap q, v = mirV regs A len cap ∧ IrAt W A len q ∧ ∀ (ts : List TypeId) (ds : List (DataW H)) (j : Nat), (DataW.weightsEach Try.prog ts ds).all (· ≤ reachBytes) = true → ts[j]? = some 27 → ds[j]? = some d → len * 56 ≤ 140737488351232 := by
  obtain ⟨c0, c1, y0, y1, m, rfl, hd, hp, hy0, hy1⟩ := Joins.open_agg2 Try.underlying27 (by kernel_rfl) (by kernel_rfl : Try.prog.cellsOf 27 = 2) hv h
  obtain ⟨z0, e0, _, _⟩ := DataW.trod_int Try.underlying3 hy0
  simp only [List.cons.injEq, and_true] at e0; subst e0
  obtain ⟨A, len, cap, q, hcs, hq⟩ := irs_of_trod hy1
  have hsz := rows_sized Try.underlying25 hy1
  simp only [List.cons.injEq, and_true] at hcs; subst hcs
  refine ⟨z0, A, len, cap, q, rfl, hq, fun ts ds j hall ht hdj => ?_⟩
  rcases hsz with hcs | ⟨x, l, c, elems, rest, hcs, hd1, hle⟩
  · simp only [List.cons.injEq, and_true, Value.slice.injEq] at hcs
    obtain ⟨rfl, rfl, rfl⟩ := hcs
    omega
  · simp only [List.cons.injEq, and_true, Value.slice.injEq] at hcs
    obtain ⟨rfl, rfl, rfl⟩ := hcs
    have hr := sized_part hall ht (hdj.trans (congrArg some hd)) Try.underlying27 (i := 1) (ft := 25) (e := 37) (elems := elems) (rest := rest) (by kernel_rfl) (by rw [← hd1]; rfl) Try.underlying25
    rw [show Try.prog.bytesOf 37 = 56 by kernel_rfl] at hr
    simp only [reachBytes] at hr
    have := Nat.mul_le_mul_right 56 hle
    omega
end
end Go.Proofs.Ytoajommeiocfpaa
namespace Go.Proofs.Ytoajommeiocfpaa
open Go Go.RowKit
set_option linter.unusedSimpArgs false
set_option linter.unusedVariables false

abbrev SL (w W : World) (regs : Int) (A : Option Addr) (n cap g cap' bx : Nat) (q : Nat → Irx) : Prop :=
  FM w W regs A n cap q ∧ IrAt W (some ⟨g, 0, none⟩) n q ∧ W.cell? ⟨g, n * 7, none⟩ = some (.int .i64 77) ∧ g < W.heap.size ∧ W.heap[bx]? = some (mirO regs (some ⟨g, 0, none⟩) n cap')
theorem SL.up {w W W' : World} {regs : Int} {A : Option Addr} {n cap g cap' bx : Nat} {q : Nat → Irx} (h : SL w W regs A n cap g cap' bx q) (hb : Below W.heap.size W W') : SL w W' regs A n cap g cap' bx q :=
  ⟨h.1.up hb, h.2.1.below hb, (hb.cell (p := ⟨g, n * 7, none⟩) h.2.2.2.1).trans h.2.2.1, Nat.lt_of_lt_of_le h.2.2.2.1 hb.size, keepM h.2.2.2.2 hb⟩
theorem SL.first {w w1 w2 : World} {regs : Int} {A : Option Addr} {n cap g cap' : Nat} {q : Nat → Irx} (h : FM w w1 regs A n cap q) (hl : LentM w1 w2 g cap' n q) : SL w (w2.alloc (mirO regs (some ⟨g, 0, none⟩) n cap')) regs A n cap g cap' w2.heap.size q :=
  have hb := lboxM w2 (mirO regs (some ⟨g, 0, none⟩) n cap')
  ⟨(h.up hl.bel).up hb, hl.prog.below hb, (hb.cell (p := ⟨g, n * 7, none⟩) hl.lt).trans hl.mark, Nat.lt_of_lt_of_le hl.lt hb.size, World.alloc_heap_new w2 _⟩
theorem dat_of_row {w : World} {a : Option Addr} {len cap : Nat} {zs : List Int} (h : IsRow .u8 w a len cap zs) : DatAt w a len (fun i => zs.getD i 0) := fun h64 => by
  obtain ⟨b, off, rfl, hl, hc⟩ := holds_of_isRow h (by omega)
  exact ⟨b, off, rfl, hl, isRow_byte h, fun i hi => hc i (by omega)⟩
theorem dat_of_holds {w : World} {A : Option Addr} {len : Nat} {z : Nat → Int} (h : Holds w A len (fun i => .int .u8 (z i))) (hz : ∀ i, 0 ≤ z i ∧ z i < 256) : DatAt w A len z := fun h64 => by
  obtain ⟨b, off, rfl, hl, hc⟩ := h (by omega)
  exact ⟨b, off, rfl, hl, hz, fun i hi => hc i (by omega)⟩
end Go.Proofs.Ytoajommeiocfpaa
