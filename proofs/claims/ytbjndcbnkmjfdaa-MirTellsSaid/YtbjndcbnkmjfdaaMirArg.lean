/-
  A program of registers that came in as an argument: what the statements' own conditions say of it, in the walks' words. No condition but those that each names.
-/
import Derived.Test.YtbjndcbnkmjfdaaMirMem
import Derived.Test.YtbjndcbnkmjfdaaRowsSized
namespace Go.Proofs.Ytbjndcbnkmjfdaa
open Go Go.ChangeShapes Go.WideShapes Go.ChangeAt Go.RowKit Go.Deep
set_option linter.unusedSimpArgs false
set_option linter.unusedVariables false

/-- An instruction that came in. -/
theorem ir_at_in {W : World} {x : Addr} {i : Nat} {z0 z1 z2 z3 z4 z5 z6 : Int} (c0 : W.cell? (x.add (i * 7 + 0)) = some (.int .i64 z0)) (c1 : W.cell? (x.add (i * 7 + 1)) = some (.int .i64 z1)) (c2 : W.cell? (x.add (i * 7 + 2)) = some (.int .i64 z2)) (c3 : W.cell? (x.add (i * 7 + 3)) = some (.int .i64 z3)) (c4 : W.cell? (x.add (i * 7 + 4)) = some (.int .u32 z4)) (c5 : W.cell? (x.add (i * 7 + 5)) = some (.int .i64 z5)) (c6 : W.cell? (x.add (i * 7 + 6)) = some (.int .i64 z6))
    (f4 : (Lit.int .u32 z4).wf = true) : ∃ y : Irx, ∀ j u, (irL y)[j]? = some u → W.cell? (x.add (i * 7 + j)) = some u := by
  have g4 : 0 ≤ z4 ∧ z4 ≤ 4294967295 := by simpa [Lit.wf, IntKind.min, IntKind.max, IntKind.bits, IntKind.signed] using f4
  have e4 : (((BitVec.ofNat 32 z4.toNat).toNat : Nat) : Int) = z4 := by
    rw [BitVec.toNat_ofNat, Nat.mod_eq_of_lt (by omega), Int.toNat_of_nonneg g4.1]
  refine ⟨⟨z0, z1, z2, z3, BitVec.ofNat 32 z4.toNat, z5, z6⟩, fun j u hj => ?_⟩
  match j, hj with
  | 0, hj => obtain rfl := Option.some.inj hj; exact c0
  | 1, hj => obtain rfl := Option.some.inj hj; exact c1
  | 2, hj => obtain rfl := Option.some.inj hj; exact c2
  | 3, hj => obtain rfl := Option.some.inj hj; exact c3
  | 4, hj => obtain rfl := Option.some.inj hj; rw [e4]; exact c4
  | 5, hj => obtain rfl := Option.some.inj hj; exact c5
  | 6, hj => obtain rfl := Option.some.inj hj; exact c6
  | n + 7, hj => exact absurd (List.getElem?_eq_some_iff.1 hj).1 (by show ¬ n + 7 < 7; omega)
theorem irs_at_in {W : World} {x : Addr} {l : Nat} (hl : l ≤ maxLen) (h : ∀ i, i < l → ∃ y : Irx, ∀ j u, (irL y)[j]? = some u → W.cell? (x.add (i * 7 + j)) = some u) : ∃ q, IrAt W (some x) l q := by
  have hc : ∃ f : Nat → Irx, ∀ i, i < l → ∀ j u, (irL (f i))[j]? = some u → W.cell? (x.add (i * 7 + j)) = some u :=
    ⟨fun i => if g : i < l then (h i g).choose else ⟨0, 0, 0, 0, 0#32, 0, 0⟩, fun i g => by
      show ∀ j u, (irL (if g : i < l then (h i g).choose else ⟨0, 0, 0, 0, 0#32, 0, 0⟩))[j]? = some u → _
      rw [dif_pos g]; exact (h i g).choose_spec⟩
  obtain ⟨f, hf⟩ := hc
  refine ⟨f, hl, fun hp => ?_⟩
  obtain ⟨b, off, spot⟩ := x
  have c0 := hf 0 hp 0 _ rfl
  have hspot : spot = none := by simpa [Addr.add] using World.cell?_spot c0
  subst hspot
  rw [addr_add] at c0
  refine ⟨b, off, rfl, cell_lt c0, fun i hi j u hj => ?_⟩
  have := hf i hi j u hj
  rw [addr_add] at this
  rw [Nat.add_assoc]; exact this
section
variable {H : Type} {enc : TypeId × Value → H} {W : World} {base : Nat} {spare : Nat → Bool} {held : Bool}
theorem irs_of_trod {fuel : Nat} {cs : List Value} {x : DataW H × List MemPlace} (h : DataW.trod enc Try.prog W base spare held fuel 22 cs = some x) : ∃ A len cap q, cs = [.slice A len cap] ∧ IrAt W A len q := by
  rcases rows_fields Try.underlying22 Try.underlying35 (by kernel_rfl) (by kernel_rfl) h with hcs | ⟨x, l, c, hcs, hl, hm, hi⟩
  · exact ⟨none, 0, 0, fun _ => ⟨0, 0, 0, 0, 0#32, 0, 0⟩, hcs, by unfold maxLen; omega, fun h => absurd h (by omega)⟩
  · obtain ⟨q, hq⟩ := irs_at_in (Nat.le_trans hl hm) (fun i hil => by
      obtain ⟨v0, y0, m0, c0, t0⟩ := hi i hil 0 _ rfl
      obtain ⟨z0, e0, _, _⟩ := DataW.trod_int Try.underlying33 t0
      simp only [List.cons.injEq, and_true] at e0; subst e0
      obtain ⟨v1, y1, m1, c1, t1⟩ := hi i hil 1 _ rfl
      obtain ⟨z1, e1, _, _⟩ := DataW.trod_int Try.underlying3 t1
      simp only [List.cons.injEq, and_true] at e1; subst e1
      obtain ⟨v2, y2, m2, c2, t2⟩ := hi i hil 2 _ rfl
      obtain ⟨z2, e2, _, _⟩ := DataW.trod_int Try.underlying3 t2
      simp only [List.cons.injEq, and_true] at e2; subst e2
      obtain ⟨v3, y3, m3, c3, t3⟩ := hi i hil 3 _ rfl
      obtain ⟨z3, e3, _, _⟩ := DataW.trod_int Try.underlying3 t3
      simp only [List.cons.injEq, and_true] at e3; subst e3
      obtain ⟨v4, y4, m4, c4, t4⟩ := hi i hil 4 _ rfl
      obtain ⟨z4, e4, _, f4⟩ := DataW.trod_int Try.underlying32 t4
      simp only [List.cons.injEq, and_true] at e4; subst e4
      obtain ⟨v5, y5, m5, c5, t5⟩ := hi i hil 5 _ rfl
      obtain ⟨z5, e5, _, _⟩ := DataW.trod_int Try.underlying3 t5
      simp only [List.cons.injEq, and_true] at e5; subst e5
      obtain ⟨v6, y6, m6, c6, t6⟩ := hi i hil 6 _ rfl
      obtain ⟨z6, e6, _, _⟩ := DataW.trod_int Try.underlying3 t6
      simp only [List.cons.injEq, and_true] at e6; subst e6
      exact ir_at_in c0 c1 c2 c3 c4 c5 c6 f4)
    exact ⟨some x, l, c, q, hcs, hq⟩
/-- A part of a struct that came in, a slice: no more than the statement's own reach. -/
theorem sized_part {P : Program} {ts : List TypeId} {ds : List (DataW H)} (h : (DataW.weightsEach P ts ds).all (· ≤ reachBytes) = true) {j : Nat} {t : TypeId} {fs : Array Field} {parts : List (DataW H)} (ht : ts[j]? = some t) (hd : ds[j]? = some (.agg parts)) (hu : P.underlying t = some (.struct fs))
    {i : Nat} {ft e : TypeId} {elems rest : List (DataW H)} (hft : (fs.toList.map (·.type))[i]? = some ft) (hp : parts[i]? = some (.slice elems rest)) (hu2 : P.underlying ft = some (.slice e)) : (elems.length + rest.length) * P.bytesOf e ≤ reachBytes := by
  have h1 : (elems.length + rest.length) * P.bytesOf e ∈ DataW.weightsEach P (fs.toList.map (·.type)) parts := DataW.weights_mem_each hft hp _ (by simp [DataW.weights, hu2])
  have := List.all_eq_true.1 h _ (DataW.weights_mem_each ht hd ((elems.length + rest.length) * P.bytesOf e) (by simp only [DataW.weights, hu]; exact h1))
  simpa using this
set_option maxRecDepth 100000 in
theorem open_mir {r : Reach} {b0 : Nat} {v : Value} {d : DataW H} {p : List MemPlace} (hv : Value.okWide Try.prog W r b0 24 v) (h : DataW.Trod enc Try.prog W base spare held 24 v d p) :
    ∃ regs A len cap q, v = mirV regs A len cap ∧ IrAt W A len q ∧ ∀ (ts : List TypeId) (ds : List (DataW H)) (j : Nat), (DataW.weightsEach Try.prog ts ds).all (· ≤ reachBytes) = true → ts[j]? = some 24 → ds[j]? = some d → len * 56 ≤ 140737488351232 := by
  obtain ⟨c0, c1, y0, y1, m, rfl, hd, hp, hy0, hy1⟩ := Joins.open_agg2 Try.underlying24 (by kernel_rfl) (by kernel_rfl : Try.prog.cellsOf 24 = 2) hv h
  obtain ⟨z0, e0, _, _⟩ := DataW.trod_int Try.underlying3 hy0
  simp only [List.cons.injEq, and_true] at e0; subst e0
  obtain ⟨A, len, cap, q, hcs, hq⟩ := irs_of_trod hy1
  have hsz := rows_sized Try.underlying22 hy1
  simp only [List.cons.injEq, and_true] at hcs; subst hcs
  refine ⟨z0, A, len, cap, q, rfl, hq, fun ts ds j hall ht hdj => ?_⟩
  rcases hsz with hcs | ⟨x, l, c, elems, rest, hcs, hd1, hle⟩
  · simp only [List.cons.injEq, and_true, Value.slice.injEq] at hcs
    obtain ⟨rfl, rfl, rfl⟩ := hcs
    omega
  · simp only [List.cons.injEq, and_true, Value.slice.injEq] at hcs
    obtain ⟨rfl, rfl, rfl⟩ := hcs
    have hr := sized_part hall ht (hdj.trans (congrArg some hd)) Try.underlying24 (i := 1) (ft := 22) (e := 35) (elems := elems) (rest := rest) (by kernel_rfl) (by rw [← hd1]; rfl) Try.underlying22
    rw [show Try.prog.bytesOf 35 = 56 by kernel_rfl] at hr
    simp only [reachBytes] at hr
    have := Nat.mul_le_mul_right 56 hle
    omega
end
end Go.Proofs.Ytbjndcbnkmjfdaa
