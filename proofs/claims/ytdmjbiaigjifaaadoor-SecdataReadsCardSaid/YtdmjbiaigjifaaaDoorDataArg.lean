/-
  What a frame hands its walk of an argument of type api.Data: its nine numbers, each fitting its kind. No condition.
-/
import Derived.Test.YtdmjbiaigjifaaaDoorFrame
import Derived.OpenShut
namespace Go.Proofs.YtdmjbiaigjifaaaDoor
open Go Go.ChangeShapes Go.WideShapes Go.ChangeAt Go.RowKit Go.Deep Go.Joins

/-- Numbers of data, each within its kind. -/
def DataOK (nr arch ip : Int) (a : Nat → Int) : Prop := (0 ≤ nr ∧ nr < 4294967296) ∧ (0 ≤ arch ∧ arch < 4294967296) ∧ (0 ≤ ip ∧ ip < 18446744073709551616) ∧ ∀ i, 0 ≤ a i ∧ a i < 18446744073709551616

theorem list9 {α : Type} {l : List α} (h : l.length = 9) : ∃ c0 c1 c2 c3 c4 c5 c6 c7 c8, l = [c0, c1, c2, c3, c4, c5, c6, c7, c8] := by
  match l, h with
  | [c0, c1, c2, c3, c4, c5, c6, c7, c8], _ => exact ⟨c0, c1, c2, c3, c4, c5, c6, c7, c8, rfl⟩
theorem u32_of {n : Int} (h : (Lit.int .u32 n).wf = true) : 0 ≤ n ∧ n < 4294967296 := by
  have : 0 ≤ n ∧ n ≤ 4294967295 := by simpa [Lit.wf, IntKind.min, IntKind.max, IntKind.bits, IntKind.signed] using h
  omega
theorem u64_of {n : Int} (h : (Lit.int .u64 n).wf = true) : 0 ≤ n ∧ n < 18446744073709551616 := by
  have : 0 ≤ n ∧ n ≤ 18446744073709551615 := by simpa [Lit.wf, IntKind.min, IntKind.max, IntKind.bits, IntKind.signed] using h
  omega

theorem open_data {H : Type} {enc : TypeId × Value → H} {w : World} {base : Nat} {spare : Nat → Bool} {held : Bool} {r : Reach} {b0 : Nat} {v : Value} {d : DataW H} {p : List MemPlace}
    (hv : Value.okWide Tryd.prog w r b0 26 v) (h : DataW.Trod enc Tryd.prog w base spare held 26 v d p) :
    ∃ (nr arch ip : Int) (a : Nat → Int), v = .agg #[.int .u32 nr, .int .u32 arch, .int .u64 ip, .int .u64 (a 0), .int .u64 (a 1), .int .u64 (a 2), .int .u64 (a 3), .int .u64 (a 4), .int .u64 (a 5)] ∧ DataOK nr arch ip a := by
  have hC : Tryd.prog.cellsOf 26 = 9 := by kernel_rfl
  have k32 : Tryd.prog.cellsOf 22 = 1 := by kernel_rfl
  have k64 : Tryd.prog.cellsOf 23 = 1 := by kernel_rfl
  have k6 : Tryd.prog.cellsOf 24 = 6 := by kernel_rfl
  obtain ⟨⟨l⟩, rfl, hsz⟩ := okWide_struct Tryd.underlying26 hv
  obtain ⟨c0, c1, c2, c3, c4, c5, c6, c7, c8, rfl⟩ := list9 (l := l) (by simpa using hsz.trans hC)
  obtain ⟨fuel, hf⟩ := h
  obtain ⟨y0, y1, y2, y3, n, hx, _, h0, h1, h2, h3⟩ := trod_struct4 Tryd.underlying26 hf
  simp only [Value.cells, k32, k64, k6, List.drop_zero, List.drop_succ_cons, List.take_succ_cons, List.take_zero] at h0 h1 h2 h3
  obtain ⟨nr, e0, _, w0⟩ := DataW.trod_int Tryd.underlying22 h0
  obtain ⟨arch, e1, _, w1⟩ := DataW.trod_int Tryd.underlying22 h1
  obtain ⟨ip, e2, _, w2⟩ := DataW.trod_int Tryd.underlying23 h2
  obtain ⟨xs, m, _, _, _, hn, hi⟩ := DataW.trod_array Tryd.underlying24 h3
  have each : ∀ i c, i < 6 → (([c3, c4, c5, c6, c7, c8].drop (i * 1)).take 1) = [c] → ∃ z : Int, c = .int .u64 z ∧ (Lit.int .u64 z).wf = true := fun i c hi6 hc => by
    have g := hi i hi6
    rw [k64, hc, List.getElem?_eq_getElem (by omega)] at g
    obtain ⟨z, e, _, wz⟩ := DataW.trod_int Tryd.underlying23 g
    exact ⟨z, by simpa using e, wz⟩
  obtain ⟨z0, rfl, x0⟩ := each 0 c3 (by decide) rfl
  obtain ⟨z1, rfl, x1⟩ := each 1 c4 (by decide) rfl
  obtain ⟨z2, rfl, x2⟩ := each 2 c5 (by decide) rfl
  obtain ⟨z3, rfl, x3⟩ := each 3 c6 (by decide) rfl
  obtain ⟨z4, rfl, x4⟩ := each 4 c7 (by decide) rfl
  obtain ⟨z5, rfl, x5⟩ := each 5 c8 (by decide) rfl
  simp only [List.cons.injEq, and_true] at e0 e1 e2
  subst e0; subst e1; subst e2
  refine ⟨nr, arch, ip, fun i => match i with | 0 => z0 | 1 => z1 | 2 => z2 | 3 => z3 | 4 => z4 | 5 => z5 | _ => 0, rfl, u32_of w0, u32_of w1, u64_of w2, fun i => ?_⟩
  match i with
  | 0 => exact u64_of x0
  | 1 => exact u64_of x1
  | 2 => exact u64_of x2
  | 3 => exact u64_of x3
  | 4 => exact u64_of x4
  | 5 => exact u64_of x5
  | _ + 6 => show (0 : Int) ≤ 0 ∧ (0 : Int) < 18446744073709551616; decide
end Go.Proofs.YtdmjbiaigjifaaaDoor
