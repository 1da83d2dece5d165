/-
  'append(append([]byte{}, b...), 77)': plain laws on the two rows. No condition but those that each names.
-/
import Derived.Test.YtoajommeiocfpaaMemory
namespace Go.Proofs.Ytoajommeiocfpaa
open Go Go.RowKit
set_option linter.unusedSimpArgs false
set_option linter.unusedVariables false

theorem one_new (w : World) : Holds (w.alloc (.cells #[.int .u8 77] 5)) (some ⟨w.heap.size, 0, none⟩) 1 (fun _ => .int .u8 77) := fun _ =>
  ⟨w.heap.size, 0, rfl, by simp, fun i hi => by
    obtain rfl : i = 0 := by omega
    simp⟩
theorem second_new {w w1 w2 : World} {o : Obj} {g1 g2 B : Nat} (hg : (w1.alloc o).grownBy w2 (some g1)) (hgg : g2 = g1 ∨ g2 = (w1.alloc o).heap.size) (hb : Below B w w1) (hge : B ≤ g1) (hlt : g1 < w1.heap.size) : Below B w w2 ∧ B ≤ g2 := by
  have hB : B ≤ w1.heap.size := by omega
  exact ⟨(hb.alloc hB o).trans (below_of_grown hg hge (by simp; omega)), by
    rcases hgg with h | h
    · rw [h]; exact hge
    · rw [h]; simp; omega⟩
end Go.Proofs.Ytoajommeiocfpaa
