/-
  Classic BPF's instructions lent with a mark behind, and whether they were kept: the verifier's own Lent and Kept: contracts. Conditions: those that each names.
-/
import Derived.Test.YtoajommeiocfpaaGreatCbpfSame
import Derived.Test.YtoajommeiocfpaaGreatRowsN
import Derived.Test.YtoajommeiocfpaaGreatAppend2
namespace Go.Proofs.YtoajommeiocfpaaGreat
open Go Go.RowKit
set_option linter.unusedSimpArgs false
set_option linter.unusedVariables false

/-- A program's cells. -/
def progF (q : Nat → Ins) (k : Nat) : Value := insF (q (k / 4)) (k % 4)
theorem progF_at (q : Nat → Ins) (i j : Nat) (hj : j < 4) : progF q (i * 4 + j) = insF (q i) j := by
  rw [progF, show (i * 4 + j) / 4 = i by omega, show (i * 4 + j) % 4 = j by omega]
theorem progF_one (q : Nat → Ins) (k : Nat) : (progF q k).oneCell' = true := by
  rw [progF]
  have : k % 4 = 0 ∨ k % 4 = 1 ∨ k % 4 = 2 ∨ k % 4 = 3 := by omega
  rcases this with h | h | h | h <;> rw [h] <;> rfl
theorem holds_of_prog {w : World} {A : Option Addr} {n : Nat} {q : Nat → Ins} (h : ProgAt w A n q) : Holds w A (n * 4) (progF q) := fun hn => by
  obtain ⟨b, o, rfl, hl, hc⟩ := h (by omega)
  refine ⟨b, o, rfl, hl, fun i hi => ?_⟩
  obtain ⟨c0, c1, c2, c3⟩ := hc (i / 4) (by omega)
  have hi4 : i = i / 4 * 4 + i % 4 := by omega
  have : i % 4 = 0 ∨ i % 4 = 1 ∨ i % 4 = 2 ∨ i % 4 = 3 := by omega
  rcases this with h | h | h | h <;> rw [progF, h, show o + i = o + i / 4 * 4 + i % 4 by omega, h]
  · exact c0
  · exact c1
  · exact c2
  · exact c3
theorem prog_of_row {w : World} {g m n : Nat} {t : TypeId} {F : Nat → Value} {q : Nat → Ins} (h : w.rowIs g t m F) (hF : ∀ k, k < n * 4 → F k = progF q k) (hm : n * 4 ≤ m) : ProgAt w (some ⟨g, 0, none⟩) n q := fun _ => by
  refine ⟨g, 0, rfl, h.lt, fun i hi => ?_⟩
  have at_ : ∀ j, j < 4 → w.cell? ⟨g, i * 4 + j, none⟩ = some (insF (q i) j) := fun j hj => by
    rw [World.rowIs.cell h (by omega), hF _ (by omega), progF_at _ _ _ hj]
  rw [Nat.zero_add]
  exact ⟨at_ 0 (by decide), at_ 1 (by decide), at_ 2 (by decide), at_ 3 (by decide)⟩
theorem info_ins : (Tryz.prog.info? 60).map (fun i => (i.zero, i.size, i.bytes)) = some (some (.agg #[.int .u16 0, .int .u8 0, .int .u8 0, .int .u32 0]), 4, 8) := by kernel_rfl

/-- What Lent leaves: the same instructions in new memory, the mark behind. -/
def LentAt (w w' : World) (g cap n : Nat) (q : Nat → Ins) : Prop :=
  ∃ F, w'.rowIs g 60 (cap * 4) F ∧ n + 1 ≤ cap ∧ cap ≤ maxLen ∧ (∀ k, k < n * 4 → F k = progF q k) ∧ F (n * 4) = .int .u16 30583 ∧ Below w.heap.size w w' ∧ w.heap.size ≤ g
theorem LentAt.prog {w w' : World} {g cap n : Nat} {q : Nat → Ins} (h : LentAt w w' g cap n q) : ProgAt w' (some ⟨g, 0, none⟩) n q := by
  obtain ⟨F, hr, hc, _, hF, _⟩ := h
  exact prog_of_row hr hF (by omega)
end Go.Proofs.YtoajommeiocfpaaGreat
