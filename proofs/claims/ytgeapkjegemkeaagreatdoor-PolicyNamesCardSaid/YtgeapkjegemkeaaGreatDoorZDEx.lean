/-
  The document reads expressions whole: contracts. Conditions: those that each names.
-/
import Derived.Test.YtgeapkjegemkeaaGreatDoorPolDAll
import Derived.Test.YtgeapkjegemkeaaGreatDoorPolPure
import Derived.Test.YtgeapkjegemkeaaGreatDoorLexToks
import Derived.Test.YtgeapkjegemkeaaGreatDoorPPolParse
namespace Go.Proofs.YtgeapkjegemkeaaGreatDoor
open Go Go.RowKit
set_option linter.unusedSimpArgs false
set_option linter.unusedVariables false

end Go.Proofs.YtgeapkjegemkeaaGreatDoor
namespace Go.Proofs.YtgeapkjegemkeaaGreatDoor
open Go Go.RowKit
set_option linter.unusedSimpArgs false
set_option linter.unusedVariables false

end Go.Proofs.YtgeapkjegemkeaaGreatDoor
namespace Go.Proofs.YtgeapkjegemkeaaGreatDoor
open Go Go.RowKit
set_option linter.unusedSimpArgs false
set_option linter.unusedVariables false

section
variable {S : Src}
theorem end_at {r : Rd} {i d : Nat} (h : At S r i d) (hk : (tk S i).kind = 1) : (r.kindR S 1).err = 0 := by
  unfold Rd.kindR
  rw [h.peekT, if_pos hk, h.peekR, h.nextR]
  exact h.err
theorem end_no {r : Rd} {i d : Nat} (h : At S r i d) (hk : (tk S i).kind ≠ 1) : (r.kindR S 1).err = 61 ∧ (r.kindR S 1).bad = (tk S i).pos := by
  unfold Rd.kindR
  rw [h.peekT, if_neg hk, h.peekR]
  unfold Rd.fails
  rw [if_pos h.err]
  exact ⟨rfl, rfl⟩
theorem end_bad {r : Rd} {e : Int} {p : Nat} (h : Bad S r e p) : (r.kindR S 1).err = e ∧ (r.kindR S 1).bad = p := by
  unfold Rd.kindR
  rw [h.noT_of, if_neg (show ¬ noT.kind = 1 by decide)]
  rw [Rd.fails_err _ _ _ h.stuck]
  exact ⟨h.err, h.bad⟩
theorem start_sim (hS : Lexd S) : (0 < S.toks.length → At S ⟨0, 0, 0, 0⟩ 0 0) ∧ (¬ 0 < S.toks.length → Bad S ⟨0, 0, 0, 0⟩ S.err S.place) := by
  refine ⟨fun h => ⟨rfl, rfl, rfl, h⟩, fun h => ?_⟩
  have e : (⟨0, 0, 0, 0⟩ : Rd).peekR S = { (⟨0, 0, 0, 0⟩ : Rd) with err := S.err, bad := S.place } := if_pos ⟨rfl, h⟩
  exact ⟨hS.start.resolve_left h, by rw [e], by rw [e]⟩
/-- An expression, as the document reads it, and as the grammar does. -/
theorem exprN_sim (hS : Lexd S) {n : Nat} (hn : S.toks.length < n) :
    (0 < S.toks.length → SimO S 0 (exprN S n ⟨0, 0, 0, 0⟩) (exprG S n 0 0)) ∧ (¬ 0 < S.toks.length → BadO S S.err S.place (exprN S n ⟨0, 0, 0, 0⟩)) := by
  have h1 := one_simN hS n 0 (by decide)
  have h2 := expr_sim (d := 0) (by omega) hS h1.1 (h1.2 (by omega)) (fun i hi => fwd_one n 0 i hi)
  exact ⟨fun h => h2.1 _ 0 ((start_sim hS).1 h) (by omega), fun h => h2.2 _ _ _ ((start_sim hS).2 h)⟩
end
end Go.Proofs.YtgeapkjegemkeaaGreatDoor
