/-
  What the document's functions on the bytes of a text answer: letter, digit, run, skip, sign: contracts. Conditions: those that each names.
-/
import Derived.Test.YtgeapkjegemkeaaGreatDoorLexSpec
import Derived.Test.YtgeapkjegemkeaaGreatDoorChecked
import Derived.Test.YtgeapkjegemkeaaGreatDoorFrame
import Derived.WalkSpells
import Derived.WalkLawsBesides
import Derived.Lib.Hide
namespace Go.Proofs.YtgeapkjegemkeaaGreatDoor
open Go Go.RowKit
set_option linter.unusedSimpArgs false
set_option linter.unusedVariables false

theorem lbox (w : World) (o : Obj) : Below w.heap.size w (w.alloc o) := (Below.refl _ _).alloc (Nat.le_refl _) o
theorem lin_is (f : Nat → Nat) (n k : Nat) (h : k < n) (hf : f k = 35) : upTo linB f n k = upTo linB f n (k + 1) := upTo_on h (by rw [hf]; rfl)
end Go.Proofs.YtgeapkjegemkeaaGreatDoor
