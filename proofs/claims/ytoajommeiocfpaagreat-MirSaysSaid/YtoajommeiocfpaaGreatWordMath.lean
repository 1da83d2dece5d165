/-
  Plain facts on words of 64 bits, and how the model's integer operations spell them. No condition: nothing here speaks of a program.
-/
import Derived.WalkKit
namespace Go.Proofs.YtoajommeiocfpaaGreat
open Go
set_option linter.unusedSimpArgs false

/-! ### The model's operations on numbers that are words -/
/-! ### The document's functions, as bits -/
/-! ### One bit, and words that grow bit by bit -/
/-! ### The walk's own spellings -/
/-! ### What a reading hands over, as words -/
end Go.Proofs.YtoajommeiocfpaaGreat
