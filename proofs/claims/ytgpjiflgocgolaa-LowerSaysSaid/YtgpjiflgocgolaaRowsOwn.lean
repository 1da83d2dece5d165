/-
  append onto a slice of the call's own, nil or not, as a law of the walk. No condition but those that it names.
-/
import Derived.Test.YtgpjiflgocgolaaFrame
import Derived.Maps.AppendAt
namespace Go.Proofs.Ytgpjiflgocgolaa
open Go Go.RowKit
set_option linter.unusedSimpArgs false
set_option linter.unusedVariables false

/-- What is below stays, whatever grows above. -/
theorem below_own {a b c : World} {base : Nat} {e : TypeId} {sz : Nat} {v : Value} {n : Nat} {xs : List Value} (h : Below base a b) (ho : b.ownsRow base e sz v n xs) (hg : b.grownBy c v.ownBlock) (hB : base ≤ a.heap.size) : Below base a c :=
  h.trans ⟨hg.os, hg.tape, hg.output, hg.size, fun k hk => hg.block k (Nat.lt_of_lt_of_le hk (Nat.le_trans hB h.size)) (fun e => by
    have := (ho.lt k e.symm).1; omega)⟩
theorem own_below {b c : World} {base : Nat} {e : TypeId} {sz : Nat} {v : Value} {n : Nat} {xs : List Value} (ho : b.ownsRow base e sz v n xs) (hb : Below b.heap.size b c) : c.ownsRow base e sz v n xs :=
  ho.kept (row := none) ⟨hb.os, hb.tape, hb.output, hb.size, fun k hk _ => hb.block k hk⟩ (by
    cases hv : v.ownBlock
    · exact .inl rfl
    · exact .inr (by simp))
end Go.Proofs.Ytgpjiflgocgolaa
