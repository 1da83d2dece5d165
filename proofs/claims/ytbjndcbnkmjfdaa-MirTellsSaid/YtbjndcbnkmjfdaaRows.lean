/-
  No cell of these rows narrows 'for every input' (looked for: loops, veiled, ifaces, maps, wideKeys, modest, calm, conditions, laid).
  DERIVED. THE GIVEN ROWS OF THIS SEAT. 7 by the template 'for every input the law returns true; each argument reads behind the call as it read before'; 0 by the template 'total and deterministic' (their statements: YtbjndcbnkmjfdaaTotals.lean).
  GIVEN WITH THE SEED: the statements are not yours to turn. If you find one false, say at which input.
  Laid BY PROGRAM, IN A SANDBOX (cutbox-rows.mjs): the forced cells as the released guide's own fill.sh prints them over the translation 1f768bc34abc3048… (all of the seat's roots in one cut). By AI agents, Wed Nov 11 2026. No macro, syntax, notation, axiom, sorry.
-/
import Derived.Test.YtbjndcbnkmjfdaaChecked
import GoSem.Claim
import GoSem.ClaimJoined
import GoSem.ClaimMapViews
import Derived.JoinedTies
import Derived.KernelRfl
namespace Go.Proofs.Ytbjndcbnkmjfdaa
/- THE CELL 'sum', in the pinned program and in every row, IS THE sha256 OF THE DUMP (.gsa) THAT YtbjndcbnkmjfdaaProg.lean LOADS. Nothing in Lean hashes anything: it is a label: what it is worth is what the hold of that sum in a sandbox is worth. -/
noncomputable def Try.pinned : Pinned := { name := "ytbjndcbnkmjfdaa", sum := "1f768bc34abc304881d97ba5e95ce00fb0ba503bf60e8f0d6fda7a72429e9c41", checked := Try.checked }
namespace Rows
def none {H : Type} : Left H := { results := [], args := [] }

/-- 'ravelinlaw12.MirChecks': WHATEVER THE INPUT: true; the input reads as it did. -/
def mirChecksSpec : ChangeSpec := { name := "mirChecks", fn := fun _ => fun
  | [d] => { results := [.lit (.bool true)], args := [d] }
  | _ => none }
def mirChecksRow : OpenClaim := { program := "ytbjndcbnkmjfdaa", sum := "1f768bc34abc304881d97ba5e95ce00fb0ba503bf60e8f0d6fda7a72429e9c41", func := "ravelin/ravelinlaw12.MirChecks", spec := "mirChecks", apart := false }
def MirChecksSaid : Prop := mirChecksRow.holds Try.pinned (OpenSpec.ofChange mirChecksSpec)

/-- ITS FALSE NEIGHBOUR: 'it returns false'. Refute it at one input. -/
def mirChecksWrong : ChangeSpec := { name := "mirChecks", fn := fun _ => fun
  | [d] => { results := [.lit (.bool false)], args := [d] }
  | _ => none }
def MirChecksWrongFalsely : Prop := mirChecksRow.holds Try.pinned (OpenSpec.ofChange mirChecksWrong)

/-- 'ravelinlaw12.MirLong': WHATEVER THE INPUT: true; the input reads as it did. -/
def mirLongSpec : ChangeSpec := { name := "mirLong", fn := fun _ => fun
  | [d] => { results := [.lit (.bool true)], args := [d] }
  | _ => none }
def mirLongRow : OpenClaim := { program := "ytbjndcbnkmjfdaa", sum := "1f768bc34abc304881d97ba5e95ce00fb0ba503bf60e8f0d6fda7a72429e9c41", func := "ravelin/ravelinlaw12.MirLong", spec := "mirLong", apart := false }
def MirLongSaid : Prop := mirLongRow.holds Try.pinned (OpenSpec.ofChange mirLongSpec)

/-- ITS FALSE NEIGHBOUR: 'it returns false'. Refute it at one input. -/
def mirLongWrong : ChangeSpec := { name := "mirLong", fn := fun _ => fun
  | [d] => { results := [.lit (.bool false)], args := [d] }
  | _ => none }
def MirLongWrongFalsely : Prop := mirLongRow.holds Try.pinned (OpenSpec.ofChange mirLongWrong)

/-- 'ravelinlaw12.MirRuns': WHATEVER THE INPUT: true; the input reads as it did. -/
def mirRunsSpec : ChangeSpec := { name := "mirRuns", fn := fun _ => fun
  | [d1, d2] => { results := [.lit (.bool true)], args := [d1, d2] }
  | _ => none }
def mirRunsRow : OpenClaim := { program := "ytbjndcbnkmjfdaa", sum := "1f768bc34abc304881d97ba5e95ce00fb0ba503bf60e8f0d6fda7a72429e9c41", func := "ravelin/ravelinlaw12.MirRuns", spec := "mirRuns", apart := false }
def MirRunsSaid : Prop := mirRunsRow.holds Try.pinned (OpenSpec.ofChange mirRunsSpec)

/-- ITS FALSE NEIGHBOUR: 'it returns false'. Refute it at one input. -/
def mirRunsWrong : ChangeSpec := { name := "mirRuns", fn := fun _ => fun
  | [d1, d2] => { results := [.lit (.bool false)], args := [d1, d2] }
  | _ => none }
def MirRunsWrongFalsely : Prop := mirRunsRow.holds Try.pinned (OpenSpec.ofChange mirRunsWrong)

/-- 'ravelinlaw12.MirTells': WHATEVER THE INPUT: true; the input reads as it did. -/
def mirTellsSpec : ChangeSpec := { name := "mirTells", fn := fun _ => fun
  | [d1, d2] => { results := [.lit (.bool true)], args := [d1, d2] }
  | _ => none }
def mirTellsRow : OpenClaim := { program := "ytbjndcbnkmjfdaa", sum := "1f768bc34abc304881d97ba5e95ce00fb0ba503bf60e8f0d6fda7a72429e9c41", func := "ravelin/ravelinlaw12.MirTells", spec := "mirTells", apart := false }
def MirTellsSaid : Prop := mirTellsRow.holds Try.pinned (OpenSpec.ofChange mirTellsSpec)

/-- ITS FALSE NEIGHBOUR: 'it returns false'. Refute it at one input. -/
def mirTellsWrong : ChangeSpec := { name := "mirTells", fn := fun _ => fun
  | [d1, d2] => { results := [.lit (.bool false)], args := [d1, d2] }
  | _ => none }
def MirTellsWrongFalsely : Prop := mirTellsRow.holds Try.pinned (OpenSpec.ofChange mirTellsWrong)

/-- 'ravelinlaw12.MirFrom': WHATEVER THE INPUT: true; the input reads as it did. -/
def mirFromSpec : ChangeSpec := { name := "mirFrom", fn := fun _ => fun
  | [d] => { results := [.lit (.bool true)], args := [d] }
  | _ => none }
def mirFromRow : OpenClaim := { program := "ytbjndcbnkmjfdaa", sum := "1f768bc34abc304881d97ba5e95ce00fb0ba503bf60e8f0d6fda7a72429e9c41", func := "ravelin/ravelinlaw12.MirFrom", spec := "mirFrom", unfollowed := true, recurses := true, apart := false }
def MirFromSaid : Prop := mirFromRow.holds Try.pinned (OpenSpec.ofChange mirFromSpec)

/-- ITS FALSE NEIGHBOUR: 'it returns false'. Refute it at one input. -/
def mirFromWrong : ChangeSpec := { name := "mirFrom", fn := fun _ => fun
  | [d] => { results := [.lit (.bool false)], args := [d] }
  | _ => none }
def MirFromWrongFalsely : Prop := mirFromRow.holds Try.pinned (OpenSpec.ofChange mirFromWrong)

/-- 'ravelinlaw12.MirEnds': WHATEVER THE INPUT: true; the input reads as it did. -/
def mirEndsSpec : ChangeSpec := { name := "mirEnds", fn := fun _ => fun
  | [d1, d2] => { results := [.lit (.bool true)], args := [d1, d2] }
  | _ => none }
def mirEndsRow : OpenClaim := { program := "ytbjndcbnkmjfdaa", sum := "1f768bc34abc304881d97ba5e95ce00fb0ba503bf60e8f0d6fda7a72429e9c41", func := "ravelin/ravelinlaw12.MirEnds", spec := "mirEnds", apart := false }
def MirEndsSaid : Prop := mirEndsRow.holds Try.pinned (OpenSpec.ofChange mirEndsSpec)

/-- ITS FALSE NEIGHBOUR: 'it returns false'. Refute it at one input. -/
def mirEndsWrong : ChangeSpec := { name := "mirEnds", fn := fun _ => fun
  | [d1, d2] => { results := [.lit (.bool false)], args := [d1, d2] }
  | _ => none }
def MirEndsWrongFalsely : Prop := mirEndsRow.holds Try.pinned (OpenSpec.ofChange mirEndsWrong)

/-- 'ravelinlaw12.MirFields': WHATEVER THE INPUT: true; the input reads as it did. -/
def mirFieldsSpec : ChangeSpec := { name := "mirFields", fn := fun _ => fun
  | [d1, d2, d3] => { results := [.lit (.bool true)], args := [d1, d2, d3] }
  | _ => none }
def mirFieldsRow : OpenClaim := { program := "ytbjndcbnkmjfdaa", sum := "1f768bc34abc304881d97ba5e95ce00fb0ba503bf60e8f0d6fda7a72429e9c41", func := "ravelin/ravelinlaw12.MirFields", spec := "mirFields", apart := false }
def MirFieldsSaid : Prop := mirFieldsRow.holds Try.pinned (OpenSpec.ofChange mirFieldsSpec)

/-- ITS FALSE NEIGHBOUR: 'it returns false'. Refute it at one input. -/
def mirFieldsWrong : ChangeSpec := { name := "mirFields", fn := fun _ => fun
  | [d1, d2, d3] => { results := [.lit (.bool false)], args := [d1, d2, d3] }
  | _ => none }
def MirFieldsWrongFalsely : Prop := mirFieldsRow.holds Try.pinned (OpenSpec.ofChange mirFieldsWrong)

/- THE SECOND FORM. 'bulk': how many values and letters a reading holds, each counted each time it is reached (what is shared counts as often as it is met; a slice's spare places count too). A statement '..UptoSaid' is the law's where the arguments, and the package variables that the reading takes, are together of bulk at most 1048576: NARROWER than '..Said'. Prove '..Said' where nothing that the law and all that it calls make is longer than what came in: it says more and counts as full. Else prove '..UptoSaid'. A law counts once. -/
mutual
def uptoBulk {H : Type} : DataW H → Nat
  | .lit (.string bytes) => bytes.length + 1
  | .lit _ => 1
  | .nil => 1
  | .ptr d => uptoBulk d + 1
  | .slice elems spare => uptoBulkAll elems + uptoBulkAll spare + 1
  | .agg parts => uptoBulkAll parts + 1
  | .iface _ d => uptoBulk d + 1
  | .map entries => uptoBulkEntries entries + 1
  | .held _ => 1
def uptoBulkAll {H : Type} : List (DataW H) → Nat
  | [] => 0
  | d :: r => uptoBulk d + uptoBulkAll r
def uptoBulkEntries {H : Type} : List (Lit × DataW H) → Nat
  | [] => 0
  | x :: r => uptoBulkEntry x + uptoBulkEntries r
def uptoBulkEntry {H : Type} : Lit × DataW H → Nat
  | (.string bytes, d) => bytes.length + uptoBulk d + 1
  | (_, d) => uptoBulk d + 1
 end
def uptoSmall : (H : Type) → List (DataW H) → Bool := fun _ ds => decide (uptoBulkAll ds ≤ 1048576)
def OpenSpec.upto (s : _root_.Go.ChangeSpec) : _root_.Go.OpenSpec := { _root_.Go.OpenSpec.ofChange s with cond := some uptoSmall }

/-- 'ravelinlaw12.MirChecks', WHERE WHAT IT READS IS OF BULK AT MOST 1048576: true; the input reads as it did. -/
def mirChecksUptoRow : OpenClaim := { program := "ytbjndcbnkmjfdaa", sum := "1f768bc34abc304881d97ba5e95ce00fb0ba503bf60e8f0d6fda7a72429e9c41", func := "ravelin/ravelinlaw12.MirChecks", spec := "mirChecks", apart := false, narrowed := true }
def MirChecksUptoSaid : Prop := mirChecksUptoRow.holds Try.pinned (OpenSpec.upto mirChecksSpec)

/-- 'ravelinlaw12.MirLong', WHERE WHAT IT READS IS OF BULK AT MOST 1048576: true; the input reads as it did. -/
def mirLongUptoRow : OpenClaim := { program := "ytbjndcbnkmjfdaa", sum := "1f768bc34abc304881d97ba5e95ce00fb0ba503bf60e8f0d6fda7a72429e9c41", func := "ravelin/ravelinlaw12.MirLong", spec := "mirLong", apart := false, narrowed := true }
def MirLongUptoSaid : Prop := mirLongUptoRow.holds Try.pinned (OpenSpec.upto mirLongSpec)

/-- 'ravelinlaw12.MirRuns', WHERE WHAT IT READS IS OF BULK AT MOST 1048576: true; the input reads as it did. -/
def mirRunsUptoRow : OpenClaim := { program := "ytbjndcbnkmjfdaa", sum := "1f768bc34abc304881d97ba5e95ce00fb0ba503bf60e8f0d6fda7a72429e9c41", func := "ravelin/ravelinlaw12.MirRuns", spec := "mirRuns", apart := false, narrowed := true }
def MirRunsUptoSaid : Prop := mirRunsUptoRow.holds Try.pinned (OpenSpec.upto mirRunsSpec)

/-- 'ravelinlaw12.MirTells', WHERE WHAT IT READS IS OF BULK AT MOST 1048576: true; the input reads as it did. -/
def mirTellsUptoRow : OpenClaim := { program := "ytbjndcbnkmjfdaa", sum := "1f768bc34abc304881d97ba5e95ce00fb0ba503bf60e8f0d6fda7a72429e9c41", func := "ravelin/ravelinlaw12.MirTells", spec := "mirTells", apart := false, narrowed := true }
def MirTellsUptoSaid : Prop := mirTellsUptoRow.holds Try.pinned (OpenSpec.upto mirTellsSpec)

/-- 'ravelinlaw12.MirFrom', WHERE WHAT IT READS IS OF BULK AT MOST 1048576: true; the input reads as it did. -/
def mirFromUptoRow : OpenClaim := { program := "ytbjndcbnkmjfdaa", sum := "1f768bc34abc304881d97ba5e95ce00fb0ba503bf60e8f0d6fda7a72429e9c41", func := "ravelin/ravelinlaw12.MirFrom", spec := "mirFrom", unfollowed := true, recurses := true, apart := false, narrowed := true }
def MirFromUptoSaid : Prop := mirFromUptoRow.holds Try.pinned (OpenSpec.upto mirFromSpec)

/-- 'ravelinlaw12.MirEnds', WHERE WHAT IT READS IS OF BULK AT MOST 1048576: true; the input reads as it did. -/
def mirEndsUptoRow : OpenClaim := { program := "ytbjndcbnkmjfdaa", sum := "1f768bc34abc304881d97ba5e95ce00fb0ba503bf60e8f0d6fda7a72429e9c41", func := "ravelin/ravelinlaw12.MirEnds", spec := "mirEnds", apart := false, narrowed := true }
def MirEndsUptoSaid : Prop := mirEndsUptoRow.holds Try.pinned (OpenSpec.upto mirEndsSpec)

/-- 'ravelinlaw12.MirFields', WHERE WHAT IT READS IS OF BULK AT MOST 1048576: true; the input reads as it did. -/
def mirFieldsUptoRow : OpenClaim := { program := "ytbjndcbnkmjfdaa", sum := "1f768bc34abc304881d97ba5e95ce00fb0ba503bf60e8f0d6fda7a72429e9c41", func := "ravelin/ravelinlaw12.MirFields", spec := "mirFields", apart := false, narrowed := true }
def MirFieldsUptoSaid : Prop := mirFieldsUptoRow.holds Try.pinned (OpenSpec.upto mirFieldsSpec)

end Rows
end Go.Proofs.Ytbjndcbnkmjfdaa
