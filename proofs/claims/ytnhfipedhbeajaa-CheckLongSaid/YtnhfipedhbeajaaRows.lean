/-
  No cell of these rows narrows 'for every input' (looked for: loops, veiled, ifaces, maps, wideKeys, modest, calm, conditions, laid).
  DERIVED. THE GIVEN ROWS OF THIS SEAT. 6 by the template 'for every input the law returns true; each argument reads behind the call as it read before'; 0 by the template 'total and deterministic' (their statements: YtnhfipedhbeajaaTotals.lean).
  GIVEN WITH THE SEED: the statements are not yours to turn. If you find one false, say at which input.
  Laid BY PROGRAM, IN A SANDBOX (cutbox-rows.mjs): the forced cells as the released guide's own fill.sh prints them over the translation 150ba395a26bc626… (all of the seat's roots in one cut). By AI agents, Wed Nov 11 2026. No macro, syntax, notation, axiom, sorry.
-/
import Derived.Test.YtnhfipedhbeajaaChecked
import GoSem.Claim
import GoSem.ClaimJoined
import GoSem.ClaimMapViews
import Derived.JoinedTies
import Derived.KernelRfl
namespace Go.Proofs.Ytnhfipedhbeajaa
/- THE CELL 'sum', in the pinned program and in every row, IS THE sha256 OF THE DUMP (.gsa) THAT YtnhfipedhbeajaaProg.lean LOADS. Nothing in Lean hashes anything: it is a label: what it is worth is what the hold of that sum in a sandbox is worth. -/
noncomputable def Try.pinned : Pinned := { name := "ytnhfipedhbeajaa", sum := "150ba395a26bc6262b779bd0bdb54c58c800bf42d2ab440a3de9328c81305104", checked := Try.checked }
namespace Rows
def none {H : Type} : Left H := { results := [], args := [] }

/-- 'ravelinlaw04.CheckAll': WHATEVER THE INPUT: true; the input reads as it did. -/
def checkAllSpec : ChangeSpec := { name := "checkAll", fn := fun _ => fun
  | [d] => { results := [.lit (.bool true)], args := [d] }
  | _ => none }
def checkAllRow : OpenClaim := { program := "ytnhfipedhbeajaa", sum := "150ba395a26bc6262b779bd0bdb54c58c800bf42d2ab440a3de9328c81305104", func := "ravelin/ravelinlaw04.CheckAll", spec := "checkAll", unfollowed := true, recurses := true, apart := false }
def CheckAllSaid : Prop := checkAllRow.holds Try.pinned (OpenSpec.ofChange checkAllSpec)

/-- ITS FALSE NEIGHBOUR: 'it returns false'. Refute it at one input. -/
def checkAllWrong : ChangeSpec := { name := "checkAll", fn := fun _ => fun
  | [d] => { results := [.lit (.bool false)], args := [d] }
  | _ => none }
def CheckAllWrongFalsely : Prop := checkAllRow.holds Try.pinned (OpenSpec.ofChange checkAllWrong)

/-- 'ravelinlaw04.CheckOnes': WHATEVER THE INPUT: true; the input reads as it did. -/
def checkOnesSpec : ChangeSpec := { name := "checkOnes", fn := fun _ => fun
  | [d1, d2, d3] => { results := [.lit (.bool true)], args := [d1, d2, d3] }
  | _ => none }
def checkOnesRow : OpenClaim := { program := "ytnhfipedhbeajaa", sum := "150ba395a26bc6262b779bd0bdb54c58c800bf42d2ab440a3de9328c81305104", func := "ravelin/ravelinlaw04.CheckOnes", spec := "checkOnes", unfollowed := true, recurses := true, apart := false }
def CheckOnesSaid : Prop := checkOnesRow.holds Try.pinned (OpenSpec.ofChange checkOnesSpec)

/-- ITS FALSE NEIGHBOUR: 'it returns false'. Refute it at one input. -/
def checkOnesWrong : ChangeSpec := { name := "checkOnes", fn := fun _ => fun
  | [d1, d2, d3] => { results := [.lit (.bool false)], args := [d1, d2, d3] }
  | _ => none }
def CheckOnesWrongFalsely : Prop := checkOnesRow.holds Try.pinned (OpenSpec.ofChange checkOnesWrong)

/-- 'ravelinlaw04.CheckLong': WHATEVER THE INPUT: true; the input reads as it did. -/
def checkLongSpec : ChangeSpec := { name := "checkLong", fn := fun _ => fun
  | [d1, d2] => { results := [.lit (.bool true)], args := [d1, d2] }
  | _ => none }
def checkLongRow : OpenClaim := { program := "ytnhfipedhbeajaa", sum := "150ba395a26bc6262b779bd0bdb54c58c800bf42d2ab440a3de9328c81305104", func := "ravelin/ravelinlaw04.CheckLong", spec := "checkLong", unfollowed := true, recurses := true, apart := false }
def CheckLongSaid : Prop := checkLongRow.holds Try.pinned (OpenSpec.ofChange checkLongSpec)

/-- ITS FALSE NEIGHBOUR: 'it returns false'. Refute it at one input. -/
def checkLongWrong : ChangeSpec := { name := "checkLong", fn := fun _ => fun
  | [d1, d2] => { results := [.lit (.bool false)], args := [d1, d2] }
  | _ => none }
def CheckLongWrongFalsely : Prop := checkLongRow.holds Try.pinned (OpenSpec.ofChange checkLongWrong)

/-- 'ravelinlaw04.CheckRuns': WHATEVER THE INPUT: true; the input reads as it did. -/
def checkRunsSpec : ChangeSpec := { name := "checkRuns", fn := fun _ => fun
  | [d1, d2] => { results := [.lit (.bool true)], args := [d1, d2] }
  | _ => none }
def checkRunsRow : OpenClaim := { program := "ytnhfipedhbeajaa", sum := "150ba395a26bc6262b779bd0bdb54c58c800bf42d2ab440a3de9328c81305104", func := "ravelin/ravelinlaw04.CheckRuns", spec := "checkRuns", unfollowed := true, recurses := true, apart := false }
def CheckRunsSaid : Prop := checkRunsRow.holds Try.pinned (OpenSpec.ofChange checkRunsSpec)

/-- ITS FALSE NEIGHBOUR: 'it returns false'. Refute it at one input. -/
def checkRunsWrong : ChangeSpec := { name := "checkRuns", fn := fun _ => fun
  | [d1, d2] => { results := [.lit (.bool false)], args := [d1, d2] }
  | _ => none }
def CheckRunsWrongFalsely : Prop := checkRunsRow.holds Try.pinned (OpenSpec.ofChange checkRunsWrong)

/-- 'ravelinlaw04.CheckRest': WHATEVER THE INPUT: true; the input reads as it did. -/
def checkRestSpec : ChangeSpec := { name := "checkRest", fn := fun _ => fun
  | [d1, d2] => { results := [.lit (.bool true)], args := [d1, d2] }
  | _ => none }
def checkRestRow : OpenClaim := { program := "ytnhfipedhbeajaa", sum := "150ba395a26bc6262b779bd0bdb54c58c800bf42d2ab440a3de9328c81305104", func := "ravelin/ravelinlaw04.CheckRest", spec := "checkRest", unfollowed := true, recurses := true, apart := false }
def CheckRestSaid : Prop := checkRestRow.holds Try.pinned (OpenSpec.ofChange checkRestSpec)

/-- ITS FALSE NEIGHBOUR: 'it returns false'. Refute it at one input. -/
def checkRestWrong : ChangeSpec := { name := "checkRest", fn := fun _ => fun
  | [d1, d2] => { results := [.lit (.bool false)], args := [d1, d2] }
  | _ => none }
def CheckRestWrongFalsely : Prop := checkRestRow.holds Try.pinned (OpenSpec.ofChange checkRestWrong)

/-- 'ravelinlaw04.CheckJoined': WHATEVER THE INPUT: true; the input reads as it did. -/
def checkJoinedSpec : ChangeSpec := { name := "checkJoined", fn := fun _ => fun
  | [d1, d2] => { results := [.lit (.bool true)], args := [d1, d2] }
  | _ => none }
def checkJoinedRow : OpenClaim := { program := "ytnhfipedhbeajaa", sum := "150ba395a26bc6262b779bd0bdb54c58c800bf42d2ab440a3de9328c81305104", func := "ravelin/ravelinlaw04.CheckJoined", spec := "checkJoined", unfollowed := true, recurses := true, apart := false }
def CheckJoinedSaid : Prop := checkJoinedRow.holds Try.pinned (OpenSpec.ofChange checkJoinedSpec)

/-- ITS FALSE NEIGHBOUR: 'it returns false'. Refute it at one input. -/
def checkJoinedWrong : ChangeSpec := { name := "checkJoined", fn := fun _ => fun
  | [d1, d2] => { results := [.lit (.bool false)], args := [d1, d2] }
  | _ => none }
def CheckJoinedWrongFalsely : Prop := checkJoinedRow.holds Try.pinned (OpenSpec.ofChange checkJoinedWrong)

/- THE SECOND FORM. 'bulk': how many values and letters a reading holds, each counted each time it is reached (what is shared counts as often as it is met; a slice's spare places count too). A statement '..UptoSaid' is the law's where the arguments, and the package variables that the reading takes, are together of bulk at most 1048576: NARROWER than '..Said'. Prove '..Said' where nothing that the law and all that it calls make is longer than what came in: it says more and counts as full. Else prove '..UptoSaid'. A law counts once. -/
mutual
def uptoBulk {H : Type} : DataW H → Nat
  | .lit (.string bytes) => bytes.length + 1
  | .lit _ => 1
  | .nil => 1
  | .ptr d => uptoBulk d + 1
  | .slice elems spare => uptoBulkAll elems + uptoBulkAll spare + 1
  | .agg parts => uptoBulkAll parts + 1
  | .iface _ d => uptoBulk d + 1
  | .map entries => uptoBulkEntries entries + 1
  | .held _ => 1
def uptoBulkAll {H : Type} : List (DataW H) → Nat
  | [] => 0
  | d :: r => uptoBulk d + uptoBulkAll r
def uptoBulkEntries {H : Type} : List (Lit × DataW H) → Nat
  | [] => 0
  | x :: r => uptoBulkEntry x + uptoBulkEntries r
def uptoBulkEntry {H : Type} : Lit × DataW H → Nat
  | (.string bytes, d) => bytes.length + uptoBulk d + 1
  | (_, d) => uptoBulk d + 1
 end
def uptoSmall : (H : Type) → List (DataW H) → Bool := fun _ ds => decide (uptoBulkAll ds ≤ 1048576)
def OpenSpec.upto (s : _root_.Go.ChangeSpec) : _root_.Go.OpenSpec := { _root_.Go.OpenSpec.ofChange s with cond := some uptoSmall }

/-- 'ravelinlaw04.CheckAll', WHERE WHAT IT READS IS OF BULK AT MOST 1048576: true; the input reads as it did. -/
def checkAllUptoRow : OpenClaim := { program := "ytnhfipedhbeajaa", sum := "150ba395a26bc6262b779bd0bdb54c58c800bf42d2ab440a3de9328c81305104", func := "ravelin/ravelinlaw04.CheckAll", spec := "checkAll", unfollowed := true, recurses := true, apart := false, narrowed := true }
def CheckAllUptoSaid : Prop := checkAllUptoRow.holds Try.pinned (OpenSpec.upto checkAllSpec)

/-- 'ravelinlaw04.CheckOnes', WHERE WHAT IT READS IS OF BULK AT MOST 1048576: true; the input reads as it did. -/
def checkOnesUptoRow : OpenClaim := { program := "ytnhfipedhbeajaa", sum := "150ba395a26bc6262b779bd0bdb54c58c800bf42d2ab440a3de9328c81305104", func := "ravelin/ravelinlaw04.CheckOnes", spec := "checkOnes", unfollowed := true, recurses := true, apart := false, narrowed := true }
def CheckOnesUptoSaid : Prop := checkOnesUptoRow.holds Try.pinned (OpenSpec.upto checkOnesSpec)

/-- 'ravelinlaw04.CheckLong', WHERE WHAT IT READS IS OF BULK AT MOST 1048576: true; the input reads as it did. -/
def checkLongUptoRow : OpenClaim := { program := "ytnhfipedhbeajaa", sum := "150ba395a26bc6262b779bd0bdb54c58c800bf42d2ab440a3de9328c81305104", func := "ravelin/ravelinlaw04.CheckLong", spec := "checkLong", unfollowed := true, recurses := true, apart := false, narrowed := true }
def CheckLongUptoSaid : Prop := checkLongUptoRow.holds Try.pinned (OpenSpec.upto checkLongSpec)

/-- 'ravelinlaw04.CheckRuns', WHERE WHAT IT READS IS OF BULK AT MOST 1048576: true; the input reads as it did. -/
def checkRunsUptoRow : OpenClaim := { program := "ytnhfipedhbeajaa", sum := "150ba395a26bc6262b779bd0bdb54c58c800bf42d2ab440a3de9328c81305104", func := "ravelin/ravelinlaw04.CheckRuns", spec := "checkRuns", unfollowed := true, recurses := true, apart := false, narrowed := true }
def CheckRunsUptoSaid : Prop := checkRunsUptoRow.holds Try.pinned (OpenSpec.upto checkRunsSpec)

/-- 'ravelinlaw04.CheckRest', WHERE WHAT IT READS IS OF BULK AT MOST 1048576: true; the input reads as it did. -/
def checkRestUptoRow : OpenClaim := { program := "ytnhfipedhbeajaa", sum := "150ba395a26bc6262b779bd0bdb54c58c800bf42d2ab440a3de9328c81305104", func := "ravelin/ravelinlaw04.CheckRest", spec := "checkRest", unfollowed := true, recurses := true, apart := false, narrowed := true }
def CheckRestUptoSaid : Prop := checkRestUptoRow.holds Try.pinned (OpenSpec.upto checkRestSpec)

/-- 'ravelinlaw04.CheckJoined', WHERE WHAT IT READS IS OF BULK AT MOST 1048576: true; the input reads as it did. -/
def checkJoinedUptoRow : OpenClaim := { program := "ytnhfipedhbeajaa", sum := "150ba395a26bc6262b779bd0bdb54c58c800bf42d2ab440a3de9328c81305104", func := "ravelin/ravelinlaw04.CheckJoined", spec := "checkJoined", unfollowed := true, recurses := true, apart := false, narrowed := true }
def CheckJoinedUptoSaid : Prop := checkJoinedUptoRow.holds Try.pinned (OpenSpec.upto checkJoinedSpec)

end Rows
end Go.Proofs.Ytnhfipedhbeajaa
