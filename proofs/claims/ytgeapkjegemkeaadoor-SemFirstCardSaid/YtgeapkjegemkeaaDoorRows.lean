/-
  NARROWER THAN 'FOR EVERY INPUT', by the rows' own cells (each row's printed sentence says how): SemFirst: loops, laid.
  DERIVED. THE GIVEN ROWS OF THIS SEAT. 1 by the template 'for every input the law returns true; each argument reads behind the call as it read before'; 0 by the template 'total and deterministic' (their statements: YtgeapkjegemkeaaDoorTotals.lean).
  GIVEN WITH THE SEED: the statements are not yours to turn. If you find one false, say at which input.
  Laid BY PROGRAM, IN A SANDBOX (cutbox-rows.mjs): the forced cells as the released guide's own fill.sh prints them over the translation 77061a7151c143e0… (all of the seat's roots in one cut). By AI agents, Wed Nov 11 2026. No macro, syntax, notation, axiom, sorry.
-/
import Derived.Test.YtgeapkjegemkeaaDoorChecked
import GoSem.Claim
import GoSem.ClaimJoined
import GoSem.ClaimMapViews
import Derived.JoinedTies
import Derived.KernelRfl
namespace Go.Proofs.YtgeapkjegemkeaaDoor
/- THE CELL 'sum', in the pinned program and in every row, IS THE sha256 OF THE DUMP (.gsa) THAT YtgeapkjegemkeaaDoorProg.lean LOADS. Nothing in Lean hashes anything: it is a label: what it is worth is what the hold of that sum in a sandbox is worth. -/
noncomputable def Tryd.pinned : Pinned := { name := "ytgeapkjegemkeaadoor", sum := "77061a7151c143e0c9b5161549c2830ffcb038d6e2d8b737c9347b135d2a9003", checked := Tryd.checked }
namespace Rows
def none {H : Type} : Left H := { results := [], args := [] }

/- WHAT THE LISTED PACKAGE-LEVEL VARIABLES READ AS WHEN THE CALL BEGINS. Each datum BY PROGRAM (the guide's laid-datum.mjs) off the statement by which the dump's own 'gosem.cut.vars' lays the variable. In a bare row this is a premise. The card (YtgeapkjegemkeaaDoorCards.lean) ties it to the program's text. -/
def laid_ravelin_secdata_rows {H : Type} : DataW H := .agg [.agg [.lit (.int .i64 1), .lit (.int .u32 2147483648), .lit (.bool false)], .agg [.lit (.int .i64 2), .lit (.int .u32 0), .lit (.bool false)], .agg [.lit (.int .i64 3), .lit (.int .u32 196608), .lit (.bool true)], .agg [.lit (.int .i64 4), .lit (.int .u32 327680), .lit (.bool true)], .agg [.lit (.int .i64 5), .lit (.int .u32 2143289344), .lit (.bool false)], .agg [.lit (.int .i64 6), .lit (.int .u32 2146435072), .lit (.bool true)], .agg [.lit (.int .i64 7), .lit (.int .u32 2147221504), .lit (.bool false)], .agg [.lit (.int .i64 8), .lit (.int .u32 2147418112), .lit (.bool false)]]

/-- 'ravelinlaw07.SemFirst': WHATEVER THE INPUT: true; the input reads as it did. -/
def semFirstSpec : ChangeSpec := { name := "semFirst", fn := fun _ => fun
  | [d] => { results := [.lit (.bool true)], args := [d] }
  | _ => none }
def semFirstRow : OpenClaim := { program := "ytgeapkjegemkeaadoor", sum := "77061a7151c143e0c9b5161549c2830ffcb038d6e2d8b737c9347b135d2a9003", func := "ravelin/ravelinlaw07.SemFirst", spec := "semFirst", unfollowed := true, recurses := true, named := ["ravelin/secdata.rows"], loops := true, apart := false, laid := [("ravelin/secdata.rows", laid_ravelin_secdata_rows)] }
def SemFirstSaid : Prop := semFirstRow.holds Tryd.pinned (OpenSpec.ofChange semFirstSpec)

/-- ITS FALSE NEIGHBOUR: 'it returns false'. Refute it at one input. -/
def semFirstWrong : ChangeSpec := { name := "semFirst", fn := fun _ => fun
  | [d] => { results := [.lit (.bool false)], args := [d] }
  | _ => none }
def SemFirstWrongFalsely : Prop := semFirstRow.holds Tryd.pinned (OpenSpec.ofChange semFirstWrong)

/- THE SECOND FORM. 'bulk': how many values and letters a reading holds, each counted each time it is reached (what is shared counts as often as it is met; a slice's spare places count too). A statement '..UptoSaid' is the law's where the arguments, and the package variables that the reading takes, are together of bulk at most 1048576: NARROWER than '..Said'. Prove '..Said' where nothing that the law and all that it calls make is longer than what came in: it says more and counts as full. Else prove '..UptoSaid'. A law counts once. -/
mutual
def uptoBulk {H : Type} : DataW H → Nat
  | .lit (.string bytes) => bytes.length + 1
  | .lit _ => 1
  | .nil => 1
  | .ptr d => uptoBulk d + 1
  | .slice elems spare => uptoBulkAll elems + uptoBulkAll spare + 1
  | .agg parts => uptoBulkAll parts + 1
  | .iface _ d => uptoBulk d + 1
  | .map entries => uptoBulkEntries entries + 1
  | .held _ => 1
def uptoBulkAll {H : Type} : List (DataW H) → Nat
  | [] => 0
  | d :: r => uptoBulk d + uptoBulkAll r
def uptoBulkEntries {H : Type} : List (Lit × DataW H) → Nat
  | [] => 0
  | x :: r => uptoBulkEntry x + uptoBulkEntries r
def uptoBulkEntry {H : Type} : Lit × DataW H → Nat
  | (.string bytes, d) => bytes.length + uptoBulk d + 1
  | (_, d) => uptoBulk d + 1
 end
def uptoSmall : (H : Type) → List (DataW H) → Bool := fun _ ds => decide (uptoBulkAll ds ≤ 1048576)
def OpenSpec.upto (s : _root_.Go.ChangeSpec) : _root_.Go.OpenSpec := { _root_.Go.OpenSpec.ofChange s with cond := some uptoSmall }

/-- 'ravelinlaw07.SemFirst', WHERE WHAT IT READS IS OF BULK AT MOST 1048576: true; the input reads as it did. -/
def semFirstUptoRow : OpenClaim := { program := "ytgeapkjegemkeaadoor", sum := "77061a7151c143e0c9b5161549c2830ffcb038d6e2d8b737c9347b135d2a9003", func := "ravelin/ravelinlaw07.SemFirst", spec := "semFirst", unfollowed := true, recurses := true, named := ["ravelin/secdata.rows"], loops := true, apart := false, laid := [("ravelin/secdata.rows", laid_ravelin_secdata_rows)], narrowed := true }
def SemFirstUptoSaid : Prop := semFirstUptoRow.holds Tryd.pinned (OpenSpec.upto semFirstSpec)

end Rows
end Go.Proofs.YtgeapkjegemkeaaDoor
