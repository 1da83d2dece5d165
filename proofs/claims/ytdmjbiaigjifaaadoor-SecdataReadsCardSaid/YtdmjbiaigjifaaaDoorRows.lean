/-
  NARROWER THAN 'FOR EVERY INPUT', by the rows' own cells (each row's printed sentence says how): SecdataBytes: laid · SecdataReads: laid · SecdataWords: laid · SecdataCodes: laid · SecdataActions: laid · SecdataApart: laid · SecdataOne: laid.
  DERIVED. THE GIVEN ROWS OF THIS SEAT. 7 by the template 'for every input the law returns true; each argument reads behind the call as it read before'; 0 by the template 'total and deterministic' (their statements: YtdmjbiaigjifaaaDoorTotals.lean).
  GIVEN WITH THE SEED: the statements are not yours to turn. If you find one false, say at which input.
  Laid BY PROGRAM, IN A SANDBOX (cutbox-rows.mjs): the forced cells as the released guide's own fill.sh prints them over the translation 79a33095004cc56d… (all of the seat's roots in one cut). By AI agents, Wed Nov 11 2026. No macro, syntax, notation, axiom, sorry.
-/
import Derived.Test.YtdmjbiaigjifaaaDoorChecked
import GoSem.Claim
import GoSem.ClaimJoined
import GoSem.ClaimMapViews
import Derived.JoinedTies
import Derived.KernelRfl
namespace Go.Proofs.YtdmjbiaigjifaaaDoor
/- THE CELL 'sum', in the pinned program and in every row, IS THE sha256 OF THE DUMP (.gsa) THAT YtdmjbiaigjifaaaDoorProg.lean LOADS. Nothing in Lean hashes anything: it is a label: what it is worth is what the hold of that sum in a sandbox is worth. -/
noncomputable def Tryd.pinned : Pinned := { name := "ytdmjbiaigjifaaadoor", sum := "79a33095004cc56da570162bbc67ecf7aa3f3d12375e9ac99fb76c8457a86e85", checked := Tryd.checked }
namespace Rows
def none {H : Type} : Left H := { results := [], args := [] }

/- WHAT THE LISTED PACKAGE-LEVEL VARIABLES READ AS WHEN THE CALL BEGINS. Each datum BY PROGRAM (the guide's laid-datum.mjs) off the statement by which the dump's own 'gosem.cut.vars' lays the variable. In a bare row this is a premise. The card (YtdmjbiaigjifaaaDoorCards.lean) ties it to the program's text. -/
def laid_ravelin_secdata_rows {H : Type} : DataW H := .agg [.agg [.lit (.int .i64 1), .lit (.int .u32 2147483648), .lit (.bool false)], .agg [.lit (.int .i64 2), .lit (.int .u32 0), .lit (.bool false)], .agg [.lit (.int .i64 3), .lit (.int .u32 196608), .lit (.bool true)], .agg [.lit (.int .i64 4), .lit (.int .u32 327680), .lit (.bool true)], .agg [.lit (.int .i64 5), .lit (.int .u32 2143289344), .lit (.bool false)], .agg [.lit (.int .i64 6), .lit (.int .u32 2146435072), .lit (.bool true)], .agg [.lit (.int .i64 7), .lit (.int .u32 2147221504), .lit (.bool false)], .agg [.lit (.int .i64 8), .lit (.int .u32 2147418112), .lit (.bool false)]]

/-- 'ravelinlaw02.SecdataBytes': WHATEVER THE INPUT: true; the input reads as it did. -/
def secdataBytesSpec : ChangeSpec := { name := "secdataBytes", fn := fun _ => fun
  | [d] => { results := [.lit (.bool true)], args := [d] }
  | _ => none }
def secdataBytesRow : OpenClaim := { program := "ytdmjbiaigjifaaadoor", sum := "79a33095004cc56da570162bbc67ecf7aa3f3d12375e9ac99fb76c8457a86e85", func := "ravelin/ravelinlaw02.SecdataBytes", spec := "secdataBytes", named := ["ravelin/secdata.rows"], apart := false, laid := [("ravelin/secdata.rows", laid_ravelin_secdata_rows)] }
def SecdataBytesSaid : Prop := secdataBytesRow.holds Tryd.pinned (OpenSpec.ofChange secdataBytesSpec)

/-- ITS FALSE NEIGHBOUR: 'it returns false'. Refute it at one input. -/
def secdataBytesWrong : ChangeSpec := { name := "secdataBytes", fn := fun _ => fun
  | [d] => { results := [.lit (.bool false)], args := [d] }
  | _ => none }
def SecdataBytesWrongFalsely : Prop := secdataBytesRow.holds Tryd.pinned (OpenSpec.ofChange secdataBytesWrong)

/-- 'ravelinlaw02.SecdataReads': WHATEVER THE INPUT: true; the input reads as it did. -/
def secdataReadsSpec : ChangeSpec := { name := "secdataReads", fn := fun _ => fun
  | [d] => { results := [.lit (.bool true)], args := [d] }
  | _ => none }
def secdataReadsRow : OpenClaim := { program := "ytdmjbiaigjifaaadoor", sum := "79a33095004cc56da570162bbc67ecf7aa3f3d12375e9ac99fb76c8457a86e85", func := "ravelin/ravelinlaw02.SecdataReads", spec := "secdataReads", named := ["ravelin/secdata.rows"], apart := false, laid := [("ravelin/secdata.rows", laid_ravelin_secdata_rows)] }
def SecdataReadsSaid : Prop := secdataReadsRow.holds Tryd.pinned (OpenSpec.ofChange secdataReadsSpec)

/-- ITS FALSE NEIGHBOUR: 'it returns false'. Refute it at one input. -/
def secdataReadsWrong : ChangeSpec := { name := "secdataReads", fn := fun _ => fun
  | [d] => { results := [.lit (.bool false)], args := [d] }
  | _ => none }
def SecdataReadsWrongFalsely : Prop := secdataReadsRow.holds Tryd.pinned (OpenSpec.ofChange secdataReadsWrong)

/-- 'ravelinlaw02.SecdataWords': WHATEVER THE INPUT: true; the input reads as it did. -/
def secdataWordsSpec : ChangeSpec := { name := "secdataWords", fn := fun _ => fun
  | [d1, d2, d3] => { results := [.lit (.bool true)], args := [d1, d2, d3] }
  | _ => none }
def secdataWordsRow : OpenClaim := { program := "ytdmjbiaigjifaaadoor", sum := "79a33095004cc56da570162bbc67ecf7aa3f3d12375e9ac99fb76c8457a86e85", func := "ravelin/ravelinlaw02.SecdataWords", spec := "secdataWords", named := ["ravelin/secdata.rows"], apart := false, laid := [("ravelin/secdata.rows", laid_ravelin_secdata_rows)] }
def SecdataWordsSaid : Prop := secdataWordsRow.holds Tryd.pinned (OpenSpec.ofChange secdataWordsSpec)

/-- ITS FALSE NEIGHBOUR: 'it returns false'. Refute it at one input. -/
def secdataWordsWrong : ChangeSpec := { name := "secdataWords", fn := fun _ => fun
  | [d1, d2, d3] => { results := [.lit (.bool false)], args := [d1, d2, d3] }
  | _ => none }
def SecdataWordsWrongFalsely : Prop := secdataWordsRow.holds Tryd.pinned (OpenSpec.ofChange secdataWordsWrong)

/-- 'ravelinlaw02.SecdataCodes': WHATEVER THE INPUT: true; the input reads as it did. -/
def secdataCodesSpec : ChangeSpec := { name := "secdataCodes", fn := fun _ => fun
  | [d] => { results := [.lit (.bool true)], args := [d] }
  | _ => none }
def secdataCodesRow : OpenClaim := { program := "ytdmjbiaigjifaaadoor", sum := "79a33095004cc56da570162bbc67ecf7aa3f3d12375e9ac99fb76c8457a86e85", func := "ravelin/ravelinlaw02.SecdataCodes", spec := "secdataCodes", named := ["ravelin/secdata.rows"], apart := false, laid := [("ravelin/secdata.rows", laid_ravelin_secdata_rows)] }
def SecdataCodesSaid : Prop := secdataCodesRow.holds Tryd.pinned (OpenSpec.ofChange secdataCodesSpec)

/-- ITS FALSE NEIGHBOUR: 'it returns false'. Refute it at one input. -/
def secdataCodesWrong : ChangeSpec := { name := "secdataCodes", fn := fun _ => fun
  | [d] => { results := [.lit (.bool false)], args := [d] }
  | _ => none }
def SecdataCodesWrongFalsely : Prop := secdataCodesRow.holds Tryd.pinned (OpenSpec.ofChange secdataCodesWrong)

/-- 'ravelinlaw02.SecdataActions': WHATEVER THE INPUT: true; the input reads as it did. -/
def secdataActionsSpec : ChangeSpec := { name := "secdataActions", fn := fun _ => fun
  | [d] => { results := [.lit (.bool true)], args := [d] }
  | _ => none }
def secdataActionsRow : OpenClaim := { program := "ytdmjbiaigjifaaadoor", sum := "79a33095004cc56da570162bbc67ecf7aa3f3d12375e9ac99fb76c8457a86e85", func := "ravelin/ravelinlaw02.SecdataActions", spec := "secdataActions", named := ["ravelin/secdata.rows"], apart := false, laid := [("ravelin/secdata.rows", laid_ravelin_secdata_rows)] }
def SecdataActionsSaid : Prop := secdataActionsRow.holds Tryd.pinned (OpenSpec.ofChange secdataActionsSpec)

/-- ITS FALSE NEIGHBOUR: 'it returns false'. Refute it at one input. -/
def secdataActionsWrong : ChangeSpec := { name := "secdataActions", fn := fun _ => fun
  | [d] => { results := [.lit (.bool false)], args := [d] }
  | _ => none }
def SecdataActionsWrongFalsely : Prop := secdataActionsRow.holds Tryd.pinned (OpenSpec.ofChange secdataActionsWrong)

/-- 'ravelinlaw02.SecdataApart': WHATEVER THE INPUT: true; the input reads as it did. -/
def secdataApartSpec : ChangeSpec := { name := "secdataApart", fn := fun _ => fun
  | [d1, d2] => { results := [.lit (.bool true)], args := [d1, d2] }
  | _ => none }
def secdataApartRow : OpenClaim := { program := "ytdmjbiaigjifaaadoor", sum := "79a33095004cc56da570162bbc67ecf7aa3f3d12375e9ac99fb76c8457a86e85", func := "ravelin/ravelinlaw02.SecdataApart", spec := "secdataApart", named := ["ravelin/secdata.rows"], apart := false, laid := [("ravelin/secdata.rows", laid_ravelin_secdata_rows)] }
def SecdataApartSaid : Prop := secdataApartRow.holds Tryd.pinned (OpenSpec.ofChange secdataApartSpec)

/-- ITS FALSE NEIGHBOUR: 'it returns false'. Refute it at one input. -/
def secdataApartWrong : ChangeSpec := { name := "secdataApart", fn := fun _ => fun
  | [d1, d2] => { results := [.lit (.bool false)], args := [d1, d2] }
  | _ => none }
def SecdataApartWrongFalsely : Prop := secdataApartRow.holds Tryd.pinned (OpenSpec.ofChange secdataApartWrong)

/-- 'ravelinlaw02.SecdataOne': WHATEVER THE INPUT: true; the input reads as it did. -/
def secdataOneSpec : ChangeSpec := { name := "secdataOne", fn := fun _ => fun
  | [d1, d2, d3] => { results := [.lit (.bool true)], args := [d1, d2, d3] }
  | _ => none }
def secdataOneRow : OpenClaim := { program := "ytdmjbiaigjifaaadoor", sum := "79a33095004cc56da570162bbc67ecf7aa3f3d12375e9ac99fb76c8457a86e85", func := "ravelin/ravelinlaw02.SecdataOne", spec := "secdataOne", named := ["ravelin/secdata.rows"], apart := false, laid := [("ravelin/secdata.rows", laid_ravelin_secdata_rows)] }
def SecdataOneSaid : Prop := secdataOneRow.holds Tryd.pinned (OpenSpec.ofChange secdataOneSpec)

/-- ITS FALSE NEIGHBOUR: 'it returns false'. Refute it at one input. -/
def secdataOneWrong : ChangeSpec := { name := "secdataOne", fn := fun _ => fun
  | [d1, d2, d3] => { results := [.lit (.bool false)], args := [d1, d2, d3] }
  | _ => none }
def SecdataOneWrongFalsely : Prop := secdataOneRow.holds Tryd.pinned (OpenSpec.ofChange secdataOneWrong)

/- THE SECOND FORM. 'bulk': how many values and letters a reading holds, each counted each time it is reached (what is shared counts as often as it is met; a slice's spare places count too). A statement '..UptoSaid' is the law's where the arguments, and the package variables that the reading takes, are together of bulk at most 1048576: NARROWER than '..Said'. Prove '..Said' where nothing that the law and all that it calls make is longer than what came in: it says more and counts as full. Else prove '..UptoSaid'. A law counts once. -/
mutual
def uptoBulk {H : Type} : DataW H → Nat
  | .lit (.string bytes) => bytes.length + 1
  | .lit _ => 1
  | .nil => 1
  | .ptr d => uptoBulk d + 1
  | .slice elems spare => uptoBulkAll elems + uptoBulkAll spare + 1
  | .agg parts => uptoBulkAll parts + 1
  | .iface _ d => uptoBulk d + 1
  | .map entries => uptoBulkEntries entries + 1
  | .held _ => 1
def uptoBulkAll {H : Type} : List (DataW H) → Nat
  | [] => 0
  | d :: r => uptoBulk d + uptoBulkAll r
def uptoBulkEntries {H : Type} : List (Lit × DataW H) → Nat
  | [] => 0
  | x :: r => uptoBulkEntry x + uptoBulkEntries r
def uptoBulkEntry {H : Type} : Lit × DataW H → Nat
  | (.string bytes, d) => bytes.length + uptoBulk d + 1
  | (_, d) => uptoBulk d + 1
 end
def uptoSmall : (H : Type) → List (DataW H) → Bool := fun _ ds => decide (uptoBulkAll ds ≤ 1048576)
def OpenSpec.upto (s : _root_.Go.ChangeSpec) : _root_.Go.OpenSpec := { _root_.Go.OpenSpec.ofChange s with cond := some uptoSmall }

/-- 'ravelinlaw02.SecdataBytes', WHERE WHAT IT READS IS OF BULK AT MOST 1048576: true; the input reads as it did. -/
def secdataBytesUptoRow : OpenClaim := { program := "ytdmjbiaigjifaaadoor", sum := "79a33095004cc56da570162bbc67ecf7aa3f3d12375e9ac99fb76c8457a86e85", func := "ravelin/ravelinlaw02.SecdataBytes", spec := "secdataBytes", named := ["ravelin/secdata.rows"], apart := false, laid := [("ravelin/secdata.rows", laid_ravelin_secdata_rows)], narrowed := true }
def SecdataBytesUptoSaid : Prop := secdataBytesUptoRow.holds Tryd.pinned (OpenSpec.upto secdataBytesSpec)

/-- 'ravelinlaw02.SecdataReads', WHERE WHAT IT READS IS OF BULK AT MOST 1048576: true; the input reads as it did. -/
def secdataReadsUptoRow : OpenClaim := { program := "ytdmjbiaigjifaaadoor", sum := "79a33095004cc56da570162bbc67ecf7aa3f3d12375e9ac99fb76c8457a86e85", func := "ravelin/ravelinlaw02.SecdataReads", spec := "secdataReads", named := ["ravelin/secdata.rows"], apart := false, laid := [("ravelin/secdata.rows", laid_ravelin_secdata_rows)], narrowed := true }
def SecdataReadsUptoSaid : Prop := secdataReadsUptoRow.holds Tryd.pinned (OpenSpec.upto secdataReadsSpec)

/-- 'ravelinlaw02.SecdataWords', WHERE WHAT IT READS IS OF BULK AT MOST 1048576: true; the input reads as it did. -/
def secdataWordsUptoRow : OpenClaim := { program := "ytdmjbiaigjifaaadoor", sum := "79a33095004cc56da570162bbc67ecf7aa3f3d12375e9ac99fb76c8457a86e85", func := "ravelin/ravelinlaw02.SecdataWords", spec := "secdataWords", named := ["ravelin/secdata.rows"], apart := false, laid := [("ravelin/secdata.rows", laid_ravelin_secdata_rows)], narrowed := true }
def SecdataWordsUptoSaid : Prop := secdataWordsUptoRow.holds Tryd.pinned (OpenSpec.upto secdataWordsSpec)

/-- 'ravelinlaw02.SecdataCodes', WHERE WHAT IT READS IS OF BULK AT MOST 1048576: true; the input reads as it did. -/
def secdataCodesUptoRow : OpenClaim := { program := "ytdmjbiaigjifaaadoor", sum := "79a33095004cc56da570162bbc67ecf7aa3f3d12375e9ac99fb76c8457a86e85", func := "ravelin/ravelinlaw02.SecdataCodes", spec := "secdataCodes", named := ["ravelin/secdata.rows"], apart := false, laid := [("ravelin/secdata.rows", laid_ravelin_secdata_rows)], narrowed := true }
def SecdataCodesUptoSaid : Prop := secdataCodesUptoRow.holds Tryd.pinned (OpenSpec.upto secdataCodesSpec)

/-- 'ravelinlaw02.SecdataActions', WHERE WHAT IT READS IS OF BULK AT MOST 1048576: true; the input reads as it did. -/
def secdataActionsUptoRow : OpenClaim := { program := "ytdmjbiaigjifaaadoor", sum := "79a33095004cc56da570162bbc67ecf7aa3f3d12375e9ac99fb76c8457a86e85", func := "ravelin/ravelinlaw02.SecdataActions", spec := "secdataActions", named := ["ravelin/secdata.rows"], apart := false, laid := [("ravelin/secdata.rows", laid_ravelin_secdata_rows)], narrowed := true }
def SecdataActionsUptoSaid : Prop := secdataActionsUptoRow.holds Tryd.pinned (OpenSpec.upto secdataActionsSpec)

/-- 'ravelinlaw02.SecdataApart', WHERE WHAT IT READS IS OF BULK AT MOST 1048576: true; the input reads as it did. -/
def secdataApartUptoRow : OpenClaim := { program := "ytdmjbiaigjifaaadoor", sum := "79a33095004cc56da570162bbc67ecf7aa3f3d12375e9ac99fb76c8457a86e85", func := "ravelin/ravelinlaw02.SecdataApart", spec := "secdataApart", named := ["ravelin/secdata.rows"], apart := false, laid := [("ravelin/secdata.rows", laid_ravelin_secdata_rows)], narrowed := true }
def SecdataApartUptoSaid : Prop := secdataApartUptoRow.holds Tryd.pinned (OpenSpec.upto secdataApartSpec)

/-- 'ravelinlaw02.SecdataOne', WHERE WHAT IT READS IS OF BULK AT MOST 1048576: true; the input reads as it did. -/
def secdataOneUptoRow : OpenClaim := { program := "ytdmjbiaigjifaaadoor", sum := "79a33095004cc56da570162bbc67ecf7aa3f3d12375e9ac99fb76c8457a86e85", func := "ravelin/ravelinlaw02.SecdataOne", spec := "secdataOne", named := ["ravelin/secdata.rows"], apart := false, laid := [("ravelin/secdata.rows", laid_ravelin_secdata_rows)], narrowed := true }
def SecdataOneUptoSaid : Prop := secdataOneUptoRow.holds Tryd.pinned (OpenSpec.upto secdataOneSpec)

end Rows
end Go.Proofs.YtdmjbiaigjifaaaDoor
