/-
  NARROWER THAN 'FOR EVERY INPUT', by the rows' own cells (each row's printed sentence says how): EvalDuals: loops, laid · EvalWays: loops, laid · NnfAgain: loops, laid.
  DERIVED. THE GIVEN ROWS OF THIS SEAT. 3 by the template 'for every input the law returns true; each argument reads behind the call as it read before'; 0 by the template 'total and deterministic' (their statements: YtddgciilcghbaaaDoorTotals.lean).
  GIVEN WITH THE SEED: the statements are not yours to turn. If you find one false, say at which input.
  Laid BY PROGRAM, IN A SANDBOX (cutbox-rows.mjs): the forced cells as the released guide's own fill.sh prints them over the translation 5390174db7b91144… (all of the seat's roots in one cut). By AI agents, Wed Nov 11 2026. No macro, syntax, notation, axiom, sorry.
-/
import Derived.Test.YtddgciilcghbaaaDoorChecked
import GoSem.Claim
import GoSem.ClaimJoined
import GoSem.ClaimMapViews
import Derived.JoinedTies
import Derived.KernelRfl
namespace Go.Proofs.YtddgciilcghbaaaDoor
/- THE CELL 'sum', in the pinned program and in every row, IS THE sha256 OF THE DUMP (.gsa) THAT YtddgciilcghbaaaDoorProg.lean LOADS. Nothing in Lean hashes anything: it is a label: what it is worth is what the hold of that sum in a sandbox is worth. -/
noncomputable def Tryd.pinned : Pinned := { name := "ytddgciilcghbaaadoor", sum := "5390174db7b91144ccd08beaba021c34f749585043452266a3de8771d1a246e7", checked := Tryd.checked }
namespace Rows
def none {H : Type} : Left H := { results := [], args := [] }

/- WHAT THE LISTED PACKAGE-LEVEL VARIABLES READ AS WHEN THE CALL BEGINS. Each datum BY PROGRAM (the guide's laid-datum.mjs) off the statement by which the dump's own 'gosem.cut.vars' lays the variable. In a bare row this is a premise. The card (YtddgciilcghbaaaDoorCards.lean) ties it to the program's text. -/
def laid_augur_tree_kidsOf {H : Type} : DataW H := .agg [.lit (.int .i64 0), .lit (.int .i64 0), .lit (.int .i64 0), .lit (.int .i64 0), .lit (.int .i64 1), .lit (.int .i64 2), .lit (.int .i64 2), .lit (.int .i64 2), .lit (.int .i64 2), .lit (.int .i64 1), .lit (.int .i64 1), .lit (.int .i64 1), .lit (.int .i64 2), .lit (.int .i64 2), .lit (.int .i64 2), .lit (.int .i64 2), .lit (.int .i64 1), .lit (.int .i64 1), .lit (.int .i64 1), .lit (.int .i64 1), .lit (.int .i64 2), .lit (.int .i64 2)]
def laid_augur_nnf_turned {H : Type} : DataW H := .agg [.lit (.int .u8 0), .lit (.int .u8 2), .lit (.int .u8 1), .lit (.int .u8 0), .lit (.int .u8 0), .lit (.int .u8 6), .lit (.int .u8 5), .lit (.int .u8 0), .lit (.int .u8 0), .lit (.int .u8 0), .lit (.int .u8 11), .lit (.int .u8 10)]

/-- 'augurlaw06.EvalDuals': WHATEVER THE INPUT: true; the input reads as it did. -/
def evalDualsSpec : ChangeSpec := { name := "evalDuals", fn := fun _ => fun
  | [d1, d2, d3, d4] => { results := [.lit (.bool true)], args := [d1, d2, d3, d4] }
  | _ => none }
def evalDualsRow : OpenClaim := { program := "ytddgciilcghbaaadoor", sum := "5390174db7b91144ccd08beaba021c34f749585043452266a3de8771d1a246e7", func := "augur/augurlaw06.EvalDuals", spec := "evalDuals", unfollowed := true, recurses := true, named := ["augur/tree.kidsOf"], loops := true, apart := false, laid := [("augur/tree.kidsOf", laid_augur_tree_kidsOf)] }
def EvalDualsSaid : Prop := evalDualsRow.holds Tryd.pinned (OpenSpec.ofChange evalDualsSpec)

/-- ITS FALSE NEIGHBOUR: 'it returns false'. Refute it at one input. -/
def evalDualsWrong : ChangeSpec := { name := "evalDuals", fn := fun _ => fun
  | [d1, d2, d3, d4] => { results := [.lit (.bool false)], args := [d1, d2, d3, d4] }
  | _ => none }
def EvalDualsWrongFalsely : Prop := evalDualsRow.holds Tryd.pinned (OpenSpec.ofChange evalDualsWrong)

/-- 'augurlaw06.EvalWays': WHATEVER THE INPUT: true; the input reads as it did. -/
def evalWaysSpec : ChangeSpec := { name := "evalWays", fn := fun _ => fun
  | [d1, d2, d3, d4, d5] => { results := [.lit (.bool true)], args := [d1, d2, d3, d4, d5] }
  | _ => none }
def evalWaysRow : OpenClaim := { program := "ytddgciilcghbaaadoor", sum := "5390174db7b91144ccd08beaba021c34f749585043452266a3de8771d1a246e7", func := "augur/augurlaw06.EvalWays", spec := "evalWays", unfollowed := true, recurses := true, named := ["augur/tree.kidsOf"], loops := true, apart := false, laid := [("augur/tree.kidsOf", laid_augur_tree_kidsOf)] }
def EvalWaysSaid : Prop := evalWaysRow.holds Tryd.pinned (OpenSpec.ofChange evalWaysSpec)

/-- ITS FALSE NEIGHBOUR: 'it returns false'. Refute it at one input. -/
def evalWaysWrong : ChangeSpec := { name := "evalWays", fn := fun _ => fun
  | [d1, d2, d3, d4, d5] => { results := [.lit (.bool false)], args := [d1, d2, d3, d4, d5] }
  | _ => none }
def EvalWaysWrongFalsely : Prop := evalWaysRow.holds Tryd.pinned (OpenSpec.ofChange evalWaysWrong)

/-- 'augurlaw07.NnfAgain': WHATEVER THE INPUT: true; the input reads as it did. -/
def nnfAgainSpec : ChangeSpec := { name := "nnfAgain", fn := fun _ => fun
  | [d] => { results := [.lit (.bool true)], args := [d] }
  | _ => none }
def nnfAgainRow : OpenClaim := { program := "ytddgciilcghbaaadoor", sum := "5390174db7b91144ccd08beaba021c34f749585043452266a3de8771d1a246e7", func := "augur/augurlaw07.NnfAgain", spec := "nnfAgain", unfollowed := true, recurses := true, named := ["augur/tree.kidsOf", "augur/nnf.turned"], loops := true, apart := false, laid := [("augur/tree.kidsOf", laid_augur_tree_kidsOf), ("augur/nnf.turned", laid_augur_nnf_turned)] }
def NnfAgainSaid : Prop := nnfAgainRow.holds Tryd.pinned (OpenSpec.ofChange nnfAgainSpec)

/-- ITS FALSE NEIGHBOUR: 'it returns false'. Refute it at one input. -/
def nnfAgainWrong : ChangeSpec := { name := "nnfAgain", fn := fun _ => fun
  | [d] => { results := [.lit (.bool false)], args := [d] }
  | _ => none }
def NnfAgainWrongFalsely : Prop := nnfAgainRow.holds Tryd.pinned (OpenSpec.ofChange nnfAgainWrong)

/- THE SECOND FORM. 'bulk': how many values and letters a reading holds, each counted each time it is reached (what is shared counts as often as it is met; a slice's spare places count too). A statement '..UptoSaid' is the law's where the arguments, and the package variables that the reading takes, are together of bulk at most 1048576: NARROWER than '..Said'. Prove '..Said' where nothing that the law and all that it calls make is longer than what came in: it says more and counts as full. Else prove '..UptoSaid'. A law counts once. -/
mutual
def uptoBulk {H : Type} : DataW H → Nat
  | .lit (.string bytes) => bytes.length + 1
  | .lit _ => 1
  | .nil => 1
  | .ptr d => uptoBulk d + 1
  | .slice elems spare => uptoBulkAll elems + uptoBulkAll spare + 1
  | .agg parts => uptoBulkAll parts + 1
  | .iface _ d => uptoBulk d + 1
  | .map entries => uptoBulkEntries entries + 1
  | .held _ => 1
def uptoBulkAll {H : Type} : List (DataW H) → Nat
  | [] => 0
  | d :: r => uptoBulk d + uptoBulkAll r
def uptoBulkEntries {H : Type} : List (Lit × DataW H) → Nat
  | [] => 0
  | x :: r => uptoBulkEntry x + uptoBulkEntries r
def uptoBulkEntry {H : Type} : Lit × DataW H → Nat
  | (.string bytes, d) => bytes.length + uptoBulk d + 1
  | (_, d) => uptoBulk d + 1
 end
def uptoSmall : (H : Type) → List (DataW H) → Bool := fun _ ds => decide (uptoBulkAll ds ≤ 1048576)
def OpenSpec.upto (s : _root_.Go.ChangeSpec) : _root_.Go.OpenSpec := { _root_.Go.OpenSpec.ofChange s with cond := some uptoSmall }

/-- 'augurlaw06.EvalDuals', WHERE WHAT IT READS IS OF BULK AT MOST 1048576: true; the input reads as it did. -/
def evalDualsUptoRow : OpenClaim := { program := "ytddgciilcghbaaadoor", sum := "5390174db7b91144ccd08beaba021c34f749585043452266a3de8771d1a246e7", func := "augur/augurlaw06.EvalDuals", spec := "evalDuals", unfollowed := true, recurses := true, named := ["augur/tree.kidsOf"], loops := true, apart := false, laid := [("augur/tree.kidsOf", laid_augur_tree_kidsOf)], narrowed := true }
def EvalDualsUptoSaid : Prop := evalDualsUptoRow.holds Tryd.pinned (OpenSpec.upto evalDualsSpec)

/-- 'augurlaw06.EvalWays', WHERE WHAT IT READS IS OF BULK AT MOST 1048576: true; the input reads as it did. -/
def evalWaysUptoRow : OpenClaim := { program := "ytddgciilcghbaaadoor", sum := "5390174db7b91144ccd08beaba021c34f749585043452266a3de8771d1a246e7", func := "augur/augurlaw06.EvalWays", spec := "evalWays", unfollowed := true, recurses := true, named := ["augur/tree.kidsOf"], loops := true, apart := false, laid := [("augur/tree.kidsOf", laid_augur_tree_kidsOf)], narrowed := true }
def EvalWaysUptoSaid : Prop := evalWaysUptoRow.holds Tryd.pinned (OpenSpec.upto evalWaysSpec)

/-- 'augurlaw07.NnfAgain', WHERE WHAT IT READS IS OF BULK AT MOST 1048576: true; the input reads as it did. -/
def nnfAgainUptoRow : OpenClaim := { program := "ytddgciilcghbaaadoor", sum := "5390174db7b91144ccd08beaba021c34f749585043452266a3de8771d1a246e7", func := "augur/augurlaw07.NnfAgain", spec := "nnfAgain", unfollowed := true, recurses := true, named := ["augur/tree.kidsOf", "augur/nnf.turned"], loops := true, apart := false, laid := [("augur/tree.kidsOf", laid_augur_tree_kidsOf), ("augur/nnf.turned", laid_augur_nnf_turned)], narrowed := true }
def NnfAgainUptoSaid : Prop := nnfAgainUptoRow.holds Tryd.pinned (OpenSpec.upto nnfAgainSpec)

end Rows
end Go.Proofs.YtddgciilcghbaaaDoor
