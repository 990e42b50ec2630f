/-
  DERIVED. GIVEN WITH THE SEED: THE CARDS: each row of YtondmjnagkldpaaDoorRows.lean that lists a variable, with what it lists TIED to the program's text (the seventh form; the later family's looks); each row that meets fmt, with fmt's text TOLD by the authors' own Lean function (tested against real Go, not proved from fmt's source: count such statements apart). THE CARD IS WHAT COUNTS. Prove the row's statement (the work); the ties are given (YtondmjnagkldpaaDoorTie.lean); close each card by the builder's one call (the guide's Derived/Test/ToyasCard.lean, 'card_holds'). Laid BY PROGRAM, IN A SANDBOX (cutbox-door.mjs). By AI agents, Wed Nov 11 2026. No macro, syntax, notation, axiom, sorry.
-/
import Derived.Test.YtondmjnagkldpaaDoorRows
import GoSem.ClaimSeven
namespace Go.Proofs.YtondmjnagkldpaaDoor
namespace Rows

/-- THE TIED CARD OF 'augurlaw06.EvalNumbers'. -/
def evalNumbersCard : Claim7 := { stood := { row := evalNumbersRow, standIns := [], harness := (true, "346f8568334c578b0a6702947ea79a1b757042c676d27f9d5916f359f4f9a0a3"), looks := false }, kinds := [], alts := [], laidByText := true, laidKinds := [.data], laidTests := true, laidLooks := .later }
def EvalNumbersCardSaid : Prop := Claim7.holds Tryd.pinned (.plain (OpenSpec.ofChange evalNumbersSpec)) evalNumbersCard

/-- THE TIED CARD OF 'augurlaw06.EvalDuals'. -/
def evalDualsCard : Claim7 := { stood := { row := evalDualsRow, standIns := [], harness := (true, "346f8568334c578b0a6702947ea79a1b757042c676d27f9d5916f359f4f9a0a3"), looks := false }, kinds := [], alts := [], laidByText := true, laidKinds := [.data], laidTests := true, laidLooks := .later }
def EvalDualsCardSaid : Prop := Claim7.holds Tryd.pinned (.plain (OpenSpec.ofChange evalDualsSpec)) evalDualsCard

/-- THE TIED CARD OF 'augurlaw06.EvalSteps'. -/
def evalStepsCard : Claim7 := { stood := { row := evalStepsRow, standIns := [], harness := (true, "346f8568334c578b0a6702947ea79a1b757042c676d27f9d5916f359f4f9a0a3"), looks := false }, kinds := [], alts := [], laidByText := true, laidKinds := [.data], laidTests := true, laidLooks := .later }
def EvalStepsCardSaid : Prop := Claim7.holds Tryd.pinned (.plain (OpenSpec.ofChange evalStepsSpec)) evalStepsCard

/-- THE TIED CARD OF 'augurlaw06.EvalWays'. -/
def evalWaysCard : Claim7 := { stood := { row := evalWaysRow, standIns := [], harness := (true, "346f8568334c578b0a6702947ea79a1b757042c676d27f9d5916f359f4f9a0a3"), looks := false }, kinds := [], alts := [], laidByText := true, laidKinds := [.data], laidTests := true, laidLooks := .later }
def EvalWaysCardSaid : Prop := Claim7.holds Tryd.pinned (.plain (OpenSpec.ofChange evalWaysSpec)) evalWaysCard

/-- THE SECOND FORM's CARD OF 'augurlaw06.EvalNumbers'. -/
def evalNumbersUptoCard : Claim7 := { stood := { row := evalNumbersUptoRow, standIns := [], harness := (true, "346f8568334c578b0a6702947ea79a1b757042c676d27f9d5916f359f4f9a0a3"), looks := false }, kinds := [], alts := [], laidByText := true, laidKinds := [.data], laidTests := true, laidLooks := .later }
def EvalNumbersUptoCardSaid : Prop := Claim7.holds Tryd.pinned (.plain (OpenSpec.upto evalNumbersSpec)) evalNumbersUptoCard

/-- THE SECOND FORM's CARD OF 'augurlaw06.EvalDuals'. -/
def evalDualsUptoCard : Claim7 := { stood := { row := evalDualsUptoRow, standIns := [], harness := (true, "346f8568334c578b0a6702947ea79a1b757042c676d27f9d5916f359f4f9a0a3"), looks := false }, kinds := [], alts := [], laidByText := true, laidKinds := [.data], laidTests := true, laidLooks := .later }
def EvalDualsUptoCardSaid : Prop := Claim7.holds Tryd.pinned (.plain (OpenSpec.upto evalDualsSpec)) evalDualsUptoCard

/-- THE SECOND FORM's CARD OF 'augurlaw06.EvalSteps'. -/
def evalStepsUptoCard : Claim7 := { stood := { row := evalStepsUptoRow, standIns := [], harness := (true, "346f8568334c578b0a6702947ea79a1b757042c676d27f9d5916f359f4f9a0a3"), looks := false }, kinds := [], alts := [], laidByText := true, laidKinds := [.data], laidTests := true, laidLooks := .later }
def EvalStepsUptoCardSaid : Prop := Claim7.holds Tryd.pinned (.plain (OpenSpec.upto evalStepsSpec)) evalStepsUptoCard

/-- THE SECOND FORM's CARD OF 'augurlaw06.EvalWays'. -/
def evalWaysUptoCard : Claim7 := { stood := { row := evalWaysUptoRow, standIns := [], harness := (true, "346f8568334c578b0a6702947ea79a1b757042c676d27f9d5916f359f4f9a0a3"), looks := false }, kinds := [], alts := [], laidByText := true, laidKinds := [.data], laidTests := true, laidLooks := .later }
def EvalWaysUptoCardSaid : Prop := Claim7.holds Tryd.pinned (.plain (OpenSpec.upto evalWaysSpec)) evalWaysUptoCard
end Rows
end Go.Proofs.YtondmjnagkldpaaDoor
