/-
  DERIVED. GIVEN WITH THE SEED: THE CARDS: each row of YtddgciilcghbaaaDoorRows.lean that lists a variable, with what it lists TIED to the program's text (the seventh form; the later family's looks); each row that meets fmt, with fmt's text TOLD by the authors' own Lean function (tested against real Go, not proved from fmt's source: count such statements apart). THE CARD IS WHAT COUNTS. Prove the row's statement (the work); the ties are given (YtddgciilcghbaaaDoorTie.lean); close each card by the builder's one call (the guide's Derived/Test/ToyasCard.lean, 'card_holds'). Laid BY PROGRAM, IN A SANDBOX (cutbox-door.mjs). By AI agents, Wed Nov 11 2026. No macro, syntax, notation, axiom, sorry.
-/
import Derived.Test.YtddgciilcghbaaaDoorRows
import GoSem.ClaimSeven
namespace Go.Proofs.YtddgciilcghbaaaDoor
namespace Rows

/-- THE TIED CARD OF 'augurlaw06.EvalDuals'. -/
def evalDualsCard : Claim7 := { stood := { row := evalDualsRow, standIns := [], harness := (true, "682c3bda1bc766ea9ee46f9595b20b00d518273cb974286d98b7f3eead1d56a3"), looks := false }, kinds := [], alts := [], laidByText := true, laidKinds := [.data], laidTests := true, laidLooks := .later }
def EvalDualsCardSaid : Prop := Claim7.holds Tryd.pinned (.plain (OpenSpec.ofChange evalDualsSpec)) evalDualsCard

/-- THE TIED CARD OF 'augurlaw06.EvalWays'. -/
def evalWaysCard : Claim7 := { stood := { row := evalWaysRow, standIns := [], harness := (true, "682c3bda1bc766ea9ee46f9595b20b00d518273cb974286d98b7f3eead1d56a3"), looks := false }, kinds := [], alts := [], laidByText := true, laidKinds := [.data], laidTests := true, laidLooks := .later }
def EvalWaysCardSaid : Prop := Claim7.holds Tryd.pinned (.plain (OpenSpec.ofChange evalWaysSpec)) evalWaysCard

/-- THE TIED CARD OF 'augurlaw07.NnfAgain'. -/
def nnfAgainCard : Claim7 := { stood := { row := nnfAgainRow, standIns := [], harness := (true, "682c3bda1bc766ea9ee46f9595b20b00d518273cb974286d98b7f3eead1d56a3"), looks := false }, kinds := [], alts := [], laidByText := true, laidKinds := [.data, .data], laidTests := true, laidLooks := .later }
def NnfAgainCardSaid : Prop := Claim7.holds Tryd.pinned (.plain (OpenSpec.ofChange nnfAgainSpec)) nnfAgainCard

/-- THE SECOND FORM's CARD OF 'augurlaw06.EvalDuals'. -/
def evalDualsUptoCard : Claim7 := { stood := { row := evalDualsUptoRow, standIns := [], harness := (true, "682c3bda1bc766ea9ee46f9595b20b00d518273cb974286d98b7f3eead1d56a3"), looks := false }, kinds := [], alts := [], laidByText := true, laidKinds := [.data], laidTests := true, laidLooks := .later }
def EvalDualsUptoCardSaid : Prop := Claim7.holds Tryd.pinned (.plain (OpenSpec.upto evalDualsSpec)) evalDualsUptoCard

/-- THE SECOND FORM's CARD OF 'augurlaw06.EvalWays'. -/
def evalWaysUptoCard : Claim7 := { stood := { row := evalWaysUptoRow, standIns := [], harness := (true, "682c3bda1bc766ea9ee46f9595b20b00d518273cb974286d98b7f3eead1d56a3"), looks := false }, kinds := [], alts := [], laidByText := true, laidKinds := [.data], laidTests := true, laidLooks := .later }
def EvalWaysUptoCardSaid : Prop := Claim7.holds Tryd.pinned (.plain (OpenSpec.upto evalWaysSpec)) evalWaysUptoCard

/-- THE SECOND FORM's CARD OF 'augurlaw07.NnfAgain'. -/
def nnfAgainUptoCard : Claim7 := { stood := { row := nnfAgainUptoRow, standIns := [], harness := (true, "682c3bda1bc766ea9ee46f9595b20b00d518273cb974286d98b7f3eead1d56a3"), looks := false }, kinds := [], alts := [], laidByText := true, laidKinds := [.data, .data], laidTests := true, laidLooks := .later }
def NnfAgainUptoCardSaid : Prop := Claim7.holds Tryd.pinned (.plain (OpenSpec.upto nnfAgainSpec)) nnfAgainUptoCard
end Rows
end Go.Proofs.YtddgciilcghbaaaDoor
