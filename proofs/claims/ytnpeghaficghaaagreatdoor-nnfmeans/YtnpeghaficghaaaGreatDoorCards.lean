/-
  DERIVED. GIVEN WITH THE SEED: THE CARDS: each row of YtnpeghaficghaaaGreatDoorRows.lean that lists a variable, with what it lists TIED to the program's text (the seventh form; the later family's looks); each row that meets fmt, with fmt's text TOLD by the authors' own Lean function (tested against real Go, not proved from fmt's source: count such statements apart). THE CARD IS WHAT COUNTS. Prove the row's statement (the work); the ties are given (YtnpeghaficghaaaGreatDoorTie.lean); close each card by the builder's one call (the guide's Derived/Test/ToyasCard.lean, 'card_holds'). Laid BY PROGRAM, IN A SANDBOX (cutbox-door.mjs). By AI agents, Wed Nov 11 2026. No macro, syntax, notation, axiom, sorry.
-/
import Derived.Test.YtnpeghaficghaaaGreatDoorRows
import GoSem.ClaimSeven
namespace Go.Proofs.YtnpeghaficghaaaGreatDoor
namespace Rows

/-- THE TIED CARD OF 'augurlaw07.NnfMeans'. -/
def nnfMeansCard : Claim7 := { stood := { row := nnfMeansRow, standIns := [], harness := (true, "b42a65437594062d597537e10350b300eef8a857f38c87d7b4ea3c87cac7efc7"), looks := false }, kinds := [], alts := [], laidByText := true, laidKinds := [.data, .data], laidTests := true, laidLooks := .later }
def NnfMeansCardSaid : Prop := Claim7.holds Tryz.pinned (.plain (OpenSpec.ofChange nnfMeansSpec)) nnfMeansCard

/-- THE SECOND FORM's CARD OF 'augurlaw07.NnfMeans'. -/
def nnfMeansUptoCard : Claim7 := { stood := { row := nnfMeansUptoRow, standIns := [], harness := (true, "b42a65437594062d597537e10350b300eef8a857f38c87d7b4ea3c87cac7efc7"), looks := false }, kinds := [], alts := [], laidByText := true, laidKinds := [.data, .data], laidTests := true, laidLooks := .later }
def NnfMeansUptoCardSaid : Prop := Claim7.holds Tryz.pinned (.plain (OpenSpec.upto nnfMeansSpec)) nnfMeansUptoCard
end Rows
end Go.Proofs.YtnpeghaficghaaaGreatDoor
