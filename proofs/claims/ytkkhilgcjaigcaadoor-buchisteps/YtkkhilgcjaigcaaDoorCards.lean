/-
  DERIVED. GIVEN WITH THE SEED: THE CARDS: each row of YtkkhilgcjaigcaaDoorRows.lean that lists a variable, with what it lists TIED to the program's text (the seventh form; the later family's looks); each row that meets fmt, with fmt's text TOLD by the authors' own Lean function (tested against real Go, not proved from fmt's source: count such statements apart). THE CARD IS WHAT COUNTS. Prove the row's statement (the work); the ties are given (YtkkhilgcjaigcaaDoorTie.lean); close each card by the builder's one call (the guide's Derived/Test/ToyasCard.lean, 'card_holds'). Laid BY PROGRAM, IN A SANDBOX (cutbox-door.mjs). By AI agents, Wed Nov 11 2026. No macro, syntax, notation, axiom, sorry.
-/
import Derived.Test.YtkkhilgcjaigcaaDoorRows
import GoSem.ClaimSeven
namespace Go.Proofs.YtkkhilgcjaigcaaDoor
namespace Rows

/-- THE TIED CARD OF 'augurlaw10.BuchiSteps'. -/
def buchiStepsCard : Claim7 := { stood := { row := buchiStepsRow, standIns := [], harness := (true, "f4c7a2c5a09482457a1fad82119722ebc8f8d0d78899d1b0d3569a4d41295a4d"), looks := false }, kinds := [], alts := [], laidByText := true, laidKinds := [.data], laidTests := true, laidLooks := .later }
def BuchiStepsCardSaid : Prop := Claim7.holds Tryd.pinned (.plain (OpenSpec.ofChange buchiStepsSpec)) buchiStepsCard

/-- THE SECOND FORM's CARD OF 'augurlaw10.BuchiSteps'. -/
def buchiStepsUptoCard : Claim7 := { stood := { row := buchiStepsUptoRow, standIns := [], harness := (true, "f4c7a2c5a09482457a1fad82119722ebc8f8d0d78899d1b0d3569a4d41295a4d"), looks := false }, kinds := [], alts := [], laidByText := true, laidKinds := [.data], laidTests := true, laidLooks := .later }
def BuchiStepsUptoCardSaid : Prop := Claim7.holds Tryd.pinned (.plain (OpenSpec.upto buchiStepsSpec)) buchiStepsUptoCard
end Rows
end Go.Proofs.YtkkhilgcjaigcaaDoor
