/-
  DERIVED. GIVEN WITH THE SEED: THE CARDS: each row of YtambijhchecjcaaGreatDoorRows.lean that lists a variable, with what it lists TIED to the program's text (the seventh form; the later family's looks); each row that meets fmt, with fmt's text TOLD by the authors' own Lean function (tested against real Go, not proved from fmt's source: count such statements apart). THE CARD IS WHAT COUNTS. Prove the row's statement (the work); the ties are given (YtambijhchecjcaaGreatDoorTie.lean); close each card by the builder's one call (the guide's Derived/Test/ToyasCard.lean, 'card_holds'). Laid BY PROGRAM, IN A SANDBOX (cutbox-door.mjs). By AI agents, Wed Nov 11 2026. No macro, syntax, notation, axiom, sorry.
-/
import Derived.Test.YtambijhchecjcaaGreatDoorRows
import GoSem.ClaimSeven
namespace Go.Proofs.YtambijhchecjcaaGreatDoor
namespace Rows

/-- THE TIED CARD OF 'augurlaw10.BuchiChecks'. -/
def buchiChecksCard : Claim7 := { stood := { row := buchiChecksRow, standIns := [], harness := (true, "8a15393846f05d5a43ac4b268d24d8cb1c40c67a9fdba91440f62f003cddb43c"), looks := false }, kinds := [], alts := [], laidByText := true, laidKinds := [.data], laidTests := true, laidLooks := .later }
def BuchiChecksCardSaid : Prop := Claim7.holds Tryz.pinned (.plain (OpenSpec.ofChange buchiChecksSpec)) buchiChecksCard

/-- THE SECOND FORM's CARD OF 'augurlaw10.BuchiChecks'. -/
def buchiChecksUptoCard : Claim7 := { stood := { row := buchiChecksUptoRow, standIns := [], harness := (true, "8a15393846f05d5a43ac4b268d24d8cb1c40c67a9fdba91440f62f003cddb43c"), looks := false }, kinds := [], alts := [], laidByText := true, laidKinds := [.data], laidTests := true, laidLooks := .later }
def BuchiChecksUptoCardSaid : Prop := Claim7.holds Tryz.pinned (.plain (OpenSpec.upto buchiChecksSpec)) buchiChecksUptoCard
end Rows
end Go.Proofs.YtambijhchecjcaaGreatDoor
