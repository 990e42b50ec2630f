/-
  DERIVED. GIVEN WITH THE SEED: THE CARDS: each row of YtljmjjagianakaaGreatDoorRows.lean that lists a variable, with what it lists TIED to the program's text (the seventh form; the later family's looks); each row that meets fmt, with fmt's text TOLD by the authors' own Lean function (tested against real Go, not proved from fmt's source: count such statements apart). THE CARD IS WHAT COUNTS. Prove the row's statement (the work); the ties are given (YtljmjjagianakaaGreatDoorTie.lean); close each card by the builder's one call (the guide's Derived/Test/ToyasCard.lean, 'card_holds'). Laid BY PROGRAM, IN A SANDBOX (cutbox-door.mjs). By AI agents, Wed Nov 11 2026. No macro, syntax, notation, axiom, sorry.
-/
import Derived.Test.YtljmjjagianakaaGreatDoorRows
import GoSem.ClaimSeven
namespace Go.Proofs.YtljmjjagianakaaGreatDoor
namespace Rows

/-- THE TIED CARD OF 'augurlaw09.TableauNumbers'. -/
def tableauNumbersCard : Claim7 := { stood := { row := tableauNumbersRow, standIns := [], harness := (true, "c2acc0c54e4b9ff1827cb6bf7d999ba1a53b1e3f008ab94b333ffcca1b35c44c"), looks := false }, kinds := [], alts := [], laidByText := true, laidKinds := [.data, .data], laidTests := true, laidLooks := .later }
def TableauNumbersCardSaid : Prop := Claim7.holds Tryz.pinned (.plain (OpenSpec.ofChange tableauNumbersSpec)) tableauNumbersCard

/-- THE SECOND FORM's CARD OF 'augurlaw09.TableauNumbers'. -/
def tableauNumbersUptoCard : Claim7 := { stood := { row := tableauNumbersUptoRow, standIns := [], harness := (true, "c2acc0c54e4b9ff1827cb6bf7d999ba1a53b1e3f008ab94b333ffcca1b35c44c"), looks := false }, kinds := [], alts := [], laidByText := true, laidKinds := [.data, .data], laidTests := true, laidLooks := .later }
def TableauNumbersUptoCardSaid : Prop := Claim7.holds Tryz.pinned (.plain (OpenSpec.upto tableauNumbersSpec)) tableauNumbersUptoCard
end Rows
end Go.Proofs.YtljmjjagianakaaGreatDoor
