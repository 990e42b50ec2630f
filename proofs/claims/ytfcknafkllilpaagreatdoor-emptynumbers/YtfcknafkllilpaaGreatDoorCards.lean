/-
  DERIVED. GIVEN WITH THE SEED: THE CARDS: each row of YtfcknafkllilpaaGreatDoorRows.lean that lists a variable, with what it lists TIED to the program's text (the seventh form; the later family's looks); each row that meets fmt, with fmt's text TOLD by the authors' own Lean function (tested against real Go, not proved from fmt's source: count such statements apart). THE CARD IS WHAT COUNTS. Prove the row's statement (the work); the ties are given (YtfcknafkllilpaaGreatDoorTie.lean); close each card by the builder's one call (the guide's Derived/Test/ToyasCard.lean, 'card_holds'). Laid BY PROGRAM, IN A SANDBOX (cutbox-door.mjs). By AI agents, Wed Nov 11 2026. No macro, syntax, notation, axiom, sorry.
-/
import Derived.Test.YtfcknafkllilpaaGreatDoorRows
import GoSem.ClaimSeven
namespace Go.Proofs.YtfcknafkllilpaaGreatDoor
namespace Rows

/-- THE TIED CARD OF 'augurlaw12.EmptyNumbers'. -/
def emptyNumbersCard : Claim7 := { stood := { row := emptyNumbersRow, standIns := [], harness := (true, "54c2e0db84624ea37486c72986c2a89f9b869d590ae98b573ef30d4a42b9b852"), looks := true }, kinds := [], alts := [], laidByText := true, laidKinds := [.data], laidTests := true, laidLooks := .later }
def EmptyNumbersCardSaid : Prop := Claim7.holds Tryz.pinned (.plain (OpenSpec.ofChange emptyNumbersSpec)) emptyNumbersCard

/-- THE SECOND FORM's CARD OF 'augurlaw12.EmptyNumbers'. -/
def emptyNumbersUptoCard : Claim7 := { stood := { row := emptyNumbersUptoRow, standIns := [], harness := (true, "54c2e0db84624ea37486c72986c2a89f9b869d590ae98b573ef30d4a42b9b852"), looks := true }, kinds := [], alts := [], laidByText := true, laidKinds := [.data], laidTests := true, laidLooks := .later }
def EmptyNumbersUptoCardSaid : Prop := Claim7.holds Tryz.pinned (.plain (OpenSpec.upto emptyNumbersSpec)) emptyNumbersUptoCard
end Rows
end Go.Proofs.YtfcknafkllilpaaGreatDoor
