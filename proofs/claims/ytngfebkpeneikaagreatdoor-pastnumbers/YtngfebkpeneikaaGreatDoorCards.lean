/-
  DERIVED. GIVEN WITH THE SEED: THE CARDS: each row of YtngfebkpeneikaaGreatDoorRows.lean that lists a variable, with what it lists TIED to the program's text (the seventh form; the later family's looks); each row that meets fmt, with fmt's text TOLD by the authors' own Lean function (tested against real Go, not proved from fmt's source: count such statements apart). THE CARD IS WHAT COUNTS. Prove the row's statement (the work); the ties are given (YtngfebkpeneikaaGreatDoorTie.lean); close each card by the builder's one call (the guide's Derived/Test/ToyasCard.lean, 'card_holds'). Laid BY PROGRAM, IN A SANDBOX (cutbox-door.mjs). By AI agents, Wed Nov 11 2026. No macro, syntax, notation, axiom, sorry.
-/
import Derived.Test.YtngfebkpeneikaaGreatDoorRows
import GoSem.ClaimSeven
namespace Go.Proofs.YtngfebkpeneikaaGreatDoor
namespace Rows

/-- THE TIED CARD OF 'augurlaw08.PastNumbers'. -/
def pastNumbersCard : Claim7 := { stood := { row := pastNumbersRow, standIns := [], harness := (true, "31d2b2a763f6a3b600c00b1738ff8123399f688bbf8ea33b3224e08595f553ae"), looks := true }, kinds := [], alts := [], laidByText := true, laidKinds := [.data, .handle, .data, .pinned], laidTests := true, laidLooks := .later }
def PastNumbersCardSaid : Prop := Claim7.holds Tryz.pinned (.plain (OpenSpec.ofChange pastNumbersSpec)) pastNumbersCard

/-- THE SECOND FORM's CARD OF 'augurlaw08.PastNumbers'. -/
def pastNumbersUptoCard : Claim7 := { stood := { row := pastNumbersUptoRow, standIns := [], harness := (true, "31d2b2a763f6a3b600c00b1738ff8123399f688bbf8ea33b3224e08595f553ae"), looks := true }, kinds := [], alts := [], laidByText := true, laidKinds := [.data, .handle, .data, .pinned], laidTests := true, laidLooks := .later }
def PastNumbersUptoCardSaid : Prop := Claim7.holds Tryz.pinned (.plain (OpenSpec.upto pastNumbersSpec)) pastNumbersUptoCard
end Rows
end Go.Proofs.YtngfebkpeneikaaGreatDoor
