/-
  DERIVED. GIVEN WITH THE SEED: THE CARDS: each row of YtcfnhecalmfjiaaGreatDoorRows.lean that lists a variable, with what it lists TIED to the program's text (the seventh form; the later family's looks); each row that meets fmt, with fmt's text TOLD by the authors' own Lean function (tested against real Go, not proved from fmt's source: count such statements apart). THE CARD IS WHAT COUNTS. Prove the row's statement (the work); the ties are given (YtcfnhecalmfjiaaGreatDoorTie.lean); close each card by the builder's one call (the guide's Derived/Test/ToyasCard.lean, 'card_holds'). Laid BY PROGRAM, IN A SANDBOX (cutbox-door.mjs). By AI agents, Wed Nov 11 2026. No macro, syntax, notation, axiom, sorry.
-/
import Derived.Test.YtcfnhecalmfjiaaGreatDoorRows
import GoSem.ClaimSeven
namespace Go.Proofs.YtcfnhecalmfjiaaGreatDoor
namespace Rows

/-- THE TIED CARD OF 'augurlaw15.CodecNumbers'. -/
def codecNumbersCard : Claim7 := { stood := { row := codecNumbersRow, standIns := [], harness := (true, "e8512a7c219cd15470b6fddc0a5e6cb27af591df746c045bc555f9271addaaca"), looks := false }, kinds := [], alts := [], laidByText := true, laidKinds := [.data, .data], laidTests := true, laidLooks := .later }
def CodecNumbersCardSaid : Prop := Claim7.holds Tryz.pinned (.plain (OpenSpec.ofChange codecNumbersSpec)) codecNumbersCard

/-- THE SECOND FORM's CARD OF 'augurlaw15.CodecNumbers'. -/
def codecNumbersUptoCard : Claim7 := { stood := { row := codecNumbersUptoRow, standIns := [], harness := (true, "e8512a7c219cd15470b6fddc0a5e6cb27af591df746c045bc555f9271addaaca"), looks := false }, kinds := [], alts := [], laidByText := true, laidKinds := [.data, .data], laidTests := true, laidLooks := .later }
def CodecNumbersUptoCardSaid : Prop := Claim7.holds Tryz.pinned (.plain (OpenSpec.upto codecNumbersSpec)) codecNumbersUptoCard
end Rows
end Go.Proofs.YtcfnhecalmfjiaaGreatDoor
