/-
  DERIVED. GIVEN WITH THE SEED: THE CARDS: each row of YtilgfnafkcjdgabDoorRows.lean that lists a variable, with what it lists TIED to the program's text (the seventh form; the later family's looks); each row that meets fmt, with fmt's text TOLD by the authors' own Lean function (tested against real Go, not proved from fmt's source: count such statements apart). THE CARD IS WHAT COUNTS. Prove the row's statement (the work); the ties are given (YtilgfnafkcjdgabDoorTie.lean); close each card by the builder's one call (the guide's Derived/Test/ToyasCard.lean, 'card_holds'). Laid BY PROGRAM, IN A SANDBOX (cutbox-door.mjs). By AI agents, Wed Nov 11 2026. No macro, syntax, notation, axiom, sorry.
-/
import Derived.Test.YtilgfnafkcjdgabDoorRows
import GoSem.ClaimSeven
namespace Go.Proofs.YtilgfnafkcjdgabDoor
namespace Rows

/-- THE TIED CARD OF 'augurlaw02.LexCut'. -/
def lexCutCard : Claim7 := { stood := { row := lexCutRow, standIns := [], harness := (true, "a9d700b80a9d838a3b2fae337b74ec0e4e3a1ee030f34afb0095e95a700340e4"), looks := false }, kinds := [], alts := [], laidByText := true, laidKinds := [.data, .pinned], laidTests := true, laidLooks := .later }
def LexCutCardSaid : Prop := Claim7.holds Tryd.pinned (.plain (OpenSpec.ofChange lexCutSpec)) lexCutCard

/-- THE SECOND FORM's CARD OF 'augurlaw02.LexCut'. -/
def lexCutUptoCard : Claim7 := { stood := { row := lexCutUptoRow, standIns := [], harness := (true, "a9d700b80a9d838a3b2fae337b74ec0e4e3a1ee030f34afb0095e95a700340e4"), looks := false }, kinds := [], alts := [], laidByText := true, laidKinds := [.data, .pinned], laidTests := true, laidLooks := .later }
def LexCutUptoCardSaid : Prop := Claim7.holds Tryd.pinned (.plain (OpenSpec.upto lexCutSpec)) lexCutUptoCard
end Rows
end Go.Proofs.YtilgfnafkcjdgabDoor
