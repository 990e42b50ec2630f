/-
  DERIVED. GIVEN WITH THE SEED: THE CARDS: each row of YtnaebadjejhdiaaGreatDoorRows.lean that lists a variable, with what it lists TIED to the program's text (the seventh form; the later family's looks); each row that meets fmt, with fmt's text TOLD by the authors' own Lean function (tested against real Go, not proved from fmt's source: count such statements apart). THE CARD IS WHAT COUNTS. Prove the row's statement (the work); the ties are given (YtnaebadjejhdiaaGreatDoorTie.lean); close each card by the builder's one call (the guide's Derived/Test/ToyasCard.lean, 'card_holds'). Laid BY PROGRAM, IN A SANDBOX (cutbox-door.mjs). By AI agents, Wed Nov 11 2026. No macro, syntax, notation, axiom, sorry.
-/
import Derived.Test.YtnaebadjejhdiaaGreatDoorRows
import GoSem.ClaimSeven
namespace Go.Proofs.YtnaebadjejhdiaaGreatDoor
namespace Rows

/-- THE TIED CARD OF 'augurlaw15.CodecSums'. -/
def codecSumsCard : Claim7 := { stood := { row := codecSumsRow, standIns := [], harness := (true, "e5765e683749c48ffa465371fa215e51f842c6583a6cb2d6fb2e3b8d40d962e2"), looks := false }, kinds := [], alts := [], laidByText := true, laidKinds := [.data, .data], laidTests := true, laidLooks := .later }
def CodecSumsCardSaid : Prop := Claim7.holds Tryz.pinned (.plain (OpenSpec.ofChange codecSumsSpec)) codecSumsCard

/-- THE SECOND FORM's CARD OF 'augurlaw15.CodecSums'. -/
def codecSumsUptoCard : Claim7 := { stood := { row := codecSumsUptoRow, standIns := [], harness := (true, "e5765e683749c48ffa465371fa215e51f842c6583a6cb2d6fb2e3b8d40d962e2"), looks := false }, kinds := [], alts := [], laidByText := true, laidKinds := [.data, .data], laidTests := true, laidLooks := .later }
def CodecSumsUptoCardSaid : Prop := Claim7.holds Tryz.pinned (.plain (OpenSpec.upto codecSumsSpec)) codecSumsUptoCard
end Rows
end Go.Proofs.YtnaebadjejhdiaaGreatDoor
