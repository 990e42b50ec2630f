/-
  DERIVED. GIVEN WITH THE SEED: THE CARDS: each row of YtpcfbopahogicaaDoorRows.lean that lists a variable, with what it lists TIED to the program's text (the seventh form; the later family's looks); each row that meets fmt, with fmt's text TOLD by the authors' own Lean function (tested against real Go, not proved from fmt's source: count such statements apart). THE CARD IS WHAT COUNTS. Prove the row's statement (the work); the ties are given (YtpcfbopahogicaaDoorTie.lean); close each card by the builder's one call (the guide's Derived/Test/ToyasCard.lean, 'card_holds'). Laid BY PROGRAM, IN A SANDBOX (cutbox-door.mjs). By AI agents, Wed Nov 11 2026. No macro, syntax, notation, axiom, sorry.
-/
import Derived.Test.YtpcfbopahogicaaDoorRows
import GoSem.ClaimSeven
namespace Go.Proofs.YtpcfbopahogicaaDoor
namespace Rows

/-- THE TIED CARD OF 'augurlaw13.DfaNames'. -/
def dfaNamesCard : Claim7 := { stood := { row := dfaNamesRow, standIns := [], harness := (true, "8fdad7c91c97aad777efc5427066dc16648bd87811857ae630c46721e5449d27"), looks := false }, kinds := [], alts := [], laidByText := true, laidKinds := [.data], laidTests := true, laidLooks := .later }
def DfaNamesCardSaid : Prop := Claim7.holds Tryd.pinned (.plain (OpenSpec.ofChange dfaNamesSpec)) dfaNamesCard

/-- THE SECOND FORM's CARD OF 'augurlaw13.DfaNames'. -/
def dfaNamesUptoCard : Claim7 := { stood := { row := dfaNamesUptoRow, standIns := [], harness := (true, "8fdad7c91c97aad777efc5427066dc16648bd87811857ae630c46721e5449d27"), looks := false }, kinds := [], alts := [], laidByText := true, laidKinds := [.data], laidTests := true, laidLooks := .later }
def DfaNamesUptoCardSaid : Prop := Claim7.holds Tryd.pinned (.plain (OpenSpec.upto dfaNamesSpec)) dfaNamesUptoCard
end Rows
end Go.Proofs.YtpcfbopahogicaaDoor
