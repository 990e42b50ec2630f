/-
  DERIVED. GIVEN WITH THE SEED: THE CARDS: each row of YtepooofiadlceaaDoorRows.lean that lists a variable, with what it lists TIED to the program's text (the seventh form; the later family's looks); each row that meets fmt, with fmt's text TOLD by the authors' own Lean function (tested against real Go, not proved from fmt's source: count such statements apart). THE CARD IS WHAT COUNTS. Prove the row's statement (the work); the ties are given (YtepooofiadlceaaDoorTie.lean); close each card by the builder's one call (the guide's Derived/Test/ToyasCard.lean, 'card_holds'). Laid BY PROGRAM, IN A SANDBOX (cutbox-door.mjs). By AI agents, Wed Nov 11 2026. No macro, syntax, notation, axiom, sorry.
-/
import Derived.Test.YtepooofiadlceaaDoorRows
import GoSem.ClaimSeven
namespace Go.Proofs.YtepooofiadlceaaDoor
namespace Rows

/-- THE TIED CARD OF 'augurlaw10.BuchiNames'. -/
def buchiNamesCard : Claim7 := { stood := { row := buchiNamesRow, standIns := [], harness := (true, "0ce8c29f90d199bab40295b568912a57764252bedaeb3006bf4a27fd71ce3773"), looks := false }, kinds := [], alts := [], laidByText := true, laidKinds := [.data], laidTests := true, laidLooks := .later }
def BuchiNamesCardSaid : Prop := Claim7.holds Tryd.pinned (.plain (OpenSpec.ofChange buchiNamesSpec)) buchiNamesCard

/-- THE TIED CARD OF 'augurlaw10.BuchiLetters'. -/
def buchiLettersCard : Claim7 := { stood := { row := buchiLettersRow, standIns := [], harness := (true, "0ce8c29f90d199bab40295b568912a57764252bedaeb3006bf4a27fd71ce3773"), looks := false }, kinds := [], alts := [], laidByText := true, laidKinds := [.data], laidTests := true, laidLooks := .later }
def BuchiLettersCardSaid : Prop := Claim7.holds Tryd.pinned (.plain (OpenSpec.ofChange buchiLettersSpec)) buchiLettersCard

/-- THE SECOND FORM's CARD OF 'augurlaw10.BuchiNames'. -/
def buchiNamesUptoCard : Claim7 := { stood := { row := buchiNamesUptoRow, standIns := [], harness := (true, "0ce8c29f90d199bab40295b568912a57764252bedaeb3006bf4a27fd71ce3773"), looks := false }, kinds := [], alts := [], laidByText := true, laidKinds := [.data], laidTests := true, laidLooks := .later }
def BuchiNamesUptoCardSaid : Prop := Claim7.holds Tryd.pinned (.plain (OpenSpec.upto buchiNamesSpec)) buchiNamesUptoCard

/-- THE SECOND FORM's CARD OF 'augurlaw10.BuchiLetters'. -/
def buchiLettersUptoCard : Claim7 := { stood := { row := buchiLettersUptoRow, standIns := [], harness := (true, "0ce8c29f90d199bab40295b568912a57764252bedaeb3006bf4a27fd71ce3773"), looks := false }, kinds := [], alts := [], laidByText := true, laidKinds := [.data], laidTests := true, laidLooks := .later }
def BuchiLettersUptoCardSaid : Prop := Claim7.holds Tryd.pinned (.plain (OpenSpec.upto buchiLettersSpec)) buchiLettersUptoCard
end Rows
end Go.Proofs.YtepooofiadlceaaDoor
