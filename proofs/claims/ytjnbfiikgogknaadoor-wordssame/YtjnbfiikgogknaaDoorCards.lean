/-
  DERIVED. GIVEN WITH THE SEED: THE CARDS: each row of YtjnbfiikgogknaaDoorRows.lean that lists a variable, with what it lists TIED to the program's text (the seventh form; the later family's looks); each row that meets fmt, with fmt's text TOLD by the authors' own Lean function (tested against real Go, not proved from fmt's source: count such statements apart). THE CARD IS WHAT COUNTS. Prove the row's statement (the work); the ties are given (YtjnbfiikgogknaaDoorTie.lean); close each card by the builder's one call (the guide's Derived/Test/ToyasCard.lean, 'card_holds'). Laid BY PROGRAM, IN A SANDBOX (cutbox-door.mjs). By AI agents, Wed Nov 11 2026. No macro, syntax, notation, axiom, sorry.
-/
import Derived.Test.YtjnbfiikgogknaaDoorRows
import GoSem.ClaimSeven
namespace Go.Proofs.YtjnbfiikgogknaaDoor
namespace Rows

/-- THE TIED CARD OF 'augurlaw05.WordsSame'. -/
def wordsSameCard : Claim7 := { stood := { row := wordsSameRow, standIns := [], harness := (true, "49e16ff6e2a80a591f3579e6c1efdaf6fe18a6c204ce59f0314dd02e6a3ff520"), looks := false }, kinds := [], alts := [], laidByText := true, laidKinds := [.data, .data, .data], laidTests := true, laidLooks := .later }
def WordsSameCardSaid : Prop := Claim7.holds Tryd.pinned (.plain (OpenSpec.ofChange wordsSameSpec)) wordsSameCard

/-- THE TIED CARD OF 'augurlaw05.WordsOnce'. -/
def wordsOnceCard : Claim7 := { stood := { row := wordsOnceRow, standIns := [], harness := (true, "49e16ff6e2a80a591f3579e6c1efdaf6fe18a6c204ce59f0314dd02e6a3ff520"), looks := false }, kinds := [], alts := [], laidByText := true, laidKinds := [.data, .data, .data], laidTests := true, laidLooks := .later }
def WordsOnceCardSaid : Prop := Claim7.holds Tryd.pinned (.plain (OpenSpec.ofChange wordsOnceSpec)) wordsOnceCard

/-- THE SECOND FORM's CARD OF 'augurlaw05.WordsSame'. -/
def wordsSameUptoCard : Claim7 := { stood := { row := wordsSameUptoRow, standIns := [], harness := (true, "49e16ff6e2a80a591f3579e6c1efdaf6fe18a6c204ce59f0314dd02e6a3ff520"), looks := false }, kinds := [], alts := [], laidByText := true, laidKinds := [.data, .data, .data], laidTests := true, laidLooks := .later }
def WordsSameUptoCardSaid : Prop := Claim7.holds Tryd.pinned (.plain (OpenSpec.upto wordsSameSpec)) wordsSameUptoCard

/-- THE SECOND FORM's CARD OF 'augurlaw05.WordsOnce'. -/
def wordsOnceUptoCard : Claim7 := { stood := { row := wordsOnceUptoRow, standIns := [], harness := (true, "49e16ff6e2a80a591f3579e6c1efdaf6fe18a6c204ce59f0314dd02e6a3ff520"), looks := false }, kinds := [], alts := [], laidByText := true, laidKinds := [.data, .data, .data], laidTests := true, laidLooks := .later }
def WordsOnceUptoCardSaid : Prop := Claim7.holds Tryd.pinned (.plain (OpenSpec.upto wordsOnceSpec)) wordsOnceUptoCard
end Rows
end Go.Proofs.YtjnbfiikgogknaaDoor
