/- The listed variable: a start that has it, and what it gives. -/
import Derived.Test.YtondmjnagkldpaaDoorTrForm
import Derived.ProofKit
import Derived.OpenShut
import Derived.LaidMore
import Derived.Lay
import Derived.SevenTiedAt
import Derived.Stop.Joined
import Derived.Stop.LaidErr
import Derived.Lib.LaidTab
import Derived.Test.YtondmjnagkldpaaDoorRows
namespace Go.Proofs.YtondmjnagkldpaaDoor
open Go.ChangeShapes Go.WideShapes Go.ChangeAt Go.RowKit Go.Shelf

def laidTab : List (String × DataW Unit) := Rows.evalNumbersRow.laid
theorem own : ownKnob Tryd.prog.godebug = none := by kernel_rfl
theorem laidOut : laidOutB Tryd.prog = true := by kernel_rfl
theorem tab_plain (W : World) : laidMetH Tryd.prog laidTab W = laidMet Tryd.prog laidTab W := MakeChecks.laidMetH_plain _ _ _ (by kernel_rfl)
theorem tab_shape (os : Os) : (World.laidAll Tryd.prog os laidTab).Shaped Tryd.prog := World.shaped_of_ZipB (by kernel_rfl) (by kernel_rfl)
theorem tab_met (os : Os) (args : Array Value) : laidMetH Tryd.prog laidTab ((World.laidAll Tryd.prog os laidTab).forCall (fun _ _ => 0) ⟨#[], args, []⟩).memory := by
  rw [tab_plain]
  exact laidMet_laidAll _ (by kernel_rfl) (by kernel_rfl)
theorem gKids : Tryd.prog.globalNamed "augur/tree.kidsOf" = some 0 := by kernel_rfl
theorem kids_at : ∀ i, i < 22 → (kidsL.map fun (n : Nat) => (n : Int)).getD i 0 = ((kidsN i : Nat) : Int) := by decide
theorem kids_of_laid {W : World} (h : laidMetH Tryd.prog laidTab W) : KidsTab W := by
  rw [tab_plain] at h
  have ht : Lib.TabIs Tryd.prog W "augur/tree.kidsOf" .i64 (kidsL.map fun (n : Nat) => (n : Int)) :=
    Lib.tabIs_of_head (t := 121) (e := 3) (n := 22) gKids (by kernel_rfl) (by kernel_rfl) (by kernel_rfl) (by kernel_rfl) (by kernel_rfl) h
  intro i hi
  rw [ht.cell gKids i (by simpa [kidsL] using hi), kids_at i hi]
end Go.Proofs.YtondmjnagkldpaaDoor
