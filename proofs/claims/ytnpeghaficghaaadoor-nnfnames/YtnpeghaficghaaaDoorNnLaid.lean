/- The listed variables: a start that has them, and what they give. -/
import Derived.Test.YtnpeghaficghaaaDoorNnSmall
import Derived.ProofKit
import Derived.OpenShut
import Derived.LaidMore
import Derived.Lay
import Derived.SevenTiedAt
import Derived.Stop.Joined
import Derived.Stop.LaidErr
import Derived.Lib.LaidTab
import Derived.Test.YtnpeghaficghaaaDoorRows
namespace Go.Proofs.YtnpeghaficghaaaDoor
open Go.ChangeShapes Go.WideShapes Go.ChangeAt Go.RowKit Go.Shelf

def laidTab : List (String × DataW Unit) := [("augur/tree.kidsOf", Rows.laid_augur_tree_kidsOf), ("augur/nnf.turned", Rows.laid_augur_nnf_turned)]
theorem own : ownKnob Tryd.prog.godebug = none := by kernel_rfl
theorem laidOut : laidOutB Tryd.prog = true := by kernel_rfl
theorem tab_plain (W : World) : laidMetH Tryd.prog laidTab W = laidMet Tryd.prog laidTab W := MakeChecks.laidMetH_plain _ _ _ (by kernel_rfl)
theorem tab_shape (os : Os) : (World.laidAll Tryd.prog os laidTab).Shaped Tryd.prog := World.shaped_of_ZipB (by kernel_rfl) (by kernel_rfl)
theorem tab_met (os : Os) (args : Array Value) : laidMetH Tryd.prog laidTab ((World.laidAll Tryd.prog os laidTab).forCall (fun _ _ => 0) ⟨#[], args, []⟩).memory := by
  rw [tab_plain]
  exact laidMet_laidAll _ (by kernel_rfl) (by kernel_rfl)
theorem gKids : Tryd.prog.globalNamed "augur/tree.kidsOf" = some 1 := by kernel_rfl
theorem gTurn : Tryd.prog.globalNamed "augur/nnf.turned" = some 0 := by kernel_rfl
theorem kids_at : ∀ i, i < 22 → (kidsL.map fun (n : Nat) => (n : Int)).getD i 0 = ((kidsN i : Nat) : Int) := by decide
def turnL : List Nat := [0, 2, 1, 0, 0, 6, 5, 0, 0, 0, 11, 10]
theorem turn_at : ∀ i, i < 12 → (turnL.map fun (n : Nat) => (n : Int)).getD i 0 = ((turnO i : Nat) : Int) := by decide
theorem kids_of_laid {W : World} (h : laidMetH Tryd.prog laidTab W) : KidsTab W := by
  rw [tab_plain] at h
  have ht : Lib.TabIs Tryd.prog W "augur/tree.kidsOf" .i64 (kidsL.map fun (n : Nat) => (n : Int)) :=
    Lib.tabIs_of_head (t := 153) (e := 3) (n := 22) gKids (by kernel_rfl) (by kernel_rfl) (by kernel_rfl) (by kernel_rfl) (by kernel_rfl) h
  intro i hi
  rw [ht.cell gKids i (by simpa [kidsL] using hi), kids_at i hi]
theorem turn_of_laid {W : World} (h : laidMetH Tryd.prog laidTab W) : TurnTab W := by
  rw [tab_plain] at h
  have ht : Lib.TabIs Tryd.prog W "augur/nnf.turned" .u8 (turnL.map fun (n : Nat) => (n : Int)) :=
    Lib.tabIs_of_head (t := 150) (e := 22) (n := 12) gTurn (by kernel_rfl) (by kernel_rfl) (by kernel_rfl) (by kernel_rfl) (by kernel_rfl) h.tail
  intro i hi
  rw [ht.cell gTurn i (by simpa [turnL] using hi), turn_at i hi]
end Go.Proofs.YtnpeghaficghaaaDoor
