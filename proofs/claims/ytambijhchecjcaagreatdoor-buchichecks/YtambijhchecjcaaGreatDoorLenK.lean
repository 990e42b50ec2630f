/- Set.Len, Width. -/
import Derived.Test.YtambijhchecjcaaGreatDoorSmallK
import Derived.Test.YtambijhchecjcaaGreatDoorOnesK
import Derived.Deep.QuietTactic
import Derived.BigQuiet
namespace Go.Proofs.YtambijhchecjcaaGreatDoor
open Go.RowKit

/-- What a reading call leaves: some draws, no cell turned. -/
def QuietK (w w' : World) : Prop := ∃ q, w' = w.drewN q
theorem QuietK.refl (w : World) : QuietK w w := ⟨0, rfl⟩
theorem QuietK.kept {w w' : World} (h : QuietK w w') : Kept [] w w' := by obtain ⟨q, rfl⟩ := h; exact (Kept.refl [] w).drewN q

/-- How many a set has, as Len counts them. -/
def lenW (ws : List Nat) : Nat := (ws.map ones).sum
theorem ones_le (x : Nat) : ones x ≤ 127 := by unfold ones; exact Nat.and_le_right
theorem lenW_snoc (ws : List Nat) (x : Nat) : lenW (ws ++ [x]) = lenW ws + ones x := by simp [lenW]
theorem lenW_le (ws : List Nat) : lenW ws ≤ 127 * ws.length := by
  unfold lenW
  induction ws with
  | nil => simp
  | cons x r ih => have := ones_le x; simp; omega

end Go.Proofs.YtambijhchecjcaaGreatDoor
