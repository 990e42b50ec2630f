/- Set.Len, Width. -/
import Derived.Test.YtkkhilgcjaigcaaDoorSmallK
import Derived.Test.YtkkhilgcjaigcaaDoorOnesK
import Derived.Deep.QuietTactic
import Derived.BigQuiet
namespace Go.Proofs.YtkkhilgcjaigcaaDoor
open Go.RowKit

/-- What a reading call leaves: some draws, no cell turned. -/
def QuietK (w w' : World) : Prop := ∃ q, w' = w.drewN q
theorem QuietK.refl (w : World) : QuietK w w := ⟨0, rfl⟩
theorem QuietK.kept {w w' : World} (h : QuietK w w') : Kept [] w w' := by obtain ⟨q, rfl⟩ := h; exact (Kept.refl [] w).drewN q

/-- How many a set has, as Len counts them. -/
def lenW (ws : List Nat) : Nat := (ws.map ones).sum
theorem ones_le (x : Nat) : ones x ≤ 127 := by unfold ones; exact Nat.and_le_right
theorem lenW_snoc (ws : List Nat) (x : Nat) : lenW (ws ++ [x]) = lenW ws + ones x := by simp [lenW]
theorem lenW_le (ws : List Nat) : lenW ws ≤ 127 * ws.length := by
  unfold lenW
  induction ws with
  | nil => simp
  | cons x r ih => have := ones_le x; simp; omega

set_option maxHeartbeats 800000 in
theorem len_any (b g c n : Nat) (ws : List Nat) (w : World) (hs : IsSet w b g c n ws) (hG : Good n ws) :
    Calls Tryd.prog 17 #[.pointer (some ⟨b, 0, none⟩)] w fun e w' => e = .returned (.int .i64 (lenW ws : Nat)) ∧ w' = w := by
  have h1 := hs.c1
  have hl : ws.length ≤ 1024 := by have := hG.len; have := hG.top; omega
  have hcell : ∀ j (h : j < ws.length), w.cell? ⟨g, j, none⟩ = some (.int .u64 (ws[j] : Nat)) := fun j hj => hs.cw j hj
  have HC : Hid _ := hcell
  have hsm : ∀ j (h : j < ws.length), ws[j] < 18446744073709551616 := fun j hj => hG.small _ (List.getElem_mem hj)
  have HS : Hid _ := hsm
  clear hs hG hcell hsm
  go_enter Tryd.func17, Tryd.ntmps17
  go_wp2
  go_loop [3, 11] (fun s i => ∃ k : Nat, k ≤ ws.length ∧ i = .int .i64 k ∧ s = .int .i64 (lenW (ws.take k) : Nat)) (fun _ i => ws.length - (intOf i).toNat)
  case atStart => exact ⟨0, Nat.zero_le _, rfl, rfl⟩
  case round =>
    obtain ⟨k, hk, rfl, rfl⟩ := hrel
    by_cases hlt : k < ws.length
    · have hc := HC.out k hlt
      have hsx := HS.out k hlt
      have HE : Hid (lenW (ws.take (k + 1)) = lenW (ws.take k) + ones ws[k]) := by rw [List.take_succ_eq_append_getElem hlt]; exact lenW_snoc _ _
      have hbd : (lenW (ws.take k) : Int) ≤ 200000 := by have := lenW_le (ws.take k); have := List.length_take_le k ws; omega
      have hon := ones_le ws[k]
      have hlt' : (k : Int) < (ws.length : Int) := by omega
      generalize ws[k] = x at hc hsx HE hon
      generalize lenW (ws.take k) = m at HE hbd
      go_wp2_with fail
      refine (ones_any x _ hsx).mono ?_
      rintro e w' ⟨rfl, rfl⟩
      generalize ones x = o at HE hon
      go_wp2
      go_round
      case rel => exact ⟨k + 1, by omega, by go_num, by rw [HE.out]; go_num⟩
      case measure => simp [intOf]; omega
    · have hlt' : ¬ (k : Int) < (ws.length : Int) := by omega
      have e : ws.take k = ws := List.take_of_length_le (by omega)
      rw [e]
      clear e
      go_wp2
      go_ret
      exact ⟨rfl, rfl⟩

end Go.Proofs.YtkkhilgcjaigcaaDoor
