/- augurlaw17.ends, and Final. -/
import Derived.Test.YtbbfajbnklgncaaRuSeen
namespace Go.Proofs.Ytbbfajbnklgncaa
open Go.RowKit Go.Shelf Go.Maps

set_option maxHeartbeats 2000000 in
set_option maxRecDepth 10000 in
theorem final_any (lo N R : Nat) (ps : List ByteArray) (next : List (List Int)) (out : List Nat) (fin : List Bool) (s : Nat) (w : World) (h : RunS w lo N R ps next out fin s) :
    Calls Try.prog 23 #[.pointer (some ⟨R, 0, none⟩)] w fun e w' => e = .returned (.bool (fin.getD s false)) ∧ Hid (Kept [] w w') := by
  obtain ⟨T, MB, FR, nxv, outv, D, fl, h1, h2, _⟩ := h.ex
  have hs : s < fin.length := by rw [h.fin.len]; exact h.lt
  have c0 : w.cell? ⟨R, 0, none⟩ = some (.pointer (some ⟨T, 0, none⟩)) := (cell_of h1 0).trans rfl
  have c1 : w.cell? ⟨R, 1, none⟩ = some (.int .i64 (s : Nat)) := (cell_of h1 1).trans rfl
  have c2 : w.cell? ⟨T, 4, none⟩ = some (.slice (some ⟨FR, 0, none⟩) fin.length fin.length) := (cell_of h2.box 4).trans rfl
  obtain ⟨v, hv⟩ : ∃ v, fin.getD s false = v := ⟨_, rfl⟩
  have c3 : w.cell? ⟨FR, s, none⟩ = some (.bool v) := by
    rw [cell_of h2.fins, ← hv]
    simp [List.getElem?_eq_getElem hs, List.getD_eq_getElem?_getD]
  rw [hv]
  have z0 : (0 : Int) ≤ (s : Int) := by omega
  have z1 : (s : Int) < (fin.length : Int) := by omega
  obtain ⟨n, hn⟩ : ∃ n, fin.length = n := ⟨_, rfl⟩
  rw [hn] at c2 z1
  clear h h1 h2 hs hv hn
  go_enter Try.func23, Try.ntmps23
  go_wp2_with fail
  go_region
  all_goals go_wp2
  go_ret
  exact ⟨rfl, (Kept.refl [] w).drew⟩
end Go.Proofs.Ytbbfajbnklgncaa
