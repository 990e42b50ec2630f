/- package buchi: DeleteFunc where both of two are out. -/
import Derived.Test.YtkkhilgcjaigcaaDoorBuDrop
import Derived.Lib.SliceRun
namespace Go.Proofs.YtkkhilgcjaigcaaDoor
open Go.RowKit Go.Shelf

set_option maxHeartbeats 2000000 in
set_option maxRecDepth 10000 in
theorem delete_both (lb lc : Nat) (u : Value) (FB F : Nat) (w : World) (hlc : 2 ≤ lc) (hlm : lc ≤ maxLen) (l0 : w.cell? ⟨lb, 0, none⟩ = some (.int .i64 0)) (l1 : w.cell? ⟨lb, 1, none⟩ = some (.int .i64 1)) (f0 : w.frozen? ⟨lb, 0, none⟩ = false) (f1 : w.frozen? ⟨lb, 1, none⟩ = false) (hB : w.cell? ⟨FB, 0, none⟩ = some (.pointer (some ⟨F, 0, none⟩))) (hF : w.cell? ⟨F, 4, none⟩ = some u) (hu : Bools w u [false, false]) :
    Calls Tryd.prog 93 #[.slice (some ⟨lb, 0, none⟩) 2 lc, .func (.func 94) #[] #[.pointer (some ⟨FB, 0, none⟩)]] w fun e w' => e = .returned (.slice (some ⟨lb, 0, none⟩) 0 lc) ∧ w' = w.setCells lb 0 (List.replicate 2 (.int .i64 0)) := by
  have hI : Ints w (.slice (some ⟨lb, 0, none⟩) 2 lc) [0, 1] := ⟨by simp, by simp, .inr ⟨lb, 0, lc, rfl, hlc, hlm, fun i hi => by
    have : i = 0 ∨ i = 1 := by simp at hi; omega
    rcases this with rfl | rfl
    · exact l0
    · exact l1⟩⟩
  have HI : Hid (Calls Tryd.prog 100 #[.slice (some ⟨lb, 0, none⟩) 2 lc, .func (.func 94) #[] #[.pointer (some ⟨FB, 0, none⟩)]] w fun e w' => e = .returned (.int .i64 0) ∧ w' = w) := (indexD_any _ u [0, 1] [false, false] FB F w hI hB hF hu (by intro x hx; simp at hx; rcases hx with rfl | rfl <;> simp)).mono fun e w' ⟨k, h1, h2, h3⟩ => by
    rcases h2.out with ⟨_, hq⟩ | ⟨i, rfl, hi, hq, hr⟩
    · have := hq 0 (by simp); simp [outB] at this
    · rcases Nat.eq_zero_or_pos i with rfl | hp
      · exact ⟨h1, h3⟩
      · have := hr 0 (by simp) hp; simp [outB] at this
  have HD : Hid (Calls Tryd.prog 94 #[.int .i64 1, .pointer (some ⟨FB, 0, none⟩)] w fun e w' => e = .returned (.bool true) ∧ w' = w) := drop1_any FB F u [false, false] 1 w hB hF hu (by simp)
  have hcm : lc ≤ 9223372036854775807 := by unfold maxLen at hlm; exact hlm
  have z1 : (2 : Int) ≤ (lc : Int) := by omega
  have z2 : (0 : Int) ≤ (lc : Int) := by omega
  have hclr := Lib.run_clear_slice (P := Tryd.prog) w 23 3 0 (.int .i64 0) Tryd.underlying23 (fun _ => by kernel_rfl) rfl rfl lb 0 2 lc (by decide) (fun t ht => by
    have : t = 0 ∨ t = 1 := by omega
    rcases this with rfl | rfl
    · rw [l0]; rfl
    · rw [l1]; rfl) (fun t ht => by
    have : t = 0 ∨ t = 1 := by omega
    rcases this with rfl | rfl
    · exact f0
    · exact f1)
  obtain ⟨Y, hY⟩ : ∃ Y, w.setCells lb 0 (List.replicate 2 (.int .i64 0)) = Y := ⟨_, rfl⟩
  rw [hY] at hclr ⊢
  clear hI hB hF hu hY
  go_enter Tryd.func93, Tryd.ntmps93
  go_wp2_with (go_at_call 100; refine HI.out.mono ?_; rintro e w1 ⟨rfl, hw1⟩; rw [hw1]; clear hw1)
  refine wp_loop_rounds 2 ?_
  rw [rounds_succ]
  go_wp2_with (go_at_call 94; refine HD.out.mono ?_; rintro e w1 ⟨rfl, hw1⟩; rw [hw1]; clear hw1)
  rw [rounds_succ]
  go_wp2_with fail
  go_ret
  exact ⟨rfl, rfl⟩
end Go.Proofs.YtkkhilgcjaigcaaDoor
