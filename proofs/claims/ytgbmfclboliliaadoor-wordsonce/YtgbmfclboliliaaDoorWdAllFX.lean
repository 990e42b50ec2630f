/- words.All. -/
import Derived.Test.YtgbmfclboliliaaDoorWdAllX
namespace Go.Proofs.YtgbmfclboliliaaDoor
open Go.RowKit Go.Shelf
attribute [local go_sem ↓] Go.wp_at_zero Go.wp_at_succ

set_option maxHeartbeats 800000 in
theorem all_any (props size : Nat) (w : World) (hp : props ≤ 8) (h1 : 1 ≤ size) (_hs : size ≤ 1000) :
    Calls Tryd.prog 39 #[.int .i64 (props : Nat), .int .i64 (size : Nat)] w fun e w' => e = .returned (.func (.func 68) #[] #[.pointer (some ⟨w.heap.size + 1, 0, none⟩), .pointer (some ⟨w.heap.size, 0, none⟩)]) ∧ Hid (AllAt (w.heap.size + 1) w.heap.size (if props = 0 then 1 else size) props w') ∧ Hid (Kept [] w w') := by
  have hb : (decide (0 ≤ (props : Int)) && decide ((props : Int) ≤ 8)) = true := by simp; omega
  have HG : Hid (∀ W, Calls Tryd.prog 49 #[.int .i64 props] W fun e w' => e = .returned (.bool true) ∧ w' = W) := fun W => by have := goodProps_any props W; rw [hb] at this; exact this
  clear hb
  by_cases h0 : props = 0
  · subst h0
    rw [if_pos rfl]
    have z1 : ¬ ((size : Int) < 1) := by omega
    have z2 : (1 : Int) ≤ (size : Int) := by omega
    go_enter Tryd.func39, Tryd.ntmps39
    go_wp2_with (go_at_call 49; refine (HG.out _).mono ?_; rintro e w1 ⟨rfl, rfl⟩)
    have hN := two_new w (.cells #[.int .i64 0] 3) (.cells #[.int .i64 (min (size : Int) 1)] 3)
    go_ret
    have e : min (size : Int) 1 = ((1 : Nat) : Int) := by omega
    rw [e] at hN ⊢
    exact ⟨rfl, ⟨hN.2, hN.1⟩, ((Kept.refl [] w).alloc _).alloc _⟩
  · rw [if_neg h0]
    have z1 : ((props : Int) == 0) = false := by simp; exact h0
    clear h0
    go_enter Tryd.func39, Tryd.ntmps39
    go_wp2_with (go_at_call 49; refine (HG.out _).mono ?_; rintro e w1 ⟨rfl, rfl⟩)
    go_ret
    have hN := two_new w (.cells #[.int .i64 (props : Nat)] 3) (.cells #[.int .i64 (size : Nat)] 3)
    exact ⟨rfl, ⟨hN.2, hN.1⟩, ((Kept.refl [] w).alloc _).alloc _⟩
end Go.Proofs.YtgbmfclboliliaaDoor
