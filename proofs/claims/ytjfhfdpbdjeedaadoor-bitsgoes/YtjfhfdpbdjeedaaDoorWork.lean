/- Numbers that wait: NewWork, Push, Pop, Len. -/
import Derived.Test.YtjfhfdpbdjeedaaDoorMake
namespace Go.Proofs.YtjfhfdpbdjeedaaDoor
open Go.RowKit
attribute [local go_sem ↓] Go.wp_at_zero Go.wp_at_succ

/-- Numbers that wait, in memory: the struct is block b, its set sb, sg, its ring block r. -/
structure IsWork (w : World) (b sb sg sc r n : Nat) (ws : List Nat) (ring : List Int) (hd ct : Nat) : Prop where
  head : w.heap[b]? = some (.cells #[.pointer (some ⟨sb, 0, none⟩), .slice (some ⟨r, 0, none⟩) n n, .int .i64 hd, .int .i64 ct] 74 (0, 0))
  set : IsSet w sb sg sc n ws
  row : w.heap[r]? = some (.cells (ring.map (Value.int .i64)).toArray 3 (0, 0))
  len : ring.length = n

theorem newWork_one {w w1 : World} {n b g c : Nat} {ws : List Nat} (hset : IsSet w1 b g c n ws) (hb : w.heap.size ≤ b) (hg : w.heap.size ≤ g) (hk : Kept [] w.drew w1) :
    ∃ b' sb sg sc r, Ending.returned (.pointer (some ⟨w1.heap.size + 1, 0, none⟩)) = Ending.returned (.pointer (some ⟨b', 0, none⟩)) ∧
      IsWork ((w1.alloc (.cells (Array.replicate n (.int .i64 0)) 3)).alloc (.cells #[.pointer (some ⟨b, 0, none⟩), .slice (some ⟨w1.heap.size, 0, none⟩) n n, .int .i64 0, .int .i64 0] 74)) b' sb sg sc r n ws (List.replicate n 0) 0 0 ∧
      w.heap.size ≤ b' ∧ w.heap.size ≤ sb ∧ w.heap.size ≤ sg ∧ w.heap.size ≤ r ∧
      Kept [] w ((w1.alloc (.cells (Array.replicate n (.int .i64 0)) 3)).alloc (.cells #[.pointer (some ⟨b, 0, none⟩), .slice (some ⟨w1.heap.size, 0, none⟩) n n, .int .i64 0, .int .i64 0] 74)) := by
  have hz := hk.size
  have hz' : w.heap.size ≤ w1.heap.size := hz
  refine ⟨w1.heap.size + 1, b, g, c, w1.heap.size, rfl, ⟨heap_new1 _ _ _, (hset.alloc _).alloc _, ?_, by simp⟩, by omega, hb, hg, by omega, ?_⟩
  · rw [heap_new2]; simp
  · exact ((Kept.trans (F := []) (G := []) (H := []) ((Kept.refl [] w).drew) hk (by simp) (by simp)).alloc _).alloc _
theorem newWork_two {w w1 : World} {n b g c : Nat} {ws : List Nat} (hset : IsSet w1 b g c n ws) (hb : (w.alloc (.cells (Array.replicate n (.int .i64 0)) 3)).drew.heap.size ≤ b) (hg : (w.alloc (.cells (Array.replicate n (.int .i64 0)) 3)).drew.heap.size ≤ g)
    (hk : Kept [] (w.alloc (.cells (Array.replicate n (.int .i64 0)) 3)).drew w1) :
    ∃ b' sb sg sc r, Ending.returned (.pointer (some ⟨w1.heap.size, 0, none⟩)) = Ending.returned (.pointer (some ⟨b', 0, none⟩)) ∧
      IsWork (w1.alloc (.cells #[.pointer (some ⟨b, 0, none⟩), .slice (some ⟨w.heap.size, 0, none⟩) n n, .int .i64 0, .int .i64 0] 74)) b' sb sg sc r n ws (List.replicate n 0) 0 0 ∧
      w.heap.size ≤ b' ∧ w.heap.size ≤ sb ∧ w.heap.size ≤ sg ∧ w.heap.size ≤ r ∧
      Kept [] w (w1.alloc (.cells #[.pointer (some ⟨b, 0, none⟩), .slice (some ⟨w.heap.size, 0, none⟩) n n, .int .i64 0, .int .i64 0] 74)) := by
  have hz : w.heap.size + 1 ≤ w1.heap.size := by have := hk.size; simpa using this
  have hb' : w.heap.size + 1 ≤ b := by simpa using hb
  have hg' : w.heap.size + 1 ≤ g := by simpa using hg
  refine ⟨w1.heap.size, b, g, c, w.heap.size, rfl, ⟨heap_alloc_new _ _, hset.alloc _, ?_, by simp⟩, by omega, by omega, by omega, by omega, ?_⟩
  · rw [Below.heap_alloc _ _ _ (by omega), hk.block _ (by simp) (by simp)]
    show (w.alloc (.cells (Array.replicate n (.int .i64 0)) 3)).heap[w.heap.size]? = _
    rw [heap_alloc_new]; simp
  · exact (Kept.trans (F := []) (G := []) (H := []) (((Kept.refl [] w).alloc _).drew) hk (by simp) (by simp)).alloc _

set_option maxHeartbeats 800000 in
theorem newWork_in (n : Nat) (w : World) (hn : n ≤ 65536) :
    Calls Tryd.prog 13 #[.int .i64 n] w fun e w' => ∃ b sb sg sc r, e = .returned (.pointer (some ⟨b, 0, none⟩)) ∧ IsWork w' b sb sg sc r n (List.replicate ((n + 63) / 64) 0) (List.replicate n 0) 0 0 ∧ w.heap.size ≤ b ∧ w.heap.size ≤ sb ∧ w.heap.size ≤ sg ∧ w.heap.size ≤ r ∧ Kept [] w w' := by
  have hd1 : (decide ((0 : Int) ≤ (n : Int)) && decide ((n : Int) ≤ 65536)) = true := by simp; omega
  have b2 : (n : Int) ≤ 65536 := by omega
  have hmk := fun w => make_i64 w n (by omega)
  go_enter Tryd.func13, Tryd.ntmps13
  go_wp2_with fail
  refine (goodWidth_any n _).mono ?_
  rintro e w' ⟨rfl, rfl⟩
  rw [hd1]
  go_wp2_with fail
  go_region_with (first | (go_at_call 9; refine (new_in n _ hn).mono ?_; rintro e w1 ⟨b, g, c, rfl, hset, hb, hg, hkept⟩))
  all_goals go_wp2
  all_goals go_ret
  · exact newWork_one hset hb hg hkept
  · exact newWork_two hset hb hg hkept

set_option maxHeartbeats 400000 in
theorem newWork_out (n : Int) (w : World) (hn : n < 0 ∨ 65536 < n) :
    Calls Tryd.prog 13 #[.int .i64 n] w fun e w' => e = .returned (.pointer none) ∧ w' = w := by
  have hd1 : (decide ((0 : Int) ≤ (n : Int)) && decide ((n : Int) ≤ 65536)) = false := by simp; omega
  go_enter Tryd.func13, Tryd.ntmps13
  go_wp2_with fail
  refine (goodWidth_any n _).mono ?_
  rintro e w' ⟨rfl, rfl⟩
  rw [hd1]
  go_wp2_with fail
  go_ret
  exact ⟨rfl, rfl⟩
end Go.Proofs.YtjfhfdpbdjeedaaDoor
