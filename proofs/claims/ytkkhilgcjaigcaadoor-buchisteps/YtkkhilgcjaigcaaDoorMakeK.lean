/- Making: New, NewTable, NewWork, Of. -/
import Derived.Test.YtkkhilgcjaigcaaDoorSmallK
namespace Go.Proofs.YtkkhilgcjaigcaaDoor
open Go.RowKit
attribute [local go_sem ↓] Go.wp_at_zero Go.wp_at_succ

theorem Tryd.infoU64 : (Tryd.prog.info? 70).map (fun i => (i.zero, i.size, i.bytes)) = some (some (.int .u64 0), 1, 8) := by kernel_rfl
theorem Tryd.infoI64 : (Tryd.prog.info? 3).map (fun i => (i.zero, i.size, i.bytes)) = some (some (.int .i64 0), 1, 8) := by kernel_rfl

theorem make_u64 (w : World) (k : Nat) (hk : k ≤ 2000000) : Sem.run Tryd.prog (Instr.makeSlice 66 (.int .i64 k) (.int .i64 k)) w = .ok (.slice (some ⟨w.heap.size, 0, none⟩) k k) (w.alloc (.cells (Array.replicate k (.int .u64 0)) 70)) := by
  obtain ⟨i0, hi, hz0, hz1, hz2⟩ := info_parts Tryd.infoU64
  have H := run_make (P := Tryd.prog) w 66 70 i0 _ (by kernel_rfl) hi hz0 .i64 .i64 k k (by omega) (by omega) (by rw [hz2]; omega) (by omega)
  rw [H, hz1]
  have e : madeCells (Value.cells (.int .u64 0)) (k * 1) = Array.replicate k (Value.int .u64 0) := by
    apply Array.toList_inj.1
    rw [show Value.cells (.int .u64 0) = #[Value.int .u64 0] from rfl, toList_madeCells_one]; simp
  simp only [Int.toNat_natCast]
  rw [e]
theorem make_i64 (w : World) (k : Nat) (hk : k ≤ 2000000) : Sem.run Tryd.prog (Instr.makeSlice 23 (.int .i64 k) (.int .i64 k)) w = .ok (.slice (some ⟨w.heap.size, 0, none⟩) k k) (w.alloc (.cells (Array.replicate k (.int .i64 0)) 3)) := by
  obtain ⟨i0, hi, hz0, hz1, hz2⟩ := info_parts Tryd.infoI64
  have H := run_make (P := Tryd.prog) w 23 3 i0 _ (by kernel_rfl) hi hz0 .i64 .i64 k k (by omega) (by omega) (by rw [hz2]; omega) (by omega)
  rw [H, hz1]
  have e : madeCells (Value.cells (.int .i64 0)) (k * 1) = Array.replicate k (Value.int .i64 0) := by
    apply Array.toList_inj.1
    rw [show Value.cells (.int .i64 0) = #[Value.int .i64 0] from rfl, toList_madeCells_one]; simp
  simp only [Int.toNat_natCast]
  rw [e]

theorem quo63 (n : Nat) (hn : n ≤ 65536) : ∃ k : Nat, k = (n + 63) / 64 ∧ k ≤ 1024 ∧ ((n : Int) + 64 - 1).tdiv 64 = (k : Int) ∧ ((n : Int) + 63).tdiv 64 = (k : Int) ∧ ((n : Int) + 64 - 1) / 64 = (k : Int) ∧ ((n : Int) + 63) / 64 = (k : Int) ∧ IntKind.i64.wrap (k : Int) = (k : Int) := by
  refine ⟨(n + 63) / 64, rfl, by omega, ?_, ?_, by omega, by omega, ?_⟩
  · rw [Int.tdiv_eq_ediv_of_nonneg (by omega)]; omega
  · rw [Int.tdiv_eq_ediv_of_nonneg (by omega)]; omega
  · simp only [IntKind.wrap, IntKind.bits, IntKind.signed]; simp; omega

theorem newset (w : World) (n k : Nat) (hk : k = (n + 63) / 64) (hn : n ≤ 65536) :
    IsSet ((w.alloc (.cells (Array.replicate k (.int .u64 0)) 70)).alloc (.cells #[.int .i64 n, .slice (some ⟨w.heap.size, 0, none⟩) k k] 68)) (w.heap.size + 1) w.heap.size k n (List.replicate k 0) := by
  refine ⟨?_, ⟨Array.replicate k (.int .u64 0), ?_, by simp, by simp⟩, by simp, by unfold maxLen; omega, by omega⟩
  · have := heap_alloc_new (w.alloc (.cells (Array.replicate k (.int .u64 0)) 70)) (.cells #[.int .i64 n, .slice (some ⟨w.heap.size, 0, none⟩) k k] 68)
    simpa using this
  · rw [Below.heap_alloc _ _ _ (by simp)]
    exact heap_alloc_new _ _

/-- A call that makes a set: it lies in new blocks, nothing old has turned. -/
def Makes (w : World) (n : Nat) (ws : List Nat) (e : Ending) (w' : World) : Prop :=
  ∃ b g c, e = .returned (.pointer (some ⟨b, 0, none⟩)) ∧ IsSet w' b g c n ws ∧ w.heap.size ≤ b ∧ w.heap.size ≤ g ∧ Kept [] w w'

set_option maxHeartbeats 400000 in
theorem new_in (n : Nat) (w : World) (hn : n ≤ 65536) :
    Calls Tryd.prog 39 #[.int .i64 n] w (Makes w n (List.replicate ((n + 63) / 64) 0)) := by
  obtain ⟨k, hk, hk1, q1, q2, q3, q4, q5⟩ := quo63 n hn
  rw [← hk]
  have HK : Hid (k = (n + 63) / 64) := hk
  clear hk
  have hd1 : (decide ((0 : Int) ≤ (n : Int)) && decide ((n : Int) ≤ 65536)) = true := by simp; omega
  have b2 : (n : Int) ≤ 65536 := by omega
  have hmk := make_u64 w k (by omega)
  go_enter Tryd.func39, Tryd.ntmps39
  go_wp2_with fail
  refine (goodWidth_any n _).mono ?_
  rintro e w' ⟨rfl, rfl⟩
  rw [hd1]
  go_wp2_with fail
  go_ret
  exact ⟨_, _, _, rfl, newset _ _ _ HK.out hn, by simp, by simp, ((Kept.refl _ _).alloc _).alloc _⟩

set_option maxHeartbeats 400000 in
theorem new_out (n : Int) (w : World) (hn : n < 0 ∨ 65536 < n) :
    Calls Tryd.prog 39 #[.int .i64 n] w fun e w' => e = .returned (.pointer none) ∧ w' = w := by
  have hd1 : (decide ((0 : Int) ≤ (n : Int)) && decide ((n : Int) ≤ 65536)) = false := by simp; omega
  go_enter Tryd.func39, Tryd.ntmps39
  go_wp2_with fail
  refine (goodWidth_any n _).mono ?_
  rintro e w' ⟨rfl, rfl⟩
  rw [hd1]
  go_wp2_with fail
  go_ret
  exact ⟨rfl, rfl⟩

theorem heap_new2 (w : World) (o p : Obj) : ((w.alloc o).alloc p).heap[w.heap.size]? = some o := by
  rw [Below.heap_alloc _ _ _ (by simp)]; exact heap_alloc_new _ _
theorem heap_new1 (w : World) (o p : Obj) : ((w.alloc o).alloc p).heap[w.heap.size + 1]? = some p := by
  have := heap_alloc_new (w.alloc o) p; simpa using this

end Go.Proofs.YtkkhilgcjaigcaaDoor
