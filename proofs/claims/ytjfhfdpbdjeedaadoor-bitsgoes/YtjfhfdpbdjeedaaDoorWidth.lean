/- The laws' own functions 'pick' and 'width'. -/
import Derived.Test.YtjfhfdpbdjeedaaDoorBase
import Derived.WalkLawsBesides
namespace Go.Proofs.YtjfhfdpbdjeedaaDoor
open Go.RowKit

/-- Which of n things the raw number c speaks of. -/
def pickN (c : Int) (n : Nat) : Nat := (if c < 0 then -(c + 1) else c).toNat % n
theorem pickN_lt (c : Int) (n : Nat) (h : 0 < n) : pickN c n < n := Nat.mod_lt _ h

set_option maxHeartbeats 400000 in
theorem pick_any (c : Int) (n : Nat) (w : World) (hn : 0 < n) (hn2 : n ≤ 1000000) (hc : -9223372036854775808 ≤ c ∧ c ≤ 9223372036854775807) :
    Calls Tryd.prog 25 #[.int .i64 c, .int .i64 n] w fun e w' => e = .returned (.int .i64 (pickN c n : Nat)) ∧ w' = w := by
  obtain ⟨hc1, hc2⟩ := hc
  have nz : ¬ n = 0 := by omega
  by_cases h : c < 0
  · obtain ⟨m, hm⟩ : ∃ m : Nat, (m : Int) = -(c + 1) := ⟨(-(c + 1)).toNat, by omega⟩
    have hm2 : (m : Int) ≤ 9223372036854775807 := by omega
    have hp : pickN c n = m % n := by unfold pickN; rw [if_pos h, ← hm]; rfl
    have hk : m % n < n := Nat.mod_lt _ hn
    obtain ⟨k, hk1⟩ : ∃ k, k = m % n := ⟨_, rfl⟩
    rw [hp, ← hk1]
    have q1 : (m : Int).tmod (n : Int) = (k : Int) := by rw [Int.tmod_eq_emod_of_nonneg (by omega), hk1]; simp
    have q2 : (m : Int) % (n : Int) = (k : Int) := by rw [hk1]; simp
    have q3 : IntKind.i64.wrap (-(c + 1)) = (m : Int) := by rw [← hm]; simp only [IntKind.wrap, IntKind.bits, IntKind.signed]; simp; omega
    have q4 : wrap64 (-(c + 1)) = (m : Int) := by rw [← hm]; unfold wrap64; omega
    have q5 : -(c + 1) = (m : Int) := hm.symm
    clear hp hk hk1 hm
    go_enter Tryd.func25, Tryd.ntmps25
    go_wp2
    go_ret
    exact ⟨rfl, rfl⟩
  · obtain ⟨m, rfl⟩ : ∃ m : Nat, c = (m : Int) := ⟨c.toNat, by omega⟩
    have hp : pickN (m : Int) n = m % n := by unfold pickN; rw [if_neg h]; rfl
    have hk : m % n < n := Nat.mod_lt _ hn
    obtain ⟨k, hk1⟩ : ∃ k, k = m % n := ⟨_, rfl⟩
    rw [hp, ← hk1]
    have q1 : (m : Int).tmod (n : Int) = (k : Int) := by rw [Int.tmod_eq_emod_of_nonneg (by omega), hk1]; simp
    have q2 : (m : Int) % (n : Int) = (k : Int) := by rw [hk1]; simp
    clear hp hk hk1
    go_enter Tryd.func25, Tryd.ntmps25
    go_wp2
    go_ret
    exact ⟨rfl, rfl⟩

theorem tdiv16 (c : Int) (hc : -9223372036854775808 ≤ c ∧ c ≤ 9223372036854775807) : -9223372036854775808 ≤ c.tdiv 16 ∧ c.tdiv 16 ≤ 9223372036854775807 := by
  by_cases h : 0 ≤ c
  · rw [Int.tdiv_eq_ediv_of_nonneg h]; omega
  · have e : c.tdiv 16 = -((-c).tdiv 16) := by rw [Int.neg_tdiv]; simp
    rw [e, Int.tdiv_eq_ediv_of_nonneg (by omega)]; omega

/-- The width that a raw number stands for. -/
def widthN (c : Int) : Nat := if c.tmod 16 = 15 then pickN (c.tdiv 16) 65537 else pickN c 150
theorem widthN_le (c : Int) : widthN c ≤ 65536 := by
  unfold widthN
  split
  · have := pickN_lt (c.tdiv 16) 65537 (by omega); omega
  · have := pickN_lt c 150 (by omega); omega

set_option maxHeartbeats 400000 in
theorem width_any (c : Int) (w : World) (hc : -9223372036854775808 ≤ c ∧ c ≤ 9223372036854775807) :
    Calls Tryd.prog 8 #[.int .i64 c] w fun e w' => e = .returned (.int .i64 (widthN c : Nat)) ∧ w' = w := by
  by_cases h : c.tmod 16 = 15
  · have hw : widthN c = pickN (c.tdiv 16) 65537 := by unfold widthN; rw [if_pos h]
    rw [hw]
    have hb : (c.tmod 16 == 15) = true := by simp [h]
    have hd1 := tdiv16 c hc
    have HD1 : Hid _ := hd1
    clear hw h hd1
    go_enter Tryd.func8, Tryd.ntmps8
    go_wp2_with fail
    refine (pick_any (c.tdiv 16) 65537 _ (by omega) (by omega) HD1.out).mono ?_
    rintro e w' ⟨rfl, rfl⟩
    go_wp2
    go_ret
    exact ⟨rfl, rfl⟩
  · have hw : widthN c = pickN c 150 := by unfold widthN; rw [if_neg h]
    rw [hw]
    have hb : (c.tmod 16 == 15) = false := by simp [h]
    clear hw h
    go_enter Tryd.func8, Tryd.ntmps8
    go_wp2_with fail
    refine (pick_any c 150 _ (by omega) (by omega) hc).mono ?_
    rintro e w' ⟨rfl, rfl⟩
    go_wp2
    go_ret
    exact ⟨rfl, rfl⟩
end Go.Proofs.YtjfhfdpbdjeedaaDoor
