/- The document's own tests: augurref02.Named, augurref10 Rising, Ahead. -/
import Derived.Test.YtbbfajbnklgncaaGreatHD
import Derived.BigQuiet
namespace Go.Proofs.YtbbfajbnklgncaaGreat
open Go.RowKit Go.Shelf

set_option maxHeartbeats 2000000 in
theorem refNamedB_any (s : ByteArray) (w : World) (hs : s.size ≤ maxLen) :
    Calls Tryz.prog 74 #[.string s] w fun e w' => e = .returned (.bool (nameB s.data.toList)) ∧ w' = w := by
  have hl : s.size = s.data.toList.length := rfl
  unfold maxLen at hs
  obtain ⟨r, hr⟩ : ∃ r, nameB s.data.toList = r := ⟨_, rfl⟩
  rw [hr]
  have HR : Hid (nameB s.data.toList = r) := hr
  have HL : Hid (s.size = s.data.toList.length) := hl
  clear hr hl
  go_enter Tryz.func74, Tryz.ntmps74
  go_wp2
  go_loop [3] (fun v => ∃ k : Nat, k ≤ s.size ∧ k ≤ 33 ∧ v = .int .i64 (k : Nat) ∧ Hid (∀ j (h : j < s.data.toList.length), j < k → okB (s.data.toList[j]).toNat = true)) (fun v => s.size - (intOf v).toNat)
  case atStart => exact ⟨0, Nat.zero_le _, by omega, rfl, fun j _ h => by omega⟩
  case round =>
    obtain ⟨k, hk, hk33, rfl, HA⟩ := hrel
    by_cases hlt : k < s.size
    · have hki : (k : Int) < (s.size : Int) := by omega
      by_cases h33 : k < 33
      · obtain ⟨c, hc⟩ : ∃ c : UInt8, s[k] = c := ⟨_, rfl⟩
        have hcd : s.data.toList[k]'(by rw [← HL.out]; exact hlt) = c := hc
        have HC : Hid (s.data.toList[k]'(by rw [← HL.out]; exact hlt) = c) := hcd
        have h33i : (k : Int) < 33 := by omega
        have hbad : okB c.toNat = false → false = r := fun h => (nameB_bad (by rw [← HC.out]; exact List.getElem_mem _) h).symm.trans HR.out
        have HB : Hid (okB c.toNat = false → false = r) := hbad
        clear hcd hbad
        by_cases c1 : (c.toNat : Int) < 32
        · go_wp2
          go_ret
          exact ⟨ret_bool (HB.out (okB_no (by omega))), rfl⟩
        by_cases c2 : (126 : Int) < (c.toNat : Int)
        · go_wp2
          go_ret
          exact ⟨ret_bool (HB.out (okB_no (by omega))), rfl⟩
        by_cases c3 : (c.toNat : Int) = 34
        · have c3' : ((c.toNat : Int) == 34) = true := by rw [beq_iff_eq]; exact c3
          have HC3 : Hid ((c.toNat : Int) = 34) := c3
          clear c3
          go_wp2
          go_ret
          exact ⟨ret_bool (HB.out (okB_no (by have := HC3.out; omega))), rfl⟩
        have c3' : ((c.toNat : Int) == 34) = false := by rw [beq_eq_false_iff_ne]; exact c3
        by_cases c4 : (c.toNat : Int) = 92
        · have c4' : ((c.toNat : Int) == 92) = true := by rw [beq_iff_eq]; exact c4
          have HC4 : Hid ((c.toNat : Int) = 92) := c4
          clear c4
          go_wp2
          go_ret
          exact ⟨ret_bool (HB.out (okB_no (by have := HC4.out; omega))), rfl⟩
        have c4' : ((c.toNat : Int) == 92) = false := by rw [beq_eq_false_iff_ne]; exact c4
        have HG : Hid (okB c.toNat = true) := okB_yes (by omega) (by omega) (by omega) (by omega)
        go_wp2
        go_round
        case rel =>
          refine ⟨k + 1, by omega, by omega, by go_num, fun j hj hjk => ?_⟩
          rcases Nat.lt_or_ge j k with q | q
          · exact HA.out j hj q
          · obtain rfl : j = k := by omega
            rw [HC.out]; exact HG.out
        case measure => simp [intOf]; omega
      · have h33i : ¬ (k : Int) < 33 := by omega
        have h0i : (0 : Int) < (s.size : Int) := by omega
        have h32i : ¬ (s.size : Int) ≤ 32 := by omega
        go_wp2
        go_ret
        exact ⟨ret_bool ((nameB_long (by rw [← HL.out]; omega)).symm.trans HR.out), rfl⟩
    · have hki : ¬ (k : Int) < (s.size : Int) := by omega
      by_cases h0 : s.size = 0
      · have h0i : ¬ (0 : Int) < (s.size : Int) := by omega
        go_wp2
        go_ret
        exact ⟨ret_bool ((nameB_short (HL.out.symm.trans h0)).symm.trans HR.out), rfl⟩
      · have h0i : (0 : Int) < (s.size : Int) := by omega
        by_cases h32 : s.size ≤ 32
        · have h32i : (s.size : Int) ≤ 32 := by omega
          go_wp2
          go_ret
          exact ⟨ret_bool ((nameB_good (by rw [← HL.out]; omega) (by rw [← HL.out]; exact h32) (fun j hj => HA.out j hj (by rw [← HL.out] at hj; omega))).symm.trans HR.out), rfl⟩
        · have h32i : ¬ (s.size : Int) ≤ 32 := by omega
          go_wp2
          go_ret
          exact ⟨ret_bool ((nameB_long (by rw [← HL.out]; omega)).symm.trans HR.out), rfl⟩
end Go.Proofs.YtbbfajbnklgncaaGreat

/- The document's own tests: augurref10 Rising, Names. -/
namespace Go.Proofs.YtbbfajbnklgncaaGreat
open Go.RowKit Go.Shelf

end Go.Proofs.YtbbfajbnklgncaaGreat

/- The document's own tests: augurref10.Names. -/
namespace Go.Proofs.YtbbfajbnklgncaaGreat
open Go.RowKit Go.Shelf

theorem sameN_comm (a b : ByteArray) : sameN a b = sameN b a := by
  unfold sameN
  rw [Bool.eq_iff_iff]
  simp only [beq_iff_eq]
  exact eq_comm
theorem take_get {xs : List ByteArray} {k j : Nat} (hj : j < (xs.take k).length) : (xs.take k)[j] = xs[j]'(by rw [List.length_take] at hj; omega) := by simp
end Go.Proofs.YtbbfajbnklgncaaGreat
