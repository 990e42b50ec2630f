/- buchi.isName. (Written off TrForm.) -/
import Derived.Test.YtcojlcbljhnbgaaWd
namespace Go.Proofs.Ytcojlcbljhnbgaa
open Go.RowKit Go.Shelf

/-- May a byte stand in a name; is a text a name. -/
def okB (b : Nat) : Bool := decide (32 ≤ b) && decide (b ≤ 126) && !(b == 34) && !(b == 92)
def nameB (l : List UInt8) : Bool := decide (1 ≤ l.length) && decide (l.length ≤ 32) && l.all fun b => okB b.toNat

theorem nameB_short {l : List UInt8} (h : l.length = 0) : nameB l = false := by
  unfold nameB; rw [show decide (1 ≤ l.length) = false from by rw [decide_eq_false_iff_not]; omega]; rfl
theorem nameB_long {l : List UInt8} (h : 32 < l.length) : nameB l = false := by
  unfold nameB; rw [show decide (l.length ≤ 32) = false from by rw [decide_eq_false_iff_not]; omega, Bool.and_false]; rfl
theorem nameB_bad {l : List UInt8} {c : UInt8} (h : c ∈ l) (hc : okB c.toNat = false) : nameB l = false := by
  unfold nameB
  rw [show (l.all fun b => okB b.toNat) = false from List.all_eq_false.2 ⟨c, h, by simp [hc]⟩, Bool.and_false]
theorem nameB_good {l : List UInt8} (h0 : 1 ≤ l.length) (h1 : l.length ≤ 32) (h : ∀ j (hj : j < l.length), okB (l[j]).toNat = true) : nameB l = true := by
  unfold nameB
  rw [show (l.all fun b => okB b.toNat) = true from List.all_eq_true.2 fun b hb => by obtain ⟨j, hj, rfl⟩ := List.getElem_of_mem hb; exact h j hj]
  simp [h0, h1]
theorem okB_no {c : Nat} (h : c < 32 ∨ 126 < c ∨ c = 34 ∨ c = 92) : okB c = false := by
  unfold okB
  rcases h with h | h | h | h
  · rw [show decide (32 ≤ c) = false from by rw [decide_eq_false_iff_not]; omega]; rfl
  · rw [show decide (c ≤ 126) = false from by rw [decide_eq_false_iff_not]; omega, Bool.and_false]; rfl
  · subst h; rfl
  · subst h; rfl
theorem okB_yes {c : Nat} (h1 : ¬ c < 32) (h2 : ¬ 126 < c) (h3 : ¬ c = 34) (h4 : ¬ c = 92) : okB c = true := by
  unfold okB
  simp [h3, h4]; omega

set_option maxHeartbeats 1000000 in
theorem isName_any (s : ByteArray) (w : World) (hs : s.size ≤ maxLen) :
    Calls Try.prog 62 #[.string s] w fun e w' => e = .returned (.bool (nameB s.data.toList)) ∧ w' = w := by
  have hl : s.size = s.data.toList.length := rfl
  unfold maxLen at hs
  obtain ⟨r, hr⟩ : ∃ r, nameB s.data.toList = r := ⟨_, rfl⟩
  rw [hr]
  have HR : Hid _ := hr
  have HL : Hid _ := hl
  clear hr hl
  by_cases h0 : s.size = 0
  · have h0i : ((s.size : Int) == 0) = true := by rw [beq_iff_eq]; omega
    go_enter Try.func62, Try.ntmps62
    go_wp2
    go_ret
    exact ⟨ret_bool ((nameB_short (HL.out.symm.trans h0)).symm.trans HR.out), rfl⟩
  have h0i : ((s.size : Int) == 0) = false := by rw [beq_eq_false_iff_ne]; omega
  by_cases h1 : 32 < s.size
  · have h1i : (32 : Int) < (s.size : Int) := by omega
    go_enter Try.func62, Try.ntmps62
    go_wp2
    go_ret
    exact ⟨ret_bool ((nameB_long (by rw [← HL.out]; exact h1)).symm.trans HR.out), rfl⟩
  have h1i : ¬ (32 : Int) < (s.size : Int) := by omega
  go_enter Try.func62, Try.ntmps62
  go_wp2
  go_loop [15] (fun v => ∃ k : Nat, k ≤ s.size ∧ v = .int .i64 (k : Nat) ∧ Hid (∀ j (h : j < s.data.toList.length), j < k → okB (s.data.toList[j]).toNat = true)) (fun v => s.size - (intOf v).toNat)
  case atStart => exact ⟨0, Nat.zero_le _, rfl, fun j _ h => by omega⟩
  case round =>
    obtain ⟨k, hk, rfl, HA⟩ := hrel
    by_cases hlt : k < s.size
    · obtain ⟨c, hc⟩ : ∃ c : UInt8, s[k] = c := ⟨_, rfl⟩
      have hcd : s.data.toList[k]'(by rw [← HL.out]; exact hlt) = c := hc
      have HC : Hid _ := hcd
      have hki : (k : Int) < (s.size : Int) := by omega
      have hbad : okB c.toNat = false → false = r := fun h => (nameB_bad (by rw [← HC.out]; exact List.getElem_mem _) h).symm.trans HR.out
      have HB : Hid _ := hbad
      clear hcd hbad
      by_cases c1 : (c.toNat : Int) < 32
      · go_wp2
        go_ret
        exact ⟨ret_bool (HB.out (okB_no (by omega))), rfl⟩
      by_cases c2 : (126 : Int) < (c.toNat : Int)
      · go_wp2
        go_ret
        exact ⟨ret_bool (HB.out (okB_no (by omega))), rfl⟩
      by_cases c3 : (c.toNat : Int) = 34
      · have c3' : ((c.toNat : Int) == 34) = true := by rw [beq_iff_eq]; exact c3
        have HC3 : Hid _ := c3
        clear c3
        go_wp2
        go_ret
        exact ⟨ret_bool (HB.out (okB_no (by have := HC3.out; omega))), rfl⟩
      have c3' : ((c.toNat : Int) == 34) = false := by rw [beq_eq_false_iff_ne]; exact c3
      by_cases c4 : (c.toNat : Int) = 92
      · have c4' : ((c.toNat : Int) == 92) = true := by rw [beq_iff_eq]; exact c4
        have HC4 : Hid _ := c4
        clear c4
        go_wp2
        go_ret
        exact ⟨ret_bool (HB.out (okB_no (by have := HC4.out; omega))), rfl⟩
      have c4' : ((c.toNat : Int) == 92) = false := by rw [beq_eq_false_iff_ne]; exact c4
      go_wp2
      go_round
      case rel =>
        refine ⟨k + 1, by omega, by go_num, fun j h hj => ?_⟩
        rcases Nat.lt_or_ge j k with h' | h'
        · exact HA.out j h h'
        · obtain rfl : j = k := by omega
          rw [HC.out]
          exact okB_yes (by omega) (by omega) (by omega) (by omega)
      case measure => simp [intOf]; omega
    · go_wp2
      go_ret
      exact ⟨ret_bool ((nameB_good (by rw [← HL.out]; omega) (by rw [← HL.out]; omega) (fun j hj => HA.out j hj (by have := HL.out; omega))).symm.trans HR.out), rfl⟩

end Go.Proofs.Ytcojlcbljhnbgaa
