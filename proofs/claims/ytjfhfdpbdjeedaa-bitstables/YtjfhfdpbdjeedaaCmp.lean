/- slices.Equal at []uint64; Set.Same, Within. -/
import Derived.Test.YtjfhfdpbdjeedaaOps
namespace Go.Proofs.Ytjfhfdpbdjeedaa
open Go.RowKit

theorem quiet_more (w : World) (q n : Nat) : Quiet w ((w.drewN q).drewN n) := ⟨q + n, by simp [World.drewN, Nat.add_assoc]⟩

theorem ext_words {ws ws2 : List Nat} (hl : ws.length = ws2.length) (h : ∀ j, j < ws.length → ws.getD j 0 = ws2.getD j 0) : ws = ws2 := by
  apply List.ext_getElem hl
  intro j h1 h2
  rw [getD_get h1, getD_get h2]; exact h j h1

set_option maxHeartbeats 1600000 in
theorem equal_any (b g c n b2 g2 c2 n2 : Nat) (ws ws2 : List Nat) (w : World) (hs : IsSet w b g c n ws) (hG : Good n ws) (hs2 : IsSet w b2 g2 c2 n2 ws2) :
    Calls Try.prog 28 #[.slice (some ⟨g, 0, none⟩) ws.length c, .slice (some ⟨g2, 0, none⟩) ws2.length c2] w fun e w' => e = .returned (.bool (decide (ws = ws2))) ∧ Quiet w w' := by
  have hl : ws.length ≤ 1024 := by have := hG.len; have := hG.top; omega
  by_cases hlen : ws.length = ws2.length
  · have hnl : ((ws.length : Int) != (ws2.length : Int)) = false := by simp; omega
    have HC : Hid (∀ j, j < ws.length → w.cell? ⟨g, j, none⟩ = some (.int .u64 (ws.getD j 0 : Nat))) := fun j hj => by rw [hs.cw j hj, getD_get hj]
    have HC2 : Hid (∀ j, j < ws.length → w.cell? ⟨g2, j, none⟩ = some (.int .u64 (ws2.getD j 0 : Nat))) := fun j hj => by rw [hs2.cw j (by omega), getD_get (by omega)]
    have HL : Hid (ws.length = ws2.length) := hlen
    clear hs hs2 hG hlen
    go_enter Try.func28, Try.ntmps28
    go_wp2_with fail
    go_loopw [13] (fun i wr => ∃ k : Nat, k ≤ ws.length ∧ i = .int .i64 k ∧ (∀ j, j < k → ws.getD j 0 = ws2.getD j 0) ∧ Quiet w wr) (fun i _ => ws.length - (intOf i).toNat)
    case atStart => exact ⟨0, Nat.zero_le _, rfl, fun j hj => by omega, Quiet.refl _⟩
    case round =>
      obtain ⟨k, hk, rfl, hd, q, rfl⟩ := hrel
      have HD : Hid (∀ j, j < k → ws.getD j 0 = ws2.getD j 0) := hd
      clear hd
      by_cases hlt : k < ws.length
      · have hlt' : (k : Int) < (ws.length : Int) := by omega
        have hlt2 : (k : Int) < (ws2.length : Int) := by have := HL.out; omega
        have d1 := HC.out k hlt
        have d2 := HC2.out k hlt
        have b0 : (0 : Int) ≤ (k : Int) := by omega
        by_cases he : ws.getD k 0 = ws2.getD k 0
        · have HD2 : Hid (∀ j, j < k + 1 → ws.getD j 0 = ws2.getD j 0) := fun j hj => by
            rcases Nat.lt_or_ge j k with h | h
            · exact HD.out j h
            · obtain rfl : j = k := by omega
              exact he
          rw [← he] at d2
          generalize ws.getD k 0 = x at d1 d2
          have hne : ((x : Int) != (x : Int)) = false := by simp
          clear he
          go_wp2_with fail
          go_quiet (fail)
          go_wp2
          go_roundw
          case rel => exact ⟨k + 1, by omega, by go_num, HD2.out, _, rfl⟩
          case measure => simp [intOf]; omega
        · have HF : Hid (decide (ws = ws2) = false) := by
            show decide (ws = ws2) = false
            simp; intro e; exact he (by rw [e])
          generalize ws.getD k 0 = x at d1 he
          generalize ws2.getD k 0 = y at d2 he
          have hne : ((x : Int) != (y : Int)) = true := by simp; omega
          clear he
          go_wp2_with fail
          go_quiet (fail)
          go_wp2
          go_ret
          exact ⟨ret_bool HF.out.symm, quiet_more _ _ _⟩
      · have hlt' : ¬ (k : Int) < (ws.length : Int) := by omega
        have HF : Hid (decide (ws = ws2) = true) := by
          show decide (ws = ws2) = true
          simp; exact ext_words HL.out (fun j hj => HD.out j (by omega))
        go_wp2
        go_ret
        exact ⟨ret_bool HF.out.symm, _, rfl⟩
  · have hnl : ((ws.length : Int) != (ws2.length : Int)) = true := by simp; omega
    have HF : Hid (decide (ws = ws2) = false) := by
      show decide (ws = ws2) = false
      simp; intro e; exact hlen (by rw [e])
    rw [HF.out]
    clear hs hs2 hG hlen HF
    go_enter Try.func28, Try.ntmps28
    go_wp2
    go_ret
    exact ⟨rfl, Quiet.refl _⟩

set_option maxHeartbeats 1600000 in
theorem same_any (b g c n b2 g2 c2 n2 : Nat) (ws ws2 : List Nat) (w : World) (hs : IsSet w b g c n ws) (hG : Good n ws) (hs2 : IsSet w b2 g2 c2 n2 ws2) :
    Calls Try.prog 13 #[.pointer (some ⟨b, 0, none⟩), .pointer (some ⟨b2, 0, none⟩)] w fun e w' => e = .returned (.bool (decide (n = n2) && decide (ws = ws2))) ∧ Quiet w w' := by
  have h0 := hs.c0
  have h1 := hs.c1
  have k0 := hs2.c0
  have k1 := hs2.c1
  by_cases hn : n = n2
  · subst hn
    have hb : ((n : Int) == (n : Int)) = true := by simp
    have e : (decide (n = n) && decide (ws = ws2)) = decide (ws = ws2) := by simp
    rw [e]
    clear e
    go_enter Try.func13, Try.ntmps13
    go_wp2_with fail
    go_region_held3 (fun w' => w'.cell? ⟨b, 0, none⟩ = some (.int .i64 n) ∧ w'.cell? ⟨b, 1, none⟩ = some (.slice (some ⟨g, 0, none⟩) ws.length c) ∧ w'.cell? ⟨b2, 0, none⟩ = some (.int .i64 n) ∧ w'.cell? ⟨b2, 1, none⟩ = some (.slice (some ⟨g2, 0, none⟩) ws2.length c2)) (go_keep)
      (first | (go_at_call 28; refine (equal_any b g c n b2 g2 c2 n ws ws2 _ hs.drew hG hs2.drew).mono ?_; rintro e w1 ⟨rfl, q, rfl⟩))
    go_wp2
    go_ret
    exact ⟨rfl, 1 + q, by simp [World.drewN]⟩
  · have hb : ((n : Int) == (n2 : Int)) = false := by simp; omega
    have e : (decide (n = n2) && decide (ws = ws2)) = false := by simp [hn]
    rw [e]
    clear e hn
    go_enter Try.func13, Try.ntmps13
    go_wp2_with fail
    go_quiet (fail)
    go_wp2
    go_ret
    exact ⟨rfl, nq, rfl⟩

/-- Is every word of ws within ws2's? -/
def withinW (ws ws2 : List Nat) : Bool := (List.range ws.length).all fun k => fLess (ws.getD k 0) (ws2.getD k 0) == 0

set_option maxHeartbeats 1600000 in
theorem within_any (b g c n b2 g2 c2 n2 : Nat) (ws ws2 : List Nat) (w : World) (hs : IsSet w b g c n ws) (hG : Good n ws) (hs2 : IsSet w b2 g2 c2 n2 ws2) (hG2 : Good n2 ws2) :
    Calls Try.prog 12 #[.pointer (some ⟨b, 0, none⟩), .pointer (some ⟨b2, 0, none⟩)] w fun e w' => e = .returned (.bool (withinW ws ws2)) ∧ w' = w := by
  have h1 := hs.c1
  have hl : ws.length ≤ 1024 := by have := hG.len; have := hG.top; omega
  have HC : Hid (∀ j, j < ws.length → w.cell? ⟨g, j, none⟩ = some (.int .u64 (ws.getD j 0 : Nat))) := fun j hj => by rw [hs.cw j hj, getD_get hj]
  have HS2 : Hid (IsSet w b2 g2 c2 n2 ws2) := hs2
  have HG : Hid (Good n ws) := hG
  have HG2 : Hid (Good n2 ws2) := hG2
  clear hs hs2 hG hG2
  go_enter Try.func12, Try.ntmps12
  go_wp2_with fail
  go_loop [12] (fun i => ∃ k : Nat, k ≤ ws.length ∧ i = .int .i64 k ∧ (∀ j, j < k → fLess (ws.getD j 0) (ws2.getD j 0) = 0)) (fun i => ws.length - (intOf i).toNat)
  case atStart => exact ⟨0, Nat.zero_le _, rfl, fun j hj => by omega⟩
  case round =>
    obtain ⟨k, hk, rfl, hd⟩ := hrel
    have HD : Hid (∀ j, j < k → fLess (ws.getD j 0) (ws2.getD j 0) = 0) := hd
    clear hd
    by_cases hlt : k < ws.length
    · have hlt' : (k : Int) < (ws.length : Int) := by omega
      have d1 := HC.out k hlt
      have hx := HG.out.word k
      have hy := HG2.out.word k
      have HB : Hid (bits .andNot .u64 (ws.getD k 0 : Int) (ws2.getD k 0 : Int) = ((fLess (ws.getD k 0) (ws2.getD k 0) : Nat) : Int)) := u64_andNot_nat _ _ hx hy
      by_cases he : fLess (ws.getD k 0) (ws2.getD k 0) = 0
      · have HD2 : Hid (∀ j, j < k + 1 → fLess (ws.getD j 0) (ws2.getD j 0) = 0) := fun j hj => by
          rcases Nat.lt_or_ge j k with h | h
          · exact HD.out j h
          · obtain rfl : j = k := by omega
            exact he
        have HE : Hid (((fLess (ws.getD k 0) (ws2.getD k 0) : Nat) : Int) = 0) := by rw [he]; rfl
        generalize ws.getD k 0 = x at d1 HB HE
        clear he hx hy
        go_wp2_with fail
        refine (word_any b2 g2 c2 n2 ws2 k _ HS2.out).mono ?_
        rintro e w' ⟨rfl, rfl⟩
        have hbz := HB.out.trans HE.out
        generalize ws2.getD k 0 = y at hbz
        go_wp2
        go_round
        case rel => exact ⟨k + 1, by omega, by go_num, HD2.out⟩
        case measure => simp [intOf]; omega
      · have HF : Hid (withinW ws ws2 = false) := by
          show withinW ws ws2 = false
          unfold withinW
          rw [List.all_eq_false]
          exact ⟨k, by simpa using hlt, by simpa using he⟩
        have HE : Hid ((bits .andNot .u64 (ws.getD k 0 : Int) (ws2.getD k 0 : Int) != 0) = true) := by
          show (bits .andNot .u64 (ws.getD k 0 : Int) (ws2.getD k 0 : Int) != 0) = true
          rw [HB.out]; simp; exact he
        generalize ws.getD k 0 = x at d1 HE
        clear he hx hy HB
        go_wp2_with fail
        refine (word_any b2 g2 c2 n2 ws2 k _ HS2.out).mono ?_
        rintro e w' ⟨rfl, rfl⟩
        have hbz := HE.out
        generalize ws2.getD k 0 = y at hbz
        go_wp2
        go_ret
        exact ⟨ret_bool HF.out.symm, rfl⟩
    · have hlt' : ¬ (k : Int) < (ws.length : Int) := by omega
      have HF : Hid (withinW ws ws2 = true) := by
        show withinW ws ws2 = true
        unfold withinW
        rw [List.all_eq_true]
        intro j hj
        simpa using HD.out j (by have : j < ws.length := by simpa using hj
                                 omega)
      go_wp2
      go_ret
      exact ⟨ret_bool HF.out.symm, rfl⟩
end Go.Proofs.Ytjfhfdpbdjeedaa
