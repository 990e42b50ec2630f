/- Set.First, After, Len, Has, Width. -/
import Derived.Test.YtjfhfdpbdjeedaaDoorFrom
import Derived.Test.YtjfhfdpbdjeedaaDoorOnes
namespace Go.Proofs.YtjfhfdpbdjeedaaDoor
open Go.RowKit

theorem least_beyond {n : Nat} {ws : List Nat} (hG : Good n ws) {i : Nat} (hi : n ≤ i) : Least ws i (-1) :=
  Or.inl ⟨rfl, fun j hj => hG.trim j (by omega)⟩

set_option maxHeartbeats 400000 in
theorem from_out (b g c n : Nat) (ws : List Nat) (i : Nat) (w : World) (hs : IsSet w b g c n ws) (hi : n ≤ i) :
    Calls Tryd.prog 64 #[.pointer (some ⟨b, 0, none⟩), .int .i64 i] w fun e w' => e = .returned (.int .i64 (-1)) ∧ w' = w := by
  have h0 := hs.c0
  have b3 : (n : Int) ≤ (i : Int) := by omega
  clear hs
  go_enter Tryd.func64, Tryd.ntmps64
  go_wp2
  go_ret
  exact ⟨rfl, rfl⟩

/-- What a reading call leaves: some draws, no cell turned. -/
def Quiet (w w' : World) : Prop := ∃ q, w' = w.drewN q
theorem Quiet.refl (w : World) : Quiet w w := ⟨0, rfl⟩
theorem Quiet.kept {w w' : World} (h : Quiet w w') : Kept [] w w' := by obtain ⟨q, rfl⟩ := h; exact (Kept.refl [] w).drewN q

theorem from_any (b g c n : Nat) (ws : List Nat) (i : Nat) (w : World) (hs : IsSet w b g c n ws) (hG : Good n ws) (hT : Tab w) :
    Calls Tryd.prog 64 #[.pointer (some ⟨b, 0, none⟩), .int .i64 i] w fun e w' => ∃ r, e = .returned (.int .i64 r) ∧ Least ws i r ∧ Quiet w w' := by
  by_cases hi : i < n
  · exact from_in b g c n ws i w hs hG hT hi
  · exact (from_out b g c n ws i w hs (by omega)).mono fun e w' ⟨h1, h2⟩ => ⟨-1, h1, least_beyond hG (by omega), by rw [h2]; exact Quiet.refl _⟩

set_option maxHeartbeats 400000 in
theorem first_any (b g c n : Nat) (ws : List Nat) (w : World) (hs : IsSet w b g c n ws) (hG : Good n ws) (hT : Tab w) :
    Calls Tryd.prog 58 #[.pointer (some ⟨b, 0, none⟩)] w fun e w' => ∃ r, e = .returned (.int .i64 r) ∧ Least ws 0 r ∧ Quiet w w' := by
  go_enter Tryd.func58, Tryd.ntmps58
  go_wp2_with fail
  refine (from_any b g c n ws 0 _ hs hG hT).mono ?_
  rintro e w' ⟨r, rfl, hr, hq⟩
  have HR : Hid (Least ws 0 r) := hr
  clear hr
  go_wp2
  go_ret
  exact ⟨_, rfl, HR.out, hq⟩

/-- Where After(i) begins to look. -/
def afterAt (i : Int) : Nat := if i < 0 then 0 else (i + 1).toNat

set_option maxHeartbeats 400000 in
theorem after_any (b g c n : Nat) (ws : List Nat) (i : Int) (w : World) (hs : IsSet w b g c n ws) (hG : Good n ws) (hT : Tab w) :
    Calls Tryd.prog 27 #[.pointer (some ⟨b, 0, none⟩), .int .i64 i] w fun e w' => ∃ r, e = .returned (.int .i64 r) ∧ Least ws (afterAt i) r ∧ Quiet w w' := by
  have h0 := hs.c0
  by_cases h : i < 0
  · have ha : afterAt i = 0 := by unfold afterAt; rw [if_pos h]
    rw [ha]
    clear ha
    go_enter Tryd.func27, Tryd.ntmps27
    go_wp2_with fail
    refine (first_any b g c n ws _ hs hG hT).mono ?_
    rintro e w' ⟨r, rfl, hr, hq⟩
    have HR : Hid (Least ws 0 r) := hr
    clear hr
    go_wp2
    go_ret
    exact ⟨_, rfl, HR.out, hq⟩
  · by_cases h2 : (n : Int) ≤ i
    · have HR : Hid (Least ws (afterAt i) (-1)) := least_beyond hG (by unfold afterAt; rw [if_neg h]; omega)
      go_enter Tryd.func27, Tryd.ntmps27
      go_wp2
      go_ret
      exact ⟨_, rfl, HR.out, Quiet.refl _⟩
    · obtain ⟨k, hk⟩ : ∃ k : Nat, i = (k : Int) := ⟨i.toNat, by omega⟩
      subst hk
      have ha : afterAt (k : Int) = k + 1 := by unfold afterAt; rw [if_neg h]; omega
      rw [ha]
      have hn := hG.top
      clear ha
      go_enter Tryd.func27, Tryd.ntmps27
      go_wp2_with fail
      have ec : ((k : Int) + 1) = ((k + 1 : Nat) : Int) := by omega
      rw [ec]
      clear ec
      refine (from_any b g c n ws (k + 1) _ hs hG hT).mono ?_
      rintro e w' ⟨r, rfl, hr, hq⟩
      have HR : Hid (Least ws (k + 1) r) := hr
      clear hr
      go_wp2
      go_ret
      exact ⟨_, rfl, HR.out, hq⟩

/-- How many a set has, as Len counts them. -/
def lenW (ws : List Nat) : Nat := (ws.map ones).sum
theorem ones_le (x : Nat) : ones x ≤ 127 := by unfold ones; exact Nat.and_le_right
theorem lenW_snoc (ws : List Nat) (x : Nat) : lenW (ws ++ [x]) = lenW ws + ones x := by simp [lenW]
theorem lenW_le (ws : List Nat) : lenW ws ≤ 127 * ws.length := by
  unfold lenW
  induction ws with
  | nil => simp
  | cons x r ih => have := ones_le x; simp; omega

set_option maxHeartbeats 800000 in
theorem len_any (b g c n : Nat) (ws : List Nat) (w : World) (hs : IsSet w b g c n ws) (hG : Good n ws) :
    Calls Tryd.prog 26 #[.pointer (some ⟨b, 0, none⟩)] w fun e w' => e = .returned (.int .i64 (lenW ws : Nat)) ∧ w' = w := by
  have h1 := hs.c1
  have hl : ws.length ≤ 1024 := by have := hG.len; have := hG.top; omega
  have hcell : ∀ j (h : j < ws.length), w.cell? ⟨g, j, none⟩ = some (.int .u64 (ws[j] : Nat)) := fun j hj => hs.cw j hj
  have HC : Hid _ := hcell
  have hsm : ∀ j (h : j < ws.length), ws[j] < 18446744073709551616 := fun j hj => hG.small _ (List.getElem_mem hj)
  have HS : Hid _ := hsm
  clear hs hG hcell hsm
  go_enter Tryd.func26, Tryd.ntmps26
  go_wp2
  go_loop [3, 11] (fun s i => ∃ k : Nat, k ≤ ws.length ∧ i = .int .i64 k ∧ s = .int .i64 (lenW (ws.take k) : Nat)) (fun _ i => ws.length - (intOf i).toNat)
  case atStart => exact ⟨0, Nat.zero_le _, rfl, rfl⟩
  case round =>
    obtain ⟨k, hk, rfl, rfl⟩ := hrel
    by_cases hlt : k < ws.length
    · have hc := HC.out k hlt
      have hsx := HS.out k hlt
      have HE : Hid (lenW (ws.take (k + 1)) = lenW (ws.take k) + ones ws[k]) := by rw [List.take_succ_eq_append_getElem hlt]; exact lenW_snoc _ _
      have hbd : (lenW (ws.take k) : Int) ≤ 200000 := by have := lenW_le (ws.take k); have := List.length_take_le k ws; omega
      have hon := ones_le ws[k]
      have hlt' : (k : Int) < (ws.length : Int) := by omega
      generalize ws[k] = x at hc hsx HE hon
      generalize lenW (ws.take k) = m at HE hbd
      go_wp2_with fail
      refine (ones_any x _ hsx).mono ?_
      rintro e w' ⟨rfl, rfl⟩
      generalize ones x = o at HE hon
      go_wp2
      go_round
      case rel => exact ⟨k + 1, by omega, by go_num, by rw [HE.out]; go_num⟩
      case measure => simp [intOf]; omega
    · have hlt' : ¬ (k : Int) < (ws.length : Int) := by omega
      have e : ws.take k = ws := List.take_of_length_le (by omega)
      rw [e]
      clear e
      go_wp2
      go_ret
      exact ⟨rfl, rfl⟩

theorem and_bit (x i : Nat) : (x &&& bitN i) = if x.testBit (i % 64) then bitN i else 0 := by
  apply Nat.eq_of_testBit_eq
  intro j
  rw [Nat.testBit_and, testBit_bitN]
  by_cases h : i % 64 = j
  · subst h
    cases hx : x.testBit (i % 64) <;> simp [testBit_bitN]
  · simp only [h, decide_false, Bool.and_false]
    cases hx : x.testBit (i % 64) <;> simp [testBit_bitN, h]

set_option maxHeartbeats 800000 in
theorem has_in (b g c n : Nat) (ws : List Nat) (i : Nat) (w : World) (hs : IsSet w b g c n ws) (hG : Good n ws) (hi : i < n) :
    Calls Tryd.prog 44 #[.pointer (some ⟨b, 0, none⟩), .int .i64 i] w fun e w' => e = .returned (.bool (mem ws i)) ∧ Quiet w w' := by
  have hn := hG.top
  have hl := hG.len
  obtain ⟨k, hk, q1, q2, q3⟩ := quo64 i (by omega)
  have hlt : k < ws.length := by omega
  have h1 := hs.c1
  have h2 := hs.cw k hlt
  have b0 : (0 : Int) ≤ (k : Int) := by omega
  have b1 : (k : Int) < (ws.length : Int) := by omega
  have b2 : (i : Int) < 65536 := by omega
  have hx := hG.word k
  rw [getD_get hlt] at h2
  have HM : Hid (mem ws i = (ws.getD k 0).testBit (i % 64)) := by unfold mem; rw [← hk]; rfl
  generalize ws.getD k 0 = x at h2 hx HM
  have HB : Hid (bits .and .u64 (x : Int) (bitN i : Int) = ((x &&& bitN i : Nat) : Int)) := bits_and_u64_nat _ _ hx (bitN_lt i)
  have hbp : 0 < bitN i := Nat.two_pow_pos _
  have HF : Hid ((((x &&& bitN i : Nat) : Int) != 0) = mem ws i) := by
    show (((x &&& bitN i : Nat) : Int) != 0) = mem ws i
    rw [HM.out, and_bit]
    cases x.testBit (i % 64) <;> simp; omega
  clear hl hG hk hx hbp
  go_enter Tryd.func44, Tryd.ntmps44
  go_wp2_with fail
  go_quiet (first | (go_at_call 61; exact Calls.quiet_of_same (inside_yes b g c n ws i _ (by first | exact hs | exact hs.kept ((Kept.refl [] w).drewN _) (by simp) (by simp)) hi)) | (go_at_call 62; exact Calls.quiet_of_same (bit_any i _ (by omega))))
  go_wp2_with fail
  go_ret
  exact ⟨ret_bool (by rw [HB.out, HF.out]), nq, rfl⟩

set_option maxHeartbeats 800000 in
theorem has_out (b g c n : Nat) (ws : List Nat) (i : Int) (w : World) (hs : IsSet w b g c n ws) (hi : i < 0 ∨ (n : Int) ≤ i) :
    Calls Tryd.prog 44 #[.pointer (some ⟨b, 0, none⟩), .int .i64 i] w fun e w' => e = .returned (.bool false) ∧ Quiet w w' := by
  go_enter Tryd.func44, Tryd.ntmps44
  go_wp2_with fail
  go_quiet (first | (go_at_call 61; exact Calls.quiet_of_same (inside_no b g c n ws i _ (by first | exact hs | exact hs.kept ((Kept.refl [] w).drewN _) (by simp) (by simp)) hi)))
  go_wp2_with fail
  go_ret
  exact ⟨rfl, nq, rfl⟩

/-- Has, of any number. -/
def hasI (n : Nat) (ws : List Nat) (i : Int) : Bool := decide (0 ≤ i ∧ i < n) && mem ws i.toNat
theorem has_any (b g c n : Nat) (ws : List Nat) (i : Int) (w : World) (hs : IsSet w b g c n ws) (hG : Good n ws) :
    Calls Tryd.prog 44 #[.pointer (some ⟨b, 0, none⟩), .int .i64 i] w fun e w' => e = .returned (.bool (hasI n ws i)) ∧ Quiet w w' := by
  unfold hasI
  by_cases h : 0 ≤ i ∧ i < n
  · have e : i = ((i.toNat : Nat) : Int) := by omega
    have H := has_in b g c n ws i.toNat w hs hG (by omega)
    rw [← e] at H
    simpa [h] using H
  · have H := has_out b g c n ws i w hs (by omega)
    have e : decide (0 ≤ i ∧ i < (n : Int)) = false := by simpa using h
    rw [e]; exact H
end Go.Proofs.YtjfhfdpbdjeedaaDoor
