/- Set.First, After, Has. -/
import Derived.Test.YtkkhilgcjaigcaaDoorFromK
import Derived.Test.YtkkhilgcjaigcaaDoorLenK
namespace Go.Proofs.YtkkhilgcjaigcaaDoor
open Go.RowKit

theorem least_beyond {n : Nat} {ws : List Nat} (hG : Good n ws) {i : Nat} (hi : n ≤ i) : LeastK ws i (-1) :=
  Or.inl ⟨rfl, fun j hj => hG.trim j (by omega)⟩

set_option maxHeartbeats 400000 in
theorem from_out (b g c n : Nat) (ws : List Nat) (i : Nat) (w : World) (hs : IsSet w b g c n ws) (hi : n ≤ i) :
    Calls Tryd.prog 72 #[.pointer (some ⟨b, 0, none⟩), .int .i64 i] w fun e w' => e = .returned (.int .i64 (-1)) ∧ w' = w := by
  have h0 := hs.c0
  have b3 : (n : Int) ≤ (i : Int) := by omega
  clear hs
  go_enter Tryd.func72, Tryd.ntmps72
  go_wp2
  go_ret
  exact ⟨rfl, rfl⟩

theorem from_any (b g c n : Nat) (ws : List Nat) (i : Nat) (w : World) (hs : IsSet w b g c n ws) (hG : Good n ws) (hT : Tab w) :
    Calls Tryd.prog 72 #[.pointer (some ⟨b, 0, none⟩), .int .i64 i] w fun e w' => ∃ r, e = .returned (.int .i64 r) ∧ LeastK ws i r ∧ QuietK w w' := by
  by_cases hi : i < n
  · exact from_in b g c n ws i w hs hG hT hi
  · exact (from_out b g c n ws i w hs (by omega)).mono fun e w' ⟨h1, h2⟩ => ⟨-1, h1, least_beyond hG (by omega), by rw [h2]; exact QuietK.refl _⟩

set_option maxHeartbeats 400000 in
theorem first_any (b g c n : Nat) (ws : List Nat) (w : World) (hs : IsSet w b g c n ws) (hG : Good n ws) (hT : Tab w) :
    Calls Tryd.prog 55 #[.pointer (some ⟨b, 0, none⟩)] w fun e w' => ∃ r, e = .returned (.int .i64 r) ∧ LeastK ws 0 r ∧ QuietK w w' := by
  go_enter Tryd.func55, Tryd.ntmps55
  go_wp2_with fail
  refine (from_any b g c n ws 0 _ hs hG hT).mono ?_
  rintro e w' ⟨r, rfl, hr, hq⟩
  have HR : Hid (LeastK ws 0 r) := hr
  clear hr
  go_wp2
  go_ret
  exact ⟨_, rfl, HR.out, hq⟩

/-- Where After(i) begins to look. -/
def afterAt (i : Int) : Nat := if i < 0 then 0 else (i + 1).toNat

set_option maxHeartbeats 400000 in
theorem after_any (b g c n : Nat) (ws : List Nat) (i : Int) (w : World) (hs : IsSet w b g c n ws) (hG : Good n ws) (hT : Tab w) :
    Calls Tryd.prog 56 #[.pointer (some ⟨b, 0, none⟩), .int .i64 i] w fun e w' => ∃ r, e = .returned (.int .i64 r) ∧ LeastK ws (afterAt i) r ∧ QuietK w w' := by
  have h0 := hs.c0
  by_cases h : i < 0
  · have ha : afterAt i = 0 := by unfold afterAt; rw [if_pos h]
    rw [ha]
    clear ha
    go_enter Tryd.func56, Tryd.ntmps56
    go_wp2_with fail
    refine (first_any b g c n ws _ hs hG hT).mono ?_
    rintro e w' ⟨r, rfl, hr, hq⟩
    have HR : Hid (LeastK ws 0 r) := hr
    clear hr
    go_wp2
    go_ret
    exact ⟨_, rfl, HR.out, hq⟩
  · by_cases h2 : (n : Int) ≤ i
    · have HR : Hid (LeastK ws (afterAt i) (-1)) := least_beyond hG (by unfold afterAt; rw [if_neg h]; omega)
      go_enter Tryd.func56, Tryd.ntmps56
      go_wp2
      go_ret
      exact ⟨_, rfl, HR.out, QuietK.refl _⟩
    · obtain ⟨k, hk⟩ : ∃ k : Nat, i = (k : Int) := ⟨i.toNat, by omega⟩
      subst hk
      have ha : afterAt (k : Int) = k + 1 := by unfold afterAt; rw [if_neg h]; omega
      rw [ha]
      have hn := hG.top
      clear ha
      go_enter Tryd.func56, Tryd.ntmps56
      go_wp2_with fail
      have ec : ((k : Int) + 1) = ((k + 1 : Nat) : Int) := by omega
      rw [ec]
      clear ec
      refine (from_any b g c n ws (k + 1) _ hs hG hT).mono ?_
      rintro e w' ⟨r, rfl, hr, hq⟩
      have HR : Hid (LeastK ws (k + 1) r) := hr
      clear hr
      go_wp2
      go_ret
      exact ⟨_, rfl, HR.out, hq⟩

theorem and_bit (x i : Nat) : (x &&& bitN i) = if x.testBit (i % 64) then bitN i else 0 := by
  apply Nat.eq_of_testBit_eq
  intro j
  rw [Nat.testBit_and, testBit_bitN]
  by_cases h : i % 64 = j
  · subst h
    cases hx : x.testBit (i % 64) <;> simp [testBit_bitN]
  · simp only [h, decide_false, Bool.and_false]
    cases hx : x.testBit (i % 64) <;> simp [testBit_bitN, h]

set_option maxHeartbeats 800000 in
theorem has_in (b g c n : Nat) (ws : List Nat) (i : Nat) (w : World) (hs : IsSet w b g c n ws) (hG : Good n ws) (hi : i < n) :
    Calls Tryd.prog 13 #[.pointer (some ⟨b, 0, none⟩), .int .i64 i] w fun e w' => e = .returned (.bool (mem ws i)) ∧ QuietK w w' := by
  have hn := hG.top
  have hl := hG.len
  obtain ⟨k, hk, q1, q2, q3⟩ := quo64 i (by omega)
  have hlt : k < ws.length := by omega
  have h1 := hs.c1
  have h2 := hs.cw k hlt
  have b0 : (0 : Int) ≤ (k : Int) := by omega
  have b1 : (k : Int) < (ws.length : Int) := by omega
  have b2 : (i : Int) < 65536 := by omega
  have hx := hG.word k
  rw [getD_get hlt] at h2
  have HM : Hid (mem ws i = (ws.getD k 0).testBit (i % 64)) := by unfold mem; rw [← hk]; rfl
  generalize ws.getD k 0 = x at h2 hx HM
  have HB : Hid (bits .and .u64 (x : Int) (bitN i : Int) = ((x &&& bitN i : Nat) : Int)) := bits_and_u64_nat _ _ hx (bitN_lt i)
  have hbp : 0 < bitN i := Nat.two_pow_pos _
  have HF : Hid ((((x &&& bitN i : Nat) : Int) != 0) = mem ws i) := by
    show (((x &&& bitN i : Nat) : Int) != 0) = mem ws i
    rw [HM.out, and_bit]
    cases x.testBit (i % 64) <;> simp; omega
  clear hl hG hk hx hbp
  go_enter Tryd.func13, Tryd.ntmps13
  go_wp2_with fail
  go_quiet (first | (go_at_call 32; exact Calls.quiet_of_same (inside_yes b g c n ws i _ (by first | exact hs | exact hs.kept ((Kept.refl [] w).drewN _) (by simp) (by simp)) hi)) | (go_at_call 33; exact Calls.quiet_of_same (bit_any i _ (by omega))))
  go_wp2_with fail
  go_ret
  exact ⟨ret_bool (by rw [HB.out, HF.out]), nq, rfl⟩

set_option maxHeartbeats 800000 in
theorem has_out (b g c n : Nat) (ws : List Nat) (i : Int) (w : World) (hs : IsSet w b g c n ws) (hi : i < 0 ∨ (n : Int) ≤ i) :
    Calls Tryd.prog 13 #[.pointer (some ⟨b, 0, none⟩), .int .i64 i] w fun e w' => e = .returned (.bool false) ∧ QuietK w w' := by
  go_enter Tryd.func13, Tryd.ntmps13
  go_wp2_with fail
  go_quiet (first | (go_at_call 32; exact Calls.quiet_of_same (inside_no b g c n ws i _ (by first | exact hs | exact hs.kept ((Kept.refl [] w).drewN _) (by simp) (by simp)) hi)))
  go_wp2_with fail
  go_ret
  exact ⟨rfl, nq, rfl⟩

/-- Has, of any number. -/
def hasI (n : Nat) (ws : List Nat) (i : Int) : Bool := decide (0 ≤ i ∧ i < n) && mem ws i.toNat
theorem has_any (b g c n : Nat) (ws : List Nat) (i : Int) (w : World) (hs : IsSet w b g c n ws) (hG : Good n ws) :
    Calls Tryd.prog 13 #[.pointer (some ⟨b, 0, none⟩), .int .i64 i] w fun e w' => e = .returned (.bool (hasI n ws i)) ∧ QuietK w w' := by
  unfold hasI
  by_cases h : 0 ≤ i ∧ i < n
  · have e : i = ((i.toNat : Nat) : Int) := by omega
    have H := has_in b g c n ws i.toNat w hs hG (by omega)
    rw [← e] at H
    simpa [h] using H
  · have H := has_out b g c n ws i w hs (by omega)
    have e : decide (0 ≤ i ∧ i < (n : Int)) = false := by simpa using h
    rw [e]; exact H
end Go.Proofs.YtkkhilgcjaigcaaDoor
