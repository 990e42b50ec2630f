/- The document's normal form: again, Normal. -/
import Derived.Test.YtgbmfclboliliaaDoorWdRefs
import Derived.Test.YtgbmfclboliliaaDoorOth
namespace Go.Proofs.YtgbmfclboliliaaDoor
open Go.RowKit Go.Shelf
attribute [local go_sem ↓] Go.wp_at_zero Go.wp_at_succ

/-- A list is its first n letters again and again just if n divides its length and is a period. -/
theorem again_least {l : List Nat} {d n : Nat} (h0 : 0 < l.length) (h : Least (cyc l) 0 d) (hn : 0 < n) (hd : n ≤ d) : (n ∣ l.length ∧ rep l n) ↔ n = d := by
  constructor
  · rintro ⟨⟨k, hk⟩, hr⟩
    have := h.2.2 n hn ((rep_iff l n k hk h0).1 hr)
    omega
  · rintro rfl
    obtain ⟨k, hk⟩ := h.dvd (cyc_per l)
    exact ⟨⟨k, hk⟩, (rep_iff l n k hk h0).2 h.2.1⟩
set_option maxHeartbeats 1600000 in
theorem again_any (b o c n : Nat) (l : List Nat) (bb : Bool) (w : World) (hx : Lets w (.slice (some ⟨b, o, none⟩) l.length c) l) (h0 : 0 < n) (hn : n ≤ l.length) (hb : bb = true ↔ n ∣ l.length ∧ rep l n) :
    Calls Tryd.prog 48 #[.slice (some ⟨b, o, none⟩) l.length c, .int .i64 (n : Nat)] w fun e w' => e = .returned (.bool bb) ∧ Kept [] w w' := by
  have hf := hx.few
  obtain ⟨_, _, _, e, _, _, HC0⟩ := hx.there (by omega)
  cases e
  have HC : Hid (∀ i, i < l.length → w.cell? ⟨b, o + i, none⟩ = some (.int .u16 (l.getD i 0 : Nat))) := HC0
  have HB : Hid (bb = true ↔ n ∣ l.length ∧ rep l n) := hb
  obtain ⟨m, hm⟩ : ∃ m, l.length % n = m := ⟨_, rfl⟩
  have x1 : (l.length : Int).tmod (n : Int) = (m : Int) := by rw [Int.tmod_eq_emod_of_nonneg (by omega), ← hm]; rfl
  have x2 : (l.length : Int) % (n : Int) = (m : Int) := by rw [← hm]; rfl
  have x3 : ¬ ((n : Int) = 0) := by omega
  have x4 : ¬ (n = 0) := by omega
  have hml : m < n := by rw [← hm]; exact Nat.mod_lt _ h0
  clear hx hb HC0
  by_cases hm0 : m = 0
  · have hm1 : ((m : Int) != 0) = false := by simp; omega
    have HD : Hid (n ∣ l.length) := Nat.dvd_of_mod_eq_zero (hm.trans hm0)
    clear hm hm0
    go_enter Tryd.func48, Tryd.ntmps48
    go_wp2_with fail
    go_loopw [5] (fun i wr => ∃ k : Nat, n ≤ k ∧ k ≤ l.length ∧ i = .int .i64 (k : Nat) ∧ Hid (∀ j, j + n < k → l.getD (j + n) 0 = l.getD j 0) ∧ Quiet w wr) (fun i _ => l.length - (intOf i).toNat)
    case atStart => exact ⟨n, Nat.le_refl _, hn, rfl, fun j hj => by omega, Quiet.refl _⟩
    case round =>
      obtain ⟨k, hk1, hk, rfl, HD2, q, rfl⟩ := hrel
      by_cases hlt : k < l.length
      · have hlt' : (k : Int) < (l.length : Int) := by omega
        obtain ⟨j, rfl⟩ : ∃ j, k = j + n := ⟨k - n, by omega⟩
        have d1 := HC.out (j + n) hlt
        have d2 := HC.out j (by omega)
        have z0 : (0 : Int) ≤ (j : Int) := by omega
        have z1 : (j : Int) < (l.length : Int) := by omega
        have z2 : (0 : Int) ≤ ((j + n : Nat) : Int) := by omega
        have z3 : IntKind.i64.wrap (((j + n : Nat) : Int) - (n : Int)) = (j : Int) := by rw [IntKind.wrap_i64]; omega
        have z4 : IntKind.i64.wrap ((j : Int) + (n : Int) - (n : Int)) = (j : Int) := by rw [IntKind.wrap_i64]; omega
        obtain ⟨kk, hkk⟩ : ∃ kk, j + n = kk := ⟨_, rfl⟩
        have HKK : Hid (j + n = kk) := hkk
        have z5 : IntKind.i64.wrap ((kk : Int) - (n : Int)) = (j : Int) := by rw [IntKind.wrap_i64]; omega
        rw [hkk] at d1 hlt' z2
        simp only [hkk] at hk1 hk hlt ⊢
        by_cases he : l.getD kk 0 = l.getD j 0
        · have HD3 : Hid (∀ j', j' + n < kk + 1 → l.getD (j' + n) 0 = l.getD j' 0) := fun j' hj => by
            rcases Nat.lt_or_ge (j' + n) kk with h | h
            · exact HD2.out j' (by rw [HKK.out]; exact h)
            · obtain rfl : j' = j := by have := HKK.out; omega
              rw [HKK.out]; exact he
          rw [he] at d1
          generalize l.getD j 0 = x at d1 d2
          have hne : ((x : Int) != (x : Int)) = false := by simp
          clear he hkk z3 z4 HD2
          go_wp2_with fail
          go_quiet (fail)
          go_wp2
          go_roundw
          case rel => exact ⟨kk + 1, by omega, by omega, by go_num, HD3.out, _, rfl⟩
          case measure => simp [intOf]; omega
        · have HF : Hid (bb = false) := by
            show bb = false
            rw [Bool.eq_false_iff]
            intro h
            have := (HB.out.1 h).2 j (by rw [HKK.out]; exact hlt)
            rw [HKK.out] at this
            exact he this
          generalize l.getD kk 0 = x at d1 he
          generalize l.getD j 0 = y at d2 he
          have hne : ((x : Int) != (y : Int)) = true := by simp; omega
          clear he hkk z3 z4 HD2
          go_wp2_with fail
          go_quiet (fail)
          go_wp2
          go_ret
          exact ⟨ret_bool HF.out.symm, Quiet.kept (quiet_more _ _ _)⟩
      · have hlt' : ¬ (k : Int) < (l.length : Int) := by omega
        have HF : Hid (bb = true) := HB.out.2 ⟨HD.out, fun j hj => HD2.out j (by omega)⟩
        go_wp2
        go_ret
        exact ⟨ret_bool HF.out.symm, Quiet.kept ⟨_, rfl⟩⟩
  · have hm1 : ((m : Int) != 0) = true := by simp; omega
    have HF : Hid (bb = false) := by
      show bb = false
      rw [Bool.eq_false_iff]
      intro h
      exact hm0 (hm.symm.trans (Nat.mod_eq_zero_of_dvd (HB.out.1 h).1))
    clear hm hm0
    go_enter Tryd.func48, Tryd.ntmps48
    go_wp2
    go_ret
    exact ⟨ret_bool HF.out.symm, Kept.refl [] w⟩
end Go.Proofs.YtgbmfclboliliaaDoor
