/- The document's sameness: SameLetters, SameWord; and the laws' pick. -/
import Derived.Test.YtamfnefnaelgfaaDoorWdRd
namespace Go.Proofs.YtamfnefnaelgfaaDoor
open Go.RowKit
attribute [local go_sem ↓] Go.wp_at_zero Go.wp_at_succ

set_option maxHeartbeats 1600000 in
theorem sameLetters_any (v u : Value) (xs ys : List Nat) (w : World) (hx : Lets w v xs) (hy : Lets w u ys) :
    Calls Tryd.prog 26 #[v, u] w fun e w' => e = .returned (.bool (decide (xs = ys))) ∧ Quiet w w' := by
  have fx := hx.few
  have fy := hy.few
  by_cases hlen : xs.length = ys.length
  · by_cases h0 : 0 < xs.length
    · obtain ⟨b, o, c, rfl, _, _, HC⟩ := hx.there h0
      obtain ⟨b2, o2, c2, rfl, _, _, HC2⟩ := hy.there (by omega)
      have hnl : ((xs.length : Int) != (ys.length : Int)) = false := by simp; omega
      have HC' : Hid (∀ i, i < xs.length → w.cell? ⟨b, o + i, none⟩ = some (.int .u16 (xs.getD i 0 : Nat))) := HC
      have HC2' : Hid (∀ i, i < ys.length → w.cell? ⟨b2, o2 + i, none⟩ = some (.int .u16 (ys.getD i 0 : Nat))) := HC2
      have HL : Hid (xs.length = ys.length) := hlen
      clear hx hy HC HC2 hlen
      go_enter Tryd.func26, Tryd.ntmps26
      go_wp2_with fail
      go_loopw [5] (fun i wr => ∃ k : Nat, k ≤ xs.length ∧ i = .int .i64 k ∧ (∀ j, j < k → xs.getD j 0 = ys.getD j 0) ∧ Quiet w wr) (fun i _ => xs.length - (intOf i).toNat)
      case atStart => exact ⟨0, Nat.zero_le _, rfl, fun j hj => by omega, Quiet.refl _⟩
      case round =>
        obtain ⟨k, hk, rfl, hd, q, rfl⟩ := hrel
        have HD : Hid (∀ j, j < k → xs.getD j 0 = ys.getD j 0) := hd
        clear hd
        by_cases hlt : k < xs.length
        · have hlt' : (k : Int) < (xs.length : Int) := by omega
          have hlt2 : (k : Int) < (ys.length : Int) := by have := HL.out; omega
          have d1 := HC'.out k hlt
          have d2 := HC2'.out k (by have := HL.out; omega)
          have b0 : (0 : Int) ≤ (k : Int) := by omega
          by_cases he : xs.getD k 0 = ys.getD k 0
          · have HD2 : Hid (∀ j, j < k + 1 → xs.getD j 0 = ys.getD j 0) := fun j hj => by
              rcases Nat.lt_or_ge j k with h | h
              · exact HD.out j h
              · obtain rfl : j = k := by omega
                exact he
            rw [← he] at d2
            generalize xs.getD k 0 = x at d1 d2
            have hne : ((x : Int) != (x : Int)) = false := by simp
            clear he
            go_wp2_with fail
            go_quiet (fail)
            go_wp2
            go_roundw
            case rel => exact ⟨k + 1, by omega, by go_num, HD2.out, _, rfl⟩
            case measure => simp [intOf]; omega
          · have HF : Hid (decide (xs = ys) = false) := by
              show decide (xs = ys) = false
              simp; intro e; exact he (by rw [e])
            generalize xs.getD k 0 = x at d1 he
            generalize ys.getD k 0 = y at d2 he
            have hne : ((x : Int) != (y : Int)) = true := by simp; omega
            clear he
            go_wp2_with fail
            go_quiet (fail)
            go_wp2
            go_ret
            exact ⟨ret_bool HF.out.symm, quiet_more _ _ _⟩
        · have hlt' : ¬ (k : Int) < (xs.length : Int) := by omega
          have HF : Hid (decide (xs = ys) = true) := by
            show decide (xs = ys) = true
            simp; exact ext_getD HL.out (fun j hj => HD.out j (by omega))
          go_wp2
          go_ret
          exact ⟨ret_bool HF.out.symm, _, rfl⟩
    · obtain rfl : xs = [] := List.length_eq_zero_iff.1 (by omega)
      obtain rfl : ys = [] := List.length_eq_zero_iff.1 (by simpa using hlen.symm)
      obtain ⟨ad, c, rfl, _⟩ := hx.form
      obtain ⟨ad2, c2, rfl, _⟩ := hy.form
      clear hx hy
      have e0 : (([] : List Nat).length : Int) = 0 := rfl
      simp only [List.length_nil]
      go_enter Tryd.func26, Tryd.ntmps26
      go_wp2_with fail
      go_loopw [5] (fun i wr => i = .int .i64 0 ∧ wr = w) (fun _ _ => 0)
      case atStart => exact ⟨rfl, rfl⟩
      case round =>
        obtain ⟨rfl, rfl⟩ := hrel
        go_wp2
        go_ret
        exact ⟨rfl, Quiet.refl _⟩
  · have hnl : ((xs.length : Int) != (ys.length : Int)) = true := by simp; omega
    obtain ⟨ad, c, rfl, _⟩ := hx.form
    obtain ⟨ad2, c2, rfl, _⟩ := hy.form
    have HF : Hid (decide (xs = ys) = false) := by
      show decide (xs = ys) = false
      simp; intro e; exact hlen (by rw [e])
    rw [HF.out]
    clear hx hy hlen HF
    go_enter Tryd.func26, Tryd.ntmps26
    go_wp2
    go_ret
    exact ⟨rfl, Quiet.refl _⟩

/-- Are two words the same, as they stand? -/
def eqW (a b : Wd) : Bool := decide (a.stem = b.stem) && decide (a.loop = b.loop)
theorem eqW_iff {a b : Wd} : eqW a b = true ↔ a = b := by
  obtain ⟨s, l⟩ := a
  obtain ⟨s2, l2⟩ := b
  simp [eqW]
set_option maxHeartbeats 1600000 in
theorem sameWord_any (va la vb lb : Value) (a b : Wd) (w : World) (h1 : Lets w va a.stem) (h2 : Lets w la a.loop) (h3 : Lets w vb b.stem) (h4 : Lets w lb b.loop) :
    Calls Tryd.prog 8 #[.agg #[va, la], .agg #[vb, lb]] w fun e w' => e = .returned (.bool (eqW a b)) ∧ Kept [] w w' := by
  obtain ⟨s, l⟩ := a
  obtain ⟨s2, l2⟩ := b
  simp only at h1 h2 h3 h4
  obtain ⟨a1, c1, rfl, _⟩ := h1.form
  obtain ⟨a2, c2, rfl, _⟩ := h2.form
  obtain ⟨a3, c3, rfl, _⟩ := h3.form
  obtain ⟨a4, c4, rfl, _⟩ := h4.form
  obtain ⟨V, hV⟩ : ∃ V, (w.alloc (.cells #[.slice a1 s.length c1, .slice a2 l.length c2] 47)).alloc (.cells #[.slice a3 s2.length c3, .slice a4 l2.length c4] 47) = V := ⟨_, rfl⟩
  have kV : Kept [] w V := by rw [← hV]; exact ((Kept.refl [] w).alloc _).alloc _
  have hN := two_new w (.cells #[.slice a1 s.length c1, .slice a2 l.length c2] 47) (.cells #[.slice a3 s2.length c3, .slice a4 l2.length c4] 47)
  rw [hV] at hN
  have HA : Hid (Wd2 V w.heap.size (.slice a1 s.length c1) (.slice a2 l.length c2)) := hN.1
  have HB : Hid (Wd2 V (w.heap.size + 1) (.slice a3 s2.length c3) (.slice a4 l2.length c4)) := hN.2
  have HKV : Hid (Kept [] w V) := kV
  have HV : Hid _ := hV
  have d0 := HA.out.cells.1
  have d1 := HB.out.cells.1
  by_cases hs : s = s2
  · have HE : Hid (decide (l = l2) = eqW ⟨s, l⟩ ⟨s2, l2⟩) := by show decide (l = l2) = _; rw [← hs]; simp [eqW]
    have HS : Hid (Calls Tryd.prog 26 #[.slice a1 s.length c1, .slice a3 s2.length c3] V fun e w1 => e = .returned (.bool true) ∧ Hid (Quiet V w1)) := by
      have := sameLetters_any _ _ s s2 V (h1.kept kV) (h3.kept kV)
      rw [decide_eq_true hs] at this
      exact this
    have HL : Hid (∀ W, Quiet V W → Calls Tryd.prog 26 #[.slice a2 l.length c2, .slice a4 l2.length c4] W fun e w1 => e = .returned (.bool (decide (l = l2))) ∧ Hid (Quiet W w1)) := fun W q => sameLetters_any _ _ l l2 W ((h2.kept kV).kept q.kept) ((h4.kept kV).kept q.kept)
    clear h1 h2 h3 h4 hN hV kV hs
    go_enter Tryd.func8, Tryd.ntmps8
    rw [← HE.out]
    generalize decide (l = l2) = r at HL HE
    go_wp2_with (first
      | (go_at_call 26; rw [HV.out]; refine HS.out.mono ?_; clear HS; rintro e w1 ⟨rfl, HQ⟩; have e0 := (HA.out.kept HQ.out.kept).cells.2.1; have e1 := (HB.out.kept HQ.out.kept).cells.2.1)
      | (go_at_call 26; refine (HL.out _ HQ.out).mono ?_; clear HL; rintro e w2 ⟨rfl, HQ2⟩))
    go_ret
    exact ⟨rfl, kept_same (kept_same HKV.out HQ.out.kept) HQ2.out.kept⟩
  · have HE : Hid (eqW ⟨s, l⟩ ⟨s2, l2⟩ = false) := by show eqW _ _ = false; simp [eqW, hs]
    have HS : Hid (Calls Tryd.prog 26 #[.slice a1 s.length c1, .slice a3 s2.length c3] V fun e w1 => e = .returned (.bool false) ∧ Hid (Quiet V w1)) := by
      have := sameLetters_any _ _ s s2 V (h1.kept kV) (h3.kept kV)
      rw [decide_eq_false hs] at this
      exact this
    clear h1 h2 h3 h4 hN hV kV hs
    rw [HE.out]
    go_enter Tryd.func8, Tryd.ntmps8
    go_wp2_with (go_at_call 26; rw [HV.out]; refine HS.out.mono ?_; clear HS; rintro e w1 ⟨rfl, HQ⟩)
    go_ret
    exact ⟨rfl, HKV.out.trans HQ.out.kept (by simp) (by simp)⟩
end Go.Proofs.YtamfnefnaelgfaaDoor
