/- slices.Equal at letters; words.repeats, words.period, words.endless. -/
import Derived.Test.YtepooofiadlceaaDoorWd
import Derived.WalkLawsBesides
import Derived.Deep.RegionHeld3
import Derived.Deep.DrawnRows
import Derived.BigRegion
import Derived.Deep.RegionWith
import Derived.Deep.QuietTactic
import Derived.BigQuiet
namespace Go.Proofs.YtepooofiadlceaaDoor
open Go.RowKit
attribute [local go_sem ↓] Go.wp_at_zero Go.wp_at_succ

theorem quiet_more (w : World) (q n : Nat) : Quiet w ((w.drewN q).drewN n) := ⟨q + n, by simp [World.drewN, Nat.add_assoc]⟩
theorem ext_getD {xs ys : List Nat} (hl : xs.length = ys.length) (h : ∀ j, j < xs.length → xs.getD j 0 = ys.getD j 0) : xs = ys := by
  apply List.ext_getElem hl
  intro j h1 h2
  have := h j h1
  simpa [List.getD_eq_getElem?_getD, h1, h2] using this

set_option maxHeartbeats 1600000 in
theorem equal_any (v u : Value) (xs ys : List Nat) (w : World) (hx : Lets w v xs) (hy : Lets w u ys) :
    Calls Tryd.prog 72 #[v, u] w fun e w' => e = .returned (.bool (decide (xs = ys))) ∧ Quiet w w' := by
  have fx := hx.few
  have fy := hy.few
  by_cases hlen : xs.length = ys.length
  · by_cases h0 : 0 < xs.length
    · obtain ⟨b, o, c, rfl, _, _, HC⟩ := hx.there h0
      obtain ⟨b2, o2, c2, rfl, _, _, HC2⟩ := hy.there (by omega)
      have hnl : ((xs.length : Int) != (ys.length : Int)) = false := by simp; omega
      have HC' : Hid (∀ i, i < xs.length → w.cell? ⟨b, o + i, none⟩ = some (.int .u16 (xs.getD i 0 : Nat))) := HC
      have HC2' : Hid (∀ i, i < ys.length → w.cell? ⟨b2, o2 + i, none⟩ = some (.int .u16 (ys.getD i 0 : Nat))) := HC2
      have HL : Hid (xs.length = ys.length) := hlen
      clear hx hy HC HC2 hlen
      go_enter Tryd.func72, Tryd.ntmps72
      go_wp2_with fail
      go_loopw [13] (fun i wr => ∃ k : Nat, k ≤ xs.length ∧ i = .int .i64 k ∧ (∀ j, j < k → xs.getD j 0 = ys.getD j 0) ∧ Quiet w wr) (fun i _ => xs.length - (intOf i).toNat)
      case atStart => exact ⟨0, Nat.zero_le _, rfl, fun j hj => by omega, Quiet.refl _⟩
      case round =>
        obtain ⟨k, hk, rfl, hd, q, rfl⟩ := hrel
        have HD : Hid (∀ j, j < k → xs.getD j 0 = ys.getD j 0) := hd
        clear hd
        by_cases hlt : k < xs.length
        · have hlt' : (k : Int) < (xs.length : Int) := by omega
          have hlt2 : (k : Int) < (ys.length : Int) := by have := HL.out; omega
          have d1 := HC'.out k hlt
          have d2 := HC2'.out k (by have := HL.out; omega)
          have b0 : (0 : Int) ≤ (k : Int) := by omega
          by_cases he : xs.getD k 0 = ys.getD k 0
          · have HD2 : Hid (∀ j, j < k + 1 → xs.getD j 0 = ys.getD j 0) := fun j hj => by
              rcases Nat.lt_or_ge j k with h | h
              · exact HD.out j h
              · obtain rfl : j = k := by omega
                exact he
            rw [← he] at d2
            generalize xs.getD k 0 = x at d1 d2
            have hne : ((x : Int) != (x : Int)) = false := by simp
            clear he
            go_wp2_with fail
            go_quiet (fail)
            go_wp2
            go_roundw
            case rel => exact ⟨k + 1, by omega, by go_num, HD2.out, _, rfl⟩
            case measure => simp [intOf]; omega
          · have HF : Hid (decide (xs = ys) = false) := by
              show decide (xs = ys) = false
              simp; intro e; exact he (by rw [e])
            generalize xs.getD k 0 = x at d1 he
            generalize ys.getD k 0 = y at d2 he
            have hne : ((x : Int) != (y : Int)) = true := by simp; omega
            clear he
            go_wp2_with fail
            go_quiet (fail)
            go_wp2
            go_ret
            exact ⟨ret_bool HF.out.symm, quiet_more _ _ _⟩
        · have hlt' : ¬ (k : Int) < (xs.length : Int) := by omega
          have HF : Hid (decide (xs = ys) = true) := by
            show decide (xs = ys) = true
            simp; exact ext_getD HL.out (fun j hj => HD.out j (by omega))
          go_wp2
          go_ret
          exact ⟨ret_bool HF.out.symm, _, rfl⟩
    · obtain rfl : xs = [] := List.length_eq_zero_iff.1 (by omega)
      obtain rfl : ys = [] := List.length_eq_zero_iff.1 (by simpa using hlen.symm)
      obtain ⟨ad, c, rfl, _⟩ := hx.form
      obtain ⟨ad2, c2, rfl, _⟩ := hy.form
      clear hx hy
      have e0 : (([] : List Nat).length : Int) = 0 := rfl
      simp only [List.length_nil]
      go_enter Tryd.func72, Tryd.ntmps72
      go_wp2_with fail
      go_loopw [13] (fun i wr => i = .int .i64 0 ∧ wr = w) (fun _ _ => 0)
      case atStart => exact ⟨rfl, rfl⟩
      case round =>
        obtain ⟨rfl, rfl⟩ := hrel
        go_wp2
        go_ret
        exact ⟨rfl, Quiet.refl _⟩
  · have hnl : ((xs.length : Int) != (ys.length : Int)) = true := by simp; omega
    obtain ⟨ad, c, rfl, _⟩ := hx.form
    obtain ⟨ad2, c2, rfl, _⟩ := hy.form
    have HF : Hid (decide (xs = ys) = false) := by
      show decide (xs = ys) = false
      simp; intro e; exact hlen (by rw [e])
    rw [HF.out]
    clear hx hy hlen HF
    go_enter Tryd.func72, Tryd.ntmps72
    go_wp2
    go_ret
    exact ⟨rfl, Quiet.refl _⟩
end Go.Proofs.YtepooofiadlceaaDoor
