/- package moore: lists of verdicts; Check and Run of any machine. -/
import Derived.Test.YtcojlcbljhnbgaaDfHs
namespace Go.Proofs.Ytcojlcbljhnbgaa
open Go.RowKit Go.Shelf

/-- A list of verdicts in memory. -/
structure Vds (W : World) (v : Value) (xs : List Nat) : Prop where
  few : xs.length ≤ 140737488351232
  small : ∀ x ∈ xs, x < 256
  lie : (v = .slice none 0 0 ∧ xs = []) ∨ ∃ b o c, v = .slice (some ⟨b, o, none⟩) xs.length c ∧ xs.length ≤ c ∧ c ≤ maxLen ∧ ∀ i, i < xs.length → W.cell? ⟨b, o + i, none⟩ = some (.int .u8 (xs.getD i 0 : Nat))
theorem Vds.kept {W W' : World} {v : Value} {xs : List Nat} (h : Vds W v xs) (k : Kept [] W W') : Vds W' v xs := by
  refine ⟨h.few, h.small, ?_⟩
  rcases h.lie with h1 | ⟨b, o, c, h1, h2, h3, h4⟩
  · exact .inl h1
  · exact .inr ⟨b, o, c, h1, h2, h3, fun i hi => cell_kept0 k (h4 i hi)⟩
theorem Vds.form {W : World} {v : Value} {xs : List Nat} (h : Vds W v xs) : ∃ ad c, v = .slice ad xs.length c := by
  rcases h.lie with ⟨rfl, rfl⟩ | ⟨b, o, c, rfl, _⟩
  · exact ⟨none, 0, rfl⟩
  · exact ⟨_, c, rfl⟩
/-- What is no verdict. -/
def badV (x : Nat) : Bool := decide (x < 1) || decide (3 < x)
theorem isNoneV_any (x : Nat) (w : World) :
    Calls Try.prog 25 #[.int .u8 (x : Nat)] w fun e w' => e = .returned (.bool (badV x)) ∧ w' = w := by
  unfold badV
  by_cases h : x < 1
  · have e1 : decide ((x : Int) < 1) = true := by simp; omega
    have e2 : (x : Int) < 1 := by omega
    go_enter Try.func25, Try.ntmps25
    go_wp2_with fail
    go_ret
    exact ⟨by simp [h], rfl⟩
  · have e1 : decide ((x : Int) < 1) = false := by simp; omega
    have e2 : ¬ ((x : Int) < 1) := by omega
    by_cases h3 : 3 < x
    · have e3 : decide ((3 : Int) < (x : Int)) = true := by simp; omega
      have e4 : (3 : Int) < (x : Int) := by omega
      go_enter Try.func25, Try.ntmps25
      go_wp2_with fail
      go_ret
      exact ⟨by simp, rfl⟩
    · have e3 : decide ((3 : Int) < (x : Int)) = false := by simp; omega
      have e4 : ¬ ((3 : Int) < (x : Int)) := by omega
      go_enter Try.func25, Try.ntmps25
      go_wp2_with fail
      go_ret
      exact ⟨by simp, rfl⟩
set_option maxHeartbeats 2000000 in
set_option maxRecDepth 10000 in
theorem indexV_any14 (v : Value) (xs : List Nat) (w : World) (h : Vds w v xs) :
    Calls Try.prog 34 #[v, .func (.func 25) #[] #[]] w fun e w' => ∃ k : Int, e = .returned (.int .i64 k) ∧ Hid (decide (0 ≤ k) = xs.any badV) ∧ w' = w := by
  have hfew := h.few
  rcases h.lie with ⟨rfl, rfl⟩ | ⟨b, o, c, rfl, hc1, hc2, hcell⟩
  · clear h hfew
    go_enter Try.func34, Try.ntmps34
    go_wp2_with fail
    refine wp_loop_rounds 1 ?_
    rw [rounds_succ]
    go_wp2
    go_ret
    exact ⟨-1, rfl, rfl, rfl⟩
  · have HCE : Hid (∀ i (h : i < xs.length), w.cell? ⟨b, o + i, none⟩ = some (.int .u8 (xs.getD i 0 : Nat))) := hcell
    clear h hcell
    go_enter Try.func34, Try.ntmps34
    go_wp2_with fail
    go_loopw [8] (fun i wr => ∃ k : Nat, i = .int .i64 (k : Nat) ∧ k ≤ xs.length ∧ wr = w ∧ Hid (∀ j (h : j < xs.length), j < k → badV xs[j] = false)) (fun i _ => xs.length - (intOf i).toNat)
    case atStart => exact ⟨0, rfl, Nat.zero_le _, rfl, fun j _ h => by omega⟩
    case round =>
      obtain ⟨k, rfl, hk, hwr, HA⟩ := hrel
      have HWR : Hid (wr = w) := hwr
      clear hwr
      by_cases hlt : k < xs.length
      · have z0 : (k : Int) < (xs.length : Int) := by omega
        obtain ⟨s, hs⟩ : ∃ s, xs[k] = s := ⟨_, rfl⟩
        obtain ⟨sb, hsb⟩ : ∃ sb, badV s = sb := ⟨_, rfl⟩
        have HN : Hid (Calls Try.prog 25 #[.int .u8 (s : Nat)] wr fun e w' => e = .returned (.bool sb) ∧ w' = wr) := by rw [← hsb]; exact isNoneV_any s wr
        have c0 : wr.cell? ⟨b, o + k, none⟩ = some (.int .u8 (s : Nat)) := by
          rw [HWR.out, ← hs, HCE.out k hlt, List.getD_eq_getElem?_getD, List.getElem?_eq_getElem hlt]
          rfl
        have HSB : Hid (badV xs[k] = sb) := by show _ = _; rw [hs]; exact hsb
        clear hs hsb
        cases sb with
        | true =>
          have HY : Hid (xs.any badV = true) := any_yes hlt HSB.out
          go_wp2_with (go_at_call 25; refine HN.out.mono ?_; rintro e w1 ⟨rfl, hw1⟩; rw [hw1]; clear hw1)
          go_ret
          exact ⟨k, rfl, by show decide (0 ≤ (k : Int)) = _; rw [HY.out]; simp, HWR.out⟩
        | false =>
          have HY : Hid (∀ j (h : j < xs.length), j < k + 1 → badV xs[j] = false) := fun j hj h' => by
            rcases Nat.lt_or_ge j k with q | q
            · exact HA.out j hj q
            · obtain rfl : j = k := by omega
              exact HSB.out
          go_wp2_with (go_at_call 25; refine HN.out.mono ?_; rintro e w1 ⟨rfl, hw1⟩; rw [hw1]; clear hw1)
          go_roundw
          case rel => exact ⟨k + 1, by go_num, by omega, HWR.out, HY.out⟩
          case measure => simp [intOf]; omega
      · obtain rfl : k = xs.length := by omega
        have z0 : ¬ ((xs.length : Int) < (xs.length : Int)) := by omega
        have HY : Hid (xs.any badV = false) := any_no (fun i hi => HA.out i hi hi)
        go_wp2
        go_ret
        exact ⟨-1, rfl, by show decide ((0 : Int) ≤ -1) = _; rw [HY.out]; rfl, HWR.out⟩
theorem containsV_any14 (v : Value) (xs : List Nat) (w : World) (h : Vds w v xs) :
    Calls Try.prog 28 #[v, .func (.func 25) #[] #[]] w fun e w' => e = .returned (.bool (xs.any badV)) ∧ w' = w := by
  have HI : Hid _ := indexV_any14 v xs w h
  obtain ⟨ad, c, rfl⟩ := h.form
  clear h
  go_enter Try.func28, Try.ntmps28
  go_wp2_with (go_at_call 34; refine Calls.mono HI.out ?_; rintro e w1 ⟨k, rfl, HD, hw1⟩; rw [hw1]; clear hw1)
  go_ret
  exact ⟨ret_bool HD.out, rfl⟩
end Go.Proofs.Ytcojlcbljhnbgaa
