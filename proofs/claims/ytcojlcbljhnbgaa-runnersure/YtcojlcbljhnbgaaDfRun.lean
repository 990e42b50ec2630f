/- package dfa: letters, isList, isRight of any automaton. -/
import Derived.Test.YtcojlcbljhnbgaaBuCheck
namespace Go.Proofs.Ytcojlcbljhnbgaa
open Go.RowKit Go.Shelf

/-- How many letters there are. -/
theorem letters_any13 (ad : Option Addr) (n c : Nat) (w : World) (hn : n ≤ 62) : Calls Try.prog 36 #[.slice ad n c] w fun e w' => e = .returned (.int .i64 ((2 ^ n : Nat) : Int)) ∧ w' = w := by
  have h1 : (0 : Int) ≤ (n : Int) := by omega
  have h2 : (n : Int) ≤ 62 := by omega
  have h3 : (2 : Nat) ^ n ≤ 2 ^ 62 := Nat.pow_le_pow_right (by omega) hn
  have HW : Hid (wrap64 ((2 : Int) ^ n) = ((2 ^ n : Nat) : Int)) := by
    show _ = _
    rw [show ((2 : Int) ^ n) = ((2 ^ n : Nat) : Int) by norm_cast]
    generalize (2 ^ n : Nat) = t at h3 ⊢
    unfold wrap64
    omega
  go_enter Try.func36, Try.ntmps36
  go_wp2_with fail
  rw [HW.out]
  go_ret
  exact ⟨rfl, rfl⟩
theorem errG_list (ps : List ByteArray) : errG ((⟨ps, 0, [], [], []⟩ : Gen).with []) = if listB ps then 0 else 100 := by
  have : rightG ((⟨ps, 0, [], [], []⟩ : Gen).with []) = listB ps := by
    unfold rightG
    have e1 : statesB ([] : List Int) 0 = true := rfl
    have e2 : edgesB ((⟨ps, 0, [], [], []⟩ : Gen).with []) = true := rfl
    have e3 : setsB ((⟨ps, 0, [], [], []⟩ : Gen).with []).sets 0 = true := rfl
    show (listB ps && decide ((0 : Int) ≤ 0) && decide ((0 : Int) ≤ 65536) && statesB [] 0 && edgesB ((⟨ps, 0, [], [], []⟩ : Gen).with []) && setsB ((⟨ps, 0, [], [], []⟩ : Gen).with []).sets 0) = listB ps
    rw [e1, e2, e3]
    simp
  unfold errG
  rw [this]
theorem isList_any13 (v : Value) (ps : List ByteArray) (w : World) (h : Strs w v ps) : Calls Try.prog 44 #[v] w fun e w' => e = .returned (.bool (listB ps)) ∧ Kept [] w w' := by
  have hI : Ints w (.slice none 0 0) [] := ⟨by simp, by simp, .inl ⟨⟨none, 0, rfl, by unfold maxLen; omega, fun _ => rfl⟩, rfl⟩⟩
  have hE : Edgs w (.slice none 0 0) [] := by
    refine ⟨by simp, by simp, .inl ⟨rfl, rfl⟩⟩
  have HC : Hid (Calls Try.prog 51 #[.agg #[v, .int .i64 0, .slice none 0 0, .slice none 0 0, .slice none 0 0]] w fun e w' => e = .returned (.int .i64 ((if listB ps then 0 else 100 : Nat) : Int)) ∧ Kept [] w w') := by
    have := check_anyB v (.slice none 0 0) (.slice none 0 0) (.slice none 0 0) ⟨ps, 0, [], [], []⟩ [] w ⟨h, hI, hE, hI, show (-9223372036854775808 : Int) ≤ 0 ∧ (0 : Int) ≤ 9223372036854775807 by omega⟩
    rw [errG_list] at this
    exact this
  obtain ⟨ad, c, rfl, _, _⟩ := h.form
  obtain ⟨r, hr⟩ : ∃ r, listB ps = r := ⟨_, rfl⟩
  rw [hr] at HC ⊢
  clear h hI hE hr
  cases r
  all_goals
    go_enter Try.func44, Try.ntmps44
    go_wp2_with (go_at_call 51; refine HC.out.mono ?_; rintro e w1 ⟨rfl, hk⟩; have HK : Hid (Kept [] w w1) := hk; clear hk)
    go_ret
    exact ⟨rfl, HK.out⟩
/-- A number that is no state. -/
def outB13 (n : Nat) (s : Int) : Bool := decide (s < 0) || decide ((n : Int) ≤ s)
theorem isNone_any (s : Int) (B n nc : Nat) (na : Option Addr) (w : World) (hb : w.cell? ⟨B, 1, none⟩ = some (.slice na n nc)) :
    Calls Try.prog 45 #[.int .i64 s, .pointer (some ⟨B, 0, none⟩)] w fun e w' => e = .returned (.bool (outB13 n s)) ∧ w' = w := by
  unfold outB13
  by_cases h : s < 0
  · have e1 : decide (s < 0) = true := by simpa using h
    go_enter Try.func45, Try.ntmps45
    go_wp2_with fail
    go_ret
    exact ⟨by first | (simp; done) | (simp [h]; done), rfl⟩
  · have e1 : decide (s < 0) = false := by simpa using h
    go_enter Try.func45, Try.ntmps45
    go_wp2_with fail
    go_ret
    exact ⟨by first | (simp; done) | (simp [h]; done), rfl⟩
theorem any_no {α : Type} {p : α → Bool} {xs : List α} (h : ∀ i (hi : i < xs.length), p xs[i] = false) : xs.any p = false := by
  rw [List.any_eq_false]
  intro x hx
  obtain ⟨i, hi, rfl⟩ := List.getElem_of_mem hx
  simp [h i hi]
theorem any_yes {α : Type} {p : α → Bool} {xs : List α} {i : Nat} (hi : i < xs.length) (h : p xs[i] = true) : xs.any p = true := List.any_eq_true.2 ⟨xs[i], List.getElem_mem hi, h⟩
set_option maxHeartbeats 2000000 in
set_option maxRecDepth 10000 in
theorem indexI_any13 (v : Value) (xs : List Int) (B n nc : Nat) (na : Option Addr) (w : World) (h : Ints w v xs) (hb : w.cell? ⟨B, 1, none⟩ = some (.slice na n nc)) :
    Calls Try.prog 50 #[v, .func (.func 45) #[] #[.pointer (some ⟨B, 0, none⟩)]] w fun e w' => ∃ k : Int, e = .returned (.int .i64 k) ∧ Hid (decide (0 ≤ k) = xs.any (outB13 n)) ∧ w' = w := by
  have hfew := h.few
  rcases h.lie with ⟨⟨ad, c, rfl, _, _⟩, rfl⟩ | ⟨b, o, c, rfl, hc1, hc2, hcell⟩
  · clear h hfew
    go_enter Try.func50, Try.ntmps50
    go_wp2_with fail
    refine wp_loop_rounds 1 ?_
    rw [rounds_succ]
    go_wp2
    go_ret
    exact ⟨-1, rfl, rfl, rfl⟩
  · have HCE : Hid (∀ i (h : i < xs.length), w.cell? ⟨b, o + i, none⟩ = some (.int .i64 xs[i])) := hcell
    have HB : Hid (w.cell? ⟨B, 1, none⟩ = some (.slice na n nc)) := hb
    clear h hcell hb
    go_enter Try.func50, Try.ntmps50
    go_wp2_with fail
    go_loopw [8] (fun i wr => ∃ k : Nat, i = .int .i64 (k : Nat) ∧ k ≤ xs.length ∧ wr = w ∧ Hid (∀ j (h : j < xs.length), j < k → outB13 n xs[j] = false)) (fun i _ => xs.length - (intOf i).toNat)
    case atStart => exact ⟨0, rfl, Nat.zero_le _, rfl, fun j _ h => by omega⟩
    case round =>
      obtain ⟨k, rfl, hk, hwr, HA⟩ := hrel
      have HWR : Hid (wr = w) := hwr
      clear hwr
      by_cases hlt : k < xs.length
      · have z0 : (k : Int) < (xs.length : Int) := by omega
        obtain ⟨s, hs⟩ : ∃ s, xs[k] = s := ⟨_, rfl⟩
        obtain ⟨sb, hsb⟩ : ∃ sb, outB13 n s = sb := ⟨_, rfl⟩
        have HN : Hid (Calls Try.prog 45 #[.int .i64 s, .pointer (some ⟨B, 0, none⟩)] wr fun e w' => e = .returned (.bool sb) ∧ w' = wr) := by rw [← hsb, HWR.out]; exact isNone_any s B n nc na w HB.out
        have c0 : wr.cell? ⟨b, o + k, none⟩ = some (.int .i64 s) := by rw [HWR.out, ← hs]; exact HCE.out k hlt
        have HSB : Hid (outB13 n xs[k] = sb) := by show _ = _; rw [hs]; exact hsb
        clear hs hsb
        cases sb with
        | true =>
          have HY : Hid (xs.any (outB13 n) = true) := any_yes hlt HSB.out
          go_wp2_with (go_at_call 45; refine HN.out.mono ?_; rintro e w1 ⟨rfl, hw1⟩; rw [hw1]; clear hw1)
          go_ret
          exact ⟨k, rfl, by show decide (0 ≤ (k : Int)) = _; rw [HY.out]; simp, HWR.out⟩
        | false =>
          have HY : Hid (∀ j (h : j < xs.length), j < k + 1 → outB13 n xs[j] = false) := fun j hj h' => by
            rcases Nat.lt_or_ge j k with q | q
            · exact HA.out j hj q
            · obtain rfl : j = k := by omega
              exact HSB.out
          go_wp2_with (go_at_call 45; refine HN.out.mono ?_; rintro e w1 ⟨rfl, hw1⟩; rw [hw1]; clear hw1)
          go_roundw
          case rel => exact ⟨k + 1, by go_num, by omega, HWR.out, HY.out⟩
          case measure => simp [intOf]; omega
      · obtain rfl : k = xs.length := by omega
        have z0 : ¬ ((xs.length : Int) < (xs.length : Int)) := by omega
        have HY : Hid (xs.any (outB13 n) = false) := any_no (fun i hi => HA.out i hi hi)
        go_wp2
        go_ret
        exact ⟨-1, rfl, by show decide ((0 : Int) ≤ -1) = _; rw [HY.out]; rfl, HWR.out⟩
theorem containsI_any13 (v : Value) (xs : List Int) (B n nc : Nat) (na : Option Addr) (w : World) (h : Ints w v xs) (hb : w.cell? ⟨B, 1, none⟩ = some (.slice na n nc)) :
    Calls Try.prog 42 #[v, .func (.func 45) #[] #[.pointer (some ⟨B, 0, none⟩)]] w fun e w' => e = .returned (.bool (xs.any (outB13 n))) ∧ w' = w := by
  have HI : Hid _ := indexI_any13 v xs B n nc na w h hb
  obtain ⟨ad, c, rfl, _, _⟩ := h.form
  clear h hb
  go_enter Try.func42, Try.ntmps42
  go_wp2_with (go_at_call 50; refine Calls.mono HI.out ?_; rintro e w1 ⟨k, rfl, HD, hw1⟩; rw [hw1]; clear hw1)
  go_ret
  exact ⟨ret_bool HD.out, rfl⟩
theorem Rowss.form13 {W : World} {v : Value} {ss : List (List Int)} (h : Rowss W v ss) : ∃ ad c, v = .slice ad ss.length c ∧ ss.length ≤ c ∧ c ≤ maxLen := by
  rcases h.lie with ⟨rfl, rfl⟩ | ⟨b, o, c, rfl, h2, h3, _⟩
  · exact ⟨none, 0, rfl, Nat.le_refl _, by unfold maxLen; omega⟩
  · exact ⟨_, c, rfl, h2, h3⟩
/-- A row that is wrong. -/
def wrongB (pn n : Nat) (xs : List Int) : Bool := !decide (xs.length = 2 ^ pn) || xs.any (outB13 n)
theorem isWrong_any (v : Value) (xs : List Int) (B F pn pc n nc : Nat) (pa na : Option Addr) (w : World) (h : Ints w v xs) (hp : w.cell? ⟨B, 0, none⟩ = some (.slice pa pn pc)) (hpn : pn ≤ 62) (hb : w.cell? ⟨B, 1, none⟩ = some (.slice na n nc)) (hf : w.cell? ⟨F, 0, none⟩ = some (.func (.func 45) #[] #[.pointer (some ⟨B, 0, none⟩)])) :
    Calls Try.prog 46 #[v, .pointer (some ⟨B, 0, none⟩), .pointer (some ⟨F, 0, none⟩)] w fun e w' => e = .returned (.bool (wrongB pn n xs)) ∧ w' = w := by
  have HL : Hid (Calls Try.prog 36 #[.slice pa pn pc] w fun e w' => e = .returned (.int .i64 ((2 ^ pn : Nat) : Int)) ∧ w' = w) := letters_any13 pa pn pc w hpn
  have HC : Hid (Calls Try.prog 42 #[v, .func (.func 45) #[] #[.pointer (some ⟨B, 0, none⟩)]] w fun e w' => e = .returned (.bool (xs.any (outB13 n))) ∧ w' = w) := containsI_any13 v xs B n nc na w h hb
  obtain ⟨ad, c, rfl, _, _⟩ := h.form
  unfold wrongB
  obtain ⟨tp, htp⟩ : ∃ tp, 2 ^ pn = tp := ⟨_, rfl⟩
  rw [htp] at HL ⊢
  obtain ⟨r, hr⟩ : ∃ r, xs.any (outB13 n) = r := ⟨_, rfl⟩
  rw [hr] at HC ⊢
  obtain ⟨xl, hxl⟩ : ∃ xl, xs.length = xl := ⟨_, rfl⟩
  rw [hxl] at HC ⊢
  clear h hb htp hr hxl
  by_cases he : xl = tp
  · subst he
    have e1 : ((xl : Int) != (xl : Int)) = false := by simp
    go_enter Try.func46, Try.ntmps46
    go_wp2_with (first
      | (go_at_call 36; refine HL.out.mono ?_; rintro e w1 ⟨rfl, hw1⟩; rw [hw1]; clear hw1)
      | (go_at_call 42; refine HC.out.mono ?_; rintro e w1 ⟨rfl, hw1⟩; rw [hw1]; clear hw1))
    go_ret
    exact ⟨ret_bool (by simp), rfl⟩
  · have e1 : ((xl : Int) != (tp : Int)) = true := by simp; omega
    go_enter Try.func46, Try.ntmps46
    go_wp2_with (first
      | (go_at_call 36; refine HL.out.mono ?_; rintro e w1 ⟨rfl, hw1⟩; rw [hw1]; clear hw1))
    go_ret
    exact ⟨ret_bool (by simp [he]), rfl⟩
set_option maxHeartbeats 2000000 in
set_option maxRecDepth 10000 in
theorem indexR_any13 (v : Value) (ss : List (List Int)) (B F pn pc n nc : Nat) (pa na : Option Addr) (w : World) (h : Rowss w v ss) (hp : w.cell? ⟨B, 0, none⟩ = some (.slice pa pn pc)) (hpn : pn ≤ 62) (hb : w.cell? ⟨B, 1, none⟩ = some (.slice na n nc)) (hf : w.cell? ⟨F, 0, none⟩ = some (.func (.func 45) #[] #[.pointer (some ⟨B, 0, none⟩)])) :
    Calls Try.prog 52 #[v, .func (.func 46) #[] #[.pointer (some ⟨B, 0, none⟩), .pointer (some ⟨F, 0, none⟩)]] w fun e w' => ∃ k : Int, e = .returned (.int .i64 k) ∧ Hid (decide (0 ≤ k) = ss.any (wrongB pn n)) ∧ w' = w := by
  have hfew := h.few
  rcases h.lie with ⟨rfl, rfl⟩ | ⟨b, o, c, rfl, hc1, hc2, hcell⟩
  · clear h hfew
    go_enter Try.func52, Try.ntmps52
    go_wp2_with fail
    refine wp_loop_rounds 1 ?_
    rw [rounds_succ]
    go_wp2
    go_ret
    exact ⟨-1, rfl, rfl, rfl⟩
  · have HCE : Hid (∀ i (h : i < ss.length), ∃ u, w.cell? ⟨b, o + i, none⟩ = some u ∧ Ints w u ss[i]) := hcell
    have HW : Hid (∀ u xs, Ints w u xs → Calls Try.prog 46 #[u, .pointer (some ⟨B, 0, none⟩), .pointer (some ⟨F, 0, none⟩)] w fun e w' => e = .returned (.bool (wrongB pn n xs)) ∧ w' = w) := fun u xs hu => isWrong_any u xs B F pn pc n nc pa na w hu hp hpn hb hf
    clear h hcell hb hp hf
    go_enter Try.func52, Try.ntmps52
    go_wp2_with fail
    go_loopw [8] (fun i wr => ∃ k : Nat, i = .int .i64 (k : Nat) ∧ k ≤ ss.length ∧ wr = w ∧ Hid (∀ j (h : j < ss.length), j < k → wrongB pn n ss[j] = false)) (fun i _ => ss.length - (intOf i).toNat)
    case atStart => exact ⟨0, rfl, Nat.zero_le _, rfl, fun j _ h => by omega⟩
    case round =>
      obtain ⟨k, rfl, hk, hwr, HA⟩ := hrel
      have HWR : Hid (wr = w) := hwr
      clear hwr
      by_cases hlt : k < ss.length
      · have z0 : (k : Int) < (ss.length : Int) := by omega
        obtain ⟨u, hu1, hu2⟩ := HCE.out k hlt
        obtain ⟨ua, uc, rfl, _, _⟩ := hu2.form
        obtain ⟨sb, hsb⟩ : ∃ sb, wrongB pn n ss[k] = sb := ⟨_, rfl⟩
        have HN : Hid (Calls Try.prog 46 #[.slice ua ss[k].length uc, .pointer (some ⟨B, 0, none⟩), .pointer (some ⟨F, 0, none⟩)] wr fun e w' => e = .returned (.bool sb) ∧ w' = wr) := by rw [← hsb, HWR.out]; exact HW.out _ _ hu2
        obtain ⟨un, hun⟩ : ∃ un, ss[k].length = un := ⟨_, rfl⟩
        have c0 : wr.cell? ⟨b, o + k, none⟩ = some (.slice ua un uc) := by rw [HWR.out, ← hun]; exact hu1
        rw [hun] at HN
        have HSB : Hid (wrongB pn n ss[k] = sb) := hsb
        clear hu1 hu2 hun hsb
        cases sb with
        | true =>
          have HY : Hid (ss.any (wrongB pn n) = true) := any_yes hlt HSB.out
          go_wp2_with (go_at_call 46; refine HN.out.mono ?_; rintro e w1 ⟨rfl, hw1⟩; rw [hw1]; clear hw1)
          go_ret
          exact ⟨k, rfl, by show decide (0 ≤ (k : Int)) = _; rw [HY.out]; simp, HWR.out⟩
        | false =>
          have HY : Hid (∀ j (h : j < ss.length), j < k + 1 → wrongB pn n ss[j] = false) := fun j hj h' => by
            rcases Nat.lt_or_ge j k with q | q
            · exact HA.out j hj q
            · obtain rfl : j = k := by omega
              exact HSB.out
          go_wp2_with (go_at_call 46; refine HN.out.mono ?_; rintro e w1 ⟨rfl, hw1⟩; rw [hw1]; clear hw1)
          go_roundw
          case rel => exact ⟨k + 1, by go_num, by omega, HWR.out, HY.out⟩
          case measure => simp [intOf]; omega
      · obtain rfl : k = ss.length := by omega
        have z0 : ¬ ((ss.length : Int) < (ss.length : Int)) := by omega
        have HY : Hid (ss.any (wrongB pn n) = false) := any_no (fun i hi => HA.out i hi hi)
        go_wp2
        go_ret
        exact ⟨-1, rfl, by show decide ((0 : Int) ≤ -1) = _; rw [HY.out]; rfl, HWR.out⟩
theorem containsR_any13 (v : Value) (ss : List (List Int)) (B F pn pc n nc : Nat) (pa na : Option Addr) (w : World) (h : Rowss w v ss) (hp : w.cell? ⟨B, 0, none⟩ = some (.slice pa pn pc)) (hpn : pn ≤ 62) (hb : w.cell? ⟨B, 1, none⟩ = some (.slice na n nc)) (hf : w.cell? ⟨F, 0, none⟩ = some (.func (.func 45) #[] #[.pointer (some ⟨B, 0, none⟩)])) :
    Calls Try.prog 47 #[v, .func (.func 46) #[] #[.pointer (some ⟨B, 0, none⟩), .pointer (some ⟨F, 0, none⟩)]] w fun e w' => e = .returned (.bool (ss.any (wrongB pn n))) ∧ w' = w := by
  have HI : Hid _ := indexR_any13 v ss B F pn pc n nc pa na w h hp hpn hb hf
  obtain ⟨ad, c, rfl, _, _⟩ := h.form13
  clear h hb hp hf
  go_enter Try.func47, Try.ntmps47
  go_wp2_with (go_at_call 52; refine Calls.mono HI.out ?_; rintro e w1 ⟨k, rfl, HD, hw1⟩; rw [hw1]; clear hw1)
  go_ret
  exact ⟨ret_bool HD.out, rfl⟩
end Go.Proofs.Ytcojlcbljhnbgaa
