/- package dfa: letters, isList, isRight of any automaton. -/
import Derived.Test.YtbbfajbnklgncaaHD
import Derived.Test.YtbbfajbnklgncaaWd
namespace Go.Proofs.Ytbbfajbnklgncaa
open Go.RowKit Go.Shelf

/-- How many letters there are. -/
theorem letters_any13 (ad : Option Addr) (n c : Nat) (w : World) (hn : n ≤ 62) : Calls Try.prog 75 #[.slice ad n c] w fun e w' => e = .returned (.int .i64 ((2 ^ n : Nat) : Int)) ∧ w' = w := by
  have h1 : (0 : Int) ≤ (n : Int) := by omega
  have h2 : (n : Int) ≤ 62 := by omega
  have h3 : (2 : Nat) ^ n ≤ 2 ^ 62 := Nat.pow_le_pow_right (by omega) hn
  have HW : Hid (wrap64 ((2 : Int) ^ n) = ((2 ^ n : Nat) : Int)) := by
    show _ = _
    rw [show ((2 : Int) ^ n) = ((2 ^ n : Nat) : Int) by norm_cast]
    generalize (2 ^ n : Nat) = t at h3 ⊢
    unfold wrap64
    omega
  go_enter Try.func75, Try.ntmps75
  go_wp2_with fail
  rw [HW.out]
  go_ret
  exact ⟨rfl, rfl⟩
theorem errG_list (ps : List ByteArray) : errG ((⟨ps, 0, [], [], []⟩ : Gen).with []) = if listB ps then 0 else 100 := by
  have : rightG ((⟨ps, 0, [], [], []⟩ : Gen).with []) = listB ps := by
    unfold rightG
    have e1 : statesB ([] : List Int) 0 = true := rfl
    have e2 : edgesB ((⟨ps, 0, [], [], []⟩ : Gen).with []) = true := rfl
    have e3 : setsB ((⟨ps, 0, [], [], []⟩ : Gen).with []).sets 0 = true := rfl
    show (listB ps && decide ((0 : Int) ≤ 0) && decide ((0 : Int) ≤ 65536) && statesB [] 0 && edgesB ((⟨ps, 0, [], [], []⟩ : Gen).with []) && setsB ((⟨ps, 0, [], [], []⟩ : Gen).with []).sets 0) = listB ps
    rw [e1, e2, e3]
    simp
  unfold errG
  rw [this]
theorem isList_any13 (v : Value) (ps : List ByteArray) (w : World) (h : Strs w v ps) : Calls Try.prog 72 #[v] w fun e w' => e = .returned (.bool (listB ps)) ∧ Kept [] w w' := by
  have hI : Ints w (.slice none 0 0) [] := ⟨by simp, by simp, .inl ⟨⟨none, 0, rfl, by unfold maxLen; omega, fun _ => rfl⟩, rfl⟩⟩
  have hE : Edgs w (.slice none 0 0) [] := by
    refine ⟨by simp, by simp, .inl ⟨rfl, rfl⟩⟩
  have HC : Hid (Calls Try.prog 79 #[.agg #[v, .int .i64 0, .slice none 0 0, .slice none 0 0, .slice none 0 0]] w fun e w' => e = .returned (.int .i64 ((if listB ps then 0 else 100 : Nat) : Int)) ∧ Kept [] w w') := by
    have := check_anyB v (.slice none 0 0) (.slice none 0 0) (.slice none 0 0) ⟨ps, 0, [], [], []⟩ [] w ⟨h, hI, hE, hI, show (-9223372036854775808 : Int) ≤ 0 ∧ (0 : Int) ≤ 9223372036854775807 by omega⟩
    rw [errG_list] at this
    exact this
  obtain ⟨ad, c, rfl, _, _⟩ := h.form
  obtain ⟨r, hr⟩ : ∃ r, listB ps = r := ⟨_, rfl⟩
  rw [hr] at HC ⊢
  clear h hI hE hr
  cases r
  all_goals
    go_enter Try.func72, Try.ntmps72
    go_wp2_with (go_at_call 79; refine HC.out.mono ?_; rintro e w1 ⟨rfl, hk⟩; have HK : Hid (Kept [] w w1) := hk; clear hk)
    go_ret
    exact ⟨rfl, HK.out⟩
/-- A number that is no state. -/
def outB13 (n : Nat) (s : Int) : Bool := decide (s < 0) || decide ((n : Int) ≤ s)
theorem isNone_any (s : Int) (B n nc : Nat) (na : Option Addr) (w : World) (hb : w.cell? ⟨B, 1, none⟩ = some (.slice na n nc)) :
    Calls Try.prog 73 #[.int .i64 s, .pointer (some ⟨B, 0, none⟩)] w fun e w' => e = .returned (.bool (outB13 n s)) ∧ w' = w := by
  unfold outB13
  by_cases h : s < 0
  · have e1 : decide (s < 0) = true := by simpa using h
    go_enter Try.func73, Try.ntmps73
    go_wp2_with fail
    go_ret
    exact ⟨by first | (simp; done) | (simp [h]; done), rfl⟩
  · have e1 : decide (s < 0) = false := by simpa using h
    go_enter Try.func73, Try.ntmps73
    go_wp2_with fail
    go_ret
    exact ⟨by first | (simp; done) | (simp [h]; done), rfl⟩
theorem any_no {α : Type} {p : α → Bool} {xs : List α} (h : ∀ i (hi : i < xs.length), p xs[i] = false) : xs.any p = false := by
  rw [List.any_eq_false]
  intro x hx
  obtain ⟨i, hi, rfl⟩ := List.getElem_of_mem hx
  simp [h i hi]
theorem any_yes {α : Type} {p : α → Bool} {xs : List α} {i : Nat} (hi : i < xs.length) (h : p xs[i] = true) : xs.any p = true := List.any_eq_true.2 ⟨xs[i], List.getElem_mem hi, h⟩
set_option maxHeartbeats 2000000 in
set_option maxRecDepth 10000 in
theorem indexI_any13 (v : Value) (xs : List Int) (B n nc : Nat) (na : Option Addr) (w : World) (h : Ints w v xs) (hb : w.cell? ⟨B, 1, none⟩ = some (.slice na n nc)) :
    Calls Try.prog 78 #[v, .func (.func 73) #[] #[.pointer (some ⟨B, 0, none⟩)]] w fun e w' => ∃ k : Int, e = .returned (.int .i64 k) ∧ Hid (decide (0 ≤ k) = xs.any (outB13 n)) ∧ w' = w := by
  have hfew := h.few
  rcases h.lie with ⟨⟨ad, c, rfl, _, _⟩, rfl⟩ | ⟨b, o, c, rfl, hc1, hc2, hcell⟩
  · clear h hfew
    go_enter Try.func78, Try.ntmps78
    go_wp2_with fail
    refine wp_loop_rounds 1 ?_
    rw [rounds_succ]
    go_wp2
    go_ret
    exact ⟨-1, rfl, rfl, rfl⟩
  · have HCE : Hid (∀ i (h : i < xs.length), w.cell? ⟨b, o + i, none⟩ = some (.int .i64 xs[i])) := hcell
    have HB : Hid (w.cell? ⟨B, 1, none⟩ = some (.slice na n nc)) := hb
    clear h hcell hb
    go_enter Try.func78, Try.ntmps78
    go_wp2_with fail
    go_loopw [8] (fun i wr => ∃ k : Nat, i = .int .i64 (k : Nat) ∧ k ≤ xs.length ∧ wr = w ∧ Hid (∀ j (h : j < xs.length), j < k → outB13 n xs[j] = false)) (fun i _ => xs.length - (intOf i).toNat)
    case atStart => exact ⟨0, rfl, Nat.zero_le _, rfl, fun j _ h => by omega⟩
    case round =>
      obtain ⟨k, rfl, hk, hwr, HA⟩ := hrel
      have HWR : Hid (wr = w) := hwr
      clear hwr
      by_cases hlt : k < xs.length
      · have z0 : (k : Int) < (xs.length : Int) := by omega
        obtain ⟨s, hs⟩ : ∃ s, xs[k] = s := ⟨_, rfl⟩
        obtain ⟨sb, hsb⟩ : ∃ sb, outB13 n s = sb := ⟨_, rfl⟩
        have HN : Hid (Calls Try.prog 73 #[.int .i64 s, .pointer (some ⟨B, 0, none⟩)] wr fun e w' => e = .returned (.bool sb) ∧ w' = wr) := by rw [← hsb, HWR.out]; exact isNone_any s B n nc na w HB.out
        have c0 : wr.cell? ⟨b, o + k, none⟩ = some (.int .i64 s) := by rw [HWR.out, ← hs]; exact HCE.out k hlt
        have HSB : Hid (outB13 n xs[k] = sb) := by show _ = _; rw [hs]; exact hsb
        clear hs hsb
        cases sb with
        | true =>
          have HY : Hid (xs.any (outB13 n) = true) := any_yes hlt HSB.out
          go_wp2_with (go_at_call 73; refine HN.out.mono ?_; rintro e w1 ⟨rfl, hw1⟩; rw [hw1]; clear hw1)
          go_ret
          exact ⟨k, rfl, by show decide (0 ≤ (k : Int)) = _; rw [HY.out]; simp, HWR.out⟩
        | false =>
          have HY : Hid (∀ j (h : j < xs.length), j < k + 1 → outB13 n xs[j] = false) := fun j hj h' => by
            rcases Nat.lt_or_ge j k with q | q
            · exact HA.out j hj q
            · obtain rfl : j = k := by omega
              exact HSB.out
          go_wp2_with (go_at_call 73; refine HN.out.mono ?_; rintro e w1 ⟨rfl, hw1⟩; rw [hw1]; clear hw1)
          go_roundw
          case rel => exact ⟨k + 1, by go_num, by omega, HWR.out, HY.out⟩
          case measure => simp [intOf]; omega
      · obtain rfl : k = xs.length := by omega
        have z0 : ¬ ((xs.length : Int) < (xs.length : Int)) := by omega
        have HY : Hid (xs.any (outB13 n) = false) := any_no (fun i hi => HA.out i hi hi)
        go_wp2
        go_ret
        exact ⟨-1, rfl, by show decide ((0 : Int) ≤ -1) = _; rw [HY.out]; rfl, HWR.out⟩
theorem containsI_any13 (v : Value) (xs : List Int) (B n nc : Nat) (na : Option Addr) (w : World) (h : Ints w v xs) (hb : w.cell? ⟨B, 1, none⟩ = some (.slice na n nc)) :
    Calls Try.prog 68 #[v, .func (.func 73) #[] #[.pointer (some ⟨B, 0, none⟩)]] w fun e w' => e = .returned (.bool (xs.any (outB13 n))) ∧ w' = w := by
  have HI : Hid _ := indexI_any13 v xs B n nc na w h hb
  obtain ⟨ad, c, rfl, _, _⟩ := h.form
  clear h hb
  go_enter Try.func68, Try.ntmps68
  go_wp2_with (go_at_call 78; refine Calls.mono HI.out ?_; rintro e w1 ⟨k, rfl, HD, hw1⟩; rw [hw1]; clear hw1)
  go_ret
  exact ⟨ret_bool HD.out, rfl⟩
theorem Rowss.form13 {W : World} {v : Value} {ss : List (List Int)} (h : Rowss W v ss) : ∃ ad c, v = .slice ad ss.length c ∧ ss.length ≤ c ∧ c ≤ maxLen := by
  rcases h.lie with ⟨rfl, rfl⟩ | ⟨b, o, c, rfl, h2, h3, _⟩
  · exact ⟨none, 0, rfl, Nat.le_refl _, by unfold maxLen; omega⟩
  · exact ⟨_, c, rfl, h2, h3⟩
/-- A row that is wrong. -/
def wrongB (pn n : Nat) (xs : List Int) : Bool := !decide (xs.length = 2 ^ pn) || xs.any (outB13 n)
theorem isWrong_any (v : Value) (xs : List Int) (B F pn pc n nc : Nat) (pa na : Option Addr) (w : World) (h : Ints w v xs) (hp : w.cell? ⟨B, 0, none⟩ = some (.slice pa pn pc)) (hpn : pn ≤ 62) (hb : w.cell? ⟨B, 1, none⟩ = some (.slice na n nc)) (hf : w.cell? ⟨F, 0, none⟩ = some (.func (.func 73) #[] #[.pointer (some ⟨B, 0, none⟩)])) :
    Calls Try.prog 74 #[v, .pointer (some ⟨B, 0, none⟩), .pointer (some ⟨F, 0, none⟩)] w fun e w' => e = .returned (.bool (wrongB pn n xs)) ∧ w' = w := by
  have HL : Hid (Calls Try.prog 75 #[.slice pa pn pc] w fun e w' => e = .returned (.int .i64 ((2 ^ pn : Nat) : Int)) ∧ w' = w) := letters_any13 pa pn pc w hpn
  have HC : Hid (Calls Try.prog 68 #[v, .func (.func 73) #[] #[.pointer (some ⟨B, 0, none⟩)]] w fun e w' => e = .returned (.bool (xs.any (outB13 n))) ∧ w' = w) := containsI_any13 v xs B n nc na w h hb
  obtain ⟨ad, c, rfl, _, _⟩ := h.form
  unfold wrongB
  obtain ⟨tp, htp⟩ : ∃ tp, 2 ^ pn = tp := ⟨_, rfl⟩
  rw [htp] at HL ⊢
  obtain ⟨r, hr⟩ : ∃ r, xs.any (outB13 n) = r := ⟨_, rfl⟩
  rw [hr] at HC ⊢
  obtain ⟨xl, hxl⟩ : ∃ xl, xs.length = xl := ⟨_, rfl⟩
  rw [hxl] at HC ⊢
  clear h hb htp hr hxl
  by_cases he : xl = tp
  · subst he
    have e1 : ((xl : Int) != (xl : Int)) = false := by simp
    go_enter Try.func74, Try.ntmps74
    go_wp2_with (first
      | (go_at_call 75; refine HL.out.mono ?_; rintro e w1 ⟨rfl, hw1⟩; rw [hw1]; clear hw1)
      | (go_at_call 68; refine HC.out.mono ?_; rintro e w1 ⟨rfl, hw1⟩; rw [hw1]; clear hw1))
    go_ret
    exact ⟨ret_bool (by simp), rfl⟩
  · have e1 : ((xl : Int) != (tp : Int)) = true := by simp; omega
    go_enter Try.func74, Try.ntmps74
    go_wp2_with (first
      | (go_at_call 75; refine HL.out.mono ?_; rintro e w1 ⟨rfl, hw1⟩; rw [hw1]; clear hw1))
    go_ret
    exact ⟨ret_bool (by simp [he]), rfl⟩
set_option maxHeartbeats 2000000 in
set_option maxRecDepth 10000 in
theorem indexR_any13 (v : Value) (ss : List (List Int)) (B F pn pc n nc : Nat) (pa na : Option Addr) (w : World) (h : Rowss w v ss) (hp : w.cell? ⟨B, 0, none⟩ = some (.slice pa pn pc)) (hpn : pn ≤ 62) (hb : w.cell? ⟨B, 1, none⟩ = some (.slice na n nc)) (hf : w.cell? ⟨F, 0, none⟩ = some (.func (.func 73) #[] #[.pointer (some ⟨B, 0, none⟩)])) :
    Calls Try.prog 80 #[v, .func (.func 74) #[] #[.pointer (some ⟨B, 0, none⟩), .pointer (some ⟨F, 0, none⟩)]] w fun e w' => ∃ k : Int, e = .returned (.int .i64 k) ∧ Hid (decide (0 ≤ k) = ss.any (wrongB pn n)) ∧ w' = w := by
  have hfew := h.few
  rcases h.lie with ⟨rfl, rfl⟩ | ⟨b, o, c, rfl, hc1, hc2, hcell⟩
  · clear h hfew
    go_enter Try.func80, Try.ntmps80
    go_wp2_with fail
    refine wp_loop_rounds 1 ?_
    rw [rounds_succ]
    go_wp2
    go_ret
    exact ⟨-1, rfl, rfl, rfl⟩
  · have HCE : Hid (∀ i (h : i < ss.length), ∃ u, w.cell? ⟨b, o + i, none⟩ = some u ∧ Ints w u ss[i]) := hcell
    have HW : Hid (∀ u xs, Ints w u xs → Calls Try.prog 74 #[u, .pointer (some ⟨B, 0, none⟩), .pointer (some ⟨F, 0, none⟩)] w fun e w' => e = .returned (.bool (wrongB pn n xs)) ∧ w' = w) := fun u xs hu => isWrong_any u xs B F pn pc n nc pa na w hu hp hpn hb hf
    clear h hcell hb hp hf
    go_enter Try.func80, Try.ntmps80
    go_wp2_with fail
    go_loopw [8] (fun i wr => ∃ k : Nat, i = .int .i64 (k : Nat) ∧ k ≤ ss.length ∧ wr = w ∧ Hid (∀ j (h : j < ss.length), j < k → wrongB pn n ss[j] = false)) (fun i _ => ss.length - (intOf i).toNat)
    case atStart => exact ⟨0, rfl, Nat.zero_le _, rfl, fun j _ h => by omega⟩
    case round =>
      obtain ⟨k, rfl, hk, hwr, HA⟩ := hrel
      have HWR : Hid (wr = w) := hwr
      clear hwr
      by_cases hlt : k < ss.length
      · have z0 : (k : Int) < (ss.length : Int) := by omega
        obtain ⟨u, hu1, hu2⟩ := HCE.out k hlt
        obtain ⟨ua, uc, rfl, _, _⟩ := hu2.form
        obtain ⟨sb, hsb⟩ : ∃ sb, wrongB pn n ss[k] = sb := ⟨_, rfl⟩
        have HN : Hid (Calls Try.prog 74 #[.slice ua ss[k].length uc, .pointer (some ⟨B, 0, none⟩), .pointer (some ⟨F, 0, none⟩)] wr fun e w' => e = .returned (.bool sb) ∧ w' = wr) := by rw [← hsb, HWR.out]; exact HW.out _ _ hu2
        obtain ⟨un, hun⟩ : ∃ un, ss[k].length = un := ⟨_, rfl⟩
        have c0 : wr.cell? ⟨b, o + k, none⟩ = some (.slice ua un uc) := by rw [HWR.out, ← hun]; exact hu1
        rw [hun] at HN
        have HSB : Hid (wrongB pn n ss[k] = sb) := hsb
        clear hu1 hu2 hun hsb
        cases sb with
        | true =>
          have HY : Hid (ss.any (wrongB pn n) = true) := any_yes hlt HSB.out
          go_wp2_with (go_at_call 74; refine HN.out.mono ?_; rintro e w1 ⟨rfl, hw1⟩; rw [hw1]; clear hw1)
          go_ret
          exact ⟨k, rfl, by show decide (0 ≤ (k : Int)) = _; rw [HY.out]; simp, HWR.out⟩
        | false =>
          have HY : Hid (∀ j (h : j < ss.length), j < k + 1 → wrongB pn n ss[j] = false) := fun j hj h' => by
            rcases Nat.lt_or_ge j k with q | q
            · exact HA.out j hj q
            · obtain rfl : j = k := by omega
              exact HSB.out
          go_wp2_with (go_at_call 74; refine HN.out.mono ?_; rintro e w1 ⟨rfl, hw1⟩; rw [hw1]; clear hw1)
          go_roundw
          case rel => exact ⟨k + 1, by go_num, by omega, HWR.out, HY.out⟩
          case measure => simp [intOf]; omega
      · obtain rfl : k = ss.length := by omega
        have z0 : ¬ ((ss.length : Int) < (ss.length : Int)) := by omega
        have HY : Hid (ss.any (wrongB pn n) = false) := any_no (fun i hi => HA.out i hi hi)
        go_wp2
        go_ret
        exact ⟨-1, rfl, by show decide ((0 : Int) ≤ -1) = _; rw [HY.out]; rfl, HWR.out⟩
theorem containsR_any13 (v : Value) (ss : List (List Int)) (B F pn pc n nc : Nat) (pa na : Option Addr) (w : World) (h : Rowss w v ss) (hp : w.cell? ⟨B, 0, none⟩ = some (.slice pa pn pc)) (hpn : pn ≤ 62) (hb : w.cell? ⟨B, 1, none⟩ = some (.slice na n nc)) (hf : w.cell? ⟨F, 0, none⟩ = some (.func (.func 73) #[] #[.pointer (some ⟨B, 0, none⟩)])) :
    Calls Try.prog 76 #[v, .func (.func 74) #[] #[.pointer (some ⟨B, 0, none⟩), .pointer (some ⟨F, 0, none⟩)]] w fun e w' => e = .returned (.bool (ss.any (wrongB pn n))) ∧ w' = w := by
  have HI : Hid _ := indexR_any13 v ss B F pn pc n nc pa na w h hp hpn hb hf
  obtain ⟨ad, c, rfl, _, _⟩ := h.form13
  clear h hb hp hf
  go_enter Try.func76, Try.ntmps76
  go_wp2_with (go_at_call 80; refine Calls.mono HI.out ?_; rintro e w1 ⟨k, rfl, HD, hw1⟩; rw [hw1]; clear hw1)
  go_ret
  exact ⟨ret_bool HD.out, rfl⟩
end Go.Proofs.Ytbbfajbnklgncaa

/- package dfa: isRight, Check, Run, Has of any automaton. -/
namespace Go.Proofs.Ytbbfajbnklgncaa
open Go.RowKit Go.Shelf

def rightD (ps : List ByteArray) (next : List (List Int)) (ll : Nat) : Bool := listB ps && !decide (next.length = 0) && decide (ll = next.length) && !(next.any (wrongB ps.length next.length))
theorem listB_len {ps : List ByteArray} (h : listB ps = true) : ps.length ≤ 8 := by
  unfold listB at h
  simp at h
  exact h.1
set_option maxHeartbeats 2000000 in
set_option maxRecDepth 10000 in
theorem isRight_any13 (pv nv : Value) (ps : List ByteArray) (next : List (List Int)) (la : Option Addr) (ll lc : Nat) (w : World) (hp : Strs w pv ps) (hn : Rowss w nv next) :
    Calls Try.prog 62 #[.agg #[pv, nv, .slice la ll lc]] w fun e w' => e = .returned (.bool (rightD ps next ll)) ∧ Kept [] w w' := by
  obtain ⟨pa, pc, rfl, _, _⟩ := hp.form
  obtain ⟨na, nc, rfl, _, _⟩ := hn.form13
  obtain ⟨V, hV⟩ : ∃ V, w.alloc (.cells #[.slice pa ps.length pc, .slice na next.length nc, .slice la ll lc] 96) = V := ⟨_, rfl⟩
  have kV : Kept [] w V := by rw [← hV]; exact (Kept.refl [] w).alloc _
  have bV : V.heap[w.heap.size]? = some (.cells #[.slice pa ps.length pc, .slice na next.length nc, .slice la ll lc] 96 (0, 0)) := by rw [← hV]; exact al0 _ _
  have HV : Hid (_ = V) := hV
  have HL : Hid (Calls Try.prog 72 #[.slice pa ps.length pc] V fun e w' => e = .returned (.bool (listB ps)) ∧ Kept [] V w') := isList_any13 _ ps V (hp.kept kV)
  have HCC : Hid (∀ W, Kept [] V W → W.cell? ⟨w.heap.size, 0, none⟩ = some (.slice pa ps.length pc) ∧ W.cell? ⟨w.heap.size, 1, none⟩ = some (.slice na next.length nc) ∧ W.cell? ⟨w.heap.size, 2, none⟩ = some (.slice la ll lc)) := fun W k => ⟨cell_kept0 k ((cell_of bV 0).trans rfl), cell_kept0 k ((cell_of bV 1).trans rfl), cell_kept0 k ((cell_of bV 2).trans rfl)⟩
  have HR : Hid (∀ W F, Kept [] V W → ps.length ≤ 62 → W.cell? ⟨F, 0, none⟩ = some (.func (.func 73) #[] #[.pointer (some ⟨w.heap.size, 0, none⟩)]) → Calls Try.prog 76 #[.slice na next.length nc, .func (.func 74) #[] #[.pointer (some ⟨w.heap.size, 0, none⟩), .pointer (some ⟨F, 0, none⟩)]] W fun e w' => e = .returned (.bool (next.any (wrongB ps.length next.length))) ∧ w' = W) := fun W F k h62 hf =>
    containsR_any13 _ next w.heap.size F ps.length pc next.length nc pa na W ((hn.kept kV).kept k) (HCC.out W k).1 h62 (HCC.out W k).2.1 hf
  have HKV : Hid (Kept [] w V) := kV
  obtain ⟨v0, v1, v2⟩ := HCC.out V (Kept.refl [] V)
  unfold rightD
  obtain ⟨lb, hlb⟩ : ∃ lb, listB ps = lb := ⟨_, rfl⟩
  have H62 : Hid (lb = true → ps.length ≤ 62) := fun q => by have := listB_len (hlb.trans q); omega
  obtain ⟨wr, hwr⟩ : ∃ wr, next.any (wrongB ps.length next.length) = wr := ⟨_, rfl⟩
  rw [hwr] at HR ⊢
  rw [hlb] at HL ⊢
  obtain ⟨pn, hpn⟩ : ∃ pn, ps.length = pn := ⟨_, rfl⟩
  obtain ⟨nn, hnn⟩ : ∃ nn, next.length = nn := ⟨_, rfl⟩
  rw [hpn] at HL HCC HR H62 v0 HV ⊢
  rw [hnn] at HCC HR v1 HV ⊢
  clear hp hn hV kV bV hlb hwr hpn hnn
  cases lb with
  | false =>
    go_enter Try.func62, Try.ntmps62
    go_upto_region 1 with fail
    rw [HV.out]
    go_wp2_with (go_at_call 72; refine HL.out.mono ?_; rintro e W1 ⟨rfl, hk⟩; have HK : Hid (Kept [] w W1) := keptB HKV.out hk; clear hk)
    go_ret
    exact ⟨ret_bool (by simp), HK.out⟩
  | true =>
    by_cases h0 : nn = 0
    · subst h0
      go_enter Try.func62, Try.ntmps62
      go_upto_region 1 with fail
      rw [HV.out]
      go_wp2_with (go_at_call 72; refine HL.out.mono ?_; rintro e W1 ⟨rfl, hk⟩; have HK : Hid (Kept [] w W1) := keptB HKV.out hk; obtain ⟨x0, x1, x2⟩ := HCC.out W1 hk; clear hk)
      go_ret
      exact ⟨ret_bool (by simp), HK.out⟩
    · have e0 : ((nn : Int) == 0) = false := by rw [beq_eq_false_iff_ne]; omega
      by_cases h1 : ll = nn
      · subst h1
        have e1 : ((ll : Int) != (ll : Int)) = false := by simp
        go_enter Try.func62, Try.ntmps62
        go_upto_region 1 with fail
        rw [HV.out]
        go_upto_region 3 with (go_at_call 72; refine HL.out.mono ?_; rintro e W1 ⟨rfl, hk⟩; have HK : Hid (Kept [] V W1) := hk; obtain ⟨x0, x1, x2⟩ := HCC.out W1 hk; clear hk)
        obtain ⟨W2, hW2⟩ : ∃ W2, W1.alloc (.cells #[.func (.func 73) #[] #[.pointer (some ⟨w.heap.size, 0, none⟩)]] 112) = W2 := ⟨_, rfl⟩
        have kW2 : Kept [] W1 W2 := by rw [← hW2]; exact (Kept.refl [] W1).alloc _
        have f0 : W2.cell? ⟨W1.heap.size, 0, none⟩ = some (.func (.func 73) #[] #[.pointer (some ⟨w.heap.size, 0, none⟩)]) := by rw [← hW2]; exact (cell_of (al0 _ _) 0).trans rfl
        have HK2 : Hid (Kept [] V W2) := keptB HK.out kW2
        have HCO : Hid (Calls Try.prog 76 #[.slice na ll nc, .func (.func 74) #[] #[.pointer (some ⟨w.heap.size, 0, none⟩), .pointer (some ⟨W1.heap.size, 0, none⟩)]] W2 fun e w' => e = .returned (.bool wr) ∧ w' = W2) := HR.out W2 W1.heap.size HK2.out (H62.out (by first | trivial | rfl)) f0
        obtain ⟨y0, y1, y2⟩ := HCC.out W2 HK2.out
        have HW2 : Hid (_ = W2) := hW2
        clear hW2 kW2 f0 x0 x1 x2
        go_upto_region 4 with fail
        rw [HW2.out]
        go_wp2_with (go_at_call 76; refine HCO.out.mono ?_; rintro e W3 ⟨rfl, hw3⟩; rw [hw3]; clear hw3)
        go_ret
        exact ⟨ret_bool (by simp [h0]), keptB HKV.out HK2.out⟩
      · have e1 : ((ll : Int) != (nn : Int)) = true := by simp; omega
        go_enter Try.func62, Try.ntmps62
        go_upto_region 1 with fail
        rw [HV.out]
        go_wp2_with (go_at_call 72; refine HL.out.mono ?_; rintro e W1 ⟨rfl, hk⟩; have HK : Hid (Kept [] w W1) := keptB HKV.out hk; obtain ⟨x0, x1, x2⟩ := HCC.out W1 hk; clear hk)
        go_ret
        exact ⟨ret_bool (by simp [h1]), HK.out⟩
theorem check_any13 (pv nv : Value) (ps : List ByteArray) (next : List (List Int)) (la : Option Addr) (ll lc : Nat) (w : World) (hp : Strs w pv ps) (hn : Rowss w nv next) :
    Calls Try.prog 49 #[.agg #[pv, nv, .slice la ll lc]] w fun e w' => e = .returned (.int .i64 ((if rightD ps next ll then 0 else 130 : Nat) : Int)) ∧ Kept [] w w' := by
  have HR : Hid (∀ W, Kept [] w W → Calls Try.prog 62 #[.agg #[pv, nv, .slice la ll lc]] W fun e w' => e = .returned (.bool (rightD ps next ll)) ∧ Kept [] W w') := fun W k => isRight_any13 pv nv ps next la ll lc W (hp.kept k) (hn.kept k)
  obtain ⟨pa, pc, rfl, _, _⟩ := hp.form
  obtain ⟨na, nc, rfl, _, _⟩ := hn.form13
  have HK : Hid (Kept [] w (w.alloc (.cells #[.slice pa ps.length pc, .slice na next.length nc, .slice la ll lc] 96))) := (Kept.refl [] w).alloc _
  obtain ⟨r, hr⟩ : ∃ r, rightD ps next ll = r := ⟨_, rfl⟩
  rw [hr] at HR ⊢
  clear hp hn hr
  cases r
  all_goals
    go_enter Try.func49, Try.ntmps49
    go_wp2_with (go_at_call 62; refine (HR.out _ HK.out).mono ?_; rintro e W1 ⟨rfl, hk⟩; have HK1 : Hid (Kept [] w W1) := keptB HK.out hk; clear hk)
    go_ret
    exact ⟨rfl, HK1.out⟩
/-- A letter that is none. -/
def badLet (pn : Nat) (u : Nat) : Bool := decide (2 ^ pn ≤ u)
theorem Lets.form13 {W : World} {v : Value} {us : List Nat} (h : Lets W v us) : ∃ ad c, v = .slice ad us.length c := by
  rcases h.lie with ⟨rfl, rfl⟩ | ⟨b, o, c, rfl, _⟩
  · exact ⟨none, 0, rfl⟩
  · exact ⟨_, c, rfl⟩
/-- The state behind letters. -/
def stpD (next : List (List Int)) (s u : Nat) : Nat := ((next.getD s []).getD u 0).toNat
def runD (next : List (List Int)) (us : List Nat) : Nat := us.foldl (stpD next) 0
theorem right_at {ps : List ByteArray} {next : List (List Int)} {ll s u : Nat} (h : rightD ps next ll = true) (hs : s < next.length) (hu : badLet ps.length u = false) : ∃ hr : u < (next[s]).length, 0 ≤ (next[s])[u] ∧ (next[s])[u] < (next.length : Int) ∧ (next[s])[u] = (stpD next s u : Nat) := by
  unfold rightD at h
  simp only [Bool.and_eq_true, Bool.not_eq_true'] at h
  have hw := h.2
  rw [List.any_eq_false] at hw
  have h1 := hw next[s] (List.getElem_mem hs)
  unfold wrongB at h1
  simp only [Bool.or_eq_true, Bool.not_eq_true', decide_eq_false_iff_not, not_or, Decidable.not_not, Bool.not_eq_true] at h1
  unfold badLet at hu
  simp at hu
  have hr : u < (next[s]).length := by rw [h1.1]; exact hu
  have h2 := h1.2
  rw [List.any_eq_false] at h2
  have h3 := h2 (next[s])[u] (List.getElem_mem hr)
  unfold outB13 at h3
  simp at h3
  refine ⟨hr, h3.1, h3.2, ?_⟩
  unfold stpD
  rw [List.getD_eq_getElem?_getD (l := next), List.getElem?_eq_getElem hs]
  simp only [Option.getD_some]
  rw [List.getD_eq_getElem?_getD, List.getElem?_eq_getElem hr]
  simp only [Option.getD_some]
  omega
def runE (ps : List ByteArray) (next : List (List Int)) (ll : Nat) (us : List Nat) : Nat := if rightD ps next ll then (if us.any (badLet ps.length) then 1 else 0) else 130
def runS (ps : List ByteArray) (next : List (List Int)) (ll : Nat) (us : List Nat) : Nat := if runE ps next ll us = 0 then runD next us else 0
end Go.Proofs.Ytbbfajbnklgncaa

/- package dfa: Run, Has of any automaton. -/
namespace Go.Proofs.Ytbbfajbnklgncaa
open Go.RowKit Go.Shelf

theorem any_false_at {α : Type} {p : α → Bool} {xs : List α} (h : xs.any p = false) {i : Nat} (hi : i < xs.length) : p xs[i] = false := by
  rw [List.any_eq_false] at h
  simpa using h xs[i] (List.getElem_mem hi)
theorem runD_take {next : List (List Int)} {us : List Nat} {k : Nat} (hk : k < us.length) : runD next (us.take (k + 1)) = stpD next (runD next (us.take k)) us[k] := by
  unfold runD
  rw [List.take_succ_eq_append_getElem hk, List.foldl_append]
  rfl
end Go.Proofs.Ytbbfajbnklgncaa

/- package dfa: Has of any automaton; a row of bools in memory. -/
namespace Go.Proofs.Ytbbfajbnklgncaa
open Go.RowKit Go.Shelf

/-- A row of bools. -/
structure Bls (W : World) (v : Value) (xs : List Bool) : Prop where
  few : xs.length ≤ 140737488351232
  lie : (v = .slice none 0 0 ∧ xs = []) ∨ ∃ b o c, v = .slice (some ⟨b, o, none⟩) xs.length c ∧ xs.length ≤ c ∧ c ≤ maxLen ∧ ∀ i, i < xs.length → W.cell? ⟨b, o + i, none⟩ = some (.bool (xs.getD i false))
theorem Bls.kept {W W' : World} {v : Value} {xs : List Bool} (h : Bls W v xs) (k : Kept [] W W') : Bls W' v xs := by
  refine ⟨h.few, ?_⟩
  rcases h.lie with h1 | ⟨b, o, c, h1, h2, h3, h4⟩
  · exact .inl h1
  · exact .inr ⟨b, o, c, h1, h2, h3, fun i hi => cell_kept0 k (h4 i hi)⟩
theorem Bls.nil (W : World) : Bls W (.slice none 0 0) [] := ⟨by simp, .inl ⟨rfl, rfl⟩⟩
theorem Bls.form {W : World} {v : Value} {xs : List Bool} (h : Bls W v xs) : ∃ ad c, v = .slice ad xs.length c := by
  rcases h.lie with ⟨rfl, rfl⟩ | ⟨b, o, c, rfl, _⟩
  · exact ⟨none, 0, rfl⟩
  · exact ⟨_, c, rfl⟩
/-- What Has answers. -/
def hasE (ps : List ByteArray) (next : List (List Int)) (lv : List Bool) (us : List Nat) : Bool :=
  runE ps next lv.length us == 0 && lv.getD (runS ps next lv.length us) false
end Go.Proofs.Ytbbfajbnklgncaa

/- package moore: lists of verdicts; Check and Run of any machine. -/
namespace Go.Proofs.Ytbbfajbnklgncaa
open Go.RowKit Go.Shelf

/-- A list of verdicts in memory. -/
structure Vds (W : World) (v : Value) (xs : List Nat) : Prop where
  few : xs.length ≤ 140737488351232
  small : ∀ x ∈ xs, x < 256
  lie : (v = .slice none 0 0 ∧ xs = []) ∨ ∃ b o c, v = .slice (some ⟨b, o, none⟩) xs.length c ∧ xs.length ≤ c ∧ c ≤ maxLen ∧ ∀ i, i < xs.length → W.cell? ⟨b, o + i, none⟩ = some (.int .u8 (xs.getD i 0 : Nat))
theorem Vds.kept {W W' : World} {v : Value} {xs : List Nat} (h : Vds W v xs) (k : Kept [] W W') : Vds W' v xs := by
  refine ⟨h.few, h.small, ?_⟩
  rcases h.lie with h1 | ⟨b, o, c, h1, h2, h3, h4⟩
  · exact .inl h1
  · exact .inr ⟨b, o, c, h1, h2, h3, fun i hi => cell_kept0 k (h4 i hi)⟩
theorem Vds.form {W : World} {v : Value} {xs : List Nat} (h : Vds W v xs) : ∃ ad c, v = .slice ad xs.length c := by
  rcases h.lie with ⟨rfl, rfl⟩ | ⟨b, o, c, rfl, _⟩
  · exact ⟨none, 0, rfl⟩
  · exact ⟨_, c, rfl⟩
/-- What is no verdict. -/
def badV (x : Nat) : Bool := decide (x < 1) || decide (3 < x)
theorem isNoneV_any (x : Nat) (w : World) :
    Calls Try.prog 48 #[.int .u8 (x : Nat)] w fun e w' => e = .returned (.bool (badV x)) ∧ w' = w := by
  unfold badV
  by_cases h : x < 1
  · have e1 : decide ((x : Int) < 1) = true := by simp; omega
    have e2 : (x : Int) < 1 := by omega
    go_enter Try.func48, Try.ntmps48
    go_wp2_with fail
    go_ret
    exact ⟨by simp [h], rfl⟩
  · have e1 : decide ((x : Int) < 1) = false := by simp; omega
    have e2 : ¬ ((x : Int) < 1) := by omega
    by_cases h3 : 3 < x
    · have e3 : decide ((3 : Int) < (x : Int)) = true := by simp; omega
      have e4 : (3 : Int) < (x : Int) := by omega
      go_enter Try.func48, Try.ntmps48
      go_wp2_with fail
      go_ret
      exact ⟨by simp, rfl⟩
    · have e3 : decide ((3 : Int) < (x : Int)) = false := by simp; omega
      have e4 : ¬ ((3 : Int) < (x : Int)) := by omega
      go_enter Try.func48, Try.ntmps48
      go_wp2_with fail
      go_ret
      exact ⟨by simp, rfl⟩
set_option maxHeartbeats 2000000 in
set_option maxRecDepth 10000 in
theorem indexV_any14 (v : Value) (xs : List Nat) (w : World) (h : Vds w v xs) :
    Calls Try.prog 63 #[v, .func (.func 48) #[] #[]] w fun e w' => ∃ k : Int, e = .returned (.int .i64 k) ∧ Hid (decide (0 ≤ k) = xs.any badV) ∧ w' = w := by
  have hfew := h.few
  rcases h.lie with ⟨rfl, rfl⟩ | ⟨b, o, c, rfl, hc1, hc2, hcell⟩
  · clear h hfew
    go_enter Try.func63, Try.ntmps63
    go_wp2_with fail
    refine wp_loop_rounds 1 ?_
    rw [rounds_succ]
    go_wp2
    go_ret
    exact ⟨-1, rfl, rfl, rfl⟩
  · have HCE : Hid (∀ i (h : i < xs.length), w.cell? ⟨b, o + i, none⟩ = some (.int .u8 (xs.getD i 0 : Nat))) := hcell
    clear h hcell
    go_enter Try.func63, Try.ntmps63
    go_wp2_with fail
    go_loopw [8] (fun i wr => ∃ k : Nat, i = .int .i64 (k : Nat) ∧ k ≤ xs.length ∧ wr = w ∧ Hid (∀ j (h : j < xs.length), j < k → badV xs[j] = false)) (fun i _ => xs.length - (intOf i).toNat)
    case atStart => exact ⟨0, rfl, Nat.zero_le _, rfl, fun j _ h => by omega⟩
    case round =>
      obtain ⟨k, rfl, hk, hwr, HA⟩ := hrel
      have HWR : Hid (wr = w) := hwr
      clear hwr
      by_cases hlt : k < xs.length
      · have z0 : (k : Int) < (xs.length : Int) := by omega
        obtain ⟨s, hs⟩ : ∃ s, xs[k] = s := ⟨_, rfl⟩
        obtain ⟨sb, hsb⟩ : ∃ sb, badV s = sb := ⟨_, rfl⟩
        have HN : Hid (Calls Try.prog 48 #[.int .u8 (s : Nat)] wr fun e w' => e = .returned (.bool sb) ∧ w' = wr) := by rw [← hsb]; exact isNoneV_any s wr
        have c0 : wr.cell? ⟨b, o + k, none⟩ = some (.int .u8 (s : Nat)) := by
          rw [HWR.out, ← hs, HCE.out k hlt, List.getD_eq_getElem?_getD, List.getElem?_eq_getElem hlt]
          rfl
        have HSB : Hid (badV xs[k] = sb) := by show _ = _; rw [hs]; exact hsb
        clear hs hsb
        cases sb with
        | true =>
          have HY : Hid (xs.any badV = true) := any_yes hlt HSB.out
          go_wp2_with (go_at_call 48; refine HN.out.mono ?_; rintro e w1 ⟨rfl, hw1⟩; rw [hw1]; clear hw1)
          go_ret
          exact ⟨k, rfl, by show decide (0 ≤ (k : Int)) = _; rw [HY.out]; simp, HWR.out⟩
        | false =>
          have HY : Hid (∀ j (h : j < xs.length), j < k + 1 → badV xs[j] = false) := fun j hj h' => by
            rcases Nat.lt_or_ge j k with q | q
            · exact HA.out j hj q
            · obtain rfl : j = k := by omega
              exact HSB.out
          go_wp2_with (go_at_call 48; refine HN.out.mono ?_; rintro e w1 ⟨rfl, hw1⟩; rw [hw1]; clear hw1)
          go_roundw
          case rel => exact ⟨k + 1, by go_num, by omega, HWR.out, HY.out⟩
          case measure => simp [intOf]; omega
      · obtain rfl : k = xs.length := by omega
        have z0 : ¬ ((xs.length : Int) < (xs.length : Int)) := by omega
        have HY : Hid (xs.any badV = false) := any_no (fun i hi => HA.out i hi hi)
        go_wp2
        go_ret
        exact ⟨-1, rfl, by show decide ((0 : Int) ≤ -1) = _; rw [HY.out]; rfl, HWR.out⟩
theorem containsV_any14 (v : Value) (xs : List Nat) (w : World) (h : Vds w v xs) :
    Calls Try.prog 51 #[v, .func (.func 48) #[] #[]] w fun e w' => e = .returned (.bool (xs.any badV)) ∧ w' = w := by
  have HI : Hid _ := indexV_any14 v xs w h
  obtain ⟨ad, c, rfl⟩ := h.form
  clear h
  go_enter Try.func51, Try.ntmps51
  go_wp2_with (go_at_call 63; refine Calls.mono HI.out ?_; rintro e w1 ⟨k, rfl, HD, hw1⟩; rw [hw1]; clear hw1)
  go_ret
  exact ⟨ret_bool HD.out, rfl⟩
end Go.Proofs.Ytbbfajbnklgncaa
