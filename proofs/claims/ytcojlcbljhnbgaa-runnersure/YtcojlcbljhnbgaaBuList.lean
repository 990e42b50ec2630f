/- package buchi: isLetter, compareEdges, areStates, isList. -/
import Derived.Test.YtcojlcbljhnbgaaBuMem
import Derived.LoopN
namespace Go.Proofs.Ytcojlcbljhnbgaa
open Go.RowKit Go.Shelf

/-- Is a number a letter over so many names. -/
def letterB (c k : Nat) : Bool := (c : Int) / 2 ^ (min k 16) == 0
theorem isLetter_any (c : Nat) (ad : Option Addr) (k cap : Nat) (w : World) :
    Calls Try.prog 65 #[.int .u16 (c : Nat), .slice ad k cap] w fun e w' => e = .returned (.bool (letterB c k)) ∧ w' = w := by
  go_enter Try.func65, Try.ntmps65
  go_wp2
  go_ret
  exact ⟨rfl, rfl⟩
/-- The order of edges. -/
def cmpEd (a b : Edg) : Int := if a.fr ≠ b.fr then cmpI a.fr b.fr else if a.to ≠ b.to then cmpI a.to b.to else if a.mu ≠ b.mu then cmpI a.mu b.mu else cmpI a.no b.no
def edgV (e : Edg) : Value := .agg #[.int .i64 e.fr, .int .i64 e.to, .int .u16 (e.mu : Nat), .int .u16 (e.no : Nat)]
set_option maxHeartbeats 1000000 in
theorem compareEdges_any (a b : Edg) (w : World) : Calls Try.prog 66 #[edgV a, edgV b] w fun e w' => e = .returned (.int .i64 (cmpEd a b)) ∧ Kept [] w w' := by
  obtain ⟨a1, a2, a3, a4⟩ := a
  obtain ⟨b1, b2, b3, b4⟩ := b
  unfold cmpEd edgV
  dsimp only
  have HI : Hid (∀ a b W, Calls Try.prog 68 #[.int .i64 a, .int .i64 b] W fun e w' => e = .returned (.int .i64 (cmpI a b)) ∧ w' = W) := fun a b W => compareI_any a b W
  have HU : Hid (∀ (a b : Nat) W, Calls Try.prog 69 #[.int .u16 (a : Nat), .int .u16 (b : Nat)] W fun e w' => e = .returned (.int .i64 (cmpI a b)) ∧ w' = W) := fun a b W => compareU_any a b W
  by_cases h1 : a1 = b1
  · subst h1
    rw [if_neg (by simp)]
    by_cases h2 : a2 = b2
    · subst h2
      rw [if_neg (by simp)]
      by_cases h3 : a3 = b3
      · subst h3
        rw [if_neg (by simp)]
        go_enter Try.func66, Try.ntmps66
        go_wp2_with (first | (go_at_call 68; refine (HI.out _ _ _).mono ?_; rintro e w1 ⟨rfl, rfl⟩) | (go_at_call 69; refine (HU.out _ _ _).mono ?_; rintro e w1 ⟨rfl, rfl⟩))
        go_ret
        exact ⟨rfl, ((Kept.refl [] w).alloc _).alloc _⟩
      · rw [if_pos h3]
        have z3 : ((a3 : Int) == (b3 : Int)) = false := by rw [beq_eq_false_iff_ne]; omega
        go_enter Try.func66, Try.ntmps66
        go_wp2_with (first | (go_at_call 68; refine (HI.out _ _ _).mono ?_; rintro e w1 ⟨rfl, rfl⟩) | (go_at_call 69; refine (HU.out _ _ _).mono ?_; rintro e w1 ⟨rfl, rfl⟩))
        go_ret
        exact ⟨rfl, ((Kept.refl [] w).alloc _).alloc _⟩
    · rw [if_pos h2]
      have z2 : (a2 == b2) = false := by rw [beq_eq_false_iff_ne]; exact h2
      go_enter Try.func66, Try.ntmps66
      go_wp2_with (first | (go_at_call 68; refine (HI.out _ _ _).mono ?_; rintro e w1 ⟨rfl, rfl⟩) | (go_at_call 69; refine (HU.out _ _ _).mono ?_; rintro e w1 ⟨rfl, rfl⟩))
      go_ret
      exact ⟨rfl, ((Kept.refl [] w).alloc _).alloc _⟩
  · rw [if_pos h1]
    have z1 : (a1 == b1) = false := by rw [beq_eq_false_iff_ne]; exact h1
    go_enter Try.func66, Try.ntmps66
    go_wp2_with (first | (go_at_call 68; refine (HI.out _ _ _).mono ?_; rintro e w1 ⟨rfl, rfl⟩) | (go_at_call 69; refine (HU.out _ _ _).mono ?_; rintro e w1 ⟨rfl, rfl⟩))
    go_ret
    exact ⟨rfl, ((Kept.refl [] w).alloc _).alloc _⟩
/-- Are these states, rising. -/
def okAt (xs : List Int) (n : Int) (i : Nat) : Bool := stateB (xs.getD i 0) n && (decide (i = 0) || decide (xs.getD (i - 1) 0 < xs.getD i 0))
def statesB (xs : List Int) (n : Int) : Bool := (List.range xs.length).all (okAt xs n)
theorem statesB_no {xs : List Int} {n : Int} {i : Nat} (hi : i < xs.length) (h : okAt xs n i = false) : statesB xs n = false := by
  unfold statesB
  rw [List.all_eq_false]
  exact ⟨i, List.mem_range.2 hi, by rw [h]; simp⟩
theorem statesB_yes {xs : List Int} {n : Int} (h : ∀ i, i < xs.length → okAt xs n i = true) : statesB xs n = true := by
  unfold statesB
  rw [List.all_eq_true]
  exact fun i hi => h i (List.mem_range.1 hi)
set_option maxHeartbeats 2000000 in
set_option maxRecDepth 10000 in
theorem areStates_any (v : Value) (xs : List Int) (n : Int) (w : World) (h : Ints w v xs) :
    Calls Try.prog 60 #[v, .int .i64 n] w fun e w' => e = .returned (.bool (statesB xs n)) ∧ w' = w := by
  obtain ⟨r, hr⟩ : ∃ r, statesB xs n = r := ⟨_, rfl⟩
  rw [hr]
  have HR : Hid (statesB xs n = r) := hr
  have hfew := h.few
  have HS : Hid (∀ s W, Calls Try.prog 64 #[.int .i64 s, .int .i64 n] W fun e w' => e = .returned (.bool (stateB s n)) ∧ w' = W) := fun s W => isState_any s n W
  clear hr
  rcases h.lie with ⟨⟨ad0, c0, rfl, hc0, _⟩, rfl⟩ | ⟨b, o, c, rfl, hc1, hc2, hcell⟩
  · obtain rfl : true = r := HR.out
    clear h hfew
    go_enter Try.func60, Try.ntmps60
    go_wp2_with fail
    refine wp_loop_rounds 1 ?_
    rw [rounds_succ]
    go_wp2
    go_ret
    exact ⟨rfl, rfl⟩
  · have HCE : Hid (∀ i (h : i < xs.length), w.cell? ⟨b, o + i, none⟩ = some (.int .i64 xs[i])) := hcell
    clear h hcell
    go_enter Try.func60, Try.ntmps60
    go_wp2_with fail
    go_loopw [9] (fun i wr => ∃ k : Nat, i = .int .i64 (k : Nat) ∧ k ≤ xs.length ∧ wr = w ∧ Hid (∀ j, j < k → okAt xs n j = true)) (fun i _ => xs.length - (intOf i).toNat)
    case atStart => exact ⟨0, rfl, Nat.zero_le _, rfl, fun j h => by omega⟩
    case round =>
      obtain ⟨k, rfl, hk, rfl, HA⟩ := hrel
      by_cases hlt : k < xs.length
      · have z0 : (k : Int) < (xs.length : Int) := by omega
        obtain ⟨s, hs⟩ : ∃ s, xs[k] = s := ⟨_, rfl⟩
        have c0 : wr.cell? ⟨b, o + k, none⟩ = some (.int .i64 s) := by rw [← hs]; exact HCE.out k hlt
        have HGD : Hid (xs.getD k 0 = s) := by show _ = _; rw [List.getD_eq_getElem?_getD, List.getElem?_eq_getElem hlt]; exact hs
        clear hs
        obtain ⟨sb, hsb⟩ : ∃ sb, stateB s n = sb := ⟨_, rfl⟩
        have HSB : Hid (stateB s n = sb) := hsb
        have HS2 : Hid (∀ W, Calls Try.prog 64 #[.int .i64 s, .int .i64 n] W fun e w' => e = .returned (.bool sb) ∧ w' = W) := fun W => by rw [← hsb]; exact HS.out s W
        clear hsb
        cases sb with
        | false =>
          have HNO : Hid (statesB xs n = false) := statesB_no hlt (by unfold okAt; rw [HGD.out, HSB.out]; rfl)
          obtain rfl : false = r := HNO.out.symm.trans HR.out
          go_wp2_with (go_at_call 64; refine (HS2.out _).mono ?_; rintro e w1 ⟨rfl, rfl⟩)
          go_ret
          exact ⟨rfl, rfl⟩
        | true =>
          by_cases hk0 : k = 0
          · subst hk0
            simp only [Nat.add_zero] at c0
            have HYES : Hid (∀ j, j < 1 → okAt xs n j = true) := fun j hj => by
              obtain rfl : j = 0 := by omega
              unfold okAt; rw [HGD.out, HSB.out]; rfl
            go_wp2_with (go_at_call 64; refine (HS2.out _).mono ?_; rintro e w1 ⟨rfl, rfl⟩)
            go_roundw
            case rel => exact ⟨1, by go_num, by omega, by trivial, HYES.out⟩
            case measure => simp [intOf]; omega
          · obtain ⟨k1, hk1e⟩ : ∃ k1 : Nat, (k : Int) - 1 = k1 := ⟨k - 1, by omega⟩
            have hk1 : k1 < xs.length := by omega
            have HKK : Hid (k = k1 + 1) := by show _ = _; omega
            obtain ⟨t, ht⟩ : ∃ t, xs[k1] = t := ⟨_, rfl⟩
            have c1 : wr.cell? ⟨b, o + k1, none⟩ = some (.int .i64 t) := by rw [← ht]; exact HCE.out k1 hk1
            have HGT : Hid (xs.getD (k - 1) 0 = t) := by show _ = _; rw [HKK.out, Nat.add_sub_cancel, List.getD_eq_getElem?_getD, List.getElem?_eq_getElem hk1]; exact ht
            have z1 : (0 : Int) < (k : Int) := by omega
            have z2 : (k1 : Int) < (xs.length : Int) := by omega
            clear ht
            by_cases hts : t < s
            · have z3 : ¬ (s ≤ t) := by omega
              have HYES : Hid (∀ j, j < k + 1 → okAt xs n j = true) := fun j hj => by
                rcases Nat.lt_or_ge j k with h' | h'
                · exact HA.out j h'
                · obtain rfl : j = k := by omega
                  unfold okAt; rw [HGD.out, HSB.out, HGT.out, decide_eq_true hts]; simp
              go_wp2_with (go_at_call 64; refine (HS2.out _).mono ?_; rintro e w1 ⟨rfl, rfl⟩)
              go_roundw
              case rel => exact ⟨k + 1, by go_num, by omega, by trivial, HYES.out⟩
              case measure => simp [intOf]; omega
            · have z3 : s ≤ t := by omega
              have HNO : Hid (statesB xs n = false) := statesB_no hlt (by unfold okAt; rw [HGD.out, HSB.out, HGT.out, decide_eq_false hts, decide_eq_false hk0]; rfl)
              obtain rfl : false = r := HNO.out.symm.trans HR.out
              go_wp2_with (go_at_call 64; refine (HS2.out _).mono ?_; rintro e w1 ⟨rfl, rfl⟩)
              go_ret
              exact ⟨rfl, rfl⟩
      · obtain rfl : k = xs.length := by omega
        have z0 : ¬ ((xs.length : Int) < (xs.length : Int)) := by omega
        obtain rfl : true = r := (statesB_yes HA.out).symm.trans HR.out
        go_wp2
        go_ret
        exact ⟨rfl, rfl⟩
def sameN (s x : ByteArray) : Bool := s.toList == x.toList
def hasN (xs : List ByteArray) (s : ByteArray) : Bool := xs.any (fun x => sameN s x)
theorem hasN_yes {xs : List ByteArray} {s : ByteArray} {i : Nat} (hi : i < xs.length) (h : sameN s xs[i] = true) : hasN xs s = true := by
  unfold hasN
  rw [List.any_eq_true]
  exact ⟨_, List.getElem_mem hi, h⟩
theorem hasN_no {xs : List ByteArray} {s : ByteArray} (h : ∀ i (hi : i < xs.length), sameN s xs[i] = false) : hasN xs s = false := by
  unfold hasN
  rw [List.any_eq_false]
  intro x hx
  obtain ⟨i, hi, rfl⟩ := List.getElem_of_mem hx
  rw [h i hi]
  simp
set_option maxHeartbeats 2000000 in
set_option maxRecDepth 10000 in
theorem indexN_any (v : Value) (xs : List ByteArray) (s : ByteArray) (w : World) (h : Strs w v xs) :
    Calls Try.prog 67 #[v, .string s] w fun e w' => ∃ k : Int, e = .returned (.int .i64 k) ∧ Hid (decide (0 ≤ k) = hasN xs s) ∧ w' = w := by
  have hfew := h.few
  rcases h.lie with ⟨rfl, rfl⟩ | ⟨b, o, c, rfl, hc1, hc2, hcell⟩
  · clear h hfew
    go_enter Try.func67, Try.ntmps67
    go_wp2_with fail
    refine wp_loop_rounds 1 ?_
    rw [rounds_succ]
    go_wp2
    go_ret
    exact ⟨-1, rfl, rfl, rfl⟩
  · have HCE : Hid (∀ i (h : i < xs.length), w.cell? ⟨b, o + i, none⟩ = some (.string xs[i])) := hcell
    clear h hcell
    go_enter Try.func67, Try.ntmps67
    go_wp2_with fail
    go_loopw [8] (fun i wr => ∃ k : Nat, i = .int .i64 (k : Nat) ∧ k ≤ xs.length ∧ wr = w ∧ Hid (∀ j (h : j < xs.length), j < k → sameN s xs[j] = false)) (fun i _ => xs.length - (intOf i).toNat)
    case atStart => exact ⟨0, rfl, Nat.zero_le _, rfl, fun j _ h => by omega⟩
    case round =>
      obtain ⟨k, rfl, hk, rfl, HA⟩ := hrel
      by_cases hlt : k < xs.length
      · have z0 : (k : Int) < (xs.length : Int) := by omega
        obtain ⟨x, hx⟩ : ∃ x, xs[k] = x := ⟨_, rfl⟩
        have c0 : wr.cell? ⟨b, o + k, none⟩ = some (.string x) := by rw [← hx]; exact HCE.out k hlt
        have HX : Hid (xs[k] = x) := hx
        clear hx
        obtain ⟨sb, hsb⟩ : ∃ sb, (s.toList == x.toList) = sb := ⟨_, rfl⟩
        cases sb with
        | true =>
          have HY : Hid (hasN xs s = true) := hasN_yes hlt (by rw [HX.out]; exact hsb)
          go_wp2_with fail
          go_ret
          exact ⟨k, rfl, by show decide (0 ≤ (k : Int)) = _; rw [HY.out]; simp, rfl⟩
        | false =>
          have HY : Hid (∀ j (h : j < xs.length), j < k + 1 → sameN s xs[j] = false) := fun j hj h' => by
            rcases Nat.lt_or_ge j k with q | q
            · exact HA.out j hj q
            · obtain rfl : j = k := by omega
              rw [HX.out]; exact hsb
          go_wp2_with fail
          go_roundw
          case rel => exact ⟨k + 1, by go_num, by omega, by trivial, HY.out⟩
          case measure => simp [intOf]; omega
      · obtain rfl : k = xs.length := by omega
        have z0 : ¬ ((xs.length : Int) < (xs.length : Int)) := by omega
        have HY : Hid (hasN xs s = false) := hasN_no (fun i hi => HA.out i hi hi)
        go_wp2
        go_ret
        exact ⟨-1, rfl, by show decide ((0 : Int) ≤ -1) = _; rw [HY.out]; rfl, rfl⟩
theorem containsN_any (v : Value) (xs : List ByteArray) (s : ByteArray) (w : World) (h : Strs w v xs) :
    Calls Try.prog 63 #[v, .string s] w fun e w' => e = .returned (.bool (hasN xs s)) ∧ w' = w := by
  have HI : Hid (Calls Try.prog 67 #[v, .string s] w fun e w' => ∃ k : Int, e = .returned (.int .i64 k) ∧ Hid (decide (0 ≤ k) = hasN xs s) ∧ w' = w) := indexN_any v xs s w h
  obtain ⟨ad, c, rfl, _, _⟩ := h.form
  clear h
  go_enter Try.func63, Try.ntmps63
  go_wp2_with (go_at_call 67; refine HI.out.mono ?_; rintro e w1 ⟨k, rfl, HK, rfl⟩)
  go_ret
  exact ⟨by rw [← HK.out]; rfl, rfl⟩
/-- Are these a list of names. -/
def nmAt (xs : List ByteArray) (i : Nat) (x : ByteArray) : Bool := nameB x.data.toList && !(hasN (xs.take i) x)
def listB (xs : List ByteArray) : Bool := decide (xs.length ≤ 8) && (List.range xs.length).all fun i => nmAt xs i (xs.getD i ⟨#[]⟩)
theorem listB_no {xs : List ByteArray} {i : Nat} (hi : i < xs.length) (h : nmAt xs i xs[i] = false) : listB xs = false := by
  unfold listB
  have : ((List.range xs.length).all fun i => nmAt xs i (xs.getD i ⟨#[]⟩)) = false := by
    rw [List.all_eq_false]
    exact ⟨i, List.mem_range.2 hi, by rw [List.getD_eq_getElem?_getD, List.getElem?_eq_getElem hi]; simp [h]⟩
  rw [this, Bool.and_false]
theorem listB_yes {xs : List ByteArray} (h8 : xs.length ≤ 8) (h : ∀ i (hi : i < xs.length), nmAt xs i xs[i] = true) : listB xs = true := by
  unfold listB
  rw [decide_eq_true h8, Bool.true_and, List.all_eq_true]
  intro i hi
  have hi' := List.mem_range.1 hi
  rw [List.getD_eq_getElem?_getD, List.getElem?_eq_getElem hi']
  exact h i hi'
theorem Strs.take {W : World} {b o c k : Nat} {xs : List ByteArray} (h : Strs W (.slice (some ⟨b, o, none⟩) xs.length c) xs) (hc : xs.length ≤ c) (hm : c ≤ maxLen) (hcell : ∀ i (h : i < xs.length), W.cell? ⟨b, o + i, none⟩ = some (.string xs[i])) (hk : k ≤ xs.length) : Strs W (.slice (some ⟨b, o, none⟩) k c) (xs.take k) := by
  have hl : (xs.take k).length = k := by rw [List.length_take]; omega
  refine ⟨by rw [hl]; have := h.few; omega, fun x hx => h.small x (List.mem_of_mem_take hx), .inr ⟨b, o, c, by rw [hl], by rw [hl]; omega, hm, fun i hi => ?_⟩⟩
  rw [hcell i (by omega)]
  simp
set_option maxHeartbeats 4000000 in
set_option maxRecDepth 10000 in
theorem isList_any (v : Value) (xs : List ByteArray) (w : World) (h : Strs w v xs) :
    Calls Try.prog 58 #[v] w fun e w' => e = .returned (.bool (listB xs)) ∧ w' = w := by
  obtain ⟨r, hr⟩ : ∃ r, listB xs = r := ⟨_, rfl⟩
  rw [hr]
  have HR : Hid (listB xs = r) := hr
  have hfew := h.few
  clear hr
  rcases h.lie with ⟨rfl, rfl⟩ | ⟨b, o, c, rfl, hc1, hc2, hcell⟩
  · obtain rfl : true = r := HR.out
    clear h hfew
    go_enter Try.func58, Try.ntmps58
    go_wp2_with fail
    refine wp_loop_rounds 1 ?_
    rw [rounds_succ]
    go_wp2
    go_ret
    exact ⟨rfl, rfl⟩
  · by_cases h8 : xs.length ≤ 8
    · have HCE : Hid (∀ i (h : i < xs.length), w.cell? ⟨b, o + i, none⟩ = some (.string xs[i])) := hcell
      have HST : Hid (∀ k, k ≤ xs.length → Strs w (.slice (some ⟨b, o, none⟩) k c) (xs.take k)) := fun k hk => h.take hc1 hc2 hcell hk
      have HSM : Hid (∀ x ∈ xs, x.size ≤ maxLen) := h.small
      have z8 : ¬ ((8 : Int) < (xs.length : Int)) := by omega
      clear h hcell
      have hcm : c ≤ 9223372036854775807 := by unfold maxLen at hc2; exact hc2
      go_enter Try.func58, Try.ntmps58
      go_wp2_with fail
      go_loopw [10] (fun i wr => ∃ k : Nat, i = .int .i64 (k : Nat) ∧ k ≤ xs.length ∧ wr = w ∧ Hid (∀ j (h : j < xs.length), j < k → nmAt xs j xs[j] = true)) (fun i _ => xs.length - (intOf i).toNat)
      case atStart => exact ⟨0, rfl, Nat.zero_le _, rfl, fun j _ h => by omega⟩
      case round =>
        obtain ⟨k, rfl, hk, rfl, HA⟩ := hrel
        by_cases hlt : k < xs.length
        · have z0 : (k : Int) < (xs.length : Int) := by omega
          obtain ⟨x, hx⟩ : ∃ x, xs[k] = x := ⟨_, rfl⟩
          have c0 : wr.cell? ⟨b, o + k, none⟩ = some (.string x) := by rw [← hx]; exact HCE.out k hlt
          have HX : Hid (xs[k] = x) := hx
          have hxs : x.size ≤ maxLen := by rw [← hx]; exact HSM.out _ (List.getElem_mem hlt)
          clear hx
          obtain ⟨nb, hnb⟩ : ∃ nb, nameB x.data.toList = nb := ⟨_, rfl⟩
          obtain ⟨hb, hhb⟩ : ∃ hb, hasN (xs.take k) x = hb := ⟨_, rfl⟩
          have HNM : Hid (Calls Try.prog 62 #[.string x] wr fun e w' => e = .returned (.bool nb) ∧ w' = wr) := by rw [← hnb]; exact isName_any x wr hxs
          have HCN : Hid (Calls Try.prog 63 #[.slice (some ⟨b, o, none⟩) k c, .string x] wr fun e w' => e = .returned (.bool hb) ∧ w' = wr) := by rw [← hhb]; exact containsN_any _ _ x wr (HST.out k hk)
          have HNA : Hid (nmAt xs k x = (nb && !hb)) := by show nmAt xs k x = _; unfold nmAt; rw [hnb, hhb]
          have b1 : (0 : Int) ≤ (k : Int) := by omega
          have b2 : (k : Int) ≤ (c : Int) := by omega
          clear hnb hhb hxs
          cases nb with
          | false =>
            have HNO : Hid (listB xs = false) := listB_no hlt (by rw [HX.out, HNA.out]; rfl)
            obtain rfl : false = r := HNO.out.symm.trans HR.out
            go_wp2_with (first | (go_at_call 62; refine HNM.out.mono ?_; rintro e w1 ⟨rfl, rfl⟩) | (go_at_call 63; refine HCN.out.mono ?_; rintro e w1 ⟨rfl, rfl⟩))
            go_ret
            exact ⟨rfl, rfl⟩
          | true =>
            cases hb with
            | true =>
              have HNO : Hid (listB xs = false) := listB_no hlt (by rw [HX.out, HNA.out]; rfl)
              obtain rfl : false = r := HNO.out.symm.trans HR.out
              go_wp2_with (first | (go_at_call 62; refine HNM.out.mono ?_; rintro e w1 ⟨rfl, hw1⟩; rw [hw1]; clear hw1) | (go_at_call 63; refine HCN.out.mono ?_; rintro e w1 ⟨rfl, hw1⟩; rw [hw1]; clear hw1))
              go_ret
              exact ⟨rfl, rfl⟩
            | false =>
              have HYES : Hid (∀ j (h : j < xs.length), j < k + 1 → nmAt xs j xs[j] = true) := fun j hj h' => by
                rcases Nat.lt_or_ge j k with q | q
                · exact HA.out j hj q
                · obtain rfl : j = k := by omega
                  rw [HX.out, HNA.out]; rfl
              go_wp2_with (first | (go_at_call 62; refine HNM.out.mono ?_; rintro e w1 ⟨rfl, hw1⟩; rw [hw1]; clear hw1) | (go_at_call 63; refine HCN.out.mono ?_; rintro e w1 ⟨rfl, hw1⟩; rw [hw1]; clear hw1))
              go_roundw
              case rel => exact ⟨k + 1, by go_num, by omega, by trivial, HYES.out⟩
              case measure => simp [intOf]; omega
        · obtain rfl : k = xs.length := by omega
          have z0 : ¬ ((xs.length : Int) < (xs.length : Int)) := by omega
          obtain rfl : true = r := (listB_yes h8 (fun i hi => HA.out i hi hi)).symm.trans HR.out
          go_wp2
          go_ret
          exact ⟨rfl, rfl⟩
    · have z8 : (8 : Int) < (xs.length : Int) := by omega
      obtain rfl : false = r := by rw [← HR.out]; unfold listB; rw [decide_eq_false h8, Bool.false_and]
      clear h hcell
      go_enter Try.func58, Try.ntmps58
      go_wp2
      go_ret
      exact ⟨rfl, rfl⟩
end Go.Proofs.Ytcojlcbljhnbgaa
