/- The document's own tests: augurref02.Named, augurref10 Rising, Ahead. -/
import Derived.Test.YtkkhilgcjaigcaaDoorBuCheck
import Derived.BigQuiet
import Derived.Deep.RegionHeld3
import Derived.Test.YtkkhilgcjaigcaaDoorBuLentG
namespace Go.Proofs.YtkkhilgcjaigcaaDoor
open Go.RowKit Go.Shelf

set_option maxHeartbeats 2000000 in
theorem refNamedB_any (s : ByteArray) (w : World) (hs : s.size ≤ maxLen) :
    Calls Tryd.prog 57 #[.string s] w fun e w' => e = .returned (.bool (nameB s.data.toList)) ∧ w' = w := by
  have hl : s.size = s.data.toList.length := rfl
  unfold maxLen at hs
  obtain ⟨r, hr⟩ : ∃ r, nameB s.data.toList = r := ⟨_, rfl⟩
  rw [hr]
  have HR : Hid (nameB s.data.toList = r) := hr
  have HL : Hid (s.size = s.data.toList.length) := hl
  clear hr hl
  go_enter Tryd.func57, Tryd.ntmps57
  go_wp2
  go_loop [3] (fun v => ∃ k : Nat, k ≤ s.size ∧ k ≤ 33 ∧ v = .int .i64 (k : Nat) ∧ Hid (∀ j (h : j < s.data.toList.length), j < k → okB (s.data.toList[j]).toNat = true)) (fun v => s.size - (intOf v).toNat)
  case atStart => exact ⟨0, Nat.zero_le _, by omega, rfl, fun j _ h => by omega⟩
  case round =>
    obtain ⟨k, hk, hk33, rfl, HA⟩ := hrel
    by_cases hlt : k < s.size
    · have hki : (k : Int) < (s.size : Int) := by omega
      by_cases h33 : k < 33
      · obtain ⟨c, hc⟩ : ∃ c : UInt8, s[k] = c := ⟨_, rfl⟩
        have hcd : s.data.toList[k]'(by rw [← HL.out]; exact hlt) = c := hc
        have HC : Hid (s.data.toList[k]'(by rw [← HL.out]; exact hlt) = c) := hcd
        have h33i : (k : Int) < 33 := by omega
        have hbad : okB c.toNat = false → false = r := fun h => (nameB_bad (by rw [← HC.out]; exact List.getElem_mem _) h).symm.trans HR.out
        have HB : Hid (okB c.toNat = false → false = r) := hbad
        clear hcd hbad
        by_cases c1 : (c.toNat : Int) < 32
        · go_wp2
          go_ret
          exact ⟨ret_bool (HB.out (okB_no (by omega))), rfl⟩
        by_cases c2 : (126 : Int) < (c.toNat : Int)
        · go_wp2
          go_ret
          exact ⟨ret_bool (HB.out (okB_no (by omega))), rfl⟩
        by_cases c3 : (c.toNat : Int) = 34
        · have c3' : ((c.toNat : Int) == 34) = true := by rw [beq_iff_eq]; exact c3
          have HC3 : Hid ((c.toNat : Int) = 34) := c3
          clear c3
          go_wp2
          go_ret
          exact ⟨ret_bool (HB.out (okB_no (by have := HC3.out; omega))), rfl⟩
        have c3' : ((c.toNat : Int) == 34) = false := by rw [beq_eq_false_iff_ne]; exact c3
        by_cases c4 : (c.toNat : Int) = 92
        · have c4' : ((c.toNat : Int) == 92) = true := by rw [beq_iff_eq]; exact c4
          have HC4 : Hid ((c.toNat : Int) = 92) := c4
          clear c4
          go_wp2
          go_ret
          exact ⟨ret_bool (HB.out (okB_no (by have := HC4.out; omega))), rfl⟩
        have c4' : ((c.toNat : Int) == 92) = false := by rw [beq_eq_false_iff_ne]; exact c4
        have HG : Hid (okB c.toNat = true) := okB_yes (by omega) (by omega) (by omega) (by omega)
        go_wp2
        go_round
        case rel =>
          refine ⟨k + 1, by omega, by omega, by go_num, fun j hj hjk => ?_⟩
          rcases Nat.lt_or_ge j k with q | q
          · exact HA.out j hj q
          · obtain rfl : j = k := by omega
            rw [HC.out]; exact HG.out
        case measure => simp [intOf]; omega
      · have h33i : ¬ (k : Int) < 33 := by omega
        have h0i : (0 : Int) < (s.size : Int) := by omega
        have h32i : ¬ (s.size : Int) ≤ 32 := by omega
        go_wp2
        go_ret
        exact ⟨ret_bool ((nameB_long (by rw [← HL.out]; omega)).symm.trans HR.out), rfl⟩
    · have hki : ¬ (k : Int) < (s.size : Int) := by omega
      by_cases h0 : s.size = 0
      · have h0i : ¬ (0 : Int) < (s.size : Int) := by omega
        go_wp2
        go_ret
        exact ⟨ret_bool ((nameB_short (HL.out.symm.trans h0)).symm.trans HR.out), rfl⟩
      · have h0i : (0 : Int) < (s.size : Int) := by omega
        by_cases h32 : s.size ≤ 32
        · have h32i : (s.size : Int) ≤ 32 := by omega
          go_wp2
          go_ret
          exact ⟨ret_bool ((nameB_good (by rw [← HL.out]; omega) (by rw [← HL.out]; exact h32) (fun j hj => HA.out j hj (by rw [← HL.out] at hj; omega))).symm.trans HR.out), rfl⟩
        · have h32i : ¬ (s.size : Int) ≤ 32 := by omega
          go_wp2
          go_ret
          exact ⟨ret_bool ((nameB_long (by rw [← HL.out]; omega)).symm.trans HR.out), rfl⟩
set_option maxHeartbeats 1000000 in
theorem refAhead_any (a b : Edg) (w : World) : Calls Tryd.prog 48 #[edgV a, edgV b] w fun e w' => e = .returned (.bool (decide (cmpEd a b < 0))) ∧ Kept [] w w' := by
  obtain ⟨a1, a2, a3, a4⟩ := a
  obtain ⟨b1, b2, b3, b4⟩ := b
  unfold cmpEd edgV
  dsimp only
  have HC : ∀ x y : Int, decide (cmpI x y < 0) = decide (x < y) := fun x y => by
    unfold cmpI; split
    · next h => simp [h]
    · next h => split <;> simp [h]
  by_cases h1 : a1 = b1
  · subst h1
    rw [if_neg (by simp)]
    by_cases h2 : a2 = b2
    · subst h2
      rw [if_neg (by simp)]
      by_cases h3 : a3 = b3
      · subst h3
        rw [if_neg (by simp), HC]
        clear HC
        go_enter Tryd.func48, Tryd.ntmps48
        go_wp2
        go_ret
        exact ⟨ret_bool (decide_eq_decide.2 (by omega)), ((Kept.refl [] w).alloc _).alloc _⟩
      · rw [if_pos h3, HC]
        clear HC
        have z3 : ((a3 : Int) != (b3 : Int)) = true := by simp; omega
        go_enter Tryd.func48, Tryd.ntmps48
        go_wp2
        go_ret
        exact ⟨ret_bool (decide_eq_decide.2 (by omega)), ((Kept.refl [] w).alloc _).alloc _⟩
    · rw [if_pos h2, HC]
      clear HC
      have z2 : (a2 != b2) = true := by simp [h2]
      go_enter Tryd.func48, Tryd.ntmps48
      go_wp2
      go_ret
      exact ⟨rfl, ((Kept.refl [] w).alloc _).alloc _⟩
  · rw [if_pos h1, HC]
    clear HC
    have z1 : (a1 != b1) = true := by simp [h1]
    go_enter Tryd.func48, Tryd.ntmps48
    go_wp2
    go_ret
    exact ⟨rfl, ((Kept.refl [] w).alloc _).alloc _⟩
end Go.Proofs.YtkkhilgcjaigcaaDoor

/- The document's own tests: augurref10 Rising, Names. -/
namespace Go.Proofs.YtkkhilgcjaigcaaDoor
open Go.RowKit Go.Shelf

set_option maxHeartbeats 2000000 in
set_option maxRecDepth 10000 in
theorem refRising_any (v : Value) (xs : List Int) (n : Int) (w : World) (h : Ints w v xs) :
    Calls Tryd.prog 47 #[v, .int .i64 n] w fun e w' => e = .returned (.bool (statesB xs n)) ∧ Kept [] w w' := by
  obtain ⟨r, hr⟩ : ∃ r, statesB xs n = r := ⟨_, rfl⟩
  rw [hr]
  have HR : Hid (statesB xs n = r) := hr
  have hfew := h.few
  clear hr
  rcases h.lie with ⟨⟨ad0, c0, rfl, hc0, _⟩, rfl⟩ | ⟨b, o, c, rfl, hc1, hc2, hcell⟩
  · obtain rfl : true = r := HR.out
    clear h hfew
    go_enter Tryd.func47, Tryd.ntmps47
    go_wp2_with fail
    refine wp_loop_rounds 1 ?_
    rw [rounds_succ]
    go_wp2
    go_ret
    exact ⟨rfl, Kept.refl [] w⟩
  · have HCE : Hid (∀ i (h : i < xs.length), w.cell? ⟨b, o + i, none⟩ = some (.int .i64 xs[i])) := hcell
    clear h hcell
    go_enter Tryd.func47, Tryd.ntmps47
    go_wp2_with fail
    go_loopw [5] (fun i wr => ∃ k : Nat, i = .int .i64 (k : Nat) ∧ k ≤ xs.length ∧ Hid (Kept [] w wr) ∧ Hid (∀ j, j < k → okAt xs n j = true)) (fun i _ => xs.length - (intOf i).toNat)
    case atStart => exact ⟨0, rfl, Nat.zero_le _, Kept.refl [] w, fun j h => by omega⟩
    case round =>
      obtain ⟨k, rfl, hk, HKW, HA⟩ := hrel
      by_cases hlt : k < xs.length
      · have z0 : (k : Int) < (xs.length : Int) := by omega
        have z00 : (0 : Int) ≤ (k : Int) := by omega
        obtain ⟨s, hs⟩ : ∃ s, xs[k] = s := ⟨_, rfl⟩
        have c0 : wr.cell? ⟨b, o + k, none⟩ = some (.int .i64 s) := by rw [← hs]; exact cell_kept0 HKW.out (HCE.out k hlt)
        have HGD : Hid (xs.getD k 0 = s) := by show _ = _; rw [List.getD_eq_getElem?_getD, List.getElem?_eq_getElem hlt]; exact hs
        clear hs
        by_cases s1 : s < 0
        · have d1 : decide (s < 0) = true := decide_eq_true s1
          have HNO : Hid (statesB xs n = false) := statesB_no hlt (by unfold okAt; rw [HGD.out]; unfold stateB; rw [decide_eq_false (by omega)]; rfl)
          obtain rfl : false = r := HNO.out.symm.trans HR.out
          go_wp2_with fail
          go_quiet (fail)
          go_wp2
          go_ret
          exact ⟨rfl, HKW.out.drewN _⟩
        have d1 : decide (s < 0) = false := decide_eq_false s1
        by_cases s2 : n ≤ s
        · have d2 : decide (n ≤ s) = true := decide_eq_true s2
          have HNO : Hid (statesB xs n = false) := statesB_no hlt (by unfold okAt; rw [HGD.out]; unfold stateB; rw [decide_eq_false (p := s < n) (by omega), Bool.and_false]; rfl)
          obtain rfl : false = r := HNO.out.symm.trans HR.out
          go_wp2_with fail
          go_quiet (fail)
          go_wp2
          go_ret
          exact ⟨rfl, HKW.out.drewN _⟩
        have d2 : decide (n ≤ s) = false := decide_eq_false s2
        have HSB : Hid (stateB s n = true) := by show stateB s n = true; unfold stateB; rw [decide_eq_true (by omega), decide_eq_true (by omega)]; rfl
        by_cases hk0 : k = 0
        · subst hk0
          simp only [Nat.add_zero] at c0
          have HYES : Hid (∀ j, j < 1 → okAt xs n j = true) := fun j hj => by
            obtain rfl : j = 0 := by omega
            unfold okAt; rw [HGD.out, HSB.out]; rfl
          go_wp2_with fail
          go_quiet (fail)
          go_wp2
          go_roundw
          case rel => exact ⟨1, by go_num, by omega, HKW.out.drewN _, HYES.out⟩
          case measure => simp [intOf]; omega
        · obtain ⟨k1, hk1e⟩ : ∃ k1 : Nat, (k : Int) - 1 = k1 := ⟨k - 1, by omega⟩
          have hk1 : k1 < xs.length := by omega
          have HKK : Hid (k = k1 + 1) := by show _ = _; omega
          obtain ⟨t, ht⟩ : ∃ t, xs[k1] = t := ⟨_, rfl⟩
          have c1 : wr.cell? ⟨b, o + k1, none⟩ = some (.int .i64 t) := by rw [← ht]; exact cell_kept0 HKW.out (HCE.out k1 hk1)
          have HGT : Hid (xs.getD (k - 1) 0 = t) := by show _ = _; rw [HKK.out, Nat.add_sub_cancel, List.getD_eq_getElem?_getD, List.getElem?_eq_getElem hk1]; exact ht
          have z1 : (0 : Int) < (k : Int) := by omega
          have z2 : (k1 : Int) < (xs.length : Int) := by omega
          have z3 : (0 : Int) ≤ (k1 : Int) := by omega
          have d3 : decide (0 < k) = true := decide_eq_true (by omega)
          clear ht
          by_cases hts : t < s
          · have d4 : decide (s ≤ t) = false := decide_eq_false (by omega)
            have z4 : ¬ (s ≤ t) := by omega
            have HYES : Hid (∀ j, j < k + 1 → okAt xs n j = true) := fun j hj => by
              rcases Nat.lt_or_ge j k with h' | h'
              · exact HA.out j h'
              · obtain rfl : j = k := by omega
                unfold okAt; rw [HGD.out, HSB.out, HGT.out, decide_eq_true hts]; simp
            go_wp2_with fail
            go_quiet (fail)
            go_wp2
            go_roundw
            case rel => exact ⟨k + 1, by go_num, by omega, HKW.out.drewN _, HYES.out⟩
            case measure => simp [intOf]; omega
          · have z4 : s ≤ t := by omega
            have d4 : decide (s ≤ t) = true := decide_eq_true z4
            have HNO : Hid (statesB xs n = false) := statesB_no hlt (by unfold okAt; rw [HGD.out, HSB.out, HGT.out, decide_eq_false hts, decide_eq_false hk0]; rfl)
            obtain rfl : false = r := HNO.out.symm.trans HR.out
            go_wp2_with fail
            go_quiet (fail)
            go_wp2
            go_ret
            exact ⟨rfl, HKW.out.drewN _⟩
      · obtain rfl : k = xs.length := by omega
        have z0 : ¬ ((xs.length : Int) < (xs.length : Int)) := by omega
        obtain rfl : true = r := (statesB_yes HA.out).symm.trans HR.out
        go_wp2
        go_ret
        exact ⟨rfl, HKW.out⟩
end Go.Proofs.YtkkhilgcjaigcaaDoor

/- The document's own tests: augurref10.Names. -/
namespace Go.Proofs.YtkkhilgcjaigcaaDoor
open Go.RowKit Go.Shelf

theorem sameN_comm (a b : ByteArray) : sameN a b = sameN b a := by
  unfold sameN
  rw [Bool.eq_iff_iff]
  simp only [beq_iff_eq]
  exact eq_comm
theorem take_get {xs : List ByteArray} {k j : Nat} (hj : j < (xs.take k).length) : (xs.take k)[j] = xs[j]'(by rw [List.length_take] at hj; omega) := by simp
set_option maxHeartbeats 2000000 in
set_option maxRecDepth 10000 in
theorem refNames_any (v : Value) (xs : List ByteArray) (w : World) (h : Strs w v xs) :
    Calls Tryd.prog 46 #[v] w fun e w' => e = .returned (.bool (listB xs)) ∧ Kept [] w w' := by
  obtain ⟨r, hr⟩ : ∃ r, listB xs = r := ⟨_, rfl⟩
  rw [hr]
  have HR : Hid (listB xs = r) := hr
  have hfew := h.few
  clear hr
  rcases h.lie with ⟨rfl, rfl⟩ | ⟨b, o, c, rfl, hc1, hc2, hcell⟩
  · obtain rfl : true = r := HR.out
    clear h hfew
    go_enter Tryd.func46, Tryd.ntmps46
    go_wp2_with fail
    refine wp_loop_rounds 1 ?_
    rw [rounds_succ]
    go_wp2
    go_ret
    exact ⟨rfl, Kept.refl [] w⟩
  · by_cases h8 : xs.length ≤ 8
    · have HCE : Hid (∀ i (h : i < xs.length), w.cell? ⟨b, o + i, none⟩ = some (.string xs[i])) := hcell
      have HSM : Hid (∀ x ∈ xs, x.size ≤ maxLen) := h.small
      have z8 : ¬ ((8 : Int) < (xs.length : Int)) := by omega
      clear h hcell
      go_enter Tryd.func46, Tryd.ntmps46
      go_wp2_with fail
      go_loopw [3] (fun i wr => ∃ k : Nat, i = .int .i64 (k : Nat) ∧ k ≤ xs.length ∧ Hid (Kept [] w wr) ∧ Hid (∀ j (h : j < xs.length), j < k → nmAt xs j xs[j] = true)) (fun i _ => xs.length - (intOf i).toNat)
      case atStart => exact ⟨0, rfl, Nat.zero_le _, Kept.refl [] w, fun j _ h => by omega⟩
      case round =>
        obtain ⟨k, rfl, hk, HKW, HA⟩ := hrel
        by_cases hlt : k < xs.length
        · have z0 : (k : Int) < (xs.length : Int) := by omega
          have z00 : (0 : Int) ≤ (k : Int) := by omega
          obtain ⟨x, hx⟩ : ∃ x, xs[k] = x := ⟨_, rfl⟩
          have c0 : wr.cell? ⟨b, o + k, none⟩ = some (.string x) := by rw [← hx]; exact cell_kept0 HKW.out (HCE.out k hlt)
          have HC0 : Hid (w.cell? ⟨b, o + k, none⟩ = some (.string x)) := by show _ = _; rw [← hx]; exact HCE.out k hlt
          have HX : Hid (xs[k] = x) := hx
          have hxs : x.size ≤ maxLen := by rw [← hx]; exact HSM.out _ (List.getElem_mem hlt)
          clear hx
          obtain ⟨nb, hnb⟩ : ∃ nb, nameB x.data.toList = nb := ⟨_, rfl⟩
          have HNB : Hid (nameB x.data.toList = nb) := hnb
          have HNM : Hid (Calls Tryd.prog 57 #[.string x] wr fun e w' => e = .returned (.bool nb) ∧ w' = wr) := by rw [← hnb]; exact refNamedB_any x wr hxs
          clear hnb hxs
          cases nb with
          | false =>
            have HNO : Hid (listB xs = false) := listB_no hlt (by rw [HX.out]; unfold nmAt; rw [HNB.out]; rfl)
            obtain rfl : false = r := HNO.out.symm.trans HR.out
            go_wp2_with (go_at_call 57; refine HNM.out.mono ?_; rintro e w1 ⟨rfl, rfl⟩)
            go_ret
            exact ⟨rfl, HKW.out⟩
          | true =>
            go_wp2_with (go_at_call 57; refine HNM.out.mono ?_; rintro e w1 ⟨rfl, hw1⟩; rw [hw1]; clear hw1)
            go_loopw [4] (fun i w2 => ∃ m : Nat, i = .int .i64 (m : Nat) ∧ m ≤ k ∧ Hid (Kept [] w w2) ∧ Hid (∀ j (h : j < xs.length), j < m → sameN x xs[j] = false)) (fun i _ => k - (intOf i).toNat)
            case atStart => exact ⟨0, rfl, Nat.zero_le _, HKW.out, fun j _ h => by omega⟩
            case round =>
              rename World => w5
              obtain ⟨m, rfl, hm, HKM, HB⟩ := hrel
              have c0 : w5.cell? ⟨b, o + k, none⟩ = some (.string x) := cell_kept0 HKM.out HC0.out
              by_cases hmk : m < k
              · have y0 : (m : Int) < (k : Int) := by omega
                have y1 : (m : Int) < (xs.length : Int) := by omega
                have y2 : (0 : Int) ≤ (m : Int) := by omega
                have hml : m < xs.length := by omega
                obtain ⟨y, hy⟩ : ∃ y, xs[m] = y := ⟨_, rfl⟩
                have c1 : w5.cell? ⟨b, o + m, none⟩ = some (.string y) := by rw [← hy]; exact cell_kept0 HKM.out (HCE.out m hml)
                have HY : Hid (xs[m] = y) := hy
                clear hy
                obtain ⟨sb, hsb⟩ : ∃ sb, (y.toList == x.toList) = sb := ⟨_, rfl⟩
                have HSB : Hid (sameN x y = sb) := by show sameN x y = sb; rw [sameN_comm]; exact hsb
                cases sb with
                | true =>
                  have HNO : Hid (listB xs = false) := listB_no hlt (by
                    rw [HX.out]; unfold nmAt
                    rw [hasN_yes (i := m) (by rw [List.length_take]; omega) (by rw [take_get, HY.out]; exact HSB.out), Bool.not_true, Bool.and_false])
                  obtain rfl : false = r := HNO.out.symm.trans HR.out
                  go_wp2_with fail
                  go_quiet (fail)
                  go_wp2
                  go_ret
                  exact ⟨rfl, HKM.out.drewN _⟩
                | false =>
                  go_wp2_with fail
                  go_quiet (fail)
                  go_wp2
                  go_roundw
                  case rel =>
                    refine ⟨m + 1, by go_num, by omega, HKM.out.drewN _, fun j hj h' => ?_⟩
                    rcases Nat.lt_or_ge j m with q | q
                    · exact HB.out j hj q
                    · obtain rfl : j = m := by omega
                      rw [HY.out]; exact HSB.out
                  case measure => simp [intOf]; omega
              · obtain rfl : m = k := by omega
                have y0 : ¬ ((m : Int) < (m : Int)) := by omega
                go_wp2
                go_roundw
                case rel =>
                  refine ⟨m + 1, by go_num, by omega, HKM.out, fun j hj h' => ?_⟩
                  rcases Nat.lt_or_ge j m with q | q
                  · exact HA.out j hj q
                  · obtain rfl : j = m := by omega
                    rw [HX.out]; unfold nmAt
                    rw [HNB.out, hasN_no (fun i hi => by rw [take_get]; exact HB.out i _ (by rw [List.length_take] at hi; omega))]
                    rfl
                case measure => simp [intOf]; omega
        · obtain rfl : k = xs.length := by omega
          have z0 : ¬ ((xs.length : Int) < (xs.length : Int)) := by omega
          obtain rfl : true = r := (listB_yes h8 (fun i hi => HA.out i hi hi)).symm.trans HR.out
          go_wp2
          go_ret
          exact ⟨rfl, HKW.out⟩
    · have z8 : (8 : Int) < (xs.length : Int) := by omega
      obtain rfl : false = r := by rw [← HR.out]; unfold listB; rw [decide_eq_false h8, Bool.false_and]
      clear h hcell
      go_enter Tryd.func46, Tryd.ntmps46
      go_wp2
      go_ret
      exact ⟨rfl, Kept.refl [] w⟩
end Go.Proofs.YtkkhilgcjaigcaaDoor

/- augurref10.CheckGeneral: what an edge is tested for. -/
namespace Go.Proofs.YtkkhilgcjaigcaaDoor
open Go.RowKit Go.Shelf

theorem letterB_lt {c k tp : Nat} (h8 : k ≤ 8) (htp : 2 ^ k = tp) : letterB c k = decide (c < tp) := by
  unfold letterB
  rw [show min k 16 = k by omega, show ((2 : Int) ^ k) = ((2 ^ k : Nat) : Int) by norm_cast, htp]
  have hpos : 0 < tp := by rw [← htp]; exact Nat.pow_pos (by decide)
  rw [Bool.eq_iff_iff, beq_iff_eq, decide_eq_true_eq]
  constructor
  · intro h
    have h' : c / tp = 0 := by exact_mod_cast h
    rcases (Nat.div_eq_zero_iff.1 h') with q | q
    · omega
    · exact q
  · intro h
    have h' : c / tp = 0 := Nat.div_eq_of_lt h
    exact_mod_cast h'
theorem edOk_ref {g : Gen} {e : Edg} {tp : Nat} (h8 : g.ps.length ≤ 8) (htp : 2 ^ g.ps.length = tp) : edOk g e = (stateB e.fr g.st && stateB e.to g.st && decide (e.mu < tp) && decide (e.no < tp) && decide (e.mu &&& e.no = 0)) := by
  unfold edOk
  rw [letterB_lt h8 htp]
  have hor : decide (e.mu ||| e.no < tp) = (decide (e.mu < tp) && decide (e.no < tp)) := by
    rw [Bool.eq_iff_iff]
    simp only [Bool.and_eq_true, decide_eq_true_eq]
    constructor
    · intro h
      exact ⟨Nat.lt_of_le_of_lt Nat.left_le_or h, Nat.lt_of_le_of_lt Nat.right_le_or h⟩
    · rintro ⟨h1, h2⟩
      rw [← htp] at h1 h2 ⊢
      exact Nat.or_lt_two_pow h1 h2
  rw [hor]
  cases stateB e.fr g.st <;> cases stateB e.to g.st <;> cases decide (e.mu &&& e.no = 0) <;> cases decide (e.mu < tp) <;> cases decide (e.no < tp) <;> rfl
theorem listB_few {xs : List ByteArray} (h : listB xs = true) : xs.length ≤ 8 := by
  unfold listB at h
  rw [Bool.and_eq_true] at h
  exact of_decide_eq_true h.1
set_option maxHeartbeats 1000000 in
theorem refGeneral_any (pad iad ead fad : Option Addr) (pn pc n ic en ec fn fc : Nat) (st : Int) (w : World) :
    Calls Tryd.prog 5 #[.agg #[.slice pad pn pc, .int .i64 st, .slice iad n ic, .slice ead en ec, .slice fad fn fc]] w fun e w' => ∃ B, e = .returned (.agg #[.slice pad pn pc, .int .i64 st, .slice iad n ic, .slice ead en ec, .slice (some ⟨B, 0, none⟩) 1 1]) ∧ Hid (w'.heap[B]? = some (.cells #[.slice fad fn fc] 23 (0, 0))) ∧ Hid (Kept [] w w') := by
  go_enter Tryd.func5, Tryd.ntmps5
  go_wp2
  exact ret_gen rfl rfl rfl (alUp (al1 w _ _) _) ⟨_, rfl, al2 w _ _ _, (((Kept.refl [] w).alloc _).alloc _).alloc _⟩
/-- What the document's CheckGeneral tells of any automaton, as its callers want it. -/
def RefCheck : Prop := ∀ (pv iv ev sv : Value) (g : Gen) (w : World), IsG w pv iv ev sv g → Calls Tryd.prog 31 #[.agg #[pv, .int .i64 g.st, iv, ev, sv]] w fun e w' => e = .returned (.int .i64 (errG g : Nat)) ∧ Kept [] w w'
set_option maxHeartbeats 1000000 in
theorem refCheckB_any (hC : RefCheck) (pv iv ev fv : Value) (g : Gen) (fin : List Int) (w : World) (h : IsB w pv iv ev fv g fin) :
    Calls Tryd.prog 12 #[.agg #[pv, .int .i64 g.st, iv, ev, fv]] w fun e w' => e = .returned (.int .i64 (errG (g.with fin) : Nat)) ∧ Kept [] w w' := by
  obtain ⟨pad, pc, rfl, _, _⟩ := h.ps.form
  obtain ⟨iad, ic, rfl, _, _⟩ := h.ini.form
  obtain ⟨ead, ec, rfl, _, _⟩ := h.es.form
  obtain ⟨fad, fc, rfl, _, _⟩ := h.fin.form
  have HG : Hid (∀ W B, Kept [] w W → W.heap[B]? = some (.cells #[.slice fad fin.length fc] 23 (0, 0)) → Calls Tryd.prog 31 #[.agg #[.slice pad g.ps.length pc, .int .i64 g.st, .slice iad g.ini.length ic, .slice ead g.es.length ec, .slice (some ⟨B, 0, none⟩) 1 1]] W fun e w' => e = .returned (.int .i64 (errG (g.with fin) : Nat)) ∧ Kept [] W w') := fun W B k hb => hC _ _ _ _ (g.with fin) W ((h.kept k).gen hb)
  obtain ⟨en, hen⟩ : ∃ en, errG (g.with fin) = en := ⟨_, rfl⟩
  rw [hen] at HG ⊢
  clear h hen hC
  go_enter Tryd.func12, Tryd.ntmps12
  go_wp2_with (first
    | (go_at_call 5; refine (refGeneral_any _ _ _ _ _ _ _ _ _ _ _ _ _ _).mono ?_; rintro e w1 ⟨B, rfl, HB, hk⟩; have HK : Hid (Kept [] w w1) := keptB ((Kept.refl [] w).alloc _) hk.out; clear hk)
    | (go_at_call 31; refine (HG.out w1 B HK.out HB.out).mono ?_; rintro e w2 ⟨rfl, hk2⟩; have HK2 : Hid (Kept [] w w2) := keptB HK.out hk2; clear hk2))
  go_ret
  exact ⟨rfl, HK2.out⟩
end Go.Proofs.YtkkhilgcjaigcaaDoor

/- augurref10.CheckGeneral at any automaton. -/
namespace Go.Proofs.YtkkhilgcjaigcaaDoor
open Go.RowKit Go.Shelf

theorem errG_bad {g : Gen} (h : rightG g = false) : errG g = 100 := by unfold errG; rw [h]; rfl
theorem errG_good {g : Gen} (h : rightG g = true) : errG g = 0 := by unfold errG; rw [h]; rfl
theorem ret_err {a b : Nat} (h : a = b) : Ending.returned (.int .i64 (a : Nat)) = Ending.returned (.int .i64 (b : Nat)) := by rw [h]
set_option maxHeartbeats 4000000 in
set_option maxRecDepth 10000 in
theorem refCheckG_any (pv iv ev sv : Value) (g : Gen) (w : World) (h : IsG w pv iv ev sv g) :
    Calls Tryd.prog 31 #[.agg #[pv, .int .i64 g.st, iv, ev, sv]] w fun e w' => e = .returned (.int .i64 (errG g : Nat)) ∧ Kept [] w w' := by
  obtain ⟨pad, pc, rfl, _, _⟩ := h.ps.form
  obtain ⟨iad, ic, rfl, _, _⟩ := h.ini.form
  obtain ⟨ead, ec, rfl, _, _⟩ := h.es.form
  obtain ⟨sad, sc, rfl⟩ := h.sets.form
  have hfe := h.es.few
  have hfs := h.sets.few
  obtain ⟨V, hV⟩ : ∃ V, w.alloc (.cells #[.slice pad g.ps.length pc, .int .i64 g.st, .slice iad g.ini.length ic, .slice ead g.es.length ec, .slice sad g.sets.length sc] 31) = V := ⟨_, rfl⟩
  have kV : Kept [] w V := by rw [← hV]; exact (Kept.refl [] w).alloc _
  have hBV : Five 31 V w.heap.size (.slice pad g.ps.length pc) (.int .i64 g.st) (.slice iad g.ini.length ic) (.slice ead g.es.length ec) (.slice sad g.sets.length sc) := by rw [← hV]; exact al0 _ _
  have HC5 : Hid (∀ W, Kept [] V W → W.cell? ⟨w.heap.size, 0, none⟩ = some (.slice pad g.ps.length pc) ∧ W.cell? ⟨w.heap.size, 1, none⟩ = some (.int .i64 g.st) ∧ W.cell? ⟨w.heap.size, 2, none⟩ = some (.slice iad g.ini.length ic) ∧ W.cell? ⟨w.heap.size, 3, none⟩ = some (.slice ead g.es.length ec) ∧ W.cell? ⟨w.heap.size, 4, none⟩ = some (.slice sad g.sets.length sc)) := fun W k => (hBV.keptF k (by simp)).cells
  have HKV : Hid (Kept [] w V) := kV
  have HV : Hid (_ = V) := hV
  obtain ⟨r1, h1⟩ : ∃ r, listB g.ps = r := ⟨_, rfl⟩
  obtain ⟨r2, h2⟩ : ∃ r, statesB g.ini g.st = r := ⟨_, rfl⟩
  have HR1 : Hid (listB g.ps = r1) := h1
  have HR2 : Hid (statesB g.ini g.st = r2) := h2
  have HL : Hid (Calls Tryd.prog 46 #[.slice pad g.ps.length pc] V fun e w' => e = .returned (.bool r1) ∧ Kept [] V w') := by rw [← h1]; exact refNames_any _ _ V (h.ps.kept kV)
  have HS : Hid (∀ W, Kept [] V W → Calls Tryd.prog 47 #[.slice iad g.ini.length ic, .int .i64 g.st] W fun e w' => e = .returned (.bool r2) ∧ Kept [] W w') := fun W k => by rw [← h2]; exact refRising_any _ _ _ W ((h.ini.kept kV).kept k)
  have HG : Hid (∀ W, Kept [] V W → IsG W (.slice pad g.ps.length pc) (.slice iad g.ini.length ic) (.slice ead g.es.length ec) (.slice sad g.sets.length sc) g) := fun W k => (h.kept kV).kept k
  obtain ⟨d0, d1, d2, d3, d4⟩ := HC5.out V (Kept.refl [] V)
  clear h kV hBV h1 h2 hV
  cases r1 with
  | false =>
    go_enter Tryd.func31, Tryd.ntmps31
    go_wp2_with (go_at_call 46; rw [HV.out]; refine HL.out.mono ?_; rintro e w1 ⟨rfl, hk1⟩; have HK1 : Hid (Kept [] V w1) := hk1; clear hk1 d0 d1 d2 d3 d4; obtain ⟨d0, d1, d2, d3, d4⟩ := HC5.out w1 HK1.out)
    go_ret
    exact ⟨ret_err (a := 100) (errG_bad (by unfold rightG; rw [HR1.out]; rfl)).symm, keptB HKV.out HK1.out⟩
  | true =>
    by_cases hs0 : g.st < 0
    · go_enter Tryd.func31, Tryd.ntmps31
      go_wp2_with (go_at_call 46; rw [HV.out]; refine HL.out.mono ?_; rintro e w1 ⟨rfl, hk1⟩; have HK1 : Hid (Kept [] V w1) := hk1; clear hk1 d0 d1 d2 d3 d4; obtain ⟨d0, d1, d2, d3, d4⟩ := HC5.out w1 HK1.out)
      go_ret
      exact ⟨ret_err (a := 100) (errG_bad (by unfold rightG; rw [decide_eq_false (p := 0 ≤ g.st) (by omega)]; simp)).symm, keptB HKV.out HK1.out⟩
    by_cases hs1 : 65536 < g.st
    · go_enter Tryd.func31, Tryd.ntmps31
      go_wp2_with (go_at_call 46; rw [HV.out]; refine HL.out.mono ?_; rintro e w1 ⟨rfl, hk1⟩; have HK1 : Hid (Kept [] V w1) := hk1; clear hk1 d0 d1 d2 d3 d4; obtain ⟨d0, d1, d2, d3, d4⟩ := HC5.out w1 HK1.out)
      go_ret
      exact ⟨ret_err (a := 100) (errG_bad (by unfold rightG; rw [decide_eq_false (p := g.st ≤ 65536) (by omega)]; simp)).symm, keptB HKV.out HK1.out⟩
    cases r2 with
    | false =>
      go_enter Tryd.func31, Tryd.ntmps31
      go_wp2_with (first | (go_at_call 46; rw [HV.out]; refine HL.out.mono ?_; rintro e w1 ⟨rfl, hk1⟩; have HK1 : Hid (Kept [] V w1) := hk1; clear hk1 d0 d1 d2 d3 d4; obtain ⟨d0, d1, d2, d3, d4⟩ := HC5.out w1 HK1.out) | (go_at_call 47; refine (HS.out w1 HK1.out).mono ?_; rintro e w2 ⟨rfl, hk2⟩; have HK2 : Hid (Kept [] V w2) := keptB HK1.out hk2; clear hk2 d0 d1 d2 d3 d4; obtain ⟨d0, d1, d2, d3, d4⟩ := HC5.out w2 HK2.out))
      go_ret
      exact ⟨ret_err (a := 100) (errG_bad (by unfold rightG; rw [HR2.out]; simp)).symm, keptB HKV.out HK2.out⟩
    | true =>
      have h8 : g.ps.length ≤ 8 := listB_few HR1.out
      obtain ⟨tp, htp⟩ : ∃ tp : Nat, 2 ^ g.ps.length = tp := ⟨_, rfl⟩
      have htb : tp ≤ 256 := by rw [← htp]; exact Nat.pow_le_pow_right (by omega) h8
      have htq : 1 ≤ tp := by rw [← htp]; exact Nat.pow_pos (by decide)
      obtain ⟨t1, ht1⟩ : ∃ t1 : Nat, tp = t1 + 1 := ⟨tp - 1, by omega⟩
      have hwr : IntKind.u16.wrap ((2 : Int) ^ g.ps.length) = (tp : Int) := by
        rw [show ((2 : Int) ^ g.ps.length) = ((2 ^ g.ps.length : Nat) : Int) by norm_cast, htp, IntKind.wrap_u16]
        omega
      have hwr2 : IntKind.u16.wrap ((tp : Int) - 1) = (t1 : Int) := by rw [IntKind.wrap_u16]; omega
      have HEO : Hid (∀ e, edOk g e = (stateB e.fr g.st && stateB e.to g.st && decide (e.mu < tp) && decide (e.no < tp) && decide (e.mu &&& e.no = 0))) := fun e => edOk_ref h8 htp
      have HNE : Hid (∀ i (hi : i < g.es.length), edB g i g.es[i] = false → errG g = 100) := fun i hi hx => errG_bad (by unfold rightG; rw [edgesB_no hi hx]; simp)
      have HNS : Hid (∀ i (hi : i < g.sets.length), statesB g.sets[i] g.st = false → errG g = 100) := fun i hi hx => errG_bad (by unfold rightG; rw [setsB_no hi hx]; simp)
      have HYE : Hid ((∀ i (hi : i < g.es.length), edB g i g.es[i] = true) → (∀ i (hi : i < g.sets.length), statesB g.sets[i] g.st = true) → errG g = 0) := fun q1 q2 => errG_good (by unfold rightG; rw [HR1.out, HR2.out, edgesB_yes q1, setsB_yes q2, decide_eq_true (by omega), decide_eq_true (by omega)]; rfl)
      go_enter Tryd.func31, Tryd.ntmps31
      go_wp2_with (first | (go_at_call 46; rw [HV.out]; refine HL.out.mono ?_; rintro e w1 ⟨rfl, hk1⟩; have HK1 : Hid (Kept [] V w1) := hk1; clear hk1 d0 d1 d2 d3 d4; obtain ⟨d0, d1, d2, d3, d4⟩ := HC5.out w1 HK1.out) | (go_at_call 47; refine (HS.out w1 HK1.out).mono ?_; rintro e w2 ⟨rfl, hk2⟩; have HK2 : Hid (Kept [] V w2) := keptB HK1.out hk2; clear hk2 d0 d1 d2 d3 d4; obtain ⟨d0, d1, d2, d3, d4⟩ := HC5.out w2 HK2.out))
      clear d0 d1 d2 d3 d4 HV hs0 hs1 hwr hwr2 htp h8 HL HS HK1
      go_loopw [5] (fun i wr => ∃ k : Nat, i = .int .i64 (k : Nat) ∧ k ≤ g.es.length ∧ Hid (∀ j (h : j < g.es.length), j < k → edB g j g.es[j] = true) ∧ Hid (Kept [] V wr)) (fun i _ => g.es.length - (intOf i).toNat)
      case atStart => exact ⟨0, rfl, Nat.zero_le _, fun j _ h => by omega, HK2.out⟩
      case round =>
        obtain ⟨k, rfl, hk, HA, HKW⟩ := hrel
        obtain ⟨d0, d1, d2, d3, d4⟩ := HC5.out wr HKW.out
        by_cases hlt : k < g.es.length
        · have z0 : (k : Int) < (g.es.length : Int) := by omega
          have z00 : (0 : Int) ≤ (k : Int) := by omega
          obtain ⟨b, o, hea, hcell⟩ : ∃ b o, ead = some ⟨b, o, none⟩ ∧ ∀ W, Kept [] V W → ∀ i (h : i < g.es.length), W.cell? ⟨b, o + i * 4, none⟩ = some (.int .i64 g.es[i].fr) ∧ W.cell? ⟨b, o + i * 4 + 1, none⟩ = some (.int .i64 g.es[i].to) ∧ W.cell? ⟨b, o + i * 4 + 2, none⟩ = some (.int .u16 (g.es[i].mu : Nat)) ∧ W.cell? ⟨b, o + i * 4 + 3, none⟩ = some (.int .u16 (g.es[i].no : Nat)) := by
            rcases (HG.out V (Kept.refl [] V)).es.lie with ⟨_, e2⟩ | ⟨b, o, c', e, _, _, q⟩
            · rw [e2] at hlt; simp at hlt
            · cases e
              exact ⟨b, o, rfl, fun W kW i hi => ⟨cell_kept0 kW (q i hi).1, cell_kept0 kW (q i hi).2.1, cell_kept0 kW (q i hi).2.2.1, cell_kept0 kW (q i hi).2.2.2⟩⟩
          subst hea
          have HCE : Hid (∀ W, Kept [] V W → ∀ i (h : i < g.es.length), W.cell? ⟨b, o + i * 4, none⟩ = some (.int .i64 g.es[i].fr) ∧ W.cell? ⟨b, o + i * 4 + 1, none⟩ = some (.int .i64 g.es[i].to) ∧ W.cell? ⟨b, o + i * 4 + 2, none⟩ = some (.int .u16 (g.es[i].mu : Nat)) ∧ W.cell? ⟨b, o + i * 4 + 3, none⟩ = some (.int .u16 (g.es[i].no : Nat))) := hcell
          clear hcell
          obtain ⟨c1, c2, c3, c4⟩ := HCE.out wr HKW.out k hlt
          obtain ⟨⟨e1, e2, e3, e4⟩, hE⟩ : ∃ x, g.es[k] = x := ⟨_, rfl⟩
          have hwf := (HG.out V (Kept.refl [] V)).es.wf _ (List.getElem_mem hlt)
          rw [hE] at c1 c2 c3 c4 hwf
          have h3 : e3 < 65536 := hwf.2.2.1
          have h4 : e4 < 65536 := hwf.2.2.2
          have HED : Hid (g.es[k] = ⟨e1, e2, e3, e4⟩) := hE
          dsimp only at c1 c2 c3 c4
          clear hE hwf
          obtain ⟨an, han⟩ : ∃ an : Nat, e3 &&& e4 = an := ⟨_, rfl⟩
          have hand : bits .and .u16 (e3 : Int) (e4 : Int) = (an : Int) := by rw [u16_and_nat e3 e4 h3 h4, han]
          have HOK : Hid (edOk g ⟨e1, e2, e3, e4⟩ = (stateB e1 g.st && stateB e2 g.st && decide (e3 < tp) && decide (e4 < tp) && decide (an = 0))) := by show edOk g _ = _; rw [HEO.out]; dsimp only; rw [han]
          have HBAD : Hid (edOk g ⟨e1, e2, e3, e4⟩ = false → errG g = 100) := fun e => HNE.out k hlt (by unfold edB; rw [HED.out, e, Bool.false_and])
          clear han h3 h4
          go_upto_region 9 with fail
          obtain ⟨U, hU⟩ : ∃ U, wr.alloc (.cells #[.int .i64 e1, .int .i64 e2, .int .u16 (e3 : Nat), .int .u16 (e4 : Nat)] 52) = U := ⟨_, rfl⟩
          have hkU : Kept [] wr U := by rw [← hU]; exact (Kept.refl [] wr).alloc _
          have hbU : U.heap[wr.heap.size]? = some (.cells #[.int .i64 e1, .int .i64 e2, .int .u16 (e3 : Nat), .int .u16 (e4 : Nat)] 52 (0, 0)) := by rw [← hU]; exact al0 _ _
          rw [hU]
          have HKU : Hid (Kept [] V U) := keptB HKW.out hkU
          have HBU : Hid (U.heap[wr.heap.size]? = some (.cells #[.int .i64 e1, .int .i64 e2, .int .u16 (e3 : Nat), .int .u16 (e4 : Nat)] 52 (0, 0))) := hbU
          clear hU hkU hbU c1 c2 c3 c4 d0 d1 d2 d3 d4
          obtain ⟨Be, hBe⟩ : ∃ Be, wr.heap.size = Be := ⟨_, rfl⟩
          rw [hBe] at HBU ⊢
          clear hBe
          have HQ : Hid (∀ W, Kept [] U W → (W.cell? ⟨w.heap.size, 1, none⟩ = some (.int .i64 g.st) ∧ W.cell? ⟨w.heap.size, 3, none⟩ = some (.slice (some ⟨b, o, none⟩) g.es.length ec)) ∧ W.cell? ⟨Be, 0, none⟩ = some (.int .i64 e1) ∧ W.cell? ⟨Be, 1, none⟩ = some (.int .i64 e2) ∧ W.cell? ⟨Be, 2, none⟩ = some (.int .u16 (e3 : Nat)) ∧ W.cell? ⟨Be, 3, none⟩ = some (.int .u16 (e4 : Nat))) := fun W kW => ⟨⟨(HC5.out W (keptB HKU.out kW)).2.1, (HC5.out W (keptB HKU.out kW)).2.2.2.1⟩, (cell_of (kW.at HBU.out (by simp)) 0).trans rfl, (cell_of (kW.at HBU.out (by simp)) 1).trans rfl, (cell_of (kW.at HBU.out (by simp)) 2).trans rfl, (cell_of (kW.at HBU.out (by simp)) 3).trans rfl⟩
          obtain ⟨⟨d1, d3⟩, x1, x2, x3, x4⟩ := HQ.out U (Kept.refl [] U)
          by_cases s1 : e1 < 0
          · go_wp2
            go_ret
            exact ⟨ret_err (a := 100) (HBAD.out (by rw [HOK.out]; unfold stateB; rw [decide_eq_false (p := 0 ≤ e1) (by omega)]; simp)).symm, keptB HKV.out HKU.out⟩
          by_cases s2 : g.st ≤ e1
          · go_wp2
            go_ret
            exact ⟨ret_err (a := 100) (HBAD.out (by rw [HOK.out]; unfold stateB; rw [decide_eq_false (p := e1 < g.st) (by omega)]; simp)).symm, keptB HKV.out HKU.out⟩
          by_cases s3 : e2 < 0
          · go_wp2
            go_ret
            exact ⟨ret_err (a := 100) (HBAD.out (by rw [HOK.out]; unfold stateB; rw [decide_eq_false (p := 0 ≤ e2) (by omega)]; simp)).symm, keptB HKV.out HKU.out⟩
          by_cases s4 : g.st ≤ e2
          · go_wp2
            go_ret
            exact ⟨ret_err (a := 100) (HBAD.out (by rw [HOK.out]; unfold stateB; rw [decide_eq_false (p := e2 < g.st) (by omega)]; simp)).symm, keptB HKV.out HKU.out⟩
          have HSS : Hid (stateB e1 g.st = true ∧ stateB e2 g.st = true) := by
            refine ⟨?_, ?_⟩
            · unfold stateB; rw [decide_eq_true (by omega), decide_eq_true (by omega)]; rfl
            · unfold stateB; rw [decide_eq_true (by omega), decide_eq_true (by omega)]; rfl
          by_cases m1 : t1 < e3
          · have q1 : decide (t1 < e3) = true := decide_eq_true m1
            go_wp2_with fail
            go_quiet (fail)
            go_wp2
            go_ret
            exact ⟨ret_err (a := 100) (HBAD.out (by rw [HOK.out, decide_eq_false (p := e3 < tp) (by omega)]; simp)).symm, keptB HKV.out (HKU.out.drewN _)⟩
          have q1 : decide (t1 < e3) = false := decide_eq_false m1
          by_cases m2 : t1 < e4
          · have q2 : decide (t1 < e4) = true := decide_eq_true m2
            go_wp2_with fail
            go_quiet (fail)
            go_wp2
            go_ret
            exact ⟨ret_err (a := 100) (HBAD.out (by rw [HOK.out, decide_eq_false (p := e4 < tp) (by omega)]; simp)).symm, keptB HKV.out (HKU.out.drewN _)⟩
          have q2 : decide (t1 < e4) = false := decide_eq_false m2
          by_cases m3 : an = 0
          · have q3 : ((an : Int) != 0) = false := by simp [m3]
            have HEB : Hid (edOk g ⟨e1, e2, e3, e4⟩ = true) := by show _ = _; rw [HOK.out, HSS.out.1, HSS.out.2, decide_eq_true (p := e3 < tp) (by omega), decide_eq_true (p := e4 < tp) (by omega), decide_eq_true m3]; rfl
            by_cases hk0 : k = 0
            · have q4 : decide (0 < k) = false := decide_eq_false (by omega)
              have HYES : Hid (∀ j (h : j < g.es.length), j < k + 1 → edB g j g.es[j] = true) := fun j hj h' => by
                obtain rfl : j = k := by omega
                unfold edB; rw [HED.out, HEB.out, hk0]; rfl
              clear hk0
              go_wp2_with fail
              go_quiet (fail)
              go_wp2
              go_roundw
              case rel => exact ⟨k + 1, by go_num, by omega, HYES.out, HKU.out.drewN _⟩
              case measure => simp [intOf]; omega
            · obtain ⟨k1, hk1e⟩ : ∃ k1 : Nat, (k : Int) - 1 = k1 := ⟨k - 1, by omega⟩
              have hk1 : k1 < g.es.length := by omega
              have HKK : Hid (k = k1 + 1) := by show _ = _; omega
              obtain ⟨⟨a1, a2, a3, a4⟩, hA⟩ : ∃ x, g.es[k1] = x := ⟨_, rfl⟩
              have HAD : Hid (g.es.getD (k - 1) ⟨0, 0, 0, 0⟩ = ⟨a1, a2, a3, a4⟩) := by
                show g.es.getD (k - 1) ⟨0, 0, 0, 0⟩ = _
                rw [HKK.out, Nat.add_sub_cancel, List.getD_eq_getElem?_getD, List.getElem?_eq_getElem hk1, hA]
                rfl
              have HF : Hid (∀ w', Kept [] U w' → w'.cell? ⟨w.heap.size, 1, none⟩ = some (.int .i64 g.st) ∧ w'.cell? ⟨w.heap.size, 3, none⟩ = some (.slice (some ⟨b, o, none⟩) g.es.length ec) ∧ w'.cell? ⟨Be, 0, none⟩ = some (.int .i64 e1) ∧ w'.cell? ⟨Be, 1, none⟩ = some (.int .i64 e2) ∧ w'.cell? ⟨Be, 2, none⟩ = some (.int .u16 (e3 : Nat)) ∧ w'.cell? ⟨Be, 3, none⟩ = some (.int .u16 (e4 : Nat)) ∧ w'.cell? ⟨b, o + k1 * 4, none⟩ = some (.int .i64 a1) ∧ w'.cell? ⟨b, o + k1 * 4 + 1, none⟩ = some (.int .i64 a2) ∧ w'.cell? ⟨b, o + k1 * 4 + 2, none⟩ = some (.int .u16 (a3 : Nat)) ∧ w'.cell? ⟨b, o + k1 * 4 + 3, none⟩ = some (.int .u16 (a4 : Nat))) := fun w' kW => by
                obtain ⟨⟨y1, y3⟩, y4, y5, y6, y7⟩ := HQ.out w' kW
                obtain ⟨p1, p2, p3, p4⟩ := HCE.out w' (keptB HKU.out kW) k1 hk1
                rw [hA] at p1 p2 p3 p4
                exact ⟨y1, y3, y4, y5, y6, y7, p1, p2, p3, p4⟩
              obtain ⟨ab, hab⟩ : ∃ ab, decide (cmpEd ⟨a1, a2, a3, a4⟩ ⟨e1, e2, e3, e4⟩ < 0) = ab := ⟨_, rfl⟩
              have HAB : Hid (decide (cmpEd ⟨a1, a2, a3, a4⟩ ⟨e1, e2, e3, e4⟩ < 0) = ab) := hab
              have HAH : Hid (∀ W, Calls Tryd.prog 48 #[.agg #[.int .i64 a1, .int .i64 a2, .int .u16 (a3 : Nat), .int .u16 (a4 : Nat)], .agg #[.int .i64 e1, .int .i64 e2, .int .u16 (e3 : Nat), .int .u16 (e4 : Nat)]] W fun e w' => e = .returned (.bool ab) ∧ Kept [] W w') := fun W => by rw [← hab]; exact refAhead_any ⟨a1, a2, a3, a4⟩ ⟨e1, e2, e3, e4⟩ W
              have HEDB : Hid (edB g k g.es[k] = ab) := by
                show edB g k g.es[k] = ab
                unfold edB
                rw [HED.out, HEB.out, HAD.out, HAB.out, decide_eq_false hk0]
                rfl
              have z1 : (0 : Int) < (k : Int) := by omega
              have z2 : (k1 : Int) < (g.es.length : Int) := by omega
              have z3 : (0 : Int) ≤ (k1 : Int) := by omega
              have q4 : decide (0 < k) = true := decide_eq_true (by omega)
              have z6 : IntKind.i64.wrap ((k : Int) - 1) = (k1 : Int) := by rw [IntKind.wrap_i64]; omega
              have z7 : IntKind.i64.wrap (k1 : Int) = (k1 : Int) := by rw [IntKind.wrap_i64]; omega
              clear hA hab d1 d3 x1 x2 x3 x4 hk0
              obtain ⟨d1, d3, x1, x2, x3, x4, p1, p2, p3, p4⟩ := HF.out U (Kept.refl [] U)
              go_wp2_with fail
              go_cut [102] from 70 to 102 (fun s102 wx => s102 = .bool (!ab) ∧ Hid (Kept [] U wx))
              case first =>
                have HKc : Hid (Kept [] U U) := Kept.refl [] U
                go_region_held3 (fun w' => w'.cell? ⟨w.heap.size, 1, none⟩ = some (.int .i64 g.st) ∧ w'.cell? ⟨w.heap.size, 3, none⟩ = some (.slice (some ⟨b, o, none⟩) g.es.length ec) ∧ w'.cell? ⟨Be, 0, none⟩ = some (.int .i64 e1) ∧ w'.cell? ⟨Be, 1, none⟩ = some (.int .i64 e2) ∧ w'.cell? ⟨Be, 2, none⟩ = some (.int .u16 (e3 : Nat)) ∧ w'.cell? ⟨Be, 3, none⟩ = some (.int .u16 (e4 : Nat)) ∧ w'.cell? ⟨b, o + k1 * 4, none⟩ = some (.int .i64 a1) ∧ w'.cell? ⟨b, o + k1 * 4 + 1, none⟩ = some (.int .i64 a2) ∧ w'.cell? ⟨b, o + k1 * 4 + 2, none⟩ = some (.int .u16 (a3 : Nat)) ∧ w'.cell? ⟨b, o + k1 * 4 + 3, none⟩ = some (.int .u16 (a4 : Nat)))
                  ((refine HF.out _ ?_; (first | exact HKc.out | exact HKc.out.drew)))
                  ((go_at_call 48; refine (HAH.out _).mono ?_; rintro e Wa ⟨rfl, hka⟩; have HKn : Hid (Kept [] U Wa) := (by first | exact HKc.out.trans hka (by simp) (by simp) | exact HKc.out.drew.trans hka (by simp) (by simp)); clear HKc hka; have HKc : Hid (Kept [] U Wa) := HKn.out; clear HKn))
                all_goals (go_wp2_with fail; go_meet)
                all_goals exact ⟨rfl, HKc.out⟩
              case rest =>
                obtain ⟨rfl, HK9⟩ := hcut
                rename World => U9
                cases ab with
                | true =>
                  go_wp2
                  go_roundw
                  case rel =>
                    refine ⟨k + 1, by go_num, by omega, fun j hj h' => ?_, keptB HKU.out HK9.out⟩
                    rcases Nat.lt_or_ge j k with q | q
                    · exact HA.out j hj q
                    · obtain rfl : j = k := by omega
                      exact HEDB.out
                  case measure => simp [intOf]; omega
                | false =>
                  go_wp2
                  go_ret
                  exact ⟨ret_err (a := 100) (HNE.out k hlt HEDB.out).symm, keptB HKV.out (keptB HKU.out HK9.out)⟩
          · have q3 : ((an : Int) != 0) = true := by simp; omega
            have q3' : decide (an = 0) = false := decide_eq_false m3
            go_wp2_with fail
            go_quiet (fail)
            go_wp2
            go_ret
            exact ⟨ret_err (a := 100) (HBAD.out (by rw [HOK.out, decide_eq_false (p := an = 0) m3]; simp)).symm, keptB HKV.out (HKU.out.drewN _)⟩
        · obtain rfl : k = g.es.length := by omega
          have z0 : ¬ ((g.es.length : Int) < (g.es.length : Int)) := by omega
          have HAL : Hid (∀ j (h : j < g.es.length), edB g j g.es[j] = true) := fun j h => HA.out j h h
          go_wp2_with fail
          clear d0 d1 d2 d3 d4 z0
          go_loopw [7] (fun i w2 => ∃ k : Nat, i = .int .i64 (k : Nat) ∧ k ≤ g.sets.length ∧ Hid (∀ j (h : j < g.sets.length), j < k → statesB g.sets[j] g.st = true) ∧ Hid (Kept [] V w2)) (fun i _ => g.sets.length - (intOf i).toNat)
          case atStart => exact ⟨0, rfl, Nat.zero_le _, fun j _ h => by omega, HKW.out⟩
          case round =>
            rename World => w5
            obtain ⟨k, rfl, hk, HB, HKX⟩ := hrel
            obtain ⟨d0, d1, d2, d3, d4⟩ := HC5.out w5 HKX.out
            by_cases hlt : k < g.sets.length
            · have z0 : (k : Int) < (g.sets.length : Int) := by omega
              have z00 : (0 : Int) ≤ (k : Int) := by omega
              obtain ⟨b, o, u, rfl, hu, hi⟩ := (HG.out V (Kept.refl [] V)).sets.get k hlt
              obtain ⟨uad, uc, rfl, _, _⟩ := hi.form
              obtain ⟨rb, hrb⟩ : ∃ rb, statesB g.sets[k] g.st = rb := ⟨_, rfl⟩
              have HRB : Hid (statesB g.sets[k] g.st = rb) := hrb
              have HRI : Hid (∀ W, Kept [] V W → Calls Tryd.prog 47 #[.slice uad g.sets[k].length uc, .int .i64 g.st] W fun e w' => e = .returned (.bool rb) ∧ Kept [] W w') := fun W kW => by rw [← hrb]; exact refRising_any _ _ _ W (hi.kept kW)
              generalize hln : g.sets[k].length = ln at *
              have HF : Hid (∀ w', Kept [] w5 w' → w'.cell? ⟨w.heap.size, 1, none⟩ = some (.int .i64 g.st) ∧ w'.cell? ⟨w.heap.size, 4, none⟩ = some (.slice (some ⟨b, o, none⟩) g.sets.length sc) ∧ w'.cell? ⟨b, o + k, none⟩ = some (.slice uad ln uc)) := fun w' kW => ⟨(HC5.out w' (keptB HKX.out kW)).2.1, (HC5.out w' (keptB HKX.out kW)).2.2.2.2, cell_kept0 (keptB HKX.out kW) hu⟩
              clear hrb hi hu hln d0 d1 d2 d3 d4
              obtain ⟨d1, d4, c0⟩ := HF.out w5 (Kept.refl [] w5)
              go_wp2_with fail
              go_cut [118] from 110 to 118 (fun s118 wx => s118 = .bool (!rb) ∧ Hid (Kept [] w5 wx))
              case first =>
                have HKc : Hid (Kept [] w5 w5) := Kept.refl [] w5
                go_region_held3 (fun w' => w'.cell? ⟨w.heap.size, 1, none⟩ = some (.int .i64 g.st) ∧ w'.cell? ⟨w.heap.size, 4, none⟩ = some (.slice (some ⟨b, o, none⟩) g.sets.length sc) ∧ w'.cell? ⟨b, o + k, none⟩ = some (.slice uad ln uc))
                  ((refine HF.out _ ?_; (first | exact HKc.out | exact HKc.out.drew)))
                  ((go_at_call 47; refine (HRI.out _ (keptB HKX.out (by first | exact HKc.out | exact HKc.out.drew))).mono ?_; rintro e Wa ⟨rfl, hka⟩; have HKn : Hid (Kept [] w5 Wa) := (by first | exact HKc.out.trans hka (by simp) (by simp) | exact HKc.out.drew.trans hka (by simp) (by simp)); clear HKc hka; have HKc : Hid (Kept [] w5 Wa) := HKn.out; clear HKn))
                all_goals (go_wp2_with fail; go_meet)
                all_goals exact ⟨rfl, HKc.out⟩
              case rest =>
                obtain ⟨rfl, HK9⟩ := hcut
                rename World => U9
                cases rb with
                | true =>
                  go_wp2
                  go_roundw
                  case rel =>
                    refine ⟨k + 1, by go_num, by omega, fun j hj h' => ?_, keptB HKX.out HK9.out⟩
                    rcases Nat.lt_or_ge j k with q | q
                    · exact HB.out j hj q
                    · obtain rfl : j = k := by omega
                      exact HRB.out
                  case measure => simp [intOf]; omega
                | false =>
                  go_wp2
                  go_ret
                  exact ⟨ret_err (a := 100) (HNS.out k hlt HRB.out).symm, keptB HKV.out (keptB HKX.out HK9.out)⟩
            · obtain rfl : k = g.sets.length := by omega
              have z0 : ¬ ((g.sets.length : Int) < (g.sets.length : Int)) := by omega
              go_wp2
              go_ret
              exact ⟨ret_err (a := 0) (HYE.out HAL.out (fun i hi => HB.out i hi hi)).symm, keptB HKV.out HKX.out⟩
end Go.Proofs.YtkkhilgcjaigcaaDoor
