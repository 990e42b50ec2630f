/- package buchi: isRight, CheckGeneral, Check. -/
import Derived.Test.YtcojlcbljhnbgaaBuEdge
namespace Go.Proofs.Ytcojlcbljhnbgaa
open Go.RowKit Go.Shelf

theorem noStates_any (v : Value) (xs : List Int) (st : Int) (B : Nat) (w : World) (h : Ints w v xs) (hb : w.cell? ⟨B, 1, none⟩ = some (.int .i64 st)) :
    Calls Try.prog 59 #[v, .pointer (some ⟨B, 0, none⟩)] w fun e w' => e = .returned (.bool (!(statesB xs st))) ∧ w' = w := by
  have HA : Hid (Calls Try.prog 60 #[v, .int .i64 st] w fun e w' => e = .returned (.bool (statesB xs st)) ∧ w' = w) := areStates_any v xs st w h
  obtain ⟨ad, c, rfl, _, _⟩ := h.form
  clear h
  go_enter Try.func59, Try.ntmps59
  go_wp2_with (go_at_call 60; refine HA.out.mono ?_; rintro e w1 ⟨rfl, hw1⟩; rw [hw1]; clear hw1)
  go_ret
  exact ⟨rfl, rfl⟩
def setsB (ss : List (List Int)) (st : Int) : Bool := ss.all fun xs => statesB xs st
theorem setsB_no {ss : List (List Int)} {st : Int} {i : Nat} (hi : i < ss.length) (h : statesB ss[i] st = false) : setsB ss st = false := by
  unfold setsB
  rw [List.all_eq_false]
  exact ⟨_, List.getElem_mem hi, by rw [h]; simp⟩
theorem setsB_yes {ss : List (List Int)} {st : Int} (h : ∀ i (hi : i < ss.length), statesB ss[i] st = true) : setsB ss st = true := by
  unfold setsB
  rw [List.all_eq_true]
  intro x hx
  obtain ⟨i, hi, rfl⟩ := List.getElem_of_mem hx
  exact h i hi
set_option maxHeartbeats 2000000 in
set_option maxRecDepth 10000 in
theorem indexS_any (v : Value) (ss : List (List Int)) (st : Int) (B : Nat) (w : World) (h : Rowss w v ss) (hb : w.cell? ⟨B, 1, none⟩ = some (.int .i64 st)) :
    Calls Try.prog 52 #[v, .func (.func 59) #[] #[.pointer (some ⟨B, 0, none⟩)]] w fun e w' => ∃ k : Int, e = .returned (.int .i64 k) ∧ Hid (decide (0 ≤ k) = !(setsB ss st)) ∧ w' = w := by
  have hfew := h.few
  rcases h.lie with ⟨rfl, rfl⟩ | ⟨b, o, c, rfl, hc1, hc2, hcell⟩
  · clear h hfew
    go_enter Try.func52, Try.ntmps52
    go_wp2_with fail
    refine wp_loop_rounds 1 ?_
    rw [rounds_succ]
    go_wp2
    go_ret
    exact ⟨-1, rfl, rfl, rfl⟩
  · have HCE : Hid (∀ i (h : i < ss.length), ∃ u, w.cell? ⟨b, o + i, none⟩ = some u ∧ Ints w u ss[i]) := hcell
    have HB : Hid (w.cell? ⟨B, 1, none⟩ = some (.int .i64 st)) := hb
    clear h hcell hb
    go_enter Try.func52, Try.ntmps52
    go_wp2_with fail
    go_loopw [8] (fun i wr => ∃ k : Nat, i = .int .i64 (k : Nat) ∧ k ≤ ss.length ∧ wr = w ∧ Hid (∀ j (h : j < ss.length), j < k → statesB ss[j] st = true)) (fun i _ => ss.length - (intOf i).toNat)
    case atStart => exact ⟨0, rfl, Nat.zero_le _, rfl, fun j _ h => by omega⟩
    case round =>
      obtain ⟨k, rfl, hk, hwr, HA⟩ := hrel
      have HWR : Hid (wr = w) := hwr
      clear hwr
      by_cases hlt : k < ss.length
      · have z0 : (k : Int) < (ss.length : Int) := by omega
        obtain ⟨u, hu1, hu2⟩ := HCE.out k hlt
        obtain ⟨ua, uc, rfl, _, _⟩ := hu2.form
        obtain ⟨sb, hsb⟩ : ∃ sb, statesB ss[k] st = sb := ⟨_, rfl⟩
        have HN : Hid (Calls Try.prog 59 #[.slice ua ss[k].length uc, .pointer (some ⟨B, 0, none⟩)] wr fun e w' => e = .returned (.bool (!sb)) ∧ w' = wr) := by rw [← hsb, HWR.out]; exact noStates_any _ _ st B w hu2 HB.out
        obtain ⟨un, hun⟩ : ∃ un, ss[k].length = un := ⟨_, rfl⟩
        have c0 : wr.cell? ⟨b, o + k, none⟩ = some (.slice ua un uc) := by rw [HWR.out, ← hun]; exact hu1
        rw [hun] at HN
        have HSB : Hid (statesB ss[k] st = sb) := hsb
        clear hu1 hu2 hun hsb
        cases sb with
        | false =>
          have HY : Hid (setsB ss st = false) := setsB_no hlt HSB.out
          go_wp2_with (go_at_call 59; refine HN.out.mono ?_; rintro e w1 ⟨rfl, hw1⟩; rw [hw1]; clear hw1)
          go_ret
          exact ⟨k, rfl, by show decide (0 ≤ (k : Int)) = _; rw [HY.out]; simp, HWR.out⟩
        | true =>
          have HY : Hid (∀ j (h : j < ss.length), j < k + 1 → statesB ss[j] st = true) := fun j hj h' => by
            rcases Nat.lt_or_ge j k with q | q
            · exact HA.out j hj q
            · obtain rfl : j = k := by omega
              exact HSB.out
          go_wp2_with (go_at_call 59; refine HN.out.mono ?_; rintro e w1 ⟨rfl, hw1⟩; rw [hw1]; clear hw1)
          go_roundw
          case rel => exact ⟨k + 1, by go_num, by omega, HWR.out, HY.out⟩
          case measure => simp [intOf]; omega
      · obtain rfl : k = ss.length := by omega
        have z0 : ¬ ((ss.length : Int) < (ss.length : Int)) := by omega
        have HY : Hid (setsB ss st = true) := setsB_yes (fun i hi => HA.out i hi hi)
        go_wp2
        go_ret
        exact ⟨-1, rfl, by show decide ((0 : Int) ≤ -1) = _; rw [HY.out]; rfl, HWR.out⟩
theorem containsS_any (v : Value) (ss : List (List Int)) (st : Int) (B : Nat) (w : World) (h : Rowss w v ss) (hb : w.cell? ⟨B, 1, none⟩ = some (.int .i64 st)) :
    Calls Try.prog 47 #[v, .func (.func 59) #[] #[.pointer (some ⟨B, 0, none⟩)]] w fun e w' => e = .returned (.bool (!(setsB ss st))) ∧ w' = w := by
  have HI : Hid (Calls Try.prog 52 #[v, .func (.func 59) #[] #[.pointer (some ⟨B, 0, none⟩)]] w fun e w' => ∃ k : Int, e = .returned (.int .i64 k) ∧ Hid (decide (0 ≤ k) = !(setsB ss st)) ∧ w' = w) := indexS_any v ss st B w h hb
  obtain ⟨ad, n, c, rfl⟩ : ∃ ad n c, v = .slice ad n c := by
    rcases h.lie with ⟨rfl, _⟩ | ⟨_, _, _, rfl, _⟩
    · exact ⟨_, _, _, rfl⟩
    · exact ⟨_, _, _, rfl⟩
  clear h hb
  go_enter Try.func47, Try.ntmps47
  go_wp2_with (go_at_call 52; refine HI.out.mono ?_; rintro e w1 ⟨k, rfl, HK, hw1⟩; rw [hw1]; clear hw1)
  go_ret
  exact ⟨by rw [← HK.out]; rfl, rfl⟩
/-- Is an automaton with sets right. -/
def rightG (g : Gen) : Bool := listB g.ps && decide (0 ≤ g.st) && decide (g.st ≤ 65536) && statesB g.ini g.st && edgesB g && setsB g.sets g.st
set_option maxHeartbeats 4000000 in
set_option maxRecDepth 10000 in
theorem isRight_any (pv iv ev sv : Value) (g : Gen) (w : World) (h : IsG w pv iv ev sv g) :
    Calls Try.prog 57 #[genV pv g.st iv ev sv] w fun e w' => e = .returned (.bool (rightG g)) ∧ Kept [] w w' := by
  obtain ⟨pad, pc, rfl, _, _⟩ := h.ps.form
  obtain ⟨iad, ic, rfl, _, _⟩ := h.ini.form
  obtain ⟨ead, ec, rfl, _, _⟩ := h.es.form
  obtain ⟨sad, sn, sc, rfl⟩ : ∃ ad n c, sv = .slice ad n c := by
    rcases h.sets.lie with ⟨rfl, _⟩ | ⟨_, _, _, rfl, _⟩
    · exact ⟨_, _, _, rfl⟩
    · exact ⟨_, _, _, rfl⟩
  obtain ⟨V, hV⟩ : ∃ V, w.alloc (.cells #[.slice pad g.ps.length pc, .int .i64 g.st, .slice iad g.ini.length ic, .slice ead g.es.length ec, .slice sad sn sc] 105) = V := ⟨_, rfl⟩
  have kV : Kept [] w V := by rw [← hV]; exact (Kept.refl [] w).alloc _
  have hBV : V.heap[w.heap.size]? = some (.cells #[.slice pad g.ps.length pc, .int .i64 g.st, .slice iad g.ini.length ic, .slice ead g.es.length ec, .slice sad sn sc] 105 (0, 0)) := by rw [← hV]; exact al0 _ _
  have HC5 : Hid (∀ W, Kept [] V W → W.cell? ⟨w.heap.size, 0, none⟩ = some (.slice pad g.ps.length pc) ∧ W.cell? ⟨w.heap.size, 1, none⟩ = some (.int .i64 g.st) ∧ W.cell? ⟨w.heap.size, 2, none⟩ = some (.slice iad g.ini.length ic) ∧ W.cell? ⟨w.heap.size, 3, none⟩ = some (.slice ead g.es.length ec) ∧ W.cell? ⟨w.heap.size, 4, none⟩ = some (.slice sad sn sc)) := fun W k => ⟨(cell_of (k.at hBV (by simp)) 0).trans rfl, (cell_of (k.at hBV (by simp)) 1).trans rfl, (cell_of (k.at hBV (by simp)) 2).trans rfl, (cell_of (k.at hBV (by simp)) 3).trans rfl, (cell_of (k.at hBV (by simp)) 4).trans rfl⟩
  have HKV : Hid (Kept [] w V) := kV
  have HV : Hid (_ = V) := hV
  obtain ⟨r1, h1⟩ : ∃ r, listB g.ps = r := ⟨_, rfl⟩
  obtain ⟨r2, h2⟩ : ∃ r, statesB g.ini g.st = r := ⟨_, rfl⟩
  obtain ⟨r3, h3⟩ : ∃ r, edgesB g = r := ⟨_, rfl⟩
  obtain ⟨r4, h4⟩ : ∃ r, setsB g.sets g.st = r := ⟨_, rfl⟩
  have HL : Hid (Calls Try.prog 58 #[.slice pad g.ps.length pc] V fun e w' => e = .returned (.bool r1) ∧ w' = V) := by rw [← h1]; exact isList_any _ _ V (h.ps.kept kV)
  have HS : Hid (Calls Try.prog 60 #[.slice iad g.ini.length ic, .int .i64 g.st] V fun e w' => e = .returned (.bool r2) ∧ w' = V) := by rw [← h2]; exact areStates_any _ _ _ V (h.ini.kept kV)
  have HE : Hid (Calls Try.prog 61 #[.agg #[.slice pad g.ps.length pc, .int .i64 g.st, .slice iad g.ini.length ic, .slice ead g.es.length ec, .slice sad sn sc]] V fun e w' => e = .returned (.bool r3) ∧ Kept [] V w') := by rw [← h3]; exact areEdges_any _ _ _ _ g V (h.kept kV)
  have HC : Hid (∀ W, Kept [] V W → Calls Try.prog 47 #[.slice sad sn sc, .func (.func 59) #[] #[.pointer (some ⟨w.heap.size, 0, none⟩)]] W fun e w' => e = .returned (.bool (!r4)) ∧ w' = W) := fun W k => by rw [← h4]; exact containsS_any _ _ _ _ W ((h.sets.kept kV).kept k) (HC5.out W k).2.1
  have HR : Hid (rightG g = (r1 && decide (0 ≤ g.st) && decide (g.st ≤ 65536) && r2 && r3 && r4)) := by show rightG g = _; unfold rightG; rw [h1, h2, h3, h4]
  obtain ⟨d0, d1, d2, d3, d4⟩ := HC5.out V (Kept.refl [] V)
  rw [HR.out]
  unfold genV
  clear h kV hBV h1 h2 h3 h4 hV
  cases r1 with
  | false =>
    go_enter Try.func57, Try.ntmps57
    go_wp2_with (go_at_call 58; rw [HV.out]; refine HL.out.mono ?_; rintro e w1 ⟨rfl, hw1⟩; rw [hw1]; clear hw1)
    go_ret
    exact ⟨rfl, HKV.out⟩
  | true =>
    by_cases hs0 : 0 ≤ g.st
    · by_cases hs1 : g.st ≤ 65536
      · have y0 : ¬ (g.st < 0) := by omega
        have y1 : ¬ (65536 < g.st) := by omega
        rw [decide_eq_true hs0, decide_eq_true hs1]
        cases r2 with
        | false =>
          go_enter Try.func57, Try.ntmps57
          go_wp2_with (first | (go_at_call 58; rw [HV.out]; refine HL.out.mono ?_; rintro e w1 ⟨rfl, hw1⟩; rw [hw1]; clear hw1) | (go_at_call 60; refine HS.out.mono ?_; rintro e w2 ⟨rfl, hw2⟩; rw [hw2]; clear hw2) | (go_at_call 61; refine HE.out.mono ?_; rintro e w3 ⟨rfl, hk3⟩; have HK3 : Hid (Kept [] V w3) := hk3; clear hk3 d0 d1 d2 d3 d4; obtain ⟨d0, d1, d2, d3, d4⟩ := HC5.out w3 HK3.out) | (go_at_call 47; refine (HC.out w3 HK3.out).mono ?_; rintro e w4 ⟨rfl, hw4⟩; rw [hw4]; clear hw4))
          go_ret
          exact ⟨rfl, HKV.out⟩
        | true =>
          cases r3 with
          | false =>
            go_enter Try.func57, Try.ntmps57
            go_wp2_with (first | (go_at_call 58; rw [HV.out]; refine HL.out.mono ?_; rintro e w1 ⟨rfl, hw1⟩; rw [hw1]; clear hw1) | (go_at_call 60; refine HS.out.mono ?_; rintro e w2 ⟨rfl, hw2⟩; rw [hw2]; clear hw2) | (go_at_call 61; refine HE.out.mono ?_; rintro e w3 ⟨rfl, hk3⟩; have HK3 : Hid (Kept [] V w3) := hk3; clear hk3 d0 d1 d2 d3 d4; obtain ⟨d0, d1, d2, d3, d4⟩ := HC5.out w3 HK3.out) | (go_at_call 47; refine (HC.out w3 HK3.out).mono ?_; rintro e w4 ⟨rfl, hw4⟩; rw [hw4]; clear hw4))
            go_ret
            exact ⟨rfl, keptB HKV.out HK3.out⟩
          | true =>
            cases r4 with
            | false =>
              go_enter Try.func57, Try.ntmps57
              go_wp2_with (first | (go_at_call 58; rw [HV.out]; refine HL.out.mono ?_; rintro e w1 ⟨rfl, hw1⟩; rw [hw1]; clear hw1) | (go_at_call 60; refine HS.out.mono ?_; rintro e w2 ⟨rfl, hw2⟩; rw [hw2]; clear hw2) | (go_at_call 61; refine HE.out.mono ?_; rintro e w3 ⟨rfl, hk3⟩; have HK3 : Hid (Kept [] V w3) := hk3; clear hk3 d0 d1 d2 d3 d4; obtain ⟨d0, d1, d2, d3, d4⟩ := HC5.out w3 HK3.out) | (go_at_call 47; refine (HC.out w3 HK3.out).mono ?_; rintro e w4 ⟨rfl, hw4⟩; rw [hw4]; clear hw4))
              go_ret
              exact ⟨rfl, keptB HKV.out HK3.out⟩
            | true =>
              go_enter Try.func57, Try.ntmps57
              go_wp2_with (first | (go_at_call 58; rw [HV.out]; refine HL.out.mono ?_; rintro e w1 ⟨rfl, hw1⟩; rw [hw1]; clear hw1) | (go_at_call 60; refine HS.out.mono ?_; rintro e w2 ⟨rfl, hw2⟩; rw [hw2]; clear hw2) | (go_at_call 61; refine HE.out.mono ?_; rintro e w3 ⟨rfl, hk3⟩; have HK3 : Hid (Kept [] V w3) := hk3; clear hk3 d0 d1 d2 d3 d4; obtain ⟨d0, d1, d2, d3, d4⟩ := HC5.out w3 HK3.out) | (go_at_call 47; refine (HC.out w3 HK3.out).mono ?_; rintro e w4 ⟨rfl, hw4⟩; rw [hw4]; clear hw4))
              go_ret
              exact ⟨rfl, keptB HKV.out HK3.out⟩
      · have y0 : ¬ (g.st < 0) := by omega
        have y1 : 65536 < g.st := by omega
        rw [decide_eq_false hs1, Bool.and_false, Bool.false_and, Bool.false_and, Bool.false_and]
        go_enter Try.func57, Try.ntmps57
        go_wp2_with (first | (go_at_call 58; rw [HV.out]; refine HL.out.mono ?_; rintro e w1 ⟨rfl, hw1⟩; rw [hw1]; clear hw1) | (go_at_call 60; refine HS.out.mono ?_; rintro e w2 ⟨rfl, hw2⟩; rw [hw2]; clear hw2) | (go_at_call 61; refine HE.out.mono ?_; rintro e w3 ⟨rfl, hk3⟩; have HK3 : Hid (Kept [] V w3) := hk3; clear hk3 d0 d1 d2 d3 d4; obtain ⟨d0, d1, d2, d3, d4⟩ := HC5.out w3 HK3.out) | (go_at_call 47; refine (HC.out w3 HK3.out).mono ?_; rintro e w4 ⟨rfl, hw4⟩; rw [hw4]; clear hw4))
        go_ret
        exact ⟨rfl, HKV.out⟩
    · have y0 : g.st < 0 := by omega
      rw [decide_eq_false hs0, Bool.and_false, Bool.false_and, Bool.false_and, Bool.false_and, Bool.false_and]
      go_enter Try.func57, Try.ntmps57
      go_wp2_with (first | (go_at_call 58; rw [HV.out]; refine HL.out.mono ?_; rintro e w1 ⟨rfl, hw1⟩; rw [hw1]; clear hw1) | (go_at_call 60; refine HS.out.mono ?_; rintro e w2 ⟨rfl, hw2⟩; rw [hw2]; clear hw2) | (go_at_call 61; refine HE.out.mono ?_; rintro e w3 ⟨rfl, hk3⟩; have HK3 : Hid (Kept [] V w3) := hk3; clear hk3 d0 d1 d2 d3 d4; obtain ⟨d0, d1, d2, d3, d4⟩ := HC5.out w3 HK3.out) | (go_at_call 47; refine (HC.out w3 HK3.out).mono ?_; rintro e w4 ⟨rfl, hw4⟩; rw [hw4]; clear hw4))
      go_ret
      exact ⟨rfl, HKV.out⟩
def errG (g : Gen) : Nat := if rightG g then 0 else 100
set_option maxHeartbeats 1000000 in
theorem checkG_any (pv iv ev sv : Value) (g : Gen) (w : World) (h : IsG w pv iv ev sv g) :
    Calls Try.prog 55 #[genV pv g.st iv ev sv] w fun e w' => e = .returned (.int .i64 (errG g : Nat)) ∧ Kept [] w w' := by
  obtain ⟨r, hr⟩ : ∃ r, rightG g = r := ⟨_, rfl⟩
  have HI : Hid (∀ W, Kept [] w W → Calls Try.prog 57 #[genV pv g.st iv ev sv] W fun e w' => e = .returned (.bool r) ∧ Kept [] W w') := fun W k => by rw [← hr]; exact isRight_any pv iv ev sv g W (h.kept k)
  obtain ⟨pad, pc, rfl, _, _⟩ := h.ps.form
  obtain ⟨iad, ic, rfl, _, _⟩ := h.ini.form
  obtain ⟨ead, ec, rfl, _, _⟩ := h.es.form
  obtain ⟨sad, sn, sc, rfl⟩ : ∃ ad n c, sv = .slice ad n c := by
    rcases h.sets.lie with ⟨rfl, _⟩ | ⟨_, _, _, rfl, _⟩
    · exact ⟨_, _, _, rfl⟩
    · exact ⟨_, _, _, rfl⟩
  unfold errG
  rw [hr]
  unfold genV at HI ⊢
  clear h hr
  cases r with
  | false =>
    go_enter Try.func55, Try.ntmps55
    go_wp2_with (go_at_call 57; refine (HI.out _ ((Kept.refl [] w).alloc _)).mono ?_; rintro e w1 ⟨rfl, hk⟩; have HK : Hid (Kept [] w w1) := keptB ((Kept.refl [] w).alloc _) hk; clear hk)
    go_ret
    exact ⟨rfl, HK.out⟩
  | true =>
    go_enter Try.func55, Try.ntmps55
    go_wp2_with (go_at_call 57; refine (HI.out _ ((Kept.refl [] w).alloc _)).mono ?_; rintro e w1 ⟨rfl, hk⟩; have HK : Hid (Kept [] w w1) := keptB ((Kept.refl [] w).alloc _) hk; clear hk)
    go_ret
    exact ⟨rfl, HK.out⟩
end Go.Proofs.Ytcojlcbljhnbgaa
