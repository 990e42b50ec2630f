/- The document's letters: augurref05.letters. -/
import Derived.Test.YthkmcnfoadkggaaDoorWdLets
namespace Go.Proofs.YthkmcnfoadkggaaDoor
open Go.RowKit
attribute [local go_sem ↓] Go.wp_at_zero Go.wp_at_succ

theorem append_let {w W : World} {v : Value} {xs : List Nat} {x : Nat} (hk : Kept [] w W) (hown : W.ownsRow w.heap.size 54 1 v xs.length (u16s xs)) (hx : x < 65536) (hl : xs.length + 1 ≤ 70368744177664) :
    ∃ v' w', (∀ ty, (Builtin.append_ #[22, 22] ty #[v, .slice (some ⟨W.heap.size, 0, none⟩) 1 1]).run Tryd.prog (W.alloc (.cells #[.int .u16 (x : Nat)] 54)) = .ok v' w') ∧ w'.ownsRow w.heap.size 54 1 v' (xs ++ [x]).length (u16s (xs ++ [x])) ∧ Kept [] w w' := by
  have hz := hk.size
  have ka : Kept [] W (W.alloc (.cells #[.int .u16 (x : Nat)] 54)) := (Kept.refl [] W).alloc _
  have ho : (W.alloc (.cells #[.int .u16 (x : Nat)] 54)).ownsRow w.heap.size 54 1 v xs.length (u16s xs) := owns_keptF hown ka (by simp)
  have hu : Lets (W.alloc (.cells #[.int .u16 (x : Nat)] 54)) (.slice (some ⟨W.heap.size, 0, none⟩) 1 1) [x] := by
    refine ⟨by simpa using hx, by simp, .inr ⟨W.heap.size, 0, 1, rfl, by simp, by unfold maxLen; omega, fun i hi => ?_⟩⟩
    obtain rfl : i = 0 := by simpa using hi
    exact (cell_of (heap_alloc_new W _) 0).trans rfl
  obtain ⟨v', w', h1, h2, h3, _, _⟩ := run_append_lets _ w.heap.size v _ xs [x] ho hu (by simpa using hl) (by rw [World.size_alloc]; omega)
  exact ⟨v', w', h1, h2, (hk.alloc _).grown h3 (fun g e => .inr (own_base ho e))⟩
/-- What the document's letters answers: the letters and the place behind them, or the place of the digit that is too many. -/
def RefEnds (w : World) (s : ByteArray) (k : Nat) (e : Ending) (w' : World) : Prop :=
  ∃ a b c p, k ≤ p ∧ p ≤ s.size ∧ (lettersOf (rest s k)).2 = p - k ∧ e = .returned (.tuple #[.slice a b c, .int .i64 (if headDig (rest s p) = true then -1 - (p : Int) else (p : Int))]) ∧ Kept [] w w' ∧
    (headDig (rest s p) = false → w'.ownsRow w.heap.size 54 1 (.slice a b c) (lettersOf (rest s k)).1.length (u16s (lettersOf (rest s k)).1) ∧ (∀ x ∈ (lettersOf (rest s k)).1, x < 65536) ∧ (lettersOf (rest s k)).1.length ≤ s.size)
structure LetOut (w : World) (v : Value) (xs : List Nat) (W : World) : Prop where
  kept : Kept [] w W
  own : W.ownsRow w.heap.size 54 1 v xs.length (u16s xs)
set_option maxHeartbeats 4000000 in
set_option maxRecDepth 10000 in
theorem refLetters_any (k : Nat) (s : ByteArray) (w : World) (hk : k ≤ s.size) (hs : s.size ≤ 65536) :
    Calls Tryd.prog 70 #[.string s, .int .i64 (k : Nat)] w (RefEnds w s k) := by
  go_enter Tryd.func70, Tryd.ntmps70
  go_wp2_with fail
  go_loopw [1, 6, 7, 8] (fun v1 v6 _ _ wr => ∃ (p : Nat) (xs : List Nat) (a6 : Option Addr) (n6 c6 : Nat), v1 = .int .i64 (p : Nat) ∧ v6 = .slice a6 n6 c6 ∧ p ≤ s.size ∧ Hid (LetOut w (.slice a6 n6 c6) xs wr) ∧ Hid (LetSo s k p xs)) (fun v1 _ _ _ _ => s.size + 1 - (intOf v1).toNat)
  case atStart => exact ⟨k, [], none, 0, 0, rfl, rfl, hk, ⟨Kept.refl _ _, own_nil _ _⟩, ⟨by simp, by simp, by rw [Nat.sub_self, Nat.zero_add]; rfl, Nat.le_refl _, hk⟩⟩
  case round =>
    obtain ⟨p, xs, a6, n6, c6, rfl, rfl, hpt, HM, HS⟩ := hrel
    rename World => w2
    go_wp2_with fail
    go_loopw [1] (fun v1 wr => ∃ q : Nat, v1 = .int .i64 (q : Nat) ∧ p ≤ q ∧ q ≤ s.size ∧ Hid (wr = w2) ∧ Hid (p + blanksN (rest s p) = q + blanksN (rest s q))) (fun v1 _ => s.size - (intOf v1).toNat)
    case atStart => exact ⟨p, rfl, Nat.le_refl _, hpt, rfl, rfl⟩
    case round =>
      obtain ⟨q, rfl, hpq, hqt, HW, HB⟩ := hrel
      rename World => w3
      obtain rfl : w3 = w2 := HW.out
      have b0 : (0 : Int) ≤ (q : Int) := by omega
      cases hq : headIs (rest s q) 32 with
      | true =>
        obtain ⟨q1, q2⟩ := headIs_blank hq
        have b1 : (q : Int) < (s.size : Int) := by omega
        have hx : s[q]'q1 = 32 := by rw [rest_cons q1] at hq; simpa [headIs] using hq
        have hn2 : (s[q]'q1).toNat = 32 := by rw [hx]; rfl
        have HB2 : Hid (p + blanksN (rest s p) = q + 1 + blanksN (rest s (q + 1))) := by show _ = _; rw [HB.out, q2]; omega
        clear hq q2 HB hx
        go_wp2
        go_roundw
        case rel => exact ⟨q + 1, by go_num, by omega, by omega, by first | exact rfl | exact trivial, HB2.out⟩
        case measure => simp [intOf]; omega
      | false =>
        have HQ0 : Hid (p + blanksN (rest s p) = q) := by show _ = _; rw [HB.out, headIs_not hq]; rfl
        have hdr : (rest s p).drop (blanksN (rest s p)) = rest s q := by rw [rest_drop, HQ0.out]
        have hfw := HS.out.few
        have hkp := HS.out.le
        have HNB : Hid (headIs (rest s q) 32 = false) := hq
        clear hq HB
        cases hd0 : headDig (rest s q) with
        | false =>
          have HE : Hid (lettersOf (rest s k) = (xs, q - k)) := by
            show _ = _
            have := HQ0.out
            rw [HS.out.all, lettersOf_stop (by rw [hdr]; exact hd0), List.append_nil]
            simp only [Prod.mk.injEq, true_and]
            omega
          have HD : Hid (headDig (rest s q) = false) := hd0
          have HEND : Hid (RefEnds w s k (.returned (.tuple #[.slice a6 n6 c6, .int .i64 (q : Nat)])) w3) := by
            refine ⟨a6, n6, c6, q, by omega, hqt, by rw [HE.out], by rw [HD.out]; rfl, HM.out.kept, fun _ => ?_⟩
            rw [HE.out]
            exact ⟨HM.out.own, HS.out.small, by show xs.length ≤ _; omega⟩
          rcases Nat.lt_or_ge q s.size with hlt | hge
          · have b1 : (q : Int) < (s.size : Int) := by omega
            have b2 : ((q : Int) == (s.size : Int)) = false := by simp; omega
            obtain ⟨n, hn⟩ : ∃ n, (s[q]'hlt).toNat = n := ⟨_, rfl⟩
            have h32 : ((n : Int) == 32) = false := by
              have h := HNB.out
              rw [rest_cons hlt] at h
              have h' : s[q] ≠ 32 := by simpa [headIs] using h
              simp
              intro e
              exact h' (UInt8.toNat_inj.1 (by rw [hn]; show n = 32; omega))
            have hdn : n < 48 ∨ 57 < n := by
              have h := hd0
              rw [rest_cons hlt] at h
              have h' : isDig s[q] = false := h
              unfold isDig at h'
              rw [hn] at h'
              simp at h'
              omega
            clear hd0 hdr HNB
            rcases hdn with h48 | h57
            · have d1 : decide ((n : Int) < 48) = true := by simp; omega
              have d2 : (n : Int) < 48 := by omega
              clear h48
              go_wp2
              go_ret2
              exact HEND.out
            · have d1 : decide ((n : Int) < 48) = false := by simp; omega
              have d2 : ¬ (n : Int) < 48 := by omega
              have d3 : decide ((57 : Int) < (n : Int)) = true := by simp; omega
              have d4 : (57 : Int) < (n : Int) := by omega
              clear h57
              go_wp2
              go_ret2
              exact HEND.out
          · obtain rfl : q = s.size := by omega
            have b1 : ¬ ((s.size : Int) < (s.size : Int)) := by omega
            have b2 : ((s.size : Int) == (s.size : Int)) = true := by simp
            clear hd0 hdr HNB
            go_wp2
            go_ret2
            exact HEND.out
        | true =>
          obtain ⟨hlt, d, hd, hd9⟩ := dig_of hd0
          obtain ⟨n, hn⟩ : ∃ n, (s[q]'hlt).toNat = n := ⟨_, rfl⟩
          have e0 : n = 48 + d := by rw [← hn]; exact hd
          have b1 : (q : Int) < (s.size : Int) := by omega
          have b2 : ((q : Int) == (s.size : Int)) = false := by simp; omega
          have h32 : ((n : Int) == 32) = false := by simp; omega
          have d1 : decide ((n : Int) < 48) = false := by simp; omega
          have d2 : ¬ (n : Int) < 48 := by omega
          have d3 : decide ((57 : Int) < (n : Int)) = false := by simp; omega
          have d4 : ¬ (57 : Int) < (n : Int) := by omega
          have e1 : (n : Int) - 48 = (d : Int) := by omega
          have e2 : IntKind.u8.wrap ((n : Int) - 48) = (d : Int) := by rw [e1]; simp only [IntKind.wrap, IntKind.bits, IntKind.signed]; simp; omega
          have e4 : IntKind.u8.wrap (d : Int) = (d : Int) := by simp only [IntKind.wrap, IntKind.bits, IntKind.signed]; simp; omega
          obtain ⟨z, hz⟩ : ∃ z, ((d : Int) == 0) = z := ⟨_, rfl⟩
          have HZ : Hid (z = decide (d = 0)) := by show _ = _; rw [← hz]; by_cases h : d = 0 <;> simp [h]
          have HL0 : Hid (letterN 0 true (rest s q) = ((letterN d false (rest s (q + 1))).1, (letterN d false (rest s (q + 1))).2 + (q + 1 - q))) := by
            show _ = _
            rw [rest_cons hlt, letter_step hd hd9, if_neg (by simp; omega), show 0 * 10 + d = d by omega, show q + 1 - q = 1 by omega]
          have HD0 : Hid (headDig (rest s q) = true ∧ (rest s p).drop (blanksN (rest s p)) = rest s q) := ⟨hd0, hdr⟩
          clear hd e0 hd0 hdr HNB
          go_wp2_with fail
          clear hn h32 d1 d2 d3 d4 e1 e2 e4 hz b1 b2
          go_loopw [1, 7] (fun v1 v7 wr => ∃ j v : Nat, v1 = .int .i64 (j : Nat) ∧ v7 = .int .i64 (v : Nat) ∧ v ≤ 65535 ∧ q < j ∧ j ≤ s.size ∧ Hid (wr = w3) ∧ Hid (z = decide (v = 0)) ∧ Hid (letterN 0 true (rest s q) = ((letterN v false (rest s j)).1, (letterN v false (rest s j)).2 + (j - q)))) (fun v1 _ _ => s.size - (intOf v1).toNat)
          case atStart => exact ⟨q + 1, d, by go_num, rfl, by omega, by omega, by omega, by first | exact rfl | exact trivial, HZ.out, HL0.out⟩
          case round =>
            obtain ⟨j, v, rfl, rfl, hv, hqj, hjt, HW4, HZv, HLv⟩ := hrel
            rename World => w4
            obtain rfl : w4 = w3 := HW4.out
            have c0 : (0 : Int) ≤ (j : Int) := by omega
            have hdr2 : (rest s q).drop (j - q) = rest s j := by rw [rest_drop, show q + (j - q) = j by omega]
            cases hd1 : headDig (rest s j) with
            | true =>
              obtain ⟨hlj, t, ht, ht9⟩ := dig_of hd1
              obtain ⟨m, hm⟩ : ∃ m, (s[j]'hlj).toNat = m := ⟨_, rfl⟩
              have e0 : m = 48 + t := by rw [← hm]; exact ht
              have b1 : (j : Int) < (s.size : Int) := by omega
              have d1 : decide ((48 : Int) ≤ (m : Int)) = true := by simp; omega
              have d2 : (48 : Int) ≤ (m : Int) := by omega
              have d3 : decide ((m : Int) ≤ 57) = true := by simp; omega
              have d4 : (m : Int) ≤ 57 := by omega
              have e1 : (m : Int) - 48 = (t : Int) := by omega
              have e2 : IntKind.u8.wrap ((m : Int) - 48) = (t : Int) := by rw [e1]; simp only [IntKind.wrap, IntKind.bits, IntKind.signed]; simp; omega
              have e4 : IntKind.u8.wrap (t : Int) = (t : Int) := by simp only [IntKind.wrap, IntKind.bits, IntKind.signed]; simp; omega
              obtain ⟨L, hL⟩ : ∃ L, v * 10 + t = L := ⟨_, rfl⟩
              have e5 : IntKind.i64.wrap (10 * (v : Int)) = 10 * (v : Int) := by rw [IntKind.wrap_i64]; omega
              have e6 : 10 * (v : Int) + (t : Int) = (L : Int) := by omega
              have e7 : IntKind.i64.wrap (10 * (v : Int) + (t : Int)) = (L : Int) := by rw [IntKind.wrap_i64]; omega
              have e8 : IntKind.i64.wrap (-1 - (j : Int)) = -1 - (j : Int) := by rw [IntKind.wrap_i64]; omega
              have hLS := letter_step (v := v) (f := false) (r := rest s (j + 1)) ht ht9
              rw [← rest_cons hlj, hL] at hLS
              by_cases hbad : 65535 < L ∨ v = 0
              · have HEND : Hid (RefEnds w s k (.returned (.tuple #[.slice a6 n6 c6, .int .i64 (-1 - (j : Int))])) w4) := by
                  have hl : letterN 0 true (rest s q) = (v, j - q) := by rw [HLv.out, hLS, if_pos (hbad.imp id (fun h => ⟨h, rfl⟩)), Nat.zero_add]
                  have hE : lettersOf (rest s k) = (xs ++ [v], j - k) := by
                    rw [HS.out.all, lettersOf_last (by rw [HD0.out.2]; exact HD0.out.1) (by rw [HD0.out.2, hl, hdr2]; exact hd1), HD0.out.2, hl]
                    simp only [Prod.mk.injEq, true_and]
                    have := HQ0.out
                    omega
                  refine ⟨a6, n6, c6, j, by omega, hjt, by rw [hE], by rw [hd1]; rfl, HM.out.kept, fun h => ?_⟩
                  rw [hd1] at h
                  cases h
                by_cases hv0 : v = 0
                · obtain rfl : z = true := by rw [HZv.out, hv0]; rfl
                  clear hd1 hdr2 hLS hL ht e0 hbad hv0
                  go_wp2
                  go_ret2
                  exact HEND.out
                · obtain rfl : z = false := by rw [HZv.out]; simpa using hv0
                  have hLb : 65535 < L := by omega
                  have a1 : (65535 : Int) < (L : Int) := by omega
                  have a2 : decide ((65535 : Int) < (L : Int)) = true := by simp; omega
                  clear hd1 hdr2 hLS hL ht e0 hbad hv0 hLb
                  go_wp2
                  go_ret2
                  exact HEND.out
              · have hv0 : ¬ v = 0 := fun h => hbad (.inr h)
                have hLb : L ≤ 65535 := by omega
                obtain rfl : z = false := by rw [HZv.out]; simpa using hv0
                have HZ2 : Hid (false = decide (L = 0)) := by show _ = _; symm; simp; omega
                have HL2 : Hid (letterN 0 true (rest s q) = ((letterN L false (rest s (j + 1))).1, (letterN L false (rest s (j + 1))).2 + (j + 1 - q))) := by
                  show _ = _
                  rw [HLv.out, hLS, if_neg (by omega)]
                  simp only [Prod.mk.injEq, true_and]
                  omega
                have a1 : ¬ (65535 : Int) < (L : Int) := by omega
                have a2 : decide ((65535 : Int) < (L : Int)) = false := by simp; omega
                clear hd1 hdr2 hLS hL ht e0 hbad hv0 e8 HZv HLv
                go_wp2
                go_roundw
                case rel => exact ⟨j + 1, L, by go_num, rfl, hLb, by omega, by omega, by first | exact rfl | exact trivial, HZ2.out, HL2.out⟩
                case measure => simp [intOf]; omega
            | false =>
              have hl : letterN 0 true (rest s q) = (v, j - q) := by rw [HLv.out, letterN_end _ _ _ hd1, Nat.zero_add]
              have e5 : IntKind.u16.wrap (v : Int) = (v : Int) := by simp only [IntKind.wrap, IntKind.bits, IntKind.signed]; simp; omega
              obtain ⟨v', w5, hrun, hown, hkept⟩ := append_let HM.out.kept HM.out.own (show v < 65536 by omega) (by omega)
              obtain ⟨a7, c7, rfl⟩ := own_form hown
              have HRUN : Hid (∀ ty, (Builtin.append_ #[22, 22] ty #[.slice a6 n6 c6, .slice (some ⟨w4.heap.size, 0, none⟩) 1 1]).run Tryd.prog (w4.alloc (.cells #[.int .u16 (v : Nat)] 54)) = .ok (.slice a7 (xs ++ [v]).length c7) w5) := hrun
              have HM2 : Hid (LetOut w (.slice a7 (xs ++ [v]).length c7) (xs ++ [v]) w5) := ⟨hkept, hown⟩
              obtain ⟨n7, hn7⟩ : ∃ n7, (xs ++ [v]).length = n7 := ⟨_, rfl⟩
              rw [hn7] at HRUN HM2
              clear hn7
              have HS2 : Hid (LetSo s k j (xs ++ [v])) := by
                refine ⟨fun y hy => (List.mem_append.1 hy).elim (HS.out.small y) (fun h => by rw [List.mem_singleton.1 h]; omega), by rw [List.length_append, List.length_singleton]; omega, ?_, by omega, hjt⟩
                rw [HS.out.all, lettersOf_more (by rw [HD0.out.2]; exact HD0.out.1) (by rw [HD0.out.2, hl, hdr2]; exact hd1), HD0.out.2, hl, hdr2]
                simp only [Prod.mk.injEq, List.append_assoc, List.cons_append, List.nil_append, true_and]
                have := HQ0.out
                omega
              have hjp : p < j := by omega
              rcases Nat.lt_or_ge j s.size with hlj | hge
              · have b1 : (j : Int) < (s.size : Int) := by omega
                obtain ⟨m, hm⟩ : ∃ m, (s[j]'hlj).toNat = m := ⟨_, rfl⟩
                have hdn : m < 48 ∨ 57 < m := by
                  have h := hd1
                  rw [rest_cons hlj] at h
                  have h' : isDig s[j] = false := h
                  unfold isDig at h'
                  rw [hm] at h'
                  simp at h'
                  omega
                clear hd1 hdr2 hl hrun hown hkept HLv HZv HM HS
                rcases hdn with h48 | h57
                · have d1 : decide ((48 : Int) ≤ (m : Int)) = false := by simp; omega
                  have d2 : ¬ (48 : Int) ≤ (m : Int) := by omega
                  clear h48
                  go_wp2_with (at_builtin; refine Lib.wpList_append_run _ rfl _ _ _ _ rfl _ _ rfl rfl _ _ (HRUN.out _) ?_)
                  go_roundw
                  case rel => exact ⟨j, xs ++ [v], _, _, _, rfl, rfl, hjt, HM2.out, HS2.out⟩
                  case measure => simp [intOf]; omega
                · have d1 : decide ((48 : Int) ≤ (m : Int)) = true := by simp; omega
                  have d2 : (48 : Int) ≤ (m : Int) := by omega
                  have d3 : decide ((m : Int) ≤ 57) = false := by simp; omega
                  have d4 : ¬ (m : Int) ≤ 57 := by omega
                  clear h57
                  go_wp2_with (at_builtin; refine Lib.wpList_append_run _ rfl _ _ _ _ rfl _ _ rfl rfl _ _ (HRUN.out _) ?_)
                  go_roundw
                  case rel => exact ⟨j, xs ++ [v], _, _, _, rfl, rfl, hjt, HM2.out, HS2.out⟩
                  case measure => simp [intOf]; omega
              · obtain rfl : j = s.size := by omega
                have b1 : ¬ ((s.size : Int) < (s.size : Int)) := by omega
                have d0 : decide ((s.size : Int) < (s.size : Int)) = false := by simp
                clear hd1 hdr2 hl hrun hown hkept HLv HZv HM HS
                go_wp2_with (at_builtin; refine Lib.wpList_append_run _ rfl _ _ _ _ rfl _ _ rfl rfl _ _ (HRUN.out _) ?_)
                go_roundw
                case rel => exact ⟨s.size, xs ++ [v], _, _, _, rfl, rfl, hjt, HM2.out, HS2.out⟩
                case measure => simp [intOf]; omega
theorem refLetters_bad (k p n : Nat) (xs : List Nat) (s : ByteArray) (w : World) (hk : k ≤ s.size) (hs : s.size ≤ 65536) (ha : lettersOf (rest s k) = (xs, n)) (hp : k + n = p) (hd : headDig (rest s p) = true) :
    Calls Tryd.prog 70 #[.string s, .int .i64 (k : Nat)] w fun e w' => ∃ a b c, e = .returned (.tuple #[.slice a b c, .int .i64 (-1 - (p : Int))]) ∧ Hid (Kept [] w w') := by
  refine (refLetters_any k s w hk hs).mono ?_
  rintro e w' ⟨a, b, c, p', h1, h2, h3, rfl, h5, _⟩
  rw [ha] at h3
  have h3' : n = p' - k := h3
  obtain rfl : p' = p := by omega
  rw [hd]
  exact ⟨a, b, c, rfl, h5⟩
theorem refLetters_good (k p n : Nat) (xs : List Nat) (s : ByteArray) (w : World) (hk : k ≤ s.size) (hs : s.size ≤ 65536) (ha : lettersOf (rest s k) = (xs, n)) (hp : k + n = p) (hd : headDig (rest s p) = false) :
    Calls Tryd.prog 70 #[.string s, .int .i64 (k : Nat)] w fun e w' => ∃ a c, e = .returned (.tuple #[.slice a xs.length c, .int .i64 (p : Nat)]) ∧ Hid (Kept [] w w') ∧ Hid (w'.ownsRow w.heap.size 54 1 (.slice a xs.length c) xs.length (u16s xs)) ∧ Hid ((∀ x ∈ xs, x < 65536) ∧ xs.length ≤ s.size) := by
  refine (refLetters_any k s w hk hs).mono ?_
  rintro e w' ⟨a, b, c, p', h1, h2, h3, rfl, h5, h6⟩
  rw [ha] at h3 h6
  have h3' : n = p' - k := h3
  obtain rfl : p' = p := by omega
  obtain ⟨q1, q2, q3⟩ := h6 hd
  obtain ⟨a', c', e⟩ := own_form q1
  cases e
  rw [hd]
  exact ⟨a, c, rfl, h5, q1, q2, q3⟩
end Go.Proofs.YthkmcnfoadkggaaDoor
