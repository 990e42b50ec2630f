/- The document's own tests of machines: augurref14.Names, rows, Check, Run. -/
import Derived.Test.YtbbfajbnklgncaaHN
import Derived.Test.YtbbfajbnklgncaaHN
import Derived.Test.YtbbfajbnklgncaaHI
namespace Go.Proofs.Ytbbfajbnklgncaa
open Go.RowKit Go.Shelf

set_option maxHeartbeats 2000000 in
set_option maxRecDepth 10000 in
theorem refNames14_any (v : Value) (xs : List ByteArray) (w : World) (h : Strs w v xs) :
    Calls Try.prog 59 #[v] w fun e w' => e = .returned (.bool (listB xs)) ∧ Kept [] w w' := by
  obtain ⟨r, hr⟩ : ∃ r, listB xs = r := ⟨_, rfl⟩
  rw [hr]
  have HR : Hid (listB xs = r) := hr
  have hfew := h.few
  clear hr
  rcases h.lie with ⟨rfl, rfl⟩ | ⟨b, o, c, rfl, hc1, hc2, hcell⟩
  · obtain rfl : true = r := HR.out
    clear h hfew
    go_enter Try.func59, Try.ntmps59
    go_wp2_with fail
    refine wp_loop_rounds 1 ?_
    rw [rounds_succ]
    go_wp2
    go_ret
    exact ⟨rfl, Kept.refl [] w⟩
  · by_cases h8 : xs.length ≤ 8
    · have HCE : Hid (∀ i (h : i < xs.length), w.cell? ⟨b, o + i, none⟩ = some (.string xs[i])) := hcell
      have HSM : Hid (∀ x ∈ xs, x.size ≤ maxLen) := h.small
      have z8 : ¬ ((8 : Int) < (xs.length : Int)) := by omega
      clear h hcell
      go_enter Try.func59, Try.ntmps59
      go_wp2_with fail
      go_loopw [3] (fun i wr => ∃ k : Nat, i = .int .i64 (k : Nat) ∧ k ≤ xs.length ∧ Hid (Kept [] w wr) ∧ Hid (∀ j (h : j < xs.length), j < k → nmAt xs j xs[j] = true)) (fun i _ => xs.length - (intOf i).toNat)
      case atStart => exact ⟨0, rfl, Nat.zero_le _, Kept.refl [] w, fun j _ h => by omega⟩
      case round =>
        obtain ⟨k, rfl, hk, HKW, HA⟩ := hrel
        by_cases hlt : k < xs.length
        · have z0 : (k : Int) < (xs.length : Int) := by omega
          have z00 : (0 : Int) ≤ (k : Int) := by omega
          obtain ⟨x, hx⟩ : ∃ x, xs[k] = x := ⟨_, rfl⟩
          have c0 : wr.cell? ⟨b, o + k, none⟩ = some (.string x) := by rw [← hx]; exact cell_kept0 HKW.out (HCE.out k hlt)
          have HC0 : Hid (w.cell? ⟨b, o + k, none⟩ = some (.string x)) := by show _ = _; rw [← hx]; exact HCE.out k hlt
          have HX : Hid (xs[k] = x) := hx
          have hxs : x.size ≤ maxLen := by rw [← hx]; exact HSM.out _ (List.getElem_mem hlt)
          clear hx
          obtain ⟨nb, hnb⟩ : ∃ nb, nameB x.data.toList = nb := ⟨_, rfl⟩
          have HNB : Hid (nameB x.data.toList = nb) := hnb
          have HNM : Hid (Calls Try.prog 71 #[.string x] wr fun e w' => e = .returned (.bool nb) ∧ w' = wr) := by rw [← hnb]; exact refNamedB_any x wr hxs
          clear hnb hxs
          cases nb with
          | false =>
            have HNO : Hid (listB xs = false) := listB_no hlt (by rw [HX.out]; unfold nmAt; rw [HNB.out]; rfl)
            obtain rfl : false = r := HNO.out.symm.trans HR.out
            go_wp2_with (go_at_call 71; refine HNM.out.mono ?_; rintro e w1 ⟨rfl, rfl⟩)
            go_ret
            exact ⟨rfl, HKW.out⟩
          | true =>
            go_wp2_with (go_at_call 71; refine HNM.out.mono ?_; rintro e w1 ⟨rfl, hw1⟩; rw [hw1]; clear hw1)
            go_loopw [5] (fun i w2 => ∃ m : Nat, i = .int .i64 (m : Nat) ∧ m ≤ k ∧ Hid (Kept [] w w2) ∧ Hid (∀ j (h : j < xs.length), j < m → sameN x xs[j] = false)) (fun i _ => k - (intOf i).toNat)
            case atStart => exact ⟨0, rfl, Nat.zero_le _, HKW.out, fun j _ h => by omega⟩
            case round =>
              rename World => w5
              obtain ⟨m, rfl, hm, HKM, HB⟩ := hrel
              have c0 : w5.cell? ⟨b, o + k, none⟩ = some (.string x) := cell_kept0 HKM.out HC0.out
              by_cases hmk : m < k
              · have y0 : (m : Int) < (k : Int) := by omega
                have y1 : (m : Int) < (xs.length : Int) := by omega
                have y2 : (0 : Int) ≤ (m : Int) := by omega
                have hml : m < xs.length := by omega
                obtain ⟨y, hy⟩ : ∃ y, xs[m] = y := ⟨_, rfl⟩
                have c1 : w5.cell? ⟨b, o + m, none⟩ = some (.string y) := by rw [← hy]; exact cell_kept0 HKM.out (HCE.out m hml)
                have HY : Hid (xs[m] = y) := hy
                clear hy
                obtain ⟨sb, hsb⟩ : ∃ sb, (y.toList == x.toList) = sb := ⟨_, rfl⟩
                have HSB : Hid (sameN x y = sb) := by show sameN x y = sb; rw [sameN_comm]; exact hsb
                cases sb with
                | true =>
                  have HNO : Hid (listB xs = false) := listB_no hlt (by
                    rw [HX.out]; unfold nmAt
                    rw [hasN_yes (i := m) (by rw [List.length_take]; omega) (by rw [take_get, HY.out]; exact HSB.out), Bool.not_true, Bool.and_false])
                  obtain rfl : false = r := HNO.out.symm.trans HR.out
                  go_wp2_with fail
                  go_quiet (fail)
                  go_wp2
                  go_ret
                  exact ⟨rfl, HKM.out.drewN _⟩
                | false =>
                  go_wp2_with fail
                  go_quiet (fail)
                  go_wp2
                  go_roundw
                  case rel =>
                    refine ⟨m + 1, by go_num, by omega, HKM.out.drewN _, fun j hj h' => ?_⟩
                    rcases Nat.lt_or_ge j m with q | q
                    · exact HB.out j hj q
                    · obtain rfl : j = m := by omega
                      rw [HY.out]; exact HSB.out
                  case measure => simp [intOf]; omega
              · obtain rfl : m = k := by omega
                have y0 : ¬ ((m : Int) < (m : Int)) := by omega
                go_wp2
                go_roundw
                case rel =>
                  refine ⟨m + 1, by go_num, by omega, HKM.out, fun j hj h' => ?_⟩
                  rcases Nat.lt_or_ge j m with q | q
                  · exact HA.out j hj q
                  · obtain rfl : j = m := by omega
                    rw [HX.out]; unfold nmAt
                    rw [HNB.out, hasN_no (fun i hi => by rw [take_get]; exact HB.out i _ (by rw [List.length_take] at hi; omega))]
                    rfl
                case measure => simp [intOf]; omega
        · obtain rfl : k = xs.length := by omega
          have z0 : ¬ ((xs.length : Int) < (xs.length : Int)) := by omega
          obtain rfl : true = r := (listB_yes h8 (fun i hi => HA.out i hi hi)).symm.trans HR.out
          go_wp2
          go_ret
          exact ⟨rfl, HKW.out⟩
    · have z8 : (8 : Int) < (xs.length : Int) := by omega
      obtain rfl : false = r := by rw [← HR.out]; unfold listB; rw [decide_eq_false h8, Bool.false_and]
      clear h hcell
      go_enter Try.func59, Try.ntmps59
      go_wp2
      go_ret
      exact ⟨rfl, Kept.refl [] w⟩
end Go.Proofs.Ytbbfajbnklgncaa
