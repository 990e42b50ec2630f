/- The law's own: how much is handed in (augurref00.OfTexts; the maths of small). -/
import Derived.Test.YtambijhchecjcaaGreatDoorBuCheck
import Derived.Test.YtambijhchecjcaaGreatDoorBuLentG
import Derived.BigQuiet
namespace Go.Proofs.YtambijhchecjcaaGreatDoor
open Go.RowKit Go.Shelf

def ot (n : Nat) : List ByteArray → Nat
  | [] => n
  | x :: r => if n ≤ 2147483647 then ot (n + (1 + x.size)) r else n
theorem ot_stop {n : Nat} (h : ¬ n ≤ 2147483647) : ∀ l, ot n l = n
  | [] => rfl
  | _ :: _ => by rw [ot, if_neg h]
theorem drop_cons {xs : List ByteArray} {k : Nat} (h : k < xs.length) : xs.drop k = xs[k] :: xs.drop (k + 1) := (List.getElem_cons_drop h).symm
set_option maxHeartbeats 1000000 in
theorem ofTexts_any (v : Value) (xs : List ByteArray) (w : World) (hx : Strs w v xs) (hm : ∀ x ∈ xs, x.size ≤ 140737488351232) :
    Calls Tryz.prog 16 #[v] w fun e w' => e = .returned (.int .i64 (ot 0 xs : Nat)) ∧ w' = w := by
  have fx := hx.few
  obtain ⟨r, hr⟩ : ∃ r, ot 0 xs = r := ⟨_, rfl⟩
  rw [hr]
  have HR : Hid (ot 0 xs = r) := hr
  have HM : Hid _ := hm
  clear hr hm
  by_cases h0 : 0 < xs.length
  · obtain ⟨b, o, c, rfl, _, _, hc⟩ := hx.there h0
    have HC : Hid (∀ i (h : i < xs.length), w.cell? ⟨b, o + i, none⟩ = some (.string xs[i])) := hc
    clear hx hc
    go_enter Tryz.func16, Tryz.ntmps16
    go_wp2_with fail
    go_loop [3, 4] (fun a i => ∃ n k : Nat, k ≤ xs.length ∧ i = .int .i64 (k : Nat) ∧ a = .int .i64 (n : Nat) ∧ n ≤ 140739635834880 ∧ Hid (ot n (xs.drop k) = r)) (fun _ i => xs.length - (intOf i).toNat)
    case atStart => exact ⟨0, 0, Nat.zero_le _, rfl, rfl, by omega, HR.out⟩
    case round =>
      obtain ⟨n, k, hk, rfl, rfl, hn, HF⟩ := hrel
      by_cases hlt : k < xs.length
      · have hlt' : (k : Int) < (xs.length : Int) := by omega
        have b0 : (0 : Int) ≤ (k : Int) := by omega
        by_cases hnb : n ≤ 2147483647
        · have hnbi : (n : Int) ≤ 2147483647 := by omega
          have d1 := HC.out k hlt
          have hxm := HM.out xs[k] (List.getElem_mem _)
          have HF2 : Hid (ot (n + (1 + xs[k].size)) (xs.drop (k + 1)) = r) := by
            show ot _ _ = r
            have := HF.out
            rw [drop_cons hlt, ot, if_pos hnb] at this
            exact this
          obtain ⟨x, hxk⟩ : ∃ x, xs[k] = x := ⟨_, rfl⟩
          rw [hxk] at d1 HF2 hxm
          clear hxk
          go_wp2
          go_round
          case rel => exact ⟨n + (1 + x.size), k + 1, by omega, by go_num, by go_num, by omega, HF2.out⟩
          case measure => simp [intOf]; omega
        · have hnbi : ¬ ((n : Int) ≤ 2147483647) := by omega
          have HE : Hid (n = r) := by have := HF.out; rw [ot_stop hnb] at this; exact this
          clear hnb
          go_wp2
          go_ret
          exact ⟨ret_int (by rw [HE.out]), rfl⟩
      · have hlt' : ¬ (k : Int) < (xs.length : Int) := by omega
        have HE : Hid (n = r) := by have := HF.out; rw [List.drop_eq_nil_of_le (by omega), ot] at this; exact this
        go_wp2
        go_ret
        exact ⟨ret_int (by rw [HE.out]), rfl⟩
  · obtain rfl : xs = [] := List.length_eq_zero_iff.1 (by omega)
    obtain ⟨ad, c, rfl, _⟩ := hx.form
    have HE : Hid (0 = r) := HR.out
    clear hx
    simp only [List.length_nil]
    go_enter Tryz.func16, Tryz.ntmps16
    go_wp2_with fail
    go_loop [3, 4] (fun a i => i = .int .i64 0 ∧ a = .int .i64 0) (fun _ _ => 0)
    case atStart => exact ⟨rfl, rfl⟩
    case round =>
      obtain ⟨rfl, rfl⟩ := hrel
      go_wp2
      go_ret
      exact ⟨ret_int (by rw [← HE.out]; rfl), rfl⟩
theorem ot_le (n : Nat) : ∀ (l : List ByteArray), n ≤ 140739635834880 → (∀ x ∈ l, x.size ≤ 140737488351232) → ot n l ≤ 140739635834880
  | [], h, _ => h
  | x :: r, h, hx => by
    rw [ot]
    split
    · exact ot_le _ r (by have := hx x (by simp); omega) (fun y hy => hx y (by simp [hy]))
    · exact h
theorem ot_few : ∀ (l : List ByteArray) (n : Nat), ot n l < 100000 → n + l.length ≤ ot n l ∧ n < 100000
  | [], n, h => ⟨Nat.le_refl _, h⟩
  | x :: r, n, h => by
    rw [ot] at h ⊢
    by_cases hn : n ≤ 2147483647
    · rw [if_pos hn] at h ⊢
      have := ot_few r _ h
      simp only [List.length_cons]
      omega
    · rw [if_neg hn] at h
      omega
/-- The sum of the sets' sizes, as far as the law counts. -/
def os (n : Nat) : List (List Int) → Nat
  | [] => n
  | x :: r => if n < 100000 then os (n + 1 + x.length) r else n
theorem os_stop {n : Nat} (h : ¬ n < 100000) : ∀ l, os n l = n
  | [] => rfl
  | _ :: _ => by rw [os, if_neg h]
theorem os_few : ∀ (l : List (List Int)) (n : Nat), os n l < 100000 → n + l.length ≤ os n l ∧ n < 100000 ∧ ∀ xs ∈ l, xs.length < 100000
  | [], n, h => ⟨Nat.le_refl _, h, by simp⟩
  | x :: r, n, h => by
    rw [os] at h ⊢
    by_cases hn : n < 100000
    · rw [if_pos hn] at h ⊢
      obtain ⟨h1, h2, h3⟩ := os_few r _ h
      simp only [List.length_cons]
      refine ⟨by omega, hn, fun xs hx => ?_⟩
      rcases List.mem_cons.1 hx with rfl | hx
      · omega
      · exact h3 xs hx
    · rw [if_neg hn] at h
      omega
theorem drop_consL {xs : List (List Int)} {k : Nat} (h : k < xs.length) : xs.drop k = xs[k] :: xs.drop (k + 1) := (List.getElem_cons_drop h).symm
/-- What the law's small tells: how much is handed in. -/
def smallN (g : Gen) : Nat := os (ot 0 g.ps + g.ini.length + g.es.length) g.sets
theorem smallN_few {g : Gen} (h : smallN g < 100000) : g.ps.length ≤ 100000 ∧ g.ini.length ≤ 100000 ∧ g.es.length ≤ 100000 ∧ g.sets.length ≤ 100000 ∧ ∀ xs ∈ g.sets, xs.length ≤ 100000 := by
  obtain ⟨h1, h2, h3⟩ := os_few _ _ h
  obtain ⟨h4, h5⟩ := ot_few g.ps 0 (by omega)
  exact ⟨by omega, by omega, by omega, by unfold smallN at h; omega, fun xs hx => Nat.le_of_lt (h3 xs hx)⟩
end Go.Proofs.YtambijhchecjcaaGreatDoor

/- The law's own small: is no more handed in than there is room for? -/
namespace Go.Proofs.YtambijhchecjcaaGreatDoor
open Go.RowKit Go.Shelf

theorem Rowss.formR {W : World} {v : Value} {ss : List (List Int)} (h : Rowss W v ss) : ∃ ad c, v = .slice ad ss.length c ∧ ss.length ≤ c ∧ c ≤ maxLen := by
  rcases h.lie with ⟨rfl, rfl⟩ | ⟨b, o, c, rfl, h2, h3, _⟩
  · exact ⟨none, 0, rfl, Nat.le_refl _, by unfold maxLen; omega⟩
  · exact ⟨_, c, rfl, h2, h3⟩
theorem Rowss.thereR {W : World} {v : Value} {ss : List (List Int)} (h : Rowss W v ss) (h0 : 0 < ss.length) : ∃ b o c, v = .slice (some ⟨b, o, none⟩) ss.length c ∧ ss.length ≤ c ∧ c ≤ maxLen ∧ ∀ i (h : i < ss.length), ∃ u, W.cell? ⟨b, o + i, none⟩ = some u ∧ Ints W u ss[i] := by
  rcases h.lie with ⟨_, rfl⟩ | h1
  · simp at h0
  · exact h1
theorem Rowss.lens {W : World} {b o : Nat} {ss : List (List Int)} (h : ∀ i (h : i < ss.length), ∃ u, W.cell? ⟨b, o + i, none⟩ = some u ∧ Ints W u ss[i]) (i : Nat) (hi : i < ss.length) : ∃ ad c, W.cell? ⟨b, o + i, none⟩ = some (.slice ad ss[i].length c) ∧ ss[i].length ≤ 17592186044416 ∧ ss[i].length ≤ c ∧ c ≤ maxLen := by
  obtain ⟨u, q1, q2⟩ := h i hi
  obtain ⟨ad, c, rfl, r1, r2⟩ := q2.form
  exact ⟨ad, c, q1, q2.few, r1, r2⟩
set_option maxHeartbeats 2000000 in
theorem small_any (pv iv ev sv : Value) (g : Gen) (w : World) (h : IsG w pv iv ev sv g) (hm : ∀ x ∈ g.ps, x.size ≤ 140737488351232) :
    Calls Tryz.prog 4 #[.agg #[pv, .int .i64 g.st, iv, ev, sv]] w fun e w' => e = .returned (.bool (decide (smallN g < 100000))) ∧ Kept [] w w' := by
  obtain ⟨V, hV⟩ : ∃ V, w.alloc (.cells #[pv, .int .i64 g.st, iv, ev, sv] 27) = V := ⟨_, rfl⟩
  have kV : Kept [] w V := by rw [← hV]; exact (Kept.refl [] w).alloc _
  have hA : Five 27 V w.heap.size pv (.int .i64 g.st) iv ev sv := by rw [← hV]; exact al0 _ _
  have hot := ot_le 0 g.ps (by omega) hm
  have fi := h.ini.few
  have fe := h.es.few
  have fs := h.sets.few
  obtain ⟨rr, hrr⟩ : ∃ rr, decide (smallN g < 100000) = rr := ⟨_, rfl⟩
  rw [hrr]
  have HR : Hid (decide (smallN g < 100000) = rr) := hrr
  have HO : Hid (∀ W, Kept [] w W → Calls Tryz.prog 16 #[pv] W fun e w' => e = .returned (.int .i64 (ot 0 g.ps : Nat)) ∧ w' = W) := fun W k => ofTexts_any pv g.ps W (h.ps.kept k) hm
  obtain ⟨t, ht⟩ : ∃ t, ot 0 g.ps = t := ⟨_, rfl⟩
  have HN : Hid (smallN g = os (t + g.ini.length + g.es.length) g.sets) := by show smallN g = _; unfold smallN; rw [ht]
  rw [ht] at hot HO
  have hS := h.sets.kept kV
  obtain ⟨pad, pc, rfl, _, _⟩ := h.ps.form
  obtain ⟨iad, ic, rfl, _, _⟩ := h.ini.form
  obtain ⟨ead, ec, rfl, _, _⟩ := h.es.form
  obtain ⟨f0, f1, f2, f3, f4⟩ := hA.cells
  have HVV : Hid (_ = V) := hV
  have HKV : Hid (Kept [] w V) := kV
  have w1 : IntKind.i64.wrap ((t : Int) + (g.ini.length : Int)) = (t : Int) + (g.ini.length : Int) := by rw [IntKind.wrap_i64]; omega
  have w2 : IntKind.i64.wrap ((t : Int) + (g.ini.length : Int) + (g.es.length : Int)) = (t : Int) + (g.ini.length : Int) + (g.es.length : Int) := by rw [IntKind.wrap_i64]; omega
  obtain ⟨n0, hn0⟩ : ∃ n0 : Nat, t + g.ini.length + g.es.length = n0 := ⟨_, rfl⟩
  have hn0i : (t : Int) + (g.ini.length : Int) + (g.es.length : Int) = (n0 : Int) := by omega
  have hn0b : n0 ≤ 300000000000000 := by omega
  have HF : Hid (decide (os n0 g.sets < 100000) = rr) := by show _ = rr; rw [← HR.out, HN.out, hn0]
  clear hn0 HN HR hrr ht hm hA kV hV h
  by_cases h0 : 0 < g.sets.length
  · obtain ⟨b, o, c, rfl, _, _, hc⟩ := hS.thereR h0
    have HC : Hid (∀ i (h : i < g.sets.length), ∃ ad c, V.cell? ⟨b, o + i, none⟩ = some (.slice ad g.sets[i].length c) ∧ g.sets[i].length ≤ 17592186044416 ∧ g.sets[i].length ≤ c ∧ c ≤ maxLen) := Rowss.lens hc
    clear hS hc
    go_enter Tryz.func4, Tryz.ntmps4
    go_upto_region 1 with fail
    rw [HVV.out]
    clear HVV
    go_quiet ((go_at_call 16; exact Calls.quiet_of_same (HO.out _ (by first | exact HKV.out | exact HKV.out.drew | exact HKV.out.drewN _))))
    clear f0 f1 f2 f3 w1 w2
    have HF4 : Hid (V.cell? ⟨w.heap.size, 4, none⟩ = some (.slice (some ⟨b, o, none⟩) g.sets.length c)) := f4
    clear f4
    go_wp2_with fail
    go_loopw [3, 4] (fun a i wr => ∃ n k : Nat, k ≤ g.sets.length ∧ i = .int .i64 (k : Nat) ∧ a = .int .i64 (n : Nat) ∧ n ≤ 300000000000000 ∧ Hid (Kept [] V wr) ∧ Hid (decide (os n (g.sets.drop k) < 100000) = rr)) (fun _ i _ => g.sets.length - (intOf i).toNat)
    case atStart => exact ⟨n0, 0, Nat.zero_le _, rfl, rfl, hn0b, (Kept.refl [] V).drewN _, HF.out⟩
    case round =>
      obtain ⟨n, k, hk, rfl, rfl, hn, HK, HD⟩ := hrel
      have f4 := cell_kept0 HK.out HF4.out
      by_cases hlt : k < g.sets.length
      · have hlt' : (k : Int) < (g.sets.length : Int) := by omega
        have b0 : (0 : Int) ≤ (k : Int) := by omega
        by_cases hnb : n < 100000
        · have hnbi : (n : Int) < 100000 := by omega
          obtain ⟨ad, cc, q0, q1, q2, q3⟩ := HC.out k hlt
          have d1 := cell_kept0 HK.out q0
          have HF2 : Hid (decide (os (n + 1 + g.sets[k].length) (g.sets.drop (k + 1)) < 100000) = rr) := by
            show decide _ = rr
            have := HD.out
            rw [drop_consL hlt, os, if_pos hnb] at this
            exact this
          obtain ⟨x, hxk⟩ : ∃ x, g.sets[k].length = x := ⟨_, rfl⟩
          rw [hxk] at d1 HF2 q1 q2
          clear hxk q0
          go_wp2
          go_roundw
          case rel => exact ⟨n + 1 + x, k + 1, by omega, by go_num, by go_num, by omega, HK.out, HF2.out⟩
          case measure => simp [intOf]; omega
        · have hnbi : ¬ ((n : Int) < 100000) := by omega
          have HE : Hid (decide (n < 100000) = rr) := by have := HD.out; rw [os_stop hnb] at this; exact this
          have HE2 : Hid (false = rr) := by rw [← HE.out, decide_eq_false hnb]; rfl
          clear hnb HE
          go_wp2
          go_ret
          exact ⟨ret_bool HE2.out, keptB HKV.out HK.out⟩
      · have hlt' : ¬ (k : Int) < (g.sets.length : Int) := by omega
        have HE : Hid (decide (n < 100000) = rr) := by have := HD.out; rw [List.drop_eq_nil_of_le (by omega), os] at this; exact this
        go_wp2
        go_ret
        exact ⟨ret_bool (by rw [← HE.out]; exact decide_eq_decide.2 (by omega)), keptB HKV.out HK.out⟩
  · obtain ⟨sad, sc, rfl, _, _⟩ := hS.formR
    have hz : g.sets = [] := List.length_eq_zero_iff.1 (by omega)
    have HE : Hid (decide (n0 < 100000) = rr) := by have := HF.out; rw [hz, os] at this; exact this
    rw [hz] at f4
    clear hS HF h0 fs
    simp only [hz, List.length_nil] at f4 HVV ⊢
    clear hz
    have HF4 : Hid (V.cell? ⟨w.heap.size, 4, none⟩ = some (.slice sad 0 sc)) := f4
    go_enter Tryz.func4, Tryz.ntmps4
    go_upto_region 1 with fail
    rw [HVV.out]
    clear HVV
    go_quiet ((go_at_call 16; exact Calls.quiet_of_same (HO.out _ (by first | exact HKV.out | exact HKV.out.drew | exact HKV.out.drewN _))))
    clear f0 f1 f2 f3 f4 w1 w2
    go_wp2_with fail
    go_loopw [3, 4] (fun a i wr => i = .int .i64 0 ∧ a = .int .i64 (n0 : Nat) ∧ Hid (Kept [] V wr)) (fun _ _ _ => 0)
    case atStart => exact ⟨rfl, rfl, (Kept.refl [] V).drewN _⟩
    case round =>
      obtain ⟨rfl, rfl, HK⟩ := hrel
      have f4 := cell_kept0 HK.out HF4.out
      go_wp2
      go_ret
      exact ⟨ret_bool (by rw [← HE.out]; exact decide_eq_decide.2 (by omega)), keptB HKV.out HK.out⟩
end Go.Proofs.YtambijhchecjcaaGreatDoor
