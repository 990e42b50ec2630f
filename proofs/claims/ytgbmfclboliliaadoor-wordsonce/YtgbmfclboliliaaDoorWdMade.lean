/- Words by their letters: what the laws ask of Normal, Suffix, Join, Prefix, At, Same. -/
import Derived.Test.YtgbmfclboliliaaDoorWdRefs
import Derived.Test.YtgbmfclboliliaaDoorWdMadeA
import Derived.Test.YtgbmfclboliliaaDoorWdJoin
import Derived.Test.YtgbmfclboliliaaDoorWdSuf
import Derived.Test.YtgbmfclboliliaaDoorWdPre
namespace Go.Proofs.YtgbmfclboliliaaDoor
open Go.RowKit
attribute [local go_sem ↓] Go.wp_at_zero Go.wp_at_succ

theorem join_at (us : List Nat) (q : Wd) (i : Nat) : (Wd.mk (us ++ q.stem) q.loop).at i = if i < us.length then us.getD i 0 else q.at (i - us.length) := by
  by_cases h : i < us.length
  · rw [if_pos h, Wd.at_lo (by simp; omega)]
    simp [List.getD_eq_getElem?_getD, List.getElem?_append_left h]
  · rw [if_neg h]
    by_cases h2 : i < us.length + q.stem.length
    · rw [Wd.at_lo (by simp; omega), Wd.at_lo (by omega)]
      simp [List.getD_eq_getElem?_getD, List.getElem?_append_right (by omega : us.length ≤ i)]
    · rw [Wd.at_hi (by simp; omega), Wd.at_hi (by omega)]
      simp only [List.length_append]
      congr 1
      omega
def ahead (us : List Nat) (f : Nat → Nat) (i : Nat) : Nat := if i < us.length then us.getD i 0 else f (i - us.length)
theorem join_wat {W : World} {uv x y : Value} {us : List Nat} {f : Nat → Nat} {n : Nat} (hu : Lets W uv us) (h : Wat W x y f n) (hn : us.length + n ≤ 70368744177664) : Calls Tryd.prog 12 #[uv, .agg #[x, y]] W (Makes W (ahead us f) (us.length + n)) := by
  obtain ⟨r, h1, h2, h3, h4⟩ := h
  refine makes_of (join_any uv x y us r W hu h1 (by omega)) h2 (fun i => ?_) (by simp; omega) hn
  rw [join_at]
  unfold ahead
  split
  · rfl
  · rw [h3]
theorem at_wat {W : World} {x y : Value} {f : Nat → Nat} {n : Nat} (h : Wat W x y f n) (i : Nat) (hi : i ≤ 9223372036854775807) : Calls Tryd.prog 26 #[.agg #[x, y], .int .i64 (i : Nat)] W fun e w1 => e = .returned (.int .u16 (f i : Nat)) ∧ Hid (Kept [] W w1) := by
  obtain ⟨r, h1, h2, h3, h4⟩ := h
  have := at_any x y r i W h1 (by omega)
  unfold atI at this
  rw [if_neg (by omega), Int.toNat_natCast, h3] at this
  exact this
theorem same_made {W : World} {x y x' y' : Value} {f g : Nat → Nat} {n m : Nat} (h : Made W x y f n) (h' : Made W x' y' g m) (e : ∀ i, f i = g i) : Calls Tryd.prog 14 #[.agg #[x, y], .agg #[x', y']] W fun e w1 => e = .returned (.bool true) ∧ Hid (Kept [] W w1) := by
  obtain ⟨r, h1, h2, h3, h4⟩ := h
  obtain ⟨r', h1', h2', h3', h4'⟩ := h'
  obtain rfl : r = r' := h2.unique h2' (fun i => by rw [h3, h3', e])
  have := sameWord_any x y x' y' r r W h1.st h1.lp h1'.st h1'.lp
  rw [eqW_iff.2 rfl] at this
  exact this
theorem prefix_wat {W : World} {x y : Value} {f : Nat → Nat} {n : Nat} (h : Wat W x y f n) (k : Nat) (hk : k ≤ 65536) : Calls Tryd.prog 13 #[.agg #[x, y], .int .i64 (k : Nat)] W fun e w1 => ∃ g, e = .returned (.slice (some ⟨g, 0, none⟩) k k) ∧ Hid (Lets w1 (.slice (some ⟨g, 0, none⟩) k k) ((List.range k).map f)) ∧ Hid (Kept [] W w1) := by
  obtain ⟨r, h1, h2, h3, h4⟩ := h
  refine (prefix_some x y r k W h1 h2 hk).mono ?_
  rintro e w1 ⟨g, rfl, ho, hk1⟩
  have e1 : prefN r k = (List.range k).map f := by unfold prefN; rw [funext h3]
  have hl : Lets w1 (.slice (some ⟨g, 0, none⟩) k k) (prefN r k) := lets_own ho (fun z hz => by
    obtain ⟨j, _, rfl⟩ := List.mem_map.1 hz
    exact at_small h1.st.small h1.lp.small j) (by rw [prefN_len]; omega)
  rw [e1] at hl
  exact ⟨g, rfl, hl, hk1⟩
set_option maxHeartbeats 800000 in
theorem pick_any (c m : Int) (w : World) (hc : -9223372036854775808 ≤ c ∧ c ≤ 9223372036854775807) (hm : 0 < m) (hm2 : m ≤ 1099511627776) :
    Calls Tryd.prog 37 #[.int .i64 c, .int .i64 m] w fun e w' => ∃ k : Nat, e = .returned (.int .i64 (k : Nat)) ∧ (k : Int) < m ∧ w' = w := by
  obtain ⟨d, hd⟩ : ∃ d : Int, (if c < 0 then -(c + 1) else c) = d := ⟨_, rfl⟩
  have hd0 : 0 ≤ d ∧ d ≤ 9223372036854775807 := by rw [← hd]; split <;> omega
  have t1 : d.tmod m = ((d % m).toNat : Int) := by
    rw [Int.tmod_eq_emod_of_nonneg hd0.1, Int.toNat_of_nonneg (Int.emod_nonneg _ (by omega))]
  have t2 : ((d % m).toNat : Int) < m := by rw [Int.toNat_of_nonneg (Int.emod_nonneg _ (by omega))]; exact Int.emod_lt_of_pos _ hm
  have HT2 : Hid _ := t2
  obtain ⟨k, hk⟩ : ∃ k : Nat, (d % m).toNat = k := ⟨_, rfl⟩
  rw [hk] at t1 HT2
  have hm0 : ¬ m = 0 := by omega
  clear t2 hk
  by_cases h : c < 0
  · have e1 : d = -(c + 1) := by rw [← hd, if_pos h]
    have e3 : -((c + 1).tmod m) = (k : Int) := by rw [← Int.neg_tmod, ← e1]; exact t1
    have E3 : Hid (-((c + 1).tmod m) = (k : Int)) := e3
    clear hd e1 t1 hd0 e3
    go_enter Tryd.func37, Tryd.ntmps37
    go_wp2
    go_ret
    exact ⟨k, by rw [← E3.out]; rfl, HT2.out, rfl⟩
  · obtain rfl : c = d := by rw [← hd, if_neg h]
    clear hd
    go_enter Tryd.func37, Tryd.ntmps37
    go_wp2
    go_ret
    exact ⟨k, rfl, HT2.out, rfl⟩
end Go.Proofs.YtgbmfclboliliaaDoor
