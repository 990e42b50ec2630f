/- Words by their letters: what the laws ask of Normal and Suffix. -/
import Derived.Test.YtgbmfclboliliaaDoorWdSuf
namespace Go.Proofs.YtgbmfclboliliaaDoor
open Go.RowKit
attribute [local go_sem ↓] Go.wp_at_zero Go.wp_at_succ

/-- A normal form has the fewest places. -/
theorem norm_small {q r : Wd} (h : r.Norm) (h0 : 0 < q.loop.length) (e : ∀ i, r.at i = q.at i) : r.stem.length ≤ q.stem.length ∧ r.loop.length ≤ q.loop.length := by
  have ef : r.at = q.at := funext e
  have hq : Per r.at q.stem.length q.loop.length := by rw [ef]; exact q.per
  have hr := r.per
  obtain ⟨hr0, ⟨_, _, hl⟩, hs⟩ := h
  refine ⟨?_, hl _ h0 (hr.early hr0 hq)⟩
  rcases hs with hs | hs
  · omega
  · rcases Nat.lt_or_ge q.stem.length r.stem.length with hlt | hge
    · have := (hq.early h0 hr) (r.stem.length - 1) (by omega)
      exact absurd this.symm hs
    · exact hge
theorem suf_at (q : Wd) (k : Nat) (h0 : 0 < q.loop.length) (i : Nat) : (sufW q k).at i = q.at (k + i) := by
  unfold sufW
  rw [if_neg (by omega)]
  by_cases h : k ≤ q.stem.length
  · rw [if_pos h]
    by_cases h2 : i < q.stem.length - k
    · rw [Wd.at_lo (by simp; omega), Wd.at_lo (by omega)]
      simp [List.getD_eq_getElem?_getD, List.getElem?_drop]
    · rw [Wd.at_hi (by simp; omega), Wd.at_hi (by omega)]
      simp only [List.length_drop]
      congr 1
      omega
  · rw [if_neg h, Wd.at_hi (by simp), Wd.at_hi (by omega)]
    simp only [List.length_nil, Nat.sub_zero]
    rw [cyc_rot _ _ _ (Nat.mod_lt _ h0)]
    unfold cyc
    rw [Nat.mod_add_mod, show k - q.stem.length + i = k + i - q.stem.length by omega]
theorem suf_small (q : Wd) (k : Nat) : (sufW q k).stem.length + (sufW q k).loop.length ≤ q.stem.length + q.loop.length := by
  unfold sufW
  split
  · simp
  · split
    · simp
    · simp [rot_length]
theorem suf_loop (q : Wd) (k : Nat) (h0 : 0 < q.loop.length) : 0 < (sufW q k).loop.length := by
  unfold sufW
  rw [if_neg (by omega)]
  split
  · exact h0
  · show 0 < (rot _ _).length; rw [rot_length]; exact h0

/-- A word in memory, by its letters. -/
def Wat (W : World) (x y : Value) (f : Nat → Nat) (n : Nat) : Prop := ∃ r : Wd, IsW W x y r ∧ 0 < r.loop.length ∧ (∀ i, r.at i = f i) ∧ r.stem.length + r.loop.length ≤ n
/-- One in its normal form. -/
def Made (W : World) (x y : Value) (f : Nat → Nat) (n : Nat) : Prop := ∃ r : Wd, IsW W x y r ∧ r.Norm ∧ (∀ i, r.at i = f i) ∧ r.stem.length + r.loop.length ≤ n
theorem Made.wat {W : World} {x y : Value} {f : Nat → Nat} {n : Nat} (h : Made W x y f n) : Wat W x y f n := by
  obtain ⟨r, h1, h2, h3, h4⟩ := h
  exact ⟨r, h1, h2.1, h3, h4⟩
theorem Wat.kept {W W' : World} {x y : Value} {f : Nat → Nat} {n : Nat} (h : Wat W x y f n) (k : Kept [] W W') : Wat W' x y f n := by
  obtain ⟨r, h1, h2⟩ := h
  exact ⟨r, h1.kept k, h2⟩
theorem Made.kept {W W' : World} {x y : Value} {f : Nat → Nat} {n : Nat} (h : Made W x y f n) (k : Kept [] W W') : Made W' x y f n := by
  obtain ⟨r, h1, h2⟩ := h
  exact ⟨r, h1.kept k, h2⟩
/-- A call that makes one. -/
def Makes (W : World) (f : Nat → Nat) (n : Nat) (e : Ending) (w1 : World) : Prop := ∃ a1 n1 c1 a2 n2 c2, e = .returned (.agg #[.slice a1 n1 c1, .slice a2 n2 c2]) ∧ Hid (Made w1 (.slice a1 n1 c1) (.slice a2 n2 c2) f n) ∧ Hid (Kept [] W w1)
theorem makes_of {W : World} {q : Wd} {g : Nat} {args : Array Value} {f : Nat → Nat} {n : Nat} (h : Calls Tryd.prog g args W (MadeNorm W q)) (h0 : 0 < q.loop.length) (hf : ∀ i, q.at i = f i) (hn : q.stem.length + q.loop.length ≤ n) (hn2 : n ≤ 70368744177664) : Calls Tryd.prog g args W (Makes W f n) := by
  refine h.mono ?_
  rintro e w1 ⟨sv, lv, r, rfl, hw, ho, hk⟩
  obtain ⟨h1, h2⟩ := ho.2 (fun e => by rw [e] at h0; simp at h0)
  obtain ⟨s1, s2⟩ := norm_small h1 h0 h2
  obtain ⟨a1, c1, e1⟩ := own_form hw.own1
  obtain ⟨a2, c2, e2⟩ := own_form hw.own2
  subst e1 e2
  exact ⟨a1, _, c1, a2, _, c2, rfl, ⟨r, ⟨hw.lets1, hw.lets2, by omega⟩, h1, fun i => (h2 i).trans (hf i), by omega⟩, hk⟩
theorem normal_wat {W : World} {x y : Value} {f : Nat → Nat} {n : Nat} (h : Wat W x y f n) (hn : n ≤ 70368744177664) : Calls Tryd.prog 10 #[.agg #[x, y]] W (Makes W f n) := by
  obtain ⟨r, h1, h2, h3, h4⟩ := h
  exact makes_of (normal_any x y r W h1.st h1.lp h1.few) h2 h3 h4 hn
theorem suffix_wat {W : World} {x y : Value} {f : Nat → Nat} {n : Nat} (h : Wat W x y f n) (hn : n ≤ 70368744177664) (k : Nat) (hk : k ≤ 9223372036854775807) : Calls Tryd.prog 11 #[.agg #[x, y], .int .i64 (k : Nat)] W (Makes W (fun i => f (k + i)) n) := by
  obtain ⟨r, h1, h2, h3, h4⟩ := h
  exact makes_of (suffix_any x y r k W h1 hk) (suf_loop r k h2) (fun i => by rw [suf_at r k h2, h3]) (Nat.le_trans (suf_small r k) h4) hn
end Go.Proofs.YtgbmfclboliliaaDoor
