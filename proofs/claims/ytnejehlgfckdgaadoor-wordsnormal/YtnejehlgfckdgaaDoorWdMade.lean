/- Words by their letters: what the laws ask of Normal, Suffix, Join, Prefix, At, Same. -/
import Derived.Test.YtnejehlgfckdgaaDoorWdRefs
import Derived.Test.YtnejehlgfckdgaaDoorWdJoin
import Derived.Test.YtnejehlgfckdgaaDoorWdSuf
import Derived.Test.YtnejehlgfckdgaaDoorWdPre
namespace Go.Proofs.YtnejehlgfckdgaaDoor
open Go.RowKit
attribute [local go_sem ↓] Go.wp_at_zero Go.wp_at_succ

/-- A normal form has the fewest places. -/
theorem norm_small {q r : Wd} (h : r.Norm) (h0 : 0 < q.loop.length) (e : ∀ i, r.at i = q.at i) : r.stem.length ≤ q.stem.length ∧ r.loop.length ≤ q.loop.length := by
  have ef : r.at = q.at := funext e
  have hq : Per r.at q.stem.length q.loop.length := by rw [ef]; exact q.per
  have hr := r.per
  obtain ⟨hr0, ⟨_, _, hl⟩, hs⟩ := h
  refine ⟨?_, hl _ h0 (hr.early hr0 hq)⟩
  rcases hs with hs | hs
  · omega
  · rcases Nat.lt_or_ge q.stem.length r.stem.length with hlt | hge
    · have := (hq.early h0 hr) (r.stem.length - 1) (by omega)
      exact absurd this.symm hs
    · exact hge
theorem join_at (us : List Nat) (q : Wd) (i : Nat) : (Wd.mk (us ++ q.stem) q.loop).at i = if i < us.length then us.getD i 0 else q.at (i - us.length) := by
  by_cases h : i < us.length
  · rw [if_pos h, Wd.at_lo (by simp; omega)]
    simp [List.getD_eq_getElem?_getD, List.getElem?_append_left h]
  · rw [if_neg h]
    by_cases h2 : i < us.length + q.stem.length
    · rw [Wd.at_lo (by simp; omega), Wd.at_lo (by omega)]
      simp [List.getD_eq_getElem?_getD, List.getElem?_append_right (by omega : us.length ≤ i)]
    · rw [Wd.at_hi (by simp; omega), Wd.at_hi (by omega)]
      simp only [List.length_append]
      congr 1
      omega
theorem suf_at (q : Wd) (k : Nat) (h0 : 0 < q.loop.length) (i : Nat) : (sufW q k).at i = q.at (k + i) := by
  unfold sufW
  rw [if_neg (by omega)]
  by_cases h : k ≤ q.stem.length
  · rw [if_pos h]
    by_cases h2 : i < q.stem.length - k
    · rw [Wd.at_lo (by simp; omega), Wd.at_lo (by omega)]
      simp [List.getD_eq_getElem?_getD, List.getElem?_drop]
    · rw [Wd.at_hi (by simp; omega), Wd.at_hi (by omega)]
      simp only [List.length_drop]
      congr 1
      omega
  · rw [if_neg h, Wd.at_hi (by simp), Wd.at_hi (by omega)]
    simp only [List.length_nil, Nat.sub_zero]
    rw [cyc_rot _ _ _ (Nat.mod_lt _ h0)]
    unfold cyc
    rw [Nat.mod_add_mod, show k - q.stem.length + i = k + i - q.stem.length by omega]
theorem suf_small (q : Wd) (k : Nat) : (sufW q k).stem.length + (sufW q k).loop.length ≤ q.stem.length + q.loop.length := by
  unfold sufW
  split
  · simp
  · split
    · simp
    · simp [rot_length]
theorem suf_loop (q : Wd) (k : Nat) (h0 : 0 < q.loop.length) : 0 < (sufW q k).loop.length := by
  unfold sufW
  rw [if_neg (by omega)]
  split
  · exact h0
  · show 0 < (rot _ _).length; rw [rot_length]; exact h0

/-- A word in memory, by its letters. -/
def Wat (W : World) (x y : Value) (f : Nat → Nat) (n : Nat) : Prop := ∃ r : Wd, IsW W x y r ∧ 0 < r.loop.length ∧ (∀ i, r.at i = f i) ∧ r.stem.length + r.loop.length ≤ n
/-- One in its normal form. -/
def Made (W : World) (x y : Value) (f : Nat → Nat) (n : Nat) : Prop := ∃ r : Wd, IsW W x y r ∧ r.Norm ∧ (∀ i, r.at i = f i) ∧ r.stem.length + r.loop.length ≤ n
theorem Made.wat {W : World} {x y : Value} {f : Nat → Nat} {n : Nat} (h : Made W x y f n) : Wat W x y f n := by
  obtain ⟨r, h1, h2, h3, h4⟩ := h
  exact ⟨r, h1, h2.1, h3, h4⟩
theorem Wat.kept {W W' : World} {x y : Value} {f : Nat → Nat} {n : Nat} (h : Wat W x y f n) (k : Kept [] W W') : Wat W' x y f n := by
  obtain ⟨r, h1, h2⟩ := h
  exact ⟨r, h1.kept k, h2⟩
theorem Made.kept {W W' : World} {x y : Value} {f : Nat → Nat} {n : Nat} (h : Made W x y f n) (k : Kept [] W W') : Made W' x y f n := by
  obtain ⟨r, h1, h2⟩ := h
  exact ⟨r, h1.kept k, h2⟩
/-- A call that makes one. -/
def Makes (W : World) (f : Nat → Nat) (n : Nat) (e : Ending) (w1 : World) : Prop := ∃ a1 n1 c1 a2 n2 c2, e = .returned (.agg #[.slice a1 n1 c1, .slice a2 n2 c2]) ∧ Hid (Made w1 (.slice a1 n1 c1) (.slice a2 n2 c2) f n) ∧ Hid (Kept [] W w1)
theorem makes_of {W : World} {q : Wd} {g : Nat} {args : Array Value} {f : Nat → Nat} {n : Nat} (h : Calls Tryd.prog g args W (MadeNorm W q)) (h0 : 0 < q.loop.length) (hf : ∀ i, q.at i = f i) (hn : q.stem.length + q.loop.length ≤ n) (hn2 : n ≤ 70368744177664) : Calls Tryd.prog g args W (Makes W f n) := by
  refine h.mono ?_
  rintro e w1 ⟨sv, lv, r, rfl, hw, ho, hk⟩
  obtain ⟨h1, h2⟩ := ho.2 (fun e => by rw [e] at h0; simp at h0)
  obtain ⟨s1, s2⟩ := norm_small h1 h0 h2
  obtain ⟨a1, c1, e1⟩ := own_form hw.own1
  obtain ⟨a2, c2, e2⟩ := own_form hw.own2
  subst e1 e2
  exact ⟨a1, _, c1, a2, _, c2, rfl, ⟨r, ⟨hw.lets1, hw.lets2, by omega⟩, h1, fun i => (h2 i).trans (hf i), by omega⟩, hk⟩
theorem normal_wat {W : World} {x y : Value} {f : Nat → Nat} {n : Nat} (h : Wat W x y f n) (hn : n ≤ 70368744177664) : Calls Tryd.prog 16 #[.agg #[x, y]] W (Makes W f n) := by
  obtain ⟨r, h1, h2, h3, h4⟩ := h
  exact makes_of (normal_any x y r W h1.st h1.lp h1.few) h2 h3 h4 hn
theorem suffix_wat {W : World} {x y : Value} {f : Nat → Nat} {n : Nat} (h : Wat W x y f n) (hn : n ≤ 70368744177664) (k : Nat) (hk : k ≤ 9223372036854775807) : Calls Tryd.prog 21 #[.agg #[x, y], .int .i64 (k : Nat)] W (Makes W (fun i => f (k + i)) n) := by
  obtain ⟨r, h1, h2, h3, h4⟩ := h
  exact makes_of (suffix_any x y r k W h1 hk) (suf_loop r k h2) (fun i => by rw [suf_at r k h2, h3]) (Nat.le_trans (suf_small r k) h4) hn
def ahead (us : List Nat) (f : Nat → Nat) (i : Nat) : Nat := if i < us.length then us.getD i 0 else f (i - us.length)
theorem join_wat {W : World} {uv x y : Value} {us : List Nat} {f : Nat → Nat} {n : Nat} (hu : Lets W uv us) (h : Wat W x y f n) (hn : us.length + n ≤ 70368744177664) : Calls Tryd.prog 20 #[uv, .agg #[x, y]] W (Makes W (ahead us f) (us.length + n)) := by
  obtain ⟨r, h1, h2, h3, h4⟩ := h
  refine makes_of (join_any uv x y us r W hu h1 (by omega)) h2 (fun i => ?_) (by simp; omega) hn
  rw [join_at]
  unfold ahead
  split
  · rfl
  · rw [h3]
theorem at_wat {W : World} {x y : Value} {f : Nat → Nat} {n : Nat} (h : Wat W x y f n) (i : Nat) (hi : i ≤ 9223372036854775807) : Calls Tryd.prog 15 #[.agg #[x, y], .int .i64 (i : Nat)] W fun e w1 => e = .returned (.int .u16 (f i : Nat)) ∧ Hid (Kept [] W w1) := by
  obtain ⟨r, h1, h2, h3, h4⟩ := h
  have := at_any x y r i W h1 (by omega)
  unfold atI at this
  rw [if_neg (by omega), Int.toNat_natCast, h3] at this
  exact this
theorem same_made {W : World} {x y x' y' : Value} {f g : Nat → Nat} {n m : Nat} (h : Made W x y f n) (h' : Made W x' y' g m) (e : ∀ i, f i = g i) : Calls Tryd.prog 17 #[.agg #[x, y], .agg #[x', y']] W fun e w1 => e = .returned (.bool true) ∧ Hid (Kept [] W w1) := by
  obtain ⟨r, h1, h2, h3, h4⟩ := h
  obtain ⟨r', h1', h2', h3', h4'⟩ := h'
  obtain rfl : r = r' := h2.unique h2' (fun i => by rw [h3, h3', e])
  have := sameWord_any x y x' y' r r W h1.st h1.lp h1'.st h1'.lp
  rw [eqW_iff.2 rfl] at this
  exact this
theorem prefix_wat {W : World} {x y : Value} {f : Nat → Nat} {n : Nat} (h : Wat W x y f n) (k : Nat) (hk : k ≤ 65536) : Calls Tryd.prog 22 #[.agg #[x, y], .int .i64 (k : Nat)] W fun e w1 => ∃ g, e = .returned (.slice (some ⟨g, 0, none⟩) k k) ∧ Hid (Lets w1 (.slice (some ⟨g, 0, none⟩) k k) ((List.range k).map f)) ∧ Hid (Kept [] W w1) := by
  obtain ⟨r, h1, h2, h3, h4⟩ := h
  refine (prefix_some x y r k W h1 h2 hk).mono ?_
  rintro e w1 ⟨g, rfl, ho, hk1⟩
  have e1 : prefN r k = (List.range k).map f := by unfold prefN; rw [funext h3]
  have hl : Lets w1 (.slice (some ⟨g, 0, none⟩) k k) (prefN r k) := lets_own ho (fun z hz => by
    obtain ⟨j, _, rfl⟩ := List.mem_map.1 hz
    exact at_small h1.st.small h1.lp.small j) (by rw [prefN_len]; omega)
  rw [e1] at hl
  exact ⟨g, rfl, hl, hk1⟩
set_option maxHeartbeats 800000 in
theorem pick_any (c m : Int) (w : World) (hc : -9223372036854775808 ≤ c ∧ c ≤ 9223372036854775807) (hm : 0 < m) (hm2 : m ≤ 1099511627776) :
    Calls Tryd.prog 18 #[.int .i64 c, .int .i64 m] w fun e w' => ∃ k : Nat, e = .returned (.int .i64 (k : Nat)) ∧ (k : Int) < m ∧ w' = w := by
  obtain ⟨d, hd⟩ : ∃ d : Int, (if c < 0 then -(c + 1) else c) = d := ⟨_, rfl⟩
  have hd0 : 0 ≤ d ∧ d ≤ 9223372036854775807 := by rw [← hd]; split <;> omega
  have t1 : d.tmod m = ((d % m).toNat : Int) := by
    rw [Int.tmod_eq_emod_of_nonneg hd0.1, Int.toNat_of_nonneg (Int.emod_nonneg _ (by omega))]
  have t2 : ((d % m).toNat : Int) < m := by rw [Int.toNat_of_nonneg (Int.emod_nonneg _ (by omega))]; exact Int.emod_lt_of_pos _ hm
  have HT2 : Hid _ := t2
  obtain ⟨k, hk⟩ : ∃ k : Nat, (d % m).toNat = k := ⟨_, rfl⟩
  rw [hk] at t1 HT2
  have hm0 : ¬ m = 0 := by omega
  clear t2 hk
  by_cases h : c < 0
  · have e1 : d = -(c + 1) := by rw [← hd, if_pos h]
    have e3 : -((c + 1).tmod m) = (k : Int) := by rw [← Int.neg_tmod, ← e1]; exact t1
    have E3 : Hid (-((c + 1).tmod m) = (k : Int)) := e3
    clear hd e1 t1 hd0 e3
    go_enter Tryd.func18, Tryd.ntmps18
    go_wp2
    go_ret
    exact ⟨k, by rw [← E3.out]; rfl, HT2.out, rfl⟩
  · obtain rfl : c = d := by rw [← hd, if_neg h]
    clear hd
    go_enter Tryd.func18, Tryd.ntmps18
    go_wp2
    go_ret
    exact ⟨k, rfl, HT2.out, rfl⟩
end Go.Proofs.YtnejehlgfckdgaaDoor
