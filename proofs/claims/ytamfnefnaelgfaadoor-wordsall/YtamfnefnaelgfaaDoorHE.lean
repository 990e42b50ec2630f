/- Words by their letters: what the laws ask of Normal and Suffix. -/
import Derived.Test.YtamfnefnaelgfaaDoorWdSuf
import Derived.Deep.RegionLaw
import Derived.Test.YtamfnefnaelgfaaDoorWdRefs
namespace Go.Proofs.YtamfnefnaelgfaaDoor
open Go.RowKit
attribute [local go_sem ↓] Go.wp_at_zero Go.wp_at_succ

/-- A normal form has the fewest places. -/
theorem norm_small {q r : Wd} (h : r.Norm) (h0 : 0 < q.loop.length) (e : ∀ i, r.at i = q.at i) : r.stem.length ≤ q.stem.length ∧ r.loop.length ≤ q.loop.length := by
  have ef : r.at = q.at := funext e
  have hq : Per r.at q.stem.length q.loop.length := by rw [ef]; exact q.per
  have hr := r.per
  obtain ⟨hr0, ⟨_, _, hl⟩, hs⟩ := h
  refine ⟨?_, hl _ h0 (hr.early hr0 hq)⟩
  rcases hs with hs | hs
  · omega
  · rcases Nat.lt_or_ge q.stem.length r.stem.length with hlt | hge
    · have := (hq.early h0 hr) (r.stem.length - 1) (by omega)
      exact absurd this.symm hs
    · exact hge
theorem suf_at (q : Wd) (k : Nat) (h0 : 0 < q.loop.length) (i : Nat) : (sufW q k).at i = q.at (k + i) := by
  unfold sufW
  rw [if_neg (by omega)]
  by_cases h : k ≤ q.stem.length
  · rw [if_pos h]
    by_cases h2 : i < q.stem.length - k
    · rw [Wd.at_lo (by simp; omega), Wd.at_lo (by omega)]
      simp [List.getD_eq_getElem?_getD, List.getElem?_drop]
    · rw [Wd.at_hi (by simp; omega), Wd.at_hi (by omega)]
      simp only [List.length_drop]
      congr 1
      omega
  · rw [if_neg h, Wd.at_hi (by simp), Wd.at_hi (by omega)]
    simp only [List.length_nil, Nat.sub_zero]
    rw [cyc_rot _ _ _ (Nat.mod_lt _ h0)]
    unfold cyc
    rw [Nat.mod_add_mod, show k - q.stem.length + i = k + i - q.stem.length by omega]
theorem suf_small (q : Wd) (k : Nat) : (sufW q k).stem.length + (sufW q k).loop.length ≤ q.stem.length + q.loop.length := by
  unfold sufW
  split
  · simp
  · split
    · simp
    · simp [rot_length]
theorem suf_loop (q : Wd) (k : Nat) (h0 : 0 < q.loop.length) : 0 < (sufW q k).loop.length := by
  unfold sufW
  rw [if_neg (by omega)]
  split
  · exact h0
  · show 0 < (rot _ _).length; rw [rot_length]; exact h0

/-- A word in memory, by its letters. -/
def Wat (W : World) (x y : Value) (f : Nat → Nat) (n : Nat) : Prop := ∃ r : Wd, IsW W x y r ∧ 0 < r.loop.length ∧ (∀ i, r.at i = f i) ∧ r.stem.length + r.loop.length ≤ n
/-- One in its normal form. -/
def Made (W : World) (x y : Value) (f : Nat → Nat) (n : Nat) : Prop := ∃ r : Wd, IsW W x y r ∧ r.Norm ∧ (∀ i, r.at i = f i) ∧ r.stem.length + r.loop.length ≤ n
theorem Made.wat {W : World} {x y : Value} {f : Nat → Nat} {n : Nat} (h : Made W x y f n) : Wat W x y f n := by
  obtain ⟨r, h1, h2, h3, h4⟩ := h
  exact ⟨r, h1, h2.1, h3, h4⟩
theorem Wat.kept {W W' : World} {x y : Value} {f : Nat → Nat} {n : Nat} (h : Wat W x y f n) (k : Kept [] W W') : Wat W' x y f n := by
  obtain ⟨r, h1, h2⟩ := h
  exact ⟨r, h1.kept k, h2⟩
theorem Made.kept {W W' : World} {x y : Value} {f : Nat → Nat} {n : Nat} (h : Made W x y f n) (k : Kept [] W W') : Made W' x y f n := by
  obtain ⟨r, h1, h2⟩ := h
  exact ⟨r, h1.kept k, h2⟩
/-- A call that makes one. -/
def Makes (W : World) (f : Nat → Nat) (n : Nat) (e : Ending) (w1 : World) : Prop := ∃ a1 n1 c1 a2 n2 c2, e = .returned (.agg #[.slice a1 n1 c1, .slice a2 n2 c2]) ∧ Hid (Made w1 (.slice a1 n1 c1) (.slice a2 n2 c2) f n) ∧ Hid (Kept [] W w1)
theorem makes_of {W : World} {q : Wd} {g : Nat} {args : Array Value} {f : Nat → Nat} {n : Nat} (h : Calls Tryd.prog g args W (MadeNorm W q)) (h0 : 0 < q.loop.length) (hf : ∀ i, q.at i = f i) (hn : q.stem.length + q.loop.length ≤ n) (hn2 : n ≤ 70368744177664) : Calls Tryd.prog g args W (Makes W f n) := by
  refine h.mono ?_
  rintro e w1 ⟨sv, lv, r, rfl, hw, ho, hk⟩
  obtain ⟨h1, h2⟩ := ho.2 (fun e => by rw [e] at h0; simp at h0)
  obtain ⟨s1, s2⟩ := norm_small h1 h0 h2
  obtain ⟨a1, c1, e1⟩ := own_form hw.own1
  obtain ⟨a2, c2, e2⟩ := own_form hw.own2
  subst e1 e2
  exact ⟨a1, _, c1, a2, _, c2, rfl, ⟨r, ⟨hw.lets1, hw.lets2, by omega⟩, h1, fun i => (h2 i).trans (hf i), by omega⟩, hk⟩
theorem normal_wat {W : World} {x y : Value} {f : Nat → Nat} {n : Nat} (h : Wat W x y f n) (hn : n ≤ 70368744177664) : Calls Tryd.prog 11 #[.agg #[x, y]] W (Makes W f n) := by
  obtain ⟨r, h1, h2, h3, h4⟩ := h
  exact makes_of (normal_any x y r W h1.st h1.lp h1.few) h2 h3 h4 hn
theorem suffix_wat {W : World} {x y : Value} {f : Nat → Nat} {n : Nat} (h : Wat W x y f n) (hn : n ≤ 70368744177664) (k : Nat) (hk : k ≤ 9223372036854775807) : Calls Tryd.prog 13 #[.agg #[x, y], .int .i64 (k : Nat)] W (Makes W (fun i => f (k + i)) n) := by
  obtain ⟨r, h1, h2, h3, h4⟩ := h
  exact makes_of (suffix_any x y r k W h1 hk) (suf_loop r k h2) (fun i => by rw [suf_at r k h2, h3]) (Nat.le_trans (suf_small r k) h4) hn
end Go.Proofs.YtamfnefnaelgfaaDoor

/- A word that is being written, letter by letter, in a box of its own. -/
namespace Go.Proofs.YtamfnefnaelgfaaDoor
open Go.RowKit Go.Shelf

theorem kept_on {F : List Nat} {a b c : World} (h : Kept F a b) (k : Kept F b c) : Kept F a c := h.trans k (fun _ h => h) (fun _ h => .inl h)
theorem step_append_run {P : Program} {ops : Array Oper} {o : Oper} {a : Act} {w : World} {K : Act → World → Prop} {Q : Exit → Act → World → Prop} {E : Prop}
    (hg : o.guard = none) (s x : Operand) (t : TypeId) (hop : o.op = Op.call { callee := Callee.builtin Builtin.append, args := #[s, x], argTypes := #[t, t] })
    (v u v' : Value) (w' : World) (hs : a.eval s = v) (hx : a.eval x = u) (hrun : (Builtin.append_ #[t, t] o.type #[v, u]).run P w = .ok v' w') (hK : K (a.put o.dst v') w') :
    if Region.wanted o (yielded ops a.tmps) = true then Oper.wp P o a w K Q else E := by
  have hw : Region.wanted o (yielded ops a.tmps) = true := by simp [Region.wanted, hg]
  rw [if_pos hw]
  unfold Oper.wp
  simp [execOp, hop, resolve, invoke, builtin, hs, hx, hrun, Result.andThen]
  exact hK
structure Oth (w1 : World) (xs ys : List Nat) (W : World) (v1 v2 : Value) : Prop where
  box : Wd2 W w1.heap.size v1 v2
  own1 : W.ownsRow (w1.heap.size + 1) 51 1 v1 xs.length (u16s xs)
  own2 : W.ownsRow (w1.heap.size + 1) 51 1 v2 ys.length (u16s ys)
  apart : ∀ g, v1.ownBlock = some g → v2.ownBlock ≠ some g
  kept : Kept [] w1 W
theorem owns_set {B : Nat} {W : World} {o : Nat} {v u : Value} {n : Nat} {xs : List Value} (h : W.ownsRow (B + 1) 51 1 v n xs) : (W.setCell ⟨B, o, none⟩ u).ownsRow (B + 1) 51 1 v n xs :=
  owns_keptF h ((Kept.refl [B] W).setCell (.inl (by simp)) _) (fun g e hg => by have := own_base h e; simp at hg; omega)
theorem Oth.app {w1 W U : World} {xs ys zs : List Nat} {v1 v2 u : Value} (h : Oth w1 xs ys W v1 v2) (k : Kept [] W U) (hu : Lets U u zs) (hl : xs.length + zs.length ≤ 1000000000) :
    ∃ v' w2, (∀ ty, (Builtin.append_ #[45, 45] ty #[v1, u]).run Tryd.prog U = .ok v' w2) ∧ Wd2 w2 w1.heap.size v1 v2 ∧ Oth w1 (xs ++ zs) ys (w2.setCell ⟨w1.heap.size, 0, none⟩ v') v' v2 := by
  have o1 := owns_keptF h.own1 k (by simp)
  have o2 := owns_keptF h.own2 k (by simp)
  have hb : Wd2 U w1.heap.size v1 v2 := h.box.kept k
  have hlt := lt_of hb
  obtain ⟨v', w2, h1, h2, h3, _, h5⟩ := run_append_lets U (w1.heap.size + 1) v1 u xs zs o1 hu (by omega) (by omega)
  have hb2 : Wd2 w2 w1.heap.size v1 v2 := (h3.block _ hlt (fun e => by have := own_base o1 e.symm; omega)).trans hb
  refine ⟨v', w2, h1, hb2, ?_, owns_set h2, owns_set (o2.kept h3 ?_), ?_, ?_⟩
  · unfold Wd2; rw [row_set hb2]; rfl
  · cases hv : v2.ownBlock with
    | none => exact .inl rfl
    | some g => exact .inr (fun e => h.apart g e.symm hv)
  · intro g hg e
    rcases h5 with h5 | h5
    · rw [h5] at hg; exact h.apart g hg e
    · rw [h5] at hg; cases hg
      have := owns_lt o2 e
      omega
  · refine ((kept_on h.kept k).grown h3 (fun g e => .inr ?_)).setCell (.inr (Nat.le_refl _)) _
    have := own_base o1 e
    omega
theorem Oth.app2 {w1 W U : World} {xs ys zs : List Nat} {v1 v2 u : Value} (h : Oth w1 xs ys W v1 v2) (k : Kept [] W U) (hu : Lets U u zs) (hl : ys.length + zs.length ≤ 1000000000) :
    ∃ v' w2, (∀ ty, (Builtin.append_ #[45, 45] ty #[v2, u]).run Tryd.prog U = .ok v' w2) ∧ Wd2 w2 w1.heap.size v1 v2 ∧ Oth w1 xs (ys ++ zs) (w2.setCell ⟨w1.heap.size, 1, none⟩ v') v1 v' := by
  have o1 := owns_keptF h.own1 k (by simp)
  have o2 := owns_keptF h.own2 k (by simp)
  have hb : Wd2 U w1.heap.size v1 v2 := h.box.kept k
  have hlt := lt_of hb
  obtain ⟨v', w2, h1, h2, h3, _, h5⟩ := run_append_lets U (w1.heap.size + 1) v2 u ys zs o2 hu (by omega) (by omega)
  have hb2 : Wd2 w2 w1.heap.size v1 v2 := (h3.block _ hlt (fun e => by have := own_base o2 e.symm; omega)).trans hb
  refine ⟨v', w2, h1, hb2, ?_, owns_set (o1.kept h3 ?_), owns_set h2, ?_, ?_⟩
  · unfold Wd2; rw [row_set hb2]; rfl
  · cases hv : v1.ownBlock with
    | none => exact .inl rfl
    | some g => exact .inr (fun e => h.apart g hv e.symm)
  · intro g hg e
    rcases h5 with h5 | h5
    · rw [h5] at e; exact h.apart g hg e
    · rw [h5] at e; cases e
      have := owns_lt o1 hg
      omega
  · refine ((kept_on h.kept k).grown h3 (fun g e => .inr ?_)).setCell (.inr (Nat.le_refl _)) _
    have := own_base o2 e
    omega
theorem Oth.put {w1 W U : World} {xs ys zs : List Nat} {v1 v2 u : Value} (h : Oth w1 xs ys W v1 v2) (k : Kept [] W U) (hu : Lets U u zs) (hl : xs.length + zs.length ≤ 1000000000) :
    ∃ ad n cp w2, (∀ ty, (Builtin.append_ #[45, 45] ty #[v1, u]).run Tryd.prog U = .ok (.slice ad n cp) w2) ∧ Wd2 w2 w1.heap.size v1 v2 ∧ Oth w1 (xs ++ zs) ys (w2.setCell ⟨w1.heap.size, 0, none⟩ (.slice ad n cp)) (.slice ad n cp) v2 := by
  obtain ⟨v', w2, h1, h2, h3⟩ := h.app k hu hl
  obtain ⟨ad, cp, e⟩ := own_form h3.own1
  subst e
  exact ⟨ad, _, cp, w2, h1, h2, h3⟩
theorem Oth.put2 {w1 W U : World} {xs ys zs : List Nat} {v1 v2 u : Value} (h : Oth w1 xs ys W v1 v2) (k : Kept [] W U) (hu : Lets U u zs) (hl : ys.length + zs.length ≤ 1000000000) :
    ∃ ad n cp w2, (∀ ty, (Builtin.append_ #[45, 45] ty #[v2, u]).run Tryd.prog U = .ok (.slice ad n cp) w2) ∧ Wd2 w2 w1.heap.size v1 v2 ∧ Oth w1 xs (ys ++ zs) (w2.setCell ⟨w1.heap.size, 1, none⟩ (.slice ad n cp)) v1 (.slice ad n cp) := by
  obtain ⟨v', w2, h1, h2, h3⟩ := h.app2 k hu hl
  obtain ⟨ad, cp, e⟩ := own_form h3.own2
  subst e
  exact ⟨ad, _, cp, w2, h1, h2, h3⟩
theorem Oth.new (w1 : World) : Oth w1 [] [] (w1.alloc (.cells #[.slice none 0 0, .slice none 0 0] 47)) (.slice none 0 0) (.slice none 0 0) :=
  ⟨heap_alloc_new w1 _, own_nil _ _, own_nil _ _, (fun g e => by cases e), (Kept.refl [] w1).alloc _⟩
theorem Oth.isW {w1 W : World} {xs ys : List Nat} {v1 v2 : Value} (h : Oth w1 xs ys W v1 v2) (h1 : ∀ x ∈ xs, x < 65536) (h2 : ∀ x ∈ ys, x < 65536) (hl : xs.length + ys.length ≤ 1000000000) : IsW W v1 v2 ⟨xs, ys⟩ :=
  ⟨lets_own h.own1 h1 (by show xs.length ≤ _; omega), lets_own h.own2 h2 (by show ys.length ≤ _; omega), by show xs.length + ys.length ≤ _; omega⟩
theorem Oth.drew {w1 W : World} {xs ys : List Nat} {v1 v2 : Value} (h : Oth w1 xs ys W v1 v2) (k : Kept [] W W.drew) : Oth w1 xs ys W.drew v1 v2 :=
  ⟨h.box.kept k, owns_keptF h.own1 k (by simp), owns_keptF h.own2 k (by simp), h.apart, kept_on h.kept k⟩
theorem cyc_small {l : List Nat} (h : ∀ x ∈ l, x < 65536) (i : Nat) : cyc l i < 65536 := by
  unfold cyc
  rw [List.getD_eq_getElem?_getD]
  rcases Nat.lt_or_ge (i % l.length) l.length with hn | hn
  · rw [List.getElem?_eq_getElem hn]; exact h _ (List.getElem_mem _)
  · rw [List.getElem?_eq_none hn]; decide
/-- The other way to write a word: more of it in the stem, its loop several times. -/
def othW (q : Wd) (k m : Nat) : Wd := ⟨q.stem ++ (List.range m).map (cyc q.loop), (List.range (k * q.loop.length)).map fun i => cyc q.loop (m + i)⟩
theorem oth_at (q : Wd) (k m : Nat) (hk : 0 < k) (h0 : 0 < q.loop.length) (i : Nat) : (othW q k m).at i = q.at i := by
  have hls : (othW q k m).stem.length = q.stem.length + m := by simp [othW]
  have hll : (othW q k m).loop.length = k * q.loop.length := by simp [othW]
  have hpos : 0 < k * q.loop.length := Nat.mul_pos hk h0
  by_cases h1 : i < q.stem.length + m
  · rw [Wd.at_lo (by omega)]
    show (q.stem ++ (List.range m).map (cyc q.loop)).getD i 0 = _
    by_cases h2 : i < q.stem.length
    · rw [Wd.at_lo h2]
      simp [List.getD_eq_getElem?_getD, List.getElem?_append_left h2]
    · rw [Wd.at_hi (by omega)]
      have h3 : i - q.stem.length < m := by omega
      simp [List.getD_eq_getElem?_getD, List.getElem?_append_right (by omega : q.stem.length ≤ i), h3]
  · rw [Wd.at_hi (by omega), Wd.at_hi (by omega), hls]
    obtain ⟨j, hj⟩ : ∃ j, i - (q.stem.length + m) = j := ⟨_, rfl⟩
    rw [hj]
    unfold cyc
    rw [hll]
    show ((List.range (k * q.loop.length)).map fun i => cyc q.loop (m + i)).getD (j % (k * q.loop.length)) 0 = _
    have h4 : j % (k * q.loop.length) < k * q.loop.length := Nat.mod_lt _ hpos
    rw [List.getD_eq_getElem?_getD]
    simp only [List.getElem?_map, List.getElem?_range h4, Option.map_some, Option.getD_some]
    unfold cyc
    congr 1
    rw [show i - q.stem.length = m + j by omega, Nat.add_mod, Nat.mod_mul_left_mod, ← Nat.add_mod]
end Go.Proofs.YtamfnefnaelgfaaDoor

/- The document's normal form: again, Normal. -/
namespace Go.Proofs.YtamfnefnaelgfaaDoor
open Go.RowKit Go.Shelf
attribute [local go_sem ↓] Go.wp_at_zero Go.wp_at_succ

/-- A list is its first n letters again and again just if n divides its length and is a period. -/
theorem again_least {l : List Nat} {d n : Nat} (h0 : 0 < l.length) (h : Least (cyc l) 0 d) (hn : 0 < n) (hd : n ≤ d) : (n ∣ l.length ∧ rep l n) ↔ n = d := by
  constructor
  · rintro ⟨⟨k, hk⟩, hr⟩
    have := h.2.2 n hn ((rep_iff l n k hk h0).1 hr)
    omega
  · rintro rfl
    obtain ⟨k, hk⟩ := h.dvd (cyc_per l)
    exact ⟨⟨k, hk⟩, (rep_iff l n k hk h0).2 h.2.1⟩
set_option maxHeartbeats 1600000 in
theorem again_any (b o c n : Nat) (l : List Nat) (bb : Bool) (w : World) (hx : Lets w (.slice (some ⟨b, o, none⟩) l.length c) l) (h0 : 0 < n) (hn : n ≤ l.length) (hb : bb = true ↔ n ∣ l.length ∧ rep l n) :
    Calls Tryd.prog 66 #[.slice (some ⟨b, o, none⟩) l.length c, .int .i64 (n : Nat)] w fun e w' => e = .returned (.bool bb) ∧ Kept [] w w' := by
  have hf := hx.few
  obtain ⟨_, _, _, e, _, _, HC0⟩ := hx.there (by omega)
  cases e
  have HC : Hid (∀ i, i < l.length → w.cell? ⟨b, o + i, none⟩ = some (.int .u16 (l.getD i 0 : Nat))) := HC0
  have HB : Hid (bb = true ↔ n ∣ l.length ∧ rep l n) := hb
  obtain ⟨m, hm⟩ : ∃ m, l.length % n = m := ⟨_, rfl⟩
  have x1 : (l.length : Int).tmod (n : Int) = (m : Int) := by rw [Int.tmod_eq_emod_of_nonneg (by omega), ← hm]; rfl
  have x2 : (l.length : Int) % (n : Int) = (m : Int) := by rw [← hm]; rfl
  have x3 : ¬ ((n : Int) = 0) := by omega
  have x4 : ¬ (n = 0) := by omega
  have hml : m < n := by rw [← hm]; exact Nat.mod_lt _ h0
  clear hx hb HC0
  by_cases hm0 : m = 0
  · have hm1 : ((m : Int) != 0) = false := by simp; omega
    have HD : Hid (n ∣ l.length) := Nat.dvd_of_mod_eq_zero (hm.trans hm0)
    clear hm hm0
    go_enter Tryd.func66, Tryd.ntmps66
    go_wp2_with fail
    go_loopw [5] (fun i wr => ∃ k : Nat, n ≤ k ∧ k ≤ l.length ∧ i = .int .i64 (k : Nat) ∧ Hid (∀ j, j + n < k → l.getD (j + n) 0 = l.getD j 0) ∧ Quiet w wr) (fun i _ => l.length - (intOf i).toNat)
    case atStart => exact ⟨n, Nat.le_refl _, hn, rfl, fun j hj => by omega, Quiet.refl _⟩
    case round =>
      obtain ⟨k, hk1, hk, rfl, HD2, q, rfl⟩ := hrel
      by_cases hlt : k < l.length
      · have hlt' : (k : Int) < (l.length : Int) := by omega
        obtain ⟨j, rfl⟩ : ∃ j, k = j + n := ⟨k - n, by omega⟩
        have d1 := HC.out (j + n) hlt
        have d2 := HC.out j (by omega)
        have z0 : (0 : Int) ≤ (j : Int) := by omega
        have z1 : (j : Int) < (l.length : Int) := by omega
        have z2 : (0 : Int) ≤ ((j + n : Nat) : Int) := by omega
        have z3 : IntKind.i64.wrap (((j + n : Nat) : Int) - (n : Int)) = (j : Int) := by rw [IntKind.wrap_i64]; omega
        have z4 : IntKind.i64.wrap ((j : Int) + (n : Int) - (n : Int)) = (j : Int) := by rw [IntKind.wrap_i64]; omega
        obtain ⟨kk, hkk⟩ : ∃ kk, j + n = kk := ⟨_, rfl⟩
        have HKK : Hid (j + n = kk) := hkk
        have z5 : IntKind.i64.wrap ((kk : Int) - (n : Int)) = (j : Int) := by rw [IntKind.wrap_i64]; omega
        rw [hkk] at d1 hlt' z2
        simp only [hkk] at hk1 hk hlt ⊢
        by_cases he : l.getD kk 0 = l.getD j 0
        · have HD3 : Hid (∀ j', j' + n < kk + 1 → l.getD (j' + n) 0 = l.getD j' 0) := fun j' hj => by
            rcases Nat.lt_or_ge (j' + n) kk with h | h
            · exact HD2.out j' (by rw [HKK.out]; exact h)
            · obtain rfl : j' = j := by have := HKK.out; omega
              rw [HKK.out]; exact he
          rw [he] at d1
          generalize l.getD j 0 = x at d1 d2
          have hne : ((x : Int) != (x : Int)) = false := by simp
          clear he hkk z3 z4 HD2
          go_wp2_with fail
          go_quiet (fail)
          go_wp2
          go_roundw
          case rel => exact ⟨kk + 1, by omega, by omega, by go_num, HD3.out, _, rfl⟩
          case measure => simp [intOf]; omega
        · have HF : Hid (bb = false) := by
            show bb = false
            rw [Bool.eq_false_iff]
            intro h
            have := (HB.out.1 h).2 j (by rw [HKK.out]; exact hlt)
            rw [HKK.out] at this
            exact he this
          generalize l.getD kk 0 = x at d1 he
          generalize l.getD j 0 = y at d2 he
          have hne : ((x : Int) != (y : Int)) = true := by simp; omega
          clear he hkk z3 z4 HD2
          go_wp2_with fail
          go_quiet (fail)
          go_wp2
          go_ret
          exact ⟨ret_bool HF.out.symm, Quiet.kept (quiet_more _ _ _)⟩
      · have hlt' : ¬ (k : Int) < (l.length : Int) := by omega
        have HF : Hid (bb = true) := HB.out.2 ⟨HD.out, fun j hj => HD2.out j (by omega)⟩
        go_wp2
        go_ret
        exact ⟨ret_bool HF.out.symm, Quiet.kept ⟨_, rfl⟩⟩
  · have hm1 : ((m : Int) != 0) = true := by simp; omega
    have HF : Hid (bb = false) := by
      show bb = false
      rw [Bool.eq_false_iff]
      intro h
      exact hm0 (hm.symm.trans (Nat.mod_eq_zero_of_dvd (HB.out.1 h).1))
    clear hm hm0
    go_enter Tryd.func66, Tryd.ntmps66
    go_wp2
    go_ret
    exact ⟨ret_bool HF.out.symm, Kept.refl [] w⟩
end Go.Proofs.YtamfnefnaelgfaaDoor
