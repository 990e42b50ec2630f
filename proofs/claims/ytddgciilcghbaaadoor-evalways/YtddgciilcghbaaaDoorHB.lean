/- Words by their letters: what the laws ask of Normal and Suffix. -/
import Derived.Test.YtddgciilcghbaaaDoorWdSuf
import Derived.Deep.RegionLaw
import Derived.Test.YtddgciilcghbaaaDoorEvSat
import Derived.Test.YtddgciilcghbaaaDoorHA
namespace Go.Proofs.YtddgciilcghbaaaDoor
open Go.RowKit
attribute [local go_sem ↓] Go.wp_at_zero Go.wp_at_succ

/-- A normal form has the fewest places. -/
theorem norm_small {q r : Wd} (h : r.Norm) (h0 : 0 < q.loop.length) (e : ∀ i, r.at i = q.at i) : r.stem.length ≤ q.stem.length ∧ r.loop.length ≤ q.loop.length := by
  have ef : r.at = q.at := funext e
  have hq : Per r.at q.stem.length q.loop.length := by rw [ef]; exact q.per
  have hr := r.per
  obtain ⟨hr0, ⟨_, _, hl⟩, hs⟩ := h
  refine ⟨?_, hl _ h0 (hr.early hr0 hq)⟩
  rcases hs with hs | hs
  · omega
  · rcases Nat.lt_or_ge q.stem.length r.stem.length with hlt | hge
    · have := (hq.early h0 hr) (r.stem.length - 1) (by omega)
      exact absurd this.symm hs
    · exact hge
theorem suf_at (q : Wd) (k : Nat) (h0 : 0 < q.loop.length) (i : Nat) : (sufW q k).at i = q.at (k + i) := by
  unfold sufW
  rw [if_neg (by omega)]
  by_cases h : k ≤ q.stem.length
  · rw [if_pos h]
    by_cases h2 : i < q.stem.length - k
    · rw [Wd.at_lo (by simp; omega), Wd.at_lo (by omega)]
      simp [List.getD_eq_getElem?_getD, List.getElem?_drop]
    · rw [Wd.at_hi (by simp; omega), Wd.at_hi (by omega)]
      simp only [List.length_drop]
      congr 1
      omega
  · rw [if_neg h, Wd.at_hi (by simp), Wd.at_hi (by omega)]
    simp only [List.length_nil, Nat.sub_zero]
    rw [cyc_rot _ _ _ (Nat.mod_lt _ h0)]
    unfold cyc
    rw [Nat.mod_add_mod, show k - q.stem.length + i = k + i - q.stem.length by omega]
theorem suf_small (q : Wd) (k : Nat) : (sufW q k).stem.length + (sufW q k).loop.length ≤ q.stem.length + q.loop.length := by
  unfold sufW
  split
  · simp
  · split
    · simp
    · simp [rot_length]
theorem suf_loop (q : Wd) (k : Nat) (h0 : 0 < q.loop.length) : 0 < (sufW q k).loop.length := by
  unfold sufW
  rw [if_neg (by omega)]
  split
  · exact h0
  · show 0 < (rot _ _).length; rw [rot_length]; exact h0

/-- A word in memory, by its letters. -/
def Wat (W : World) (x y : Value) (f : Nat → Nat) (n : Nat) : Prop := ∃ r : Wd, IsW W x y r ∧ 0 < r.loop.length ∧ (∀ i, r.at i = f i) ∧ r.stem.length + r.loop.length ≤ n
/-- One in its normal form. -/
def Made (W : World) (x y : Value) (f : Nat → Nat) (n : Nat) : Prop := ∃ r : Wd, IsW W x y r ∧ r.Norm ∧ (∀ i, r.at i = f i) ∧ r.stem.length + r.loop.length ≤ n
theorem Made.wat {W : World} {x y : Value} {f : Nat → Nat} {n : Nat} (h : Made W x y f n) : Wat W x y f n := by
  obtain ⟨r, h1, h2, h3, h4⟩ := h
  exact ⟨r, h1, h2.1, h3, h4⟩
theorem Wat.kept {W W' : World} {x y : Value} {f : Nat → Nat} {n : Nat} (h : Wat W x y f n) (k : Kept [] W W') : Wat W' x y f n := by
  obtain ⟨r, h1, h2⟩ := h
  exact ⟨r, h1.kept k, h2⟩
theorem Made.kept {W W' : World} {x y : Value} {f : Nat → Nat} {n : Nat} (h : Made W x y f n) (k : Kept [] W W') : Made W' x y f n := by
  obtain ⟨r, h1, h2⟩ := h
  exact ⟨r, h1.kept k, h2⟩
/-- A call that makes one. -/
def Makes (W : World) (f : Nat → Nat) (n : Nat) (e : Ending) (w1 : World) : Prop := ∃ a1 n1 c1 a2 n2 c2, e = .returned (.agg #[.slice a1 n1 c1, .slice a2 n2 c2]) ∧ Hid (Made w1 (.slice a1 n1 c1) (.slice a2 n2 c2) f n) ∧ Hid (Kept [] W w1)
theorem makes_of {W : World} {q : Wd} {g : Nat} {args : Array Value} {f : Nat → Nat} {n : Nat} (h : Calls Tryd.prog g args W (MadeNorm W q)) (h0 : 0 < q.loop.length) (hf : ∀ i, q.at i = f i) (hn : q.stem.length + q.loop.length ≤ n) (hn2 : n ≤ 70368744177664) : Calls Tryd.prog g args W (Makes W f n) := by
  refine h.mono ?_
  rintro e w1 ⟨sv, lv, r, rfl, hw, ho, hk⟩
  obtain ⟨h1, h2⟩ := ho.2 (fun e => by rw [e] at h0; simp at h0)
  obtain ⟨s1, s2⟩ := norm_small h1 h0 h2
  obtain ⟨a1, c1, e1⟩ := own_form hw.own1
  obtain ⟨a2, c2, e2⟩ := own_form hw.own2
  subst e1 e2
  exact ⟨a1, _, c1, a2, _, c2, rfl, ⟨r, ⟨hw.lets1, hw.lets2, by omega⟩, h1, fun i => (h2 i).trans (hf i), by omega⟩, hk⟩
theorem normal_wat {W : World} {x y : Value} {f : Nat → Nat} {n : Nat} (h : Wat W x y f n) (hn : n ≤ 70368744177664) : Calls Tryd.prog 14 #[.agg #[x, y]] W (Makes W f n) := by
  obtain ⟨r, h1, h2, h3, h4⟩ := h
  exact makes_of (normal_any x y r W h1.st h1.lp h1.few) h2 h3 h4 hn
theorem suffix_wat {W : World} {x y : Value} {f : Nat → Nat} {n : Nat} (h : Wat W x y f n) (hn : n ≤ 70368744177664) (k : Nat) (hk : k ≤ 9223372036854775807) : Calls Tryd.prog 15 #[.agg #[x, y], .int .i64 (k : Nat)] W (Makes W (fun i => f (k + i)) n) := by
  obtain ⟨r, h1, h2, h3, h4⟩ := h
  exact makes_of (suffix_any x y r k W h1 hk) (suf_loop r k h2) (fun i => by rw [suf_at r k h2, h3]) (Nat.le_trans (suf_small r k) h4) hn
end Go.Proofs.YtddgciilcghbaaaDoor

/- A word that is being written, letter by letter, in a box of its own. -/
namespace Go.Proofs.YtddgciilcghbaaaDoor
open Go.RowKit Go.Shelf

theorem kept_on {F : List Nat} {a b c : World} (h : Kept F a b) (k : Kept F b c) : Kept F a c := h.trans k (fun _ h => h) (fun _ h => .inl h)
theorem step_append_run {P : Program} {ops : Array Oper} {o : Oper} {a : Act} {w : World} {K : Act → World → Prop} {Q : Exit → Act → World → Prop} {E : Prop}
    (hg : o.guard = none) (s x : Operand) (t : TypeId) (hop : o.op = Op.call { callee := Callee.builtin Builtin.append, args := #[s, x], argTypes := #[t, t] })
    (v u v' : Value) (w' : World) (hs : a.eval s = v) (hx : a.eval x = u) (hrun : (Builtin.append_ #[t, t] o.type #[v, u]).run P w = .ok v' w') (hK : K (a.put o.dst v') w') :
    if Region.wanted o (yielded ops a.tmps) = true then Oper.wp P o a w K Q else E := by
  have hw : Region.wanted o (yielded ops a.tmps) = true := by simp [Region.wanted, hg]
  rw [if_pos hw]
  unfold Oper.wp
  simp [execOp, hop, resolve, invoke, builtin, hs, hx, hrun, Result.andThen]
  exact hK
structure Oth (w1 : World) (xs ys : List Nat) (W : World) (v1 v2 : Value) : Prop where
  box : Wd2 W w1.heap.size v1 v2
  own1 : W.ownsRow (w1.heap.size + 1) 52 1 v1 xs.length (u16s xs)
  own2 : W.ownsRow (w1.heap.size + 1) 52 1 v2 ys.length (u16s ys)
  apart : ∀ g, v1.ownBlock = some g → v2.ownBlock ≠ some g
  kept : Kept [] w1 W
theorem owns_set {B : Nat} {W : World} {o : Nat} {v u : Value} {n : Nat} {xs : List Value} (h : W.ownsRow (B + 1) 52 1 v n xs) : (W.setCell ⟨B, o, none⟩ u).ownsRow (B + 1) 52 1 v n xs :=
  owns_keptF h ((Kept.refl [B] W).setCell (.inl (by simp)) _) (fun g e hg => by have := own_base h e; simp at hg; omega)
theorem Oth.app {w1 W U : World} {xs ys zs : List Nat} {v1 v2 u : Value} (h : Oth w1 xs ys W v1 v2) (k : Kept [] W U) (hu : Lets U u zs) (hl : xs.length + zs.length ≤ 1000000) :
    ∃ v' w2, (∀ ty, (Builtin.append_ #[27, 27] ty #[v1, u]).run Tryd.prog U = .ok v' w2) ∧ Wd2 w2 w1.heap.size v1 v2 ∧ Oth w1 (xs ++ zs) ys (w2.setCell ⟨w1.heap.size, 0, none⟩ v') v' v2 := by
  have o1 := owns_keptF h.own1 k (by simp)
  have o2 := owns_keptF h.own2 k (by simp)
  have hb : Wd2 U w1.heap.size v1 v2 := h.box.kept k
  have hlt := lt_of hb
  obtain ⟨v', w2, h1, h2, h3, _, h5⟩ := run_append_lets U (w1.heap.size + 1) v1 u xs zs o1 hu (by omega) (by omega)
  have hb2 : Wd2 w2 w1.heap.size v1 v2 := (h3.block _ hlt (fun e => by have := own_base o1 e.symm; omega)).trans hb
  refine ⟨v', w2, h1, hb2, ?_, owns_set h2, owns_set (o2.kept h3 ?_), ?_, ?_⟩
  · unfold Wd2; rw [row_set hb2]; rfl
  · cases hv : v2.ownBlock with
    | none => exact .inl rfl
    | some g => exact .inr (fun e => h.apart g e.symm hv)
  · intro g hg e
    rcases h5 with h5 | h5
    · rw [h5] at hg; exact h.apart g hg e
    · rw [h5] at hg; cases hg
      have := owns_lt o2 e
      omega
  · refine ((kept_on h.kept k).grown h3 (fun g e => .inr ?_)).setCell (.inr (Nat.le_refl _)) _
    have := own_base o1 e
    omega
theorem Oth.app2 {w1 W U : World} {xs ys zs : List Nat} {v1 v2 u : Value} (h : Oth w1 xs ys W v1 v2) (k : Kept [] W U) (hu : Lets U u zs) (hl : ys.length + zs.length ≤ 1000000) :
    ∃ v' w2, (∀ ty, (Builtin.append_ #[27, 27] ty #[v2, u]).run Tryd.prog U = .ok v' w2) ∧ Wd2 w2 w1.heap.size v1 v2 ∧ Oth w1 xs (ys ++ zs) (w2.setCell ⟨w1.heap.size, 1, none⟩ v') v1 v' := by
  have o1 := owns_keptF h.own1 k (by simp)
  have o2 := owns_keptF h.own2 k (by simp)
  have hb : Wd2 U w1.heap.size v1 v2 := h.box.kept k
  have hlt := lt_of hb
  obtain ⟨v', w2, h1, h2, h3, _, h5⟩ := run_append_lets U (w1.heap.size + 1) v2 u ys zs o2 hu (by omega) (by omega)
  have hb2 : Wd2 w2 w1.heap.size v1 v2 := (h3.block _ hlt (fun e => by have := own_base o2 e.symm; omega)).trans hb
  refine ⟨v', w2, h1, hb2, ?_, owns_set (o1.kept h3 ?_), owns_set h2, ?_, ?_⟩
  · unfold Wd2; rw [row_set hb2]; rfl
  · cases hv : v1.ownBlock with
    | none => exact .inl rfl
    | some g => exact .inr (fun e => h.apart g hv e.symm)
  · intro g hg e
    rcases h5 with h5 | h5
    · rw [h5] at e; exact h.apart g hg e
    · rw [h5] at e; cases e
      have := owns_lt o1 hg
      omega
  · refine ((kept_on h.kept k).grown h3 (fun g e => .inr ?_)).setCell (.inr (Nat.le_refl _)) _
    have := own_base o2 e
    omega
theorem Oth.put {w1 W U : World} {xs ys zs : List Nat} {v1 v2 u : Value} (h : Oth w1 xs ys W v1 v2) (k : Kept [] W U) (hu : Lets U u zs) (hl : xs.length + zs.length ≤ 1000000) :
    ∃ ad n cp w2, (∀ ty, (Builtin.append_ #[27, 27] ty #[v1, u]).run Tryd.prog U = .ok (.slice ad n cp) w2) ∧ Wd2 w2 w1.heap.size v1 v2 ∧ Oth w1 (xs ++ zs) ys (w2.setCell ⟨w1.heap.size, 0, none⟩ (.slice ad n cp)) (.slice ad n cp) v2 := by
  obtain ⟨v', w2, h1, h2, h3⟩ := h.app k hu hl
  obtain ⟨ad, cp, e⟩ := own_form h3.own1
  subst e
  exact ⟨ad, _, cp, w2, h1, h2, h3⟩
theorem Oth.put2 {w1 W U : World} {xs ys zs : List Nat} {v1 v2 u : Value} (h : Oth w1 xs ys W v1 v2) (k : Kept [] W U) (hu : Lets U u zs) (hl : ys.length + zs.length ≤ 1000000) :
    ∃ ad n cp w2, (∀ ty, (Builtin.append_ #[27, 27] ty #[v2, u]).run Tryd.prog U = .ok (.slice ad n cp) w2) ∧ Wd2 w2 w1.heap.size v1 v2 ∧ Oth w1 xs (ys ++ zs) (w2.setCell ⟨w1.heap.size, 1, none⟩ (.slice ad n cp)) v1 (.slice ad n cp) := by
  obtain ⟨v', w2, h1, h2, h3⟩ := h.app2 k hu hl
  obtain ⟨ad, cp, e⟩ := own_form h3.own2
  subst e
  exact ⟨ad, _, cp, w2, h1, h2, h3⟩
theorem Oth.new (w1 : World) : Oth w1 [] [] (w1.alloc (.cells #[.slice none 0 0, .slice none 0 0] 29)) (.slice none 0 0) (.slice none 0 0) :=
  ⟨heap_alloc_new w1 _, own_nil _ _, own_nil _ _, (fun g e => by cases e), (Kept.refl [] w1).alloc _⟩
theorem Oth.isW {w1 W : World} {xs ys : List Nat} {v1 v2 : Value} (h : Oth w1 xs ys W v1 v2) (h1 : ∀ x ∈ xs, x < 65536) (h2 : ∀ x ∈ ys, x < 65536) (hl : xs.length + ys.length ≤ 1000000) : IsW W v1 v2 ⟨xs, ys⟩ :=
  ⟨lets_own h.own1 h1 (by show xs.length ≤ _; omega), lets_own h.own2 h2 (by show ys.length ≤ _; omega), by show xs.length + ys.length ≤ _; omega⟩
theorem Oth.drew {w1 W : World} {xs ys : List Nat} {v1 v2 : Value} (h : Oth w1 xs ys W v1 v2) (k : Kept [] W W.drew) : Oth w1 xs ys W.drew v1 v2 :=
  ⟨h.box.kept k, owns_keptF h.own1 k (by simp), owns_keptF h.own2 k (by simp), h.apart, kept_on h.kept k⟩
theorem cyc_small {l : List Nat} (h : ∀ x ∈ l, x < 65536) (i : Nat) : cyc l i < 65536 := by
  unfold cyc
  rw [List.getD_eq_getElem?_getD]
  rcases Nat.lt_or_ge (i % l.length) l.length with hn | hn
  · rw [List.getElem?_eq_getElem hn]; exact h _ (List.getElem_mem _)
  · rw [List.getElem?_eq_none hn]; decide
/-- The other way to write a word: more of it in the stem, its loop several times. -/
def othW (q : Wd) (k m : Nat) : Wd := ⟨q.stem ++ (List.range m).map (cyc q.loop), (List.range (k * q.loop.length)).map fun i => cyc q.loop (m + i)⟩
theorem oth_at (q : Wd) (k m : Nat) (hk : 0 < k) (h0 : 0 < q.loop.length) (i : Nat) : (othW q k m).at i = q.at i := by
  have hls : (othW q k m).stem.length = q.stem.length + m := by simp [othW]
  have hll : (othW q k m).loop.length = k * q.loop.length := by simp [othW]
  have hpos : 0 < k * q.loop.length := Nat.mul_pos hk h0
  by_cases h1 : i < q.stem.length + m
  · rw [Wd.at_lo (by omega)]
    show (q.stem ++ (List.range m).map (cyc q.loop)).getD i 0 = _
    by_cases h2 : i < q.stem.length
    · rw [Wd.at_lo h2]
      simp [List.getD_eq_getElem?_getD, List.getElem?_append_left h2]
    · rw [Wd.at_hi (by omega)]
      have h3 : i - q.stem.length < m := by omega
      simp [List.getD_eq_getElem?_getD, List.getElem?_append_right (by omega : q.stem.length ≤ i), h3]
  · rw [Wd.at_hi (by omega), Wd.at_hi (by omega), hls]
    obtain ⟨j, hj⟩ : ∃ j, i - (q.stem.length + m) = j := ⟨_, rfl⟩
    rw [hj]
    unfold cyc
    rw [hll]
    show ((List.range (k * q.loop.length)).map fun i => cyc q.loop (m + i)).getD (j % (k * q.loop.length)) 0 = _
    have h4 : j % (k * q.loop.length) < k * q.loop.length := Nat.mod_lt _ hpos
    rw [List.getD_eq_getElem?_getD]
    simp only [List.getElem?_map, List.getElem?_range h4, Option.map_some, Option.getD_some]
    unfold cyc
    congr 1
    rw [show i - q.stem.length = m + j by omega, Nat.add_mod, Nat.mod_mul_left_mod, ← Nat.add_mod]
end Go.Proofs.YtddgciilcghbaaaDoor

/- EvalWays' maths: what holds depends on the letters alone, and a suffix holds what holds at its place. -/
namespace Go.Proofs.YtddgciilcghbaaaDoor

theorem until_shift (b a : Nat → Prop) (i k : Nat) : untilP b a (i + k) ↔ untilP (fun j => b (j + k)) (fun j => a (j + k)) i := by
  have e : ∀ j, i + k + j = i + j + k := fun j => by omega
  constructor
  · rintro ⟨n, ha, hb⟩
    exact ⟨n, by rw [e] at ha; exact ha, fun j hj => by have := hb j hj; rw [e] at this; exact this⟩
  · rintro ⟨n, ha, hb⟩
    exact ⟨n, by rw [e]; exact ha, fun j hj => by rw [e]; exact hb j hj⟩
theorem satOp_shift (σ : Nat → Nat) (xs : List ByteArray) (op : Nat) (name : ByteArray) (g h : Nat → Prop) (k i : Nat) : satOp σ xs op name g h (i + k) ↔ satOp (fun j => σ (j + k)) xs op name (fun j => g (j + k)) (fun j => h (j + k)) i := by
  have e : i + k + 1 = i + 1 + k := by omega
  unfold satOp
  rw [until_shift, until_shift, until_shift, until_shift, until_shift, until_shift, e]
theorem kid_shift {k : Nat} {l l' : List (Nat → Prop)} (hl : l.length = l'.length) (h : ∀ n (h1 : n < l.length) (h2 : n < l'.length), l'[n] = fun j => l[n] (j + k)) (n : Nat) : l'.getD n (fun _ => False) = fun j => l.getD n (fun _ => False) (j + k) := by
  by_cases hn : n < l.length
  · rw [List.getD_eq_getElem?_getD, List.getD_eq_getElem?_getD, List.getElem?_eq_getElem hn, List.getElem?_eq_getElem (by omega)]
    simp only [Option.getD_some]
    exact h n hn (by omega)
  · rw [List.getD_eq_getElem?_getD, List.getD_eq_getElem?_getD, List.getElem?_eq_none (by omega), List.getElem?_eq_none (by omega)]
    rfl
/-- A suffix means what the word means at its place. -/
theorem sat_shift (σ : Nat → Nat) (xs : List ByteArray) (k : Nat) (t : Tr) : sat (fun j => σ (j + k)) xs t = fun i => sat σ xs t (i + k) := by
  induction t using Tr.ind with
  | h t ih =>
    funext i
    rw [sat_eq, sat_eq σ]
    have hk : ∀ n (h1 : n < (t.kids.map (sat σ xs)).length) (h2 : n < (t.kids.map (sat (fun j => σ (j + k)) xs)).length), (t.kids.map (sat (fun j => σ (j + k)) xs))[n] = fun j => (t.kids.map (sat σ xs))[n] (j + k) := fun n h1 h2 => by
      simp only [List.getElem_map]
      exact ih _ (List.getElem_mem _)
    have hl : (t.kids.map (sat σ xs)).length = (t.kids.map (sat (fun j => σ (j + k)) xs)).length := by simp
    have e0 : kid0 (fun _ => False) (t.kids.map (sat (fun j => σ (j + k)) xs)) = fun j => kid0 (fun _ => False) (t.kids.map (sat σ xs)) (j + k) := kid_shift hl hk 0
    have e1 : kid1 (fun _ => False) (t.kids.map (sat (fun j => σ (j + k)) xs)) = fun j => kid1 (fun _ => False) (t.kids.map (sat σ xs)) (j + k) := by
      unfold kid1
      rw [← hl]
      exact kid_shift hl hk _
    rw [e0, e1]
    exact propext (satOp_shift σ xs t.op t.name _ _ k i).symm
/-- Two words, one the other's suffix by their letters: the row's first place is the other's place. -/
theorem row_suffix {q q' : Wd} (h0 : 0 < q.loop.length) (h1 : 0 < q'.loop.length) {xs : List ByteArray} {t : Tr} (hG : t.Good) {i : Nat} (hi : i < q.len) (h : ∀ j, q'.at j = q.at (j + i)) : rowT q' xs t 0 = rowT q xs t i := by
  have hp : plc q' 0 = 0 := plc_of_lt (by unfold Wd.len; omega)
  have hq := plc_of_lt hi
  rw [Bool.eq_iff_iff, ← hp, row_sat h1 xs t hG, ← hq, row_sat h0 xs t hG, show q'.at = fun j => q.at (j + i) from funext h, sat_shift]
  simp
end Go.Proofs.YtddgciilcghbaaaDoor

/- EvalWays' maths, the words' part: letters below the bound, the other way to write a word. -/
namespace Go.Proofs.YtddgciilcghbaaaDoor
open Go.RowKit Go.Shelf

theorem at_stem (q : Wd) {i : Nat} (h : i < q.stem.length) : q.at i = q.stem.getD i 0 := by unfold Wd.at; rw [if_pos h]
theorem at_loop (q : Wd) {i : Nat} (h : i < q.loop.length) : q.at (q.stem.length + i) = q.loop.getD i 0 := by
  unfold Wd.at; rw [if_neg (by omega), show q.stem.length + i - q.stem.length = i by omega, Nat.mod_eq_of_lt h]
theorem getD_of {l : List Nat} {i : Nat} (h : i < l.length) : l.getD i 0 = l[i] := by rw [List.getD_eq_getElem?_getD, List.getElem?_eq_getElem h]; rfl
theorem great_iff {p : Nat} {l : List Nat} : anyGreat p l = false ↔ ∀ i, i < l.length → l.getD i 0 < 2 ^ p := by
  unfold anyGreat
  rw [List.any_eq_false]
  constructor
  · intro h i hi
    have := h _ (List.getElem_mem hi)
    rw [getD_of hi]
    simpa using this
  · intro h x hx
    obtain ⟨i, hi, rfl⟩ := List.getElem_of_mem hx
    have := h i hi
    rw [getD_of hi] at this
    simpa using this
theorem check_at {q : Wd} {n : Int} (h : checkE q n = 0) : (0 ≤ n ∧ n ≤ 8) ∧ 0 < q.loop.length ∧ ∀ i, q.at i < 2 ^ n.toNat := by
  unfold checkE at h
  split at h
  · cases h
  · rename_i h1
    split at h
    · cases h
    · rename_i h2
      have h1 : 0 ≤ n ∧ n ≤ 8 := Classical.not_not.1 h1
      simp only [not_or] at h2
      obtain ⟨a, b, c⟩ := h2
      have a : 0 < q.loop.length := by omega
      have b := great_iff.1 (Bool.not_eq_true _ ▸ b)
      have c := great_iff.1 (Bool.not_eq_true _ ▸ c)
      refine ⟨h1, a, fun i => ?_⟩
      unfold Wd.at
      split
      · rename_i hi; exact b i hi
      · exact c _ (Nat.mod_lt _ a)
theorem check_mk {q : Wd} {n : Int} (h1 : 0 ≤ n ∧ n ≤ 8) (h0 : 0 < q.loop.length) (h : ∀ i, q.at i < 2 ^ n.toNat) : checkE q n = 0 := by
  unfold checkE
  rw [if_neg (fun h2 => h2 h1), if_neg]
  rintro (h2 | h2 | h2)
  · omega
  · have : anyGreat n.toNat q.stem = false := great_iff.2 (fun i hi => by rw [← at_stem q hi]; exact h i)
    rw [this] at h2; cases h2
  · have : anyGreat n.toNat q.loop = false := great_iff.2 (fun i hi => by rw [← at_loop q hi]; exact h _)
    rw [this] at h2; cases h2
/-- A word whose letters are another's may be asked where that one may. -/
theorem along_let {t : Tr} {xs : List ByteArray} {q r : Wd} (h : askB t xs q = true) (h0 : 0 < r.loop.length) (hr : ∀ i, ∃ j, r.at i = q.at j) : alongE t xs r = 0 := by
  obtain ⟨g, nm, hl, hc, hs, hd⟩ := ask_along h
  obtain ⟨c1, c2, c3⟩ := check_at hc
  have hf : fitsN t xs = 0 := by
    unfold fitsN
    rw [if_neg (by simp [right_of_good g hs hd]), lack_of_named nm]; rfl
  have hk : checkE r xs.length = 0 := check_mk c1 h0 (fun i => by obtain ⟨j, hj⟩ := hr i; rw [hj]; exact c3 j)
  unfold alongE
  rw [if_neg (by simp [hf]), if_neg (by simp [hl]), if_neg (by simp [hk])]
theorem take_cyc (l : List Nat) {k : Nat} (hk : k ≤ l.length) : l.take k = (List.range k).map (cyc l) := by
  apply List.ext_getElem
  · simp; omega
  · intro i h1 h2
    simp only [List.length_map, List.length_range] at h2
    rw [List.getElem_take, List.getElem_map, List.getElem_range]
    unfold cyc
    rw [Nat.mod_eq_of_lt (by omega), getD_of (by omega)]
theorem rot_cyc (l : List Nat) {k : Nat} (hk : k ≤ l.length) : l.drop k ++ l.take k = (List.range l.length).map fun i => cyc l (k + i) := by
  apply List.ext_getElem
  · simp; omega
  · intro i h1 h2
    simp only [List.length_map, List.length_range] at h2
    rw [List.getElem_map, List.getElem_range, List.getElem_append]
    unfold cyc
    split
    · rename_i h
      rw [List.length_drop] at h
      rw [List.getElem_drop, Nat.mod_eq_of_lt (by omega), getD_of (by omega)]
    · rename_i h
      rw [List.length_drop] at h
      have e : (k + i) % l.length = i - (l.length - k) := by
        rw [show k + i = (i - (l.length - k)) + l.length by omega, Nat.add_mod_right, Nat.mod_eq_of_lt (by omega)]
      rw [List.getElem_take, getD_of (by rw [e]; omega)]
      simp only [List.length_drop, e]
/-- The loop told j times, from k on. -/
def loopW (l : List Nat) (k j : Nat) : List Nat := (List.range (j * l.length)).map fun i => cyc l (k + i)
theorem loopW_zero (l : List Nat) (k : Nat) : loopW l k 0 = [] := by simp [loopW]
theorem loopW_succ (l : List Nat) {k : Nat} (hk : k ≤ l.length) (j : Nat) : loopW l k (j + 1) = loopW l k j ++ l.drop k ++ l.take k := by
  unfold loopW
  rw [List.append_assoc, rot_cyc l hk, Nat.succ_mul, List.range_add, List.map_append, List.map_map]
  congr 1
  apply List.map_congr_left
  intro i _
  show cyc l (k + (j * l.length + i)) = cyc l (k + i)
  unfold cyc
  rw [show k + (j * l.length + i) = k + i + l.length * j by rw [Nat.mul_comm l.length j]; omega, Nat.add_mul_mod_self_left]
theorem loopW_len (l : List Nat) (k j : Nat) : (loopW l k j).length = j * l.length := by simp [loopW]
theorem vW_at (q : Wd) {k j : Nat} (hk : k ≤ q.loop.length) (hj : 0 < j) (h0 : 0 < q.loop.length) (i : Nat) : (Wd.mk (q.stem ++ q.loop.take k) (loopW q.loop k j)).at i = q.at i := by
  rw [take_cyc q.loop hk]
  exact oth_at q j k hj h0 i
theorem loopW_small {l : List Nat} (h : ∀ x ∈ l, x < 65536) (k j : Nat) : ∀ x ∈ loopW l k j, x < 65536 := by
  intro x hx
  obtain ⟨i, _, rfl⟩ := List.mem_map.1 hx
  exact cyc_small h _
/-- Letters that are nought. -/
def zerosU (k : Nat) : Array Value := madeCells (Value.cells (.int .u16 0)) (k * 1)
theorem make_zeros (w : World) (k : Nat) (hk : k ≤ 70368744177) : Sem.run Tryd.prog (Instr.makeSlice 27 (.int .i64 k) (.int .i64 k)) w = .ok (.slice (some ⟨w.heap.size, 0, none⟩) k k) (w.alloc (.cells (zerosU k) 52)) := by
  obtain ⟨i, hi, hz, hs, hb⟩ := info_parts Tryd.infoU16
  have h := run_make (P := Tryd.prog) w 27 52 i _ Tryd.underlying27 hi hz .i64 .i64 k k (by omega) (Int.le_refl _) (by rw [hb]; omega) (by omega)
  rw [h, hs, Int.toNat_natCast]
  rfl
theorem lets_zeros (w : World) (k : Nat) (hk : k ≤ 70368744177) : Lets (w.alloc (.cells (zerosU k) 52)) (.slice (some ⟨w.heap.size, 0, none⟩) k k) (List.replicate k 0) := by
  refine ⟨fun x hx => by rw [(List.mem_replicate.1 hx).2]; decide, by rw [List.length_replicate]; omega, .inr ⟨w.heap.size, 0, k, by rw [List.length_replicate], by rw [List.length_replicate]; exact Nat.le_refl _, by unfold maxLen; omega, fun i hi => ?_⟩⟩
  rw [List.length_replicate] at hi
  have h := toList_madeCells_one (Value.int .u16 0) (k * 1)
  have e : (zerosU k).toList = List.replicate (k * 1) (.int .u16 0) := h
  have e2 : (List.replicate k 0).getD i 0 = 0 := by rw [List.getD_eq_getElem?_getD, List.getElem?_replicate]; split <;> rfl
  rw [Nat.zero_add, e2]
  refine (cell_of (heap_alloc_new w _) i).trans ?_
  rw [← Array.getElem?_toList, e, List.getElem?_replicate, if_pos (by omega)]
  rfl
end Go.Proofs.YtddgciilcghbaaaDoor
