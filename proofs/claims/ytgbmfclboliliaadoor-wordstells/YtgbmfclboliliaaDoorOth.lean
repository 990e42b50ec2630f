/- A word that is being written, letter by letter, in a box of its own. -/
import Derived.Test.YtgbmfclboliliaaDoorWdMadeA
import Derived.Deep.RegionLaw
namespace Go.Proofs.YtgbmfclboliliaaDoor
open Go.RowKit Go.Shelf

theorem kept_on {F : List Nat} {a b c : World} (h : Kept F a b) (k : Kept F b c) : Kept F a c := h.trans k (fun _ h => h) (fun _ h => .inl h)
theorem step_append_run {P : Program} {ops : Array Oper} {o : Oper} {a : Act} {w : World} {K : Act → World → Prop} {Q : Exit → Act → World → Prop} {E : Prop}
    (hg : o.guard = none) (s x : Operand) (t : TypeId) (hop : o.op = Op.call { callee := Callee.builtin Builtin.append, args := #[s, x], argTypes := #[t, t] })
    (v u v' : Value) (w' : World) (hs : a.eval s = v) (hx : a.eval x = u) (hrun : (Builtin.append_ #[t, t] o.type #[v, u]).run P w = .ok v' w') (hK : K (a.put o.dst v') w') :
    if Region.wanted o (yielded ops a.tmps) = true then Oper.wp P o a w K Q else E := by
  have hw : Region.wanted o (yielded ops a.tmps) = true := by simp [Region.wanted, hg]
  rw [if_pos hw]
  unfold Oper.wp
  simp [execOp, hop, resolve, invoke, builtin, hs, hx, hrun, Result.andThen]
  exact hK
structure Oth (w1 : World) (xs ys : List Nat) (W : World) (v1 v2 : Value) : Prop where
  box : Wd2 W w1.heap.size v1 v2
  own1 : W.ownsRow (w1.heap.size + 1) 54 1 v1 xs.length (u16s xs)
  own2 : W.ownsRow (w1.heap.size + 1) 54 1 v2 ys.length (u16s ys)
  apart : ∀ g, v1.ownBlock = some g → v2.ownBlock ≠ some g
  kept : Kept [] w1 W
theorem owns_set {B : Nat} {W : World} {o : Nat} {v u : Value} {n : Nat} {xs : List Value} (h : W.ownsRow (B + 1) 54 1 v n xs) : (W.setCell ⟨B, o, none⟩ u).ownsRow (B + 1) 54 1 v n xs :=
  owns_keptF h ((Kept.refl [B] W).setCell (.inl (by simp)) _) (fun g e hg => by have := own_base h e; simp at hg; omega)
theorem Oth.app {w1 W U : World} {xs ys zs : List Nat} {v1 v2 u : Value} (h : Oth w1 xs ys W v1 v2) (k : Kept [] W U) (hu : Lets U u zs) (hl : xs.length + zs.length ≤ 1000000000) :
    ∃ v' w2, (∀ ty, (Builtin.append_ #[22, 22] ty #[v1, u]).run Tryd.prog U = .ok v' w2) ∧ Wd2 w2 w1.heap.size v1 v2 ∧ Oth w1 (xs ++ zs) ys (w2.setCell ⟨w1.heap.size, 0, none⟩ v') v' v2 := by
  have o1 := owns_keptF h.own1 k (by simp)
  have o2 := owns_keptF h.own2 k (by simp)
  have hb : Wd2 U w1.heap.size v1 v2 := h.box.kept k
  have hlt := lt_of hb
  obtain ⟨v', w2, h1, h2, h3, _, h5⟩ := run_append_lets U (w1.heap.size + 1) v1 u xs zs o1 hu (by omega) (by omega)
  have hb2 : Wd2 w2 w1.heap.size v1 v2 := (h3.block _ hlt (fun e => by have := own_base o1 e.symm; omega)).trans hb
  refine ⟨v', w2, h1, hb2, ?_, owns_set h2, owns_set (o2.kept h3 ?_), ?_, ?_⟩
  · unfold Wd2; rw [row_set hb2]; rfl
  · cases hv : v2.ownBlock with
    | none => exact .inl rfl
    | some g => exact .inr (fun e => h.apart g e.symm hv)
  · intro g hg e
    rcases h5 with h5 | h5
    · rw [h5] at hg; exact h.apart g hg e
    · rw [h5] at hg; cases hg
      have := owns_lt o2 e
      omega
  · refine ((kept_on h.kept k).grown h3 (fun g e => .inr ?_)).setCell (.inr (Nat.le_refl _)) _
    have := own_base o1 e
    omega
theorem Oth.app2 {w1 W U : World} {xs ys zs : List Nat} {v1 v2 u : Value} (h : Oth w1 xs ys W v1 v2) (k : Kept [] W U) (hu : Lets U u zs) (hl : ys.length + zs.length ≤ 1000000000) :
    ∃ v' w2, (∀ ty, (Builtin.append_ #[22, 22] ty #[v2, u]).run Tryd.prog U = .ok v' w2) ∧ Wd2 w2 w1.heap.size v1 v2 ∧ Oth w1 xs (ys ++ zs) (w2.setCell ⟨w1.heap.size, 1, none⟩ v') v1 v' := by
  have o1 := owns_keptF h.own1 k (by simp)
  have o2 := owns_keptF h.own2 k (by simp)
  have hb : Wd2 U w1.heap.size v1 v2 := h.box.kept k
  have hlt := lt_of hb
  obtain ⟨v', w2, h1, h2, h3, _, h5⟩ := run_append_lets U (w1.heap.size + 1) v2 u ys zs o2 hu (by omega) (by omega)
  have hb2 : Wd2 w2 w1.heap.size v1 v2 := (h3.block _ hlt (fun e => by have := own_base o2 e.symm; omega)).trans hb
  refine ⟨v', w2, h1, hb2, ?_, owns_set (o1.kept h3 ?_), owns_set h2, ?_, ?_⟩
  · unfold Wd2; rw [row_set hb2]; rfl
  · cases hv : v1.ownBlock with
    | none => exact .inl rfl
    | some g => exact .inr (fun e => h.apart g hv e.symm)
  · intro g hg e
    rcases h5 with h5 | h5
    · rw [h5] at e; exact h.apart g hg e
    · rw [h5] at e; cases e
      have := owns_lt o1 hg
      omega
  · refine ((kept_on h.kept k).grown h3 (fun g e => .inr ?_)).setCell (.inr (Nat.le_refl _)) _
    have := own_base o2 e
    omega
theorem Oth.put {w1 W U : World} {xs ys zs : List Nat} {v1 v2 u : Value} (h : Oth w1 xs ys W v1 v2) (k : Kept [] W U) (hu : Lets U u zs) (hl : xs.length + zs.length ≤ 1000000000) :
    ∃ ad n cp w2, (∀ ty, (Builtin.append_ #[22, 22] ty #[v1, u]).run Tryd.prog U = .ok (.slice ad n cp) w2) ∧ Wd2 w2 w1.heap.size v1 v2 ∧ Oth w1 (xs ++ zs) ys (w2.setCell ⟨w1.heap.size, 0, none⟩ (.slice ad n cp)) (.slice ad n cp) v2 := by
  obtain ⟨v', w2, h1, h2, h3⟩ := h.app k hu hl
  obtain ⟨ad, cp, e⟩ := own_form h3.own1
  subst e
  exact ⟨ad, _, cp, w2, h1, h2, h3⟩
theorem Oth.put2 {w1 W U : World} {xs ys zs : List Nat} {v1 v2 u : Value} (h : Oth w1 xs ys W v1 v2) (k : Kept [] W U) (hu : Lets U u zs) (hl : ys.length + zs.length ≤ 1000000000) :
    ∃ ad n cp w2, (∀ ty, (Builtin.append_ #[22, 22] ty #[v2, u]).run Tryd.prog U = .ok (.slice ad n cp) w2) ∧ Wd2 w2 w1.heap.size v1 v2 ∧ Oth w1 xs (ys ++ zs) (w2.setCell ⟨w1.heap.size, 1, none⟩ (.slice ad n cp)) v1 (.slice ad n cp) := by
  obtain ⟨v', w2, h1, h2, h3⟩ := h.app2 k hu hl
  obtain ⟨ad, cp, e⟩ := own_form h3.own2
  subst e
  exact ⟨ad, _, cp, w2, h1, h2, h3⟩
theorem Oth.new (w1 : World) : Oth w1 [] [] (w1.alloc (.cells #[.slice none 0 0, .slice none 0 0] 24)) (.slice none 0 0) (.slice none 0 0) :=
  ⟨heap_alloc_new w1 _, own_nil _ _, own_nil _ _, (fun g e => by cases e), (Kept.refl [] w1).alloc _⟩
theorem Oth.isW {w1 W : World} {xs ys : List Nat} {v1 v2 : Value} (h : Oth w1 xs ys W v1 v2) (h1 : ∀ x ∈ xs, x < 65536) (h2 : ∀ x ∈ ys, x < 65536) (hl : xs.length + ys.length ≤ 1000000000) : IsW W v1 v2 ⟨xs, ys⟩ :=
  ⟨lets_own h.own1 h1 (by show xs.length ≤ _; omega), lets_own h.own2 h2 (by show ys.length ≤ _; omega), by show xs.length + ys.length ≤ _; omega⟩
theorem Oth.drew {w1 W : World} {xs ys : List Nat} {v1 v2 : Value} (h : Oth w1 xs ys W v1 v2) (k : Kept [] W W.drew) : Oth w1 xs ys W.drew v1 v2 :=
  ⟨h.box.kept k, owns_keptF h.own1 k (by simp), owns_keptF h.own2 k (by simp), h.apart, kept_on h.kept k⟩
theorem cyc_small {l : List Nat} (h : ∀ x ∈ l, x < 65536) (i : Nat) : cyc l i < 65536 := by
  unfold cyc
  rw [List.getD_eq_getElem?_getD]
  rcases Nat.lt_or_ge (i % l.length) l.length with hn | hn
  · rw [List.getElem?_eq_getElem hn]; exact h _ (List.getElem_mem _)
  · rw [List.getElem?_eq_none hn]; decide
/-- The other way to write a word: more of it in the stem, its loop several times. -/
def othW (q : Wd) (k m : Nat) : Wd := ⟨q.stem ++ (List.range m).map (cyc q.loop), (List.range (k * q.loop.length)).map fun i => cyc q.loop (m + i)⟩
theorem oth_at (q : Wd) (k m : Nat) (hk : 0 < k) (h0 : 0 < q.loop.length) (i : Nat) : (othW q k m).at i = q.at i := by
  have hls : (othW q k m).stem.length = q.stem.length + m := by simp [othW]
  have hll : (othW q k m).loop.length = k * q.loop.length := by simp [othW]
  have hpos : 0 < k * q.loop.length := Nat.mul_pos hk h0
  by_cases h1 : i < q.stem.length + m
  · rw [Wd.at_lo (by omega)]
    show (q.stem ++ (List.range m).map (cyc q.loop)).getD i 0 = _
    by_cases h2 : i < q.stem.length
    · rw [Wd.at_lo h2]
      simp [List.getD_eq_getElem?_getD, List.getElem?_append_left h2]
    · rw [Wd.at_hi (by omega)]
      have h3 : i - q.stem.length < m := by omega
      simp [List.getD_eq_getElem?_getD, List.getElem?_append_right (by omega : q.stem.length ≤ i), h3]
  · rw [Wd.at_hi (by omega), Wd.at_hi (by omega), hls]
    obtain ⟨j, hj⟩ : ∃ j, i - (q.stem.length + m) = j := ⟨_, rfl⟩
    rw [hj]
    unfold cyc
    rw [hll]
    show ((List.range (k * q.loop.length)).map fun i => cyc q.loop (m + i)).getD (j % (k * q.loop.length)) 0 = _
    have h4 : j % (k * q.loop.length) < k * q.loop.length := Nat.mod_lt _ hpos
    rw [List.getD_eq_getElem?_getD]
    simp only [List.getElem?_map, List.getElem?_range h4, Option.map_some, Option.getD_some]
    unfold cyc
    congr 1
    rw [show i - q.stem.length = m + j by omega, Nat.add_mod, Nat.mod_mul_left_mod, ← Nat.add_mod]
end Go.Proofs.YtgbmfclboliliaaDoor
