/- Rows of verdicts side by side, each in memory of its own: for Own. -/
import Derived.Test.YtbbfajbnklgncaaGreatHM
import Derived.Test.YtbbfajbnklgncaaGreatHJ
namespace Go.Proofs.YtbbfajbnklgncaaGreat
open Go.RowKit Go.Shelf

theorem Tryz.infoVd8 : (Tryz.prog.info? 38).map (fun i => (i.zero, i.size, i.bytes)) = some (some (.int .u8 0), 1, 1) := by kernel_rfl
theorem vdC_appV8 (xs ys : List Nat) : vdC (xs ++ ys) = vdC xs ++ vdC ys := by simp [vdC]

/-- Each list has a row of its own. -/
structure OwnAllV8 (W : World) (base : Nat) (vs : List Value) (xss : List (List Nat)) : Prop where
  len : vs.length = xss.length
  row : ∀ (i : Nat) (v : Value) (xs : List Nat), vs[i]? = some v → xss[i]? = some xs → W.ownsRow base 38 1 v xs.length (vdC xs)
  apart : ∀ (i j : Nat) (v u : Value) (g : Nat), i ≠ j → vs[i]? = some v → vs[j]? = some u → v.ownBlock = some g → u.ownBlock ≠ some g
theorem OwnAllV8.keptF {F : List Nat} {W W' : World} {base : Nat} {vs : List Value} {xss : List (List Nat)} (h : OwnAllV8 W base vs xss) (k : Kept F W W') (hF : ∀ (i : Nat) (v : Value) (g : Nat), vs[i]? = some v → v.ownBlock = some g → g ∉ F) : OwnAllV8 W' base vs xss :=
  ⟨h.len, fun i v xs h1 h2 => owns_keptF (h.row i v xs h1 h2) k (fun g hg => hF i v g h1 hg), h.apart⟩
theorem OwnAllV8.kept {W W' : World} {base : Nat} {vs : List Value} {xss : List (List Nat)} (h : OwnAllV8 W base vs xss) (k : Kept [] W W') : OwnAllV8 W' base vs xss := h.keptF k (by simp)
theorem vdC_setV8 (xs : List Nat) (k x : Nat) : vdC (xs.set k x) = (vdC xs).set k (.int .u8 (x : Nat)) := by simp [vdC, List.map_set]
/-- A letter is written over. -/
theorem owns_putV8 {W : World} {base g n c k x : Nat} {xs : List Nat} (h : W.ownsRow base 38 1 (.slice (some ⟨g, 0, none⟩) n c) n (vdC xs)) : (W.setCell ⟨g, k, none⟩ (.int .u8 (x : Nat))).ownsRow base 38 1 (.slice (some ⟨g, 0, none⟩) n c) n (vdC (xs.set k x)) := by
  rcases h.2 with ⟨e, _⟩ | ⟨g', cap, cur, e, hb, hg, hnc, hcm, hcs, ht⟩
  · cases e
  · cases e
    refine ⟨by have := h.1; simp only [vdC_len, List.length_set] at this ⊢; exact this, .inr ⟨g, c, _, rfl, hb, row_set hg _, hnc, hcm, by rw [Array.size_setIfInBounds]; exact hcs, ?_⟩⟩
    rw [Array.toList_setIfInBounds, List.take_set, ht, vdC_setV8]
/-- Another row in the place of one. -/
theorem OwnAllV8.swap {W W' : World} {base i : Nat} {vs : List Value} {xss : List (List Nat)} {v v' : Value} {ys : List Nat} (h : OwnAllV8 W base vs xss) (hi : vs[i]? = some v) (hg : ∀ (j : Nat) (u : Value) (g : Nat), j ≠ i → vs[j]? = some u → u.ownBlock = some g → W'.heap[g]? = W.heap[g]?) (hr : W'.ownsRow base 38 1 v' ys.length (vdC ys)) (hb : ∀ g, v'.ownBlock = some g → v.ownBlock = some g ∨ W.heap.size ≤ g) : OwnAllV8 W' base (vs.set i v') (xss.set i ys) := by
  have hlt : i < vs.length := by
    rcases Nat.lt_or_ge i vs.length with h | h
    · exact h
    · rw [List.getElem?_eq_none h] at hi; cases hi
  have old : ∀ (j : Nat) (u : Value), j ≠ i → vs[j]? = some u → ∀ g, u.ownBlock = some g → g < W.heap.size := fun j u hj hu g hgg => by
    have hjl : j < xss.length := by
      rw [← h.len]
      rcases Nat.lt_or_ge j vs.length with h | h
      · exact h
      · rw [List.getElem?_eq_none h] at hu; cases hu
    exact owns_lt (h.row j u _ hu (List.getElem?_eq_getElem hjl)) hgg
  refine ⟨by simp [h.len], fun j u xs h1 h2 => ?_, fun j k u t g hjk h1 h2 h3 h4 => ?_⟩
  · rw [List.getElem?_set] at h1 h2
    by_cases e : i = j
    · subst e
      rw [if_pos rfl] at h1 h2
      rw [if_pos hlt] at h1
      rw [if_pos (by rw [← h.len]; exact hlt)] at h2
      cases h1
      cases h2
      exact hr
    · rw [if_neg e] at h1 h2
      have ho := h.row j u xs h1 h2
      refine ⟨ho.1, ho.2.imp id ?_⟩
      rintro ⟨g, cap, cur, e1, q1, q2, q3⟩
      exact ⟨g, cap, cur, e1, q1, (hg j u g (fun e2 => e e2.symm) h1 (by rw [e1]; rfl)).trans q2, q3⟩
  · rw [List.getElem?_set] at h1 h2
    by_cases ej : i = j
    · subst ej
      rw [if_pos rfl, if_pos hlt] at h1
      cases h1
      rw [if_neg hjk] at h2
      rcases hb g h3 with q | q
      · exact h.apart i k v t g hjk hi h2 q h4
      · have := old k t (fun e => hjk e.symm) h2 g h4; omega
    · rw [if_neg ej] at h1
      by_cases ek : i = k
      · subst ek
        rw [if_pos rfl, if_pos hlt] at h2
        cases h2
        rcases hb g h4 with q | q
        · exact h.apart i j v u g (fun e => ej e) hi h1 q h3
        · have := old j u (fun e => ej e.symm) h1 g h3; omega
      · rw [if_neg ek] at h2
        exact h.apart j k u t g hjk h1 h2 h3 h4
/-- One letter of one row. -/
theorem OwnAllV8.write {W : World} {base i g n c k x : Nat} {vs : List Value} {xss : List (List Nat)} {xs : List Nat} (h : OwnAllV8 W base vs xss) (hi : vs[i]? = some (.slice (some ⟨g, 0, none⟩) n c)) (hx : xss[i]? = some xs) : OwnAllV8 (W.setCell ⟨g, k, none⟩ (.int .u8 (x : Nat))) base vs (xss.set i (xs.set k x)) := by
  have ho := h.row i _ xs hi hx
  have hn : n = xs.length := by
    rcases ho.2 with ⟨e, _⟩ | ⟨_, _, _, e, _⟩
    · cases e
    · cases e; rfl
  subst hn
  have hs : vs = vs.set i (.slice (some ⟨g, 0, none⟩) xs.length c) := by
    apply List.ext_getElem?
    intro j
    rw [List.getElem?_set]
    split
    · rename_i e; subst e
      rw [hi]
      split
      · rfl
      · rename_i hl; rw [List.getElem?_eq_none (by omega)] at hi; cases hi
    · rfl
  rw [hs]
  refine h.swap hi (fun j u g' hj hu hg' => ?_) (by have := owns_putV8 (k := k) (x := x) ho; rw [List.length_set]; exact this) (fun g' hg' => .inl hg')
  exact Below.heap_setCell _ _ _ _ (fun e => by
    have e' : g' = g := e
    subst e'
    exact h.apart i j _ u g' (fun e2 => hj e2.symm) hi hu rfl hg')
end Go.Proofs.YtbbfajbnklgncaaGreat
