/- Own's second loop: each list grows by sixteen. -/
import Derived.Test.YtbbfajbnklgncaaGreatOwn2
namespace Go.Proofs.YtbbfajbnklgncaaGreat
open Go.RowKit Go.Shelf

/-- How far the lists have grown: i of them whole, the next one by k. -/
structure Ph2 (W : World) (base H : Nat) (vs : List Value) (xss : List (List Nat)) (i k : Nat) (us : List Value) : Prop where
  own : ∃ cs, OwnAll W base us cs ∧ ∀ (j : Nat) (xs : List Nat), xss[j]? = some xs → cs[j]? = some (if j < i then m1 j xs.length ++ m2 j 16 else if j = i then m1 i xs.length ++ m2 i k else m1 j xs.length)
  rest : ∀ j, (i < j ∨ (i = j ∧ k = 0)) → us[j]? = vs[j]?
  from_ : ∀ (j : Nat) (u v : Value) (g : Nat), us[j]? = some u → vs[j]? = some v → u.ownBlock = some g → v.ownBlock = some g ∨ H ≤ g
  old : ∀ (j : Nat) (v : Value) (g : Nat), vs[j]? = some v → v.ownBlock = some g → g < H
  apart : ∀ (j l : Nat) (v u : Value) (g : Nat), j ≠ l → vs[j]? = some v → vs[l]? = some u → v.ownBlock = some g → u.ownBlock ≠ some g
  first : ∀ (j : Nat) (xs : List Nat) (v : Value) (g : Nat), xss[j]? = some xs → vs[j]? = some v → v.ownBlock = some g → ∀ l, l < xs.length → W.cell? ⟨g, l, none⟩ = some (.int .u16 (mark1 j l : Nat))
  len : us.length = vs.length
  lens : vs.length = xss.length
theorem getElem?_lt {α : Type} {l : List α} {i : Nat} {a : α} (h : l[i]? = some a) : i < l.length := by
  rcases Nat.lt_or_ge i l.length with h2 | h2
  · exact h2
  · rw [List.getElem?_eq_none h2] at h; cases h
theorem owns_at {W : World} {base g n c l x : Nat} {xs : List Nat} (h : W.ownsRow base 73 1 (.slice (some ⟨g, 0, none⟩) n c) n (u16s xs)) (hx : xs[l]? = some x) : W.cell? ⟨g, l, none⟩ = some (.int .u16 (x : Nat)) := by
  have hl := getElem?_lt hx
  have h1 : xs.length = n := by have := h.1; rw [u16s_len] at this; omega
  rw [h.cellAt l (by omega)]
  simp [u16s, hx]
theorem block_form {v : Value} {g : Nat} {W : World} {base n : Nat} {xs : List Value} (h : W.ownsRow base 73 1 v n xs) (hg : v.ownBlock = some g) : ∃ c, v = .slice (some ⟨g, 0, none⟩) n c := by
  rcases h.2 with ⟨rfl, _⟩ | ⟨g', cap, cur, rfl, _⟩
  · cases hg
  · cases hg; exact ⟨cap, rfl⟩
theorem Ph2.start {W : World} {base : Nat} {vs : List Value} {xss : List (List Nat)} (h : Ph1 W base vs xss xss.length 0) (hl : vs.length = xss.length) : Ph2 W base W.heap.size vs xss 0 0 vs := by
  obtain ⟨cs, h1, h2⟩ := h
  have hc : ∀ (j : Nat) (xs : List Nat), xss[j]? = some xs → cs[j]? = some (m1 j xs.length) := fun j xs hx => by rw [h2 j xs hx, if_pos (getElem?_lt hx)]
  have old : ∀ (j : Nat) (v : Value) (g : Nat), vs[j]? = some v → v.ownBlock = some g → g < W.heap.size := fun j v g hv hg => by
    have hj : j < cs.length := by rw [← h1.len]; exact getElem?_lt hv
    exact owns_lt (h1.row j v _ hv (List.getElem?_eq_getElem hj)) hg
  refine ⟨⟨cs, h1, fun j xs hx => ?_⟩, fun j _ => rfl, fun j u v g hu hv hg => ?_, old, h1.apart, fun j xs v g hx hv hg l hl2 => ?_, rfl, hl⟩
  · rw [hc j xs hx, if_neg (Nat.not_lt_zero j)]
    split
    · rename_i e; subst e; simp [m2]
    · rfl
  · rw [hu] at hv; cases hv; exact .inl hg
  · have ho := h1.row j v _ hv (hc j xs hx)
    obtain ⟨c, rfl⟩ := block_form ho hg
    exact owns_at ho (m1_at hl2)
theorem Ph2.next {W : World} {base H i : Nat} {vs us : List Value} {xss : List (List Nat)} (h : Ph2 W base H vs xss i 16 us) : Ph2 W base H vs xss (i + 1) 0 us := by
  obtain ⟨⟨cs, h1, h2⟩, h3, h4, h5, h6, h7, h8, h9⟩ := h
  refine ⟨⟨cs, h1, fun j xs hx => ?_⟩, fun j hj => h3 j (by omega), h4, h5, h6, h7, h8, h9⟩
  rw [h2 j xs hx]
  by_cases e1 : j < i
  · rw [if_pos e1, if_pos (by omega)]
  · rw [if_neg e1]
    by_cases e2 : j = i
    · subst e2
      rw [if_pos rfl, if_pos (by omega)]
    · rw [if_neg e2, if_neg (by omega)]
      split
      · rename_i e3; subst e3; simp [m2]
      · rfl
/-- One letter more behind the list. -/
theorem Ph2.grow {W W1 w' : World} {base H i k n g cap : Nat} {vs us : List Value} {xss : List (List Nat)} {xs : List Nat} {xv : Value} (h : Ph2 W base H vs xss i k us) (hx : xss[i]? = some xs) (hu : us[i]? = some xv) (k1 : Kept [] W W1) (hH : H ≤ W.heap.size)
    (hn : n = xs.length + k + 1) (hr : w'.ownsRow base 73 1 (.slice (some ⟨g, 0, none⟩) n cap) n (u16s (m1 i xs.length ++ m2 i k ++ [mark2 i k]))) (hg : W1.grownBy w' xv.ownBlock) (hw : xv.ownBlock = some g ∨ (g = W1.heap.size ∧ Kept [] W1 w')) :
    Ph2 w' base H vs xss i (k + 1) (us.set i (.slice (some ⟨g, 0, none⟩) n cap)) := by
  obtain ⟨⟨cs, h1, h2⟩, h3, h4, h5, h6, h7, h8, h9⟩ := h
  have hil := getElem?_lt hu
  have hiv : i < vs.length := by rw [← h8]; exact hil
  obtain ⟨v, hv⟩ : ∃ v, vs[i]? = some v := ⟨_, List.getElem?_eq_getElem hiv⟩
  have hs1 := k1.size
  have hys : m1 i xs.length ++ m2 i k ++ [mark2 i k] = m1 i xs.length ++ m2 i (k + 1) := by rw [m2_succ, List.append_assoc]
  have hyl : (m1 i xs.length ++ m2 i (k + 1)).length = n := by rw [List.length_append, m1_len, m2_len]; omega
  have same : ∀ (b : Nat), b < W.heap.size → xv.ownBlock ≠ some b → w'.heap[b]? = W.heap[b]? := fun b hb hne => (hg.block b (by omega) (fun e => hne e.symm)).trans (k1.block b hb (by simp))
  have low : ∀ (j : Nat) (u : Value) (b : Nat), us[j]? = some u → u.ownBlock = some b → b < W.heap.size := fun j u b hj hb => by
    have hjc : j < cs.length := by rw [← h1.len]; exact getElem?_lt hj
    exact owns_lt (h1.row j u _ hj (List.getElem?_eq_getElem hjc)) hb
  have hO1 : OwnAll w' base (us.set i (.slice (some ⟨g, 0, none⟩) n cap)) (cs.set i (m1 i xs.length ++ m2 i (k + 1))) := by
    refine h1.swap hu (fun j u b hj hju hb => same b (low j u b hju hb) (fun e => h1.apart i j xv u b (fun e2 => hj e2.symm) hu hju e hb)) (by rw [hyl, ← hys]; exact hr) (fun b hb => ?_)
    obtain rfl : g = b := by simpa [Value.ownBlock] using hb
    rcases hw with hw | hw
    · exact .inl hw
    · exact .inr (by omega)
  refine ⟨⟨_, hO1, fun j ys hy => ?_⟩, fun j hj => ?_, fun j u v' b hju hjv hb => ?_, h5, h6, fun j ys v' b hy hjv hb l hl => ?_, by rw [List.length_set]; exact h8, h9⟩
  · have hic : i < cs.length := by rw [← h1.len]; exact hil
    rw [List.getElem?_set]
    by_cases e : i = j
    · subst e
      rw [if_pos rfl, if_pos hic, if_neg (Nat.lt_irrefl i), if_pos rfl]
      rw [hx] at hy; cases hy; rfl
    · have e' : ¬ j = i := fun e2 => e e2.symm
      rw [if_neg e, h2 j ys hy]
      simp only [e', if_false]
  · rw [List.getElem?_set, if_neg (by omega)]; exact h3 j (by omega)
  · rw [List.getElem?_set] at hju
    by_cases e : i = j
    · subst e
      rw [if_pos rfl, if_pos hil] at hju
      cases hju
      obtain rfl : g = b := by simpa [Value.ownBlock] using hb
      rcases hw with hw | hw
      · exact h4 i xv v' g hu hjv hw
      · exact .inr (by omega)
    · rw [if_neg e] at hju
      exact h4 j u v' b hju hjv hb
  · have hbH := h5 j v' b hjv hb
    have old := h7 j ys v' b hy hjv hb l hl
    by_cases e : xv.ownBlock = some b
    · -- the row that grows lies where the list itself lies: it is that list
      have hji : j = i := by
        rcases Nat.decEq j i with e2 | e2
        · exfalso
          rcases h4 i xv v b hu hv e with q | q
          · exact h6 j i v' v b e2 hjv hv hb q
          · omega
        · exact e2
      subst hji
      rw [hx] at hy; cases hy
      rcases hw with hw | hw
      · rw [e] at hw; cases hw
        refine owns_at (x := mark1 j l) hr ?_
        rw [List.append_assoc, List.getElem?_append_left (by rw [m1_len]; exact hl)]
        exact m1_at hl
      · exact cell_kept0 hw.2 (cell_kept0 k1 old)
    · rw [World.cell?_of_block (w := W) (a := ⟨b, l, none⟩) (same b (by omega) e)]
      exact old
theorem Ph2.keptF {F : List Nat} {W W' : World} {base H i k : Nat} {vs us : List Value} {xss : List (List Nat)} (h : Ph2 W base H vs xss i k us) (kk : Kept F W W') (h1 : ∀ (j : Nat) (u : Value) (g : Nat), us[j]? = some u → u.ownBlock = some g → g ∉ F) (h2 : ∀ g ∈ F, H ≤ g) (hH : H ≤ W.heap.size) : Ph2 W' base H vs xss i k us := by
  obtain ⟨⟨cs, q1, q2⟩, q3, q4, q5, q6, q7, q8, q9⟩ := h
  refine ⟨⟨cs, q1.keptF kk h1, q2⟩, q3, q4, q5, q6, fun j xs v g hx hv hg l hl => ?_, q8, q9⟩
  have hb := q5 j v g hv hg
  rw [World.cell?_of_block (w := W) (a := ⟨g, l, none⟩) (kk.block g (by show g < _; omega) (fun hm => by have := h2 g hm; omega))]
  exact q7 j xs v g hx hv hg l hl
theorem Ph2.rowAt {W : World} {base H i k : Nat} {vs us : List Value} {xss : List (List Nat)} {u : Value} {xs : List Nat} (h : Ph2 W base H vs xss i k us) (hu : us[i]? = some u) (hx : xss[i]? = some xs) : W.ownsRow base 73 1 u (xs.length + k) (u16s (m1 i xs.length ++ m2 i k)) := by
  obtain ⟨cs, q1, q2⟩ := h.own
  have hc := q2 i xs hx
  rw [if_neg (Nat.lt_irrefl i), if_pos rfl] at hc
  have := q1.row i u _ hu hc
  rw [List.length_append, m1_len, m2_len] at this
  exact this
theorem Ph2.whole {W : World} {base H i k j : Nat} {vs us : List Value} {xss : List (List Nat)} {u : Value} {xs : List Nat} (h : Ph2 W base H vs xss i k us) (hj : j < i) (hu : us[j]? = some u) (hx : xss[j]? = some xs) : W.ownsRow base 73 1 u (xs.length + 16) (u16s (m1 j xs.length ++ m2 j 16)) := by
  obtain ⟨cs, q1, q2⟩ := h.own
  have hc := q2 j xs hx
  rw [if_pos hj] at hc
  have := q1.row j u _ hu hc
  rw [List.length_append, m1_len, m2_len] at this
  exact this
end Go.Proofs.YtbbfajbnklgncaaGreat
