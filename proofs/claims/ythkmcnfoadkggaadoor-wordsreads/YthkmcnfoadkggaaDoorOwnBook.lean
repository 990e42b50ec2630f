/- The book: Letters, Word, Own. -/
import Derived.Test.YthkmcnfoadkggaaDoorOwnNil
namespace Go.Proofs.YthkmcnfoadkggaaDoor
open Go.RowKit Go.Shelf
attribute [local go_sem ↓] Go.wp_at_zero Go.wp_at_succ

theorem getElem?_snoc {α : Type} {l : List α} {a b : α} {i : Nat} (h : (l ++ [a])[i]? = some b) : l[i]? = some b ∨ (i = l.length ∧ b = a) := by
  rcases Nat.lt_trichotomy i l.length with q | q | q
  · rw [List.getElem?_append_left q] at h; exact .inl h
  · subst q; rw [List.getElem?_concat_length] at h; exact .inr ⟨rfl, (Option.some.inj h).symm⟩
  · rw [List.getElem?_eq_none (by simp; omega)] at h; cases h
theorem OwnAll.snoc {W : World} {base : Nat} {vs : List Value} {xss : List (List Nat)} {x : Value} {xs : List Nat} (h : OwnAll W base vs xss) (hx : W.ownsRow base 54 1 x xs.length (u16s xs)) (ha : ∀ v ∈ vs, ∀ g, v.ownBlock = some g → x.ownBlock ≠ some g) : OwnAll W base (vs ++ [x]) (xss ++ [xs]) := by
  refine ⟨by simp [h.len], fun i v ys h1 h2 => ?_, fun i j v u g hij h1 h2 h3 h4 => ?_⟩
  · rcases getElem?_snoc h1 with q | ⟨q, rfl⟩
    · rcases getElem?_snoc h2 with q2 | ⟨q2, rfl⟩
      · exact h.row i v ys q q2
      · exact absurd (getElem?_lt q) (by rw [h.len]; omega)
    · rcases getElem?_snoc h2 with q2 | ⟨q2, rfl⟩
      · exact absurd (getElem?_lt q2) (by rw [← h.len]; omega)
      · exact hx
  · rcases getElem?_snoc h1 with q | ⟨q, rfl⟩
    · rcases getElem?_snoc h2 with q2 | ⟨q2, rfl⟩
      · exact h.apart i j v u g hij q q2 h3 h4
      · exact ha v (List.mem_of_getElem? q) g h3 h4
    · rcases getElem?_snoc h2 with q2 | ⟨q2, rfl⟩
      · exact ha u (List.mem_of_getElem? q2) g h4 h3
      · exact hij (q.trans q2.symm)
/-- A book that holds lists of letters only. -/
structure BookL (W : World) (base base' B : Nat) (lv : Value) (vs : List Value) (xss : List (List Nat)) : Prop where
  head : W.heap[B]? = some (.cells #[.slice none 0 0, .slice none 0 0, .slice none 0 0, .slice none 0 0, lv, .slice none 0 0, .slice none 0 0, .slice none 0 0, .slice none 0 0, .slice none 0 0, .slice none 0 0, .slice none 0 0, .slice none 0 0] 44 (0, 0))
  inn : OwnIn W base base' lv vs xss
  low' : base' ≤ W.heap.size
theorem BookL.start {W : World} {base base' B : Nat} (h : W.heap[B]? = some (.cells #[.slice none 0 0, .slice none 0 0, .slice none 0 0, .slice none 0 0, .slice none 0 0, .slice none 0 0, .slice none 0 0, .slice none 0 0, .slice none 0 0, .slice none 0 0, .slice none 0 0, .slice none 0 0, .slice none 0 0] 44 (0, 0))) (hb : base ≤ W.heap.size) (hb' : base' ≤ W.heap.size) : BookL W base base' B (.slice none 0 0) [] [] :=
  ⟨h, ⟨⟨rfl, fun i v xs h => by simp at h, fun i j v u g _ h => by simp at h⟩, World.ownsRow_nil _ _ _ _, by simp, by simp, hb⟩, hb'⟩
theorem BookL.apartR {W : World} {base base' B : Nat} {lv : Value} {vs : List Value} {xss : List (List Nat)} (h : BookL W base base' B lv vs xss) {b n g : Nat} {x : Value} {ys : List Value} (hx : W.ownsRow b 54 1 x n ys) (hg : x.ownBlock = some g) : g ≠ B := by
  rintro rfl
  obtain ⟨c, e⟩ := row_type hx hg
  rw [h.head] at e
  cases e
theorem BookL.apartL {W : World} {base base' B : Nat} {lv : Value} {vs : List Value} {xss : List (List Nat)} (h : BookL W base base' B lv vs xss) {b n g : Nat} {x : Value} {ys : List Value} (hx : W.ownsRow b 22 1 x n ys) (hg : x.ownBlock = some g) : g ≠ B := by
  rintro rfl
  obtain ⟨c, e⟩ := row_type hx hg
  rw [h.head] at e
  cases e
/-- What a book may write: itself and its list. -/
def bookF (B : Nat) (lv : Value) : List Nat := B :: lv.ownBlock.toList
theorem BookL.free {W : World} {base base' B : Nat} {lv : Value} {vs : List Value} {xss : List (List Nat)} (h : BookL W base base' B lv vs xss) {b n g : Nat} {x : Value} {ys : List Value} (hx : W.ownsRow b 54 1 x n ys) (hg : x.ownBlock = some g) : g ∉ bookF B lv := by
  intro hm
  rcases List.mem_cons.1 hm with q | q
  · exact h.apartR hx hg q
  · exact types_apart hx h.inn.list hg (by simpa using q)
theorem BookL.noBlock {W : World} {base base' B : Nat} {lv : Value} {vs : List Value} {xss : List (List Nat)} (h : BookL W base base' B lv vs xss) : B ∉ blocksOf vs := by
  intro hm
  obtain ⟨v, hv, hvg⟩ := List.mem_filterMap.1 hm
  obtain ⟨i, hi, rfl⟩ := List.getElem_of_mem hv
  have hix : i < xss.length := by rw [← h.inn.rows.len]; exact hi
  exact h.apartR (h.inn.rows.row i _ _ (List.getElem?_eq_getElem hi) (List.getElem?_eq_getElem hix)) hvg rfl
theorem BookL.kept {F : List Nat} {W W' : World} {base base' B : Nat} {lv : Value} {vs : List Value} {xss : List (List Nat)} (h : BookL W base base' B lv vs xss) (k : Kept F W W') (hF : ∀ g ∈ bookF B lv ++ blocksOf vs, g ∉ F) : BookL W' base base' B lv vs xss := by
  refine ⟨k.at h.head (hF B (by simp [bookF])), ⟨h.inn.rows.keptF k (fun i v g hv hg => hF g (List.mem_append_right _ (mem_blocks hv hg))), owns_keptF h.inn.list k (fun g hg => hF g (by simp [bookF, hg])), h.inn.few, h.inn.short, Nat.le_trans h.inn.low k.size⟩, Nat.le_trans h.low' k.size⟩
theorem BookL.quiet {W W' : World} {base base' B : Nat} {lv : Value} {vs : List Value} {xss : List (List Nat)} (h : BookL W base base' B lv vs xss) (k : Kept [] W W') : BookL W' base base' B lv vs xss := h.kept k (by simp)
/-- One list more. -/
theorem BookL.put {w : World} {base base' B : Nat} {lv : Value} {vs : List Value} {xss : List (List Nat)} {xad : Option Addr} {c : Nat} {xs : List Nat} (h : BookL w base base' B lv vs xss) (hx : w.ownsRow base 54 1 (.slice xad xs.length c) xs.length (u16s xs)) (ha : ∀ v ∈ vs, ∀ g, v.ownBlock = some g → (Value.slice xad xs.length c).ownBlock ≠ some g) (hf : vs.length < 100000) (hs : xs.length ≤ 1000000000) :
    ∃ g cap w', (∀ ty, (Builtin.append_ #[34, 34] ty #[lv, .slice (some ⟨w.heap.size, 0, none⟩) 1 1]).run Tryd.prog (w.alloc (.cells #[.slice xad xs.length c] 22)) = .ok (.slice (some ⟨g, 0, none⟩) (vs.length + 1) cap) w') ∧ w'.frozen? ⟨B, 4, none⟩ = false ∧ BookL (w'.setCell ⟨B, 4, none⟩ (.slice (some ⟨g, 0, none⟩) (vs.length + 1) cap)) base base' B (.slice (some ⟨g, 0, none⟩) (vs.length + 1) cap) (vs ++ [.slice xad xs.length c]) (xss ++ [xs]) ∧ Kept (bookF B lv) w (w'.setCell ⟨B, 4, none⟩ (.slice (some ⟨g, 0, none⟩) (vs.length + 1) cap)) ∧ (lv.ownBlock = some g ∨ w.heap.size ≤ g) ∧ w'.cell? ⟨B, 4, none⟩ = some lv := by
  obtain ⟨inf, hi, hz0, hz1, hz2⟩ := info_parts Tryd.infoSl
  have k1 : Kept [] w (w.alloc (.cells #[.slice xad xs.length c] 22)) := (Kept.refl [] w).alloc _
  have hl := owns_keptF h.inn.list k1 (by simp)
  have hs1 := k1.size
  have hlow := h.low'
  obtain ⟨g, cap, w', hr, h2, h3, h4, h5⟩ := run_append_keep (P := Tryd.prog) (w.alloc (.cells #[.slice xad xs.length c] 22)) 34 34 base' 22 inf _ 1 24 Tryd.underlying34 hi hz0 hz1 hz2 rfl (by decide) lv vs.length _ hl ⟨w.heap.size, 0, none⟩ 1 1 [.slice xad xs.length c] rfl (World.news_of_block (cs := #[.slice xad xs.length c]) (t := 22) (fr := (0, 0)) (heap_alloc_new w _)) (by simp [Value.oneCell']) (by decide) (by unfold maxLen; omega) (by omega) (by omega)
  have kG : Kept lv.ownBlock.toList w w' := (k1.trans (G := []) (H := lv.ownBlock.toList) (Kept.refl [] _) (by simp) (by simp)).grown h3 (fun b hb => .inl (by rw [hb]; simp))
  have hBl : B ∉ lv.ownBlock.toList := fun hm => h.apartL h.inn.list (show lv.ownBlock = some B by simpa using hm) rfl
  have hh := kG.at h.head hBl
  have kF : Kept (bookF B lv) w (w'.setCell ⟨B, 4, none⟩ (.slice (some ⟨g, 0, none⟩) (vs.length + 1) cap)) := (kG.trans (G := []) (H := bookF B lv) (Kept.refl [] _) (fun _ h => List.mem_cons_of_mem _ h) (by simp)).setCell (p := ⟨B, 4, none⟩) (.inl (by simp [bookF])) _
  have hgB : g ≠ B := by
    rintro rfl
    obtain ⟨c1, e1⟩ := row_type h2 rfl
    rw [hh] at e1
    cases e1
  have h2' : (w'.setCell ⟨B, 4, none⟩ (.slice (some ⟨g, 0, none⟩) (vs.length + 1) cap)).ownsRow base' 22 1 (.slice (some ⟨g, 0, none⟩) (vs.length + 1) cap) (vs.length + 1) (vs ++ [.slice xad xs.length c]) := owns_keptF h2 ((Kept.refl [B] w').setCell (p := ⟨B, 4, none⟩) (.inl (by simp)) _) (fun b hb => by
    have e : g = b := by simpa [Value.ownBlock] using hb
    subst e
    simpa using hgB)
  have hrows := (h.inn.rows.snoc hx ha).keptF kF (fun i v b hv hb => by
    rcases getElem?_snoc hv with q | ⟨_, rfl⟩
    · have hix : i < xss.length := by rw [← h.inn.rows.len]; exact getElem?_lt q
      exact h.free (h.inn.rows.row i _ _ q (List.getElem?_eq_getElem hix)) hb
    · exact h.free hx hb)
  have hlw := h.inn.low
  have hks := kF.size
  refine ⟨g, cap, w', fun ty => hr, free_of hh 4, ⟨?_, ⟨hrows, by rw [List.length_append]; exact h2', by simp; omega, fun ys hy => ?_, by omega⟩, by omega⟩, kF, ?_, by rw [cell_of hh]; rfl⟩
  · have := row_set (i := 4) hh (.slice (some ⟨g, 0, none⟩) (vs.length + 1) cap)
    simpa using this
  · rcases List.mem_append.1 hy with q | q
    · exact h.inn.short ys q
    · rw [List.mem_singleton.1 q]; exact hs
  · rcases h4 with q | ⟨q, _⟩
    · exact .inl q
    · right; omega
end Go.Proofs.YthkmcnfoadkggaaDoor
