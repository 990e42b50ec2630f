/- tree.Size, tree.Depth. -/
import Derived.Test.YtondmjnagkldpaaDoorTrParts
namespace Go.Proofs.YtondmjnagkldpaaDoor
open Go.RowKit Go.Shelf
attribute [local go_sem] Oper.semAt_some

/-- A formula that lies in memory. -/
def IsF (w : World) (t : Tr) (kv : Value) : Prop := IsT (fun k => k < w.heap.size) w t kv
theorem IsT.isF {X : Nat → Prop} {w : World} {t : Tr} {kv : Value} (h : IsT X w t kv) : IsF w t kv := by
  unfold IsF
  induction t using Tr.ind generalizing kv with
  | h t ih =>
    obtain ⟨ad, cap, e, h⟩ := (isT_eq t kv).1 h
    refine (isT_eq t kv).2 ⟨ad, cap, e, ?_⟩
    rcases Nat.eq_zero_or_pos t.kids.length with h0 | h0
    · exact .inl h0
    · obtain ⟨b, off, e1, hb, hk⟩ := h.resolve_left (by omega)
      obtain ⟨kv0, c0, _⟩ := hk 0 h0
      refine .inr ⟨b, off, e1, World.block_lt_of_cell? w _ c0, fun i hi => ?_⟩
      obtain ⟨kv', c0, c1, c2, hr⟩ := hk i hi
      exact ⟨kv', c0, c1, c2, ih _ (List.getElem_mem _) hr⟩
theorem IsF.kept {w w' : World} {t : Tr} {kv : Value} (h : IsF w t kv) (k : Kept [] w w') : IsF w' t kv :=
  IsT.cells (fun _ h => Nat.lt_of_lt_of_le h k.size) (fun _ _ _ _ c => cell_kept0 k c) h
theorem IsF.slice {w : World} {t : Tr} {kv : Value} (h : IsF w t kv) : ∃ ad cap, kv = .slice ad t.kids.length cap := IsT.slice h
theorem kept_of_below {w w' : World} (h : Below w.heap.size w w') : Kept [] w w' := ⟨h.os, h.tape, h.output, h.size, fun k hk _ => h.block k hk⟩
theorem nil_or_eq {W : World} {D : Nat} (hK : W.heap[D]? = some (.deferred (some []))) {w : World} (h : Below w.heap.size w W) (hD : w.heap.size ≤ D) : Kept [] w (W.putObj D (.deferred none)) :=
  kept_of_below (h.trans (belowK_b (w := w) (Nat.le_refl _) _ D _ _ hD hK rfl rfl))

/-- How deep the places are. -/
def dmax (d : Nat) (l : List (List Nat × Tr)) : Nat := l.foldl (fun d x => max d (x.1.length + 1)) d
theorem dmax_append (d : Nat) (l m : List (List Nat × Tr)) : dmax d (l ++ m) = dmax (dmax d l) m := by simp [dmax]
theorem dmax_le (d : Nat) (l : List (List Nat × Tr)) : d ≤ dmax d l := by
  induction l generalizing d with
  | nil => exact Nat.le_refl _
  | cons x r ih => exact Nat.le_trans (Nat.le_max_left _ _) (ih (max d (x.1.length + 1)))
theorem dmax_mem {l : List (List Nat × Tr)} {x : List Nat × Tr} (h : x ∈ l) (d : Nat) : x.1.length + 1 ≤ dmax d l := by
  induction l generalizing d with
  | nil => cases h
  | cons y r ih =>
    rcases List.mem_cons.1 h with rfl | h
    · exact Nat.le_trans (Nat.le_max_right _ _) (dmax_le (max d (x.1.length + 1)) r)
    · exact ih h _
theorem fold_max (c : Nat) (l : List Nat) : ∀ d e, l.foldl (fun a x => max a (c + x)) (max d (c + e)) = max d (c + l.foldl max e) := by
  induction l with
  | nil => intro d e; rfl
  | cons x r ih => intro d e; rw [List.foldl_cons, List.foldl_cons, ← ih d (max e x)]; congr 1; omega
theorem rows_depth (p : List Nat) (ks : List Tr) (hk : ∀ k ∈ ks, ∀ p d, dmax d (k.parts p) = max d (p.length + k.depth)) : ∀ i d, dmax d (rowsFrom p i (ks.map Tr.parts)) = (ks.map Tr.depth).foldl (fun a x => max a (p.length + 1 + x)) d := by
  induction ks with
  | nil => intro i d; rfl
  | cons k r ih =>
    intro i d
    rw [List.map_cons, rowsFrom, dmax_append, ih (fun k h => hk k (by simp [h])), hk k (by simp), List.map_cons, List.foldl_cons, List.length_append, List.length_singleton]
theorem Tr.parts_depth' (t : Tr) : ∀ p d, dmax d (t.parts p) = max d (p.length + t.depth) := by
  induction t using Tr.ind with
  | h t ih =>
    intro p d
    rw [Tr.parts_eq]
    show dmax (max d (p.length + 1)) (kidsParts p t.kids) = _
    unfold kidsParts
    rw [rows_depth p t.kids (fun k hk p d => ih k hk p d) 0, show max d (p.length + 1) = max d (p.length + 1 + 0) from rfl, fold_max, Tr.depth_eq]
    omega
theorem Tr.parts_depth (t : Tr) (p : List Nat) : dmax 0 (t.parts p) = p.length + t.depth := by rw [Tr.parts_depth']; omega

end Go.Proofs.YtondmjnagkldpaaDoor
