/- Events that are lent, when their owner writes others into them. -/
import Derived.Test.YtbbfajbnklgncaaGreatRuRunU
namespace Go.Proofs.YtbbfajbnklgncaaGreat
open Go.RowKit Go.Shelf Go.Maps

def spoilB : ByteArray := ⟨#[115, 112, 111, 105, 108, 116]⟩
/-- What stands in a list of names that was spoilt. -/
def spoiltN (x : List ByteArray) : List ByteArray := List.replicate x.length spoilB
/-- The first k lists are spoilt. -/
structure SpL (W : World) (bt : List Nat) (es : List (List ByteArray)) (k : Nat) : Prop where
  done : ∀ (j b : Nat) (x : List ByteArray), j < k → bt[j]? = some b → es[j]? = some x → W.heap[b]? = some (.cells (List.replicate (x.length + 2) spoilT).toArray 9 (0, 0))
  left : ∀ (j b : Nat) (x : List ByteArray), k ≤ j → bt[j]? = some b → es[j]? = some x → LentG 9 1 W b x.length (cellsT x) marksT
theorem SpL.start {W : World} {base : Nat} {rv : Value} {bt : List Nat} {es : List (List ByteArray)} {tl : List Value} (h : EvL W base rv bt es tl) : SpL W bt es 0 := ⟨fun j _ _ q => absurd q (Nat.not_lt_zero j), fun j b x _ h1 h2 => h.each j b x h1 h2⟩
theorem SpL.step {W W' : World} {bt : List Nat} {es : List (List ByteArray)} {k bk : Nat} {y : List ByteArray} (h : SpL W bt es k) (hnd : bt.Nodup) (hb : bt[k]? = some bk) (hy : es[k]? = some y) (kk : Kept [bk] W W') (hs : W'.heap[bk]? = some (.cells (List.replicate (y.length + 2) spoilT).toArray 9 (0, 0))) : SpL W' bt es (k + 1) := by
  have hne : ∀ (j b : Nat), j ≠ k → bt[j]? = some b → b ∉ [bk] := by
    intro j b hj h1 hm
    rw [List.mem_singleton] at hm
    subst hm
    obtain ⟨l1, e1⟩ := List.getElem?_eq_some_iff.1 h1
    obtain ⟨l2, e2⟩ := List.getElem?_eq_some_iff.1 hb
    exact hj ((List.getElem_inj hnd).1 (e1.trans e2.symm))
  refine ⟨fun j b x hj h1 h2 => ?_, fun j b x hj h1 h2 => ?_⟩
  · by_cases e : j = k
    · subst e
      rw [hb] at h1
      rw [hy] at h2
      cases h1; cases h2
      exact hs
    · exact kk.at (h.done j b x (by omega) h1 h2) (hne j b e h1)
  · exact (h.left j b x (by omega) h1 h2).keptF kk (hne j b (by omega) h1)
theorem SpL.kept {W W' : World} {bt : List Nat} {es : List (List ByteArray)} {k : Nat} (h : SpL W bt es k) (kk : Kept [] W W') : SpL W' bt es k :=
  ⟨fun j b x q h1 h2 => kk.at (h.done j b x q h1 h2) (by simp), fun j b x q h1 h2 => (h.left j b x q h1 h2).kept kk⟩
theorem SpL.evs {W : World} {base g c : Nat} {bt : List Nat} {es : List (List ByteArray)} {tl : List Value} (h : SpL W bt es es.length) (hr : W.ownsRow base 22 1 (.slice (some ⟨g, 0, none⟩) (es.length + tl.length) c) (es.length + tl.length) (lentVs bt es ++ tl)) (hl : bt.length = es.length) (hf : es.length ≤ 8796093022208) (hs : ∀ x ∈ es, x.length ≤ 8796093022208) : Evs W (.slice (some ⟨g, 0, none⟩) es.length c) (es.map spoiltN) := by
  refine ⟨by rw [List.length_map]; exact hf, .inr ⟨g, 0, c, by rw [List.length_map], ?_, ?_, fun i hi => ?_⟩⟩
  · rw [List.length_map]
    rcases own_lie hr with ⟨e, _⟩ | ⟨_, _, e, e2, _⟩
    · cases e
    · cases e; omega
  · rcases own_lie hr with ⟨e, _⟩ | ⟨_, _, e, _, e3, _⟩
    · cases e
    · cases e; exact e3
  · rw [List.length_map] at hi
    rcases own_lie hr with ⟨e, _⟩ | ⟨_, _, e, _, _, e4⟩
    · cases e
    · cases e
      have hx : es[i]? = some es[i] := List.getElem?_eq_getElem hi
      have hb : bt[i]? = some (bt[i]'(by rw [hl]; exact hi)) := List.getElem?_eq_getElem _
      have hd := h.done i _ _ hi hb hx
      have hm := hs _ (List.getElem_mem hi)
      have he : (es.map spoiltN)[i]'(by rw [List.length_map]; exact hi) = spoiltN es[i] := by rw [List.getElem_map]
      rw [he]
      have hn : (spoiltN es[i]).length = es[i].length := by simp [spoiltN]
      have hall : ∀ y ∈ spoiltN es[i], y = spoilB := fun y hy => (List.mem_replicate.1 hy).2
      have hcell : ∀ k, k < es[i].length → W.cell? ⟨bt[i]'(by rw [hl]; exact hi), 0 + k, none⟩ = some (.string spoilB) := fun k hk => by
        rw [Nat.zero_add, cell_of hd, List.getElem?_toArray, List.getElem?_replicate, if_pos (by omega)]
        rfl
      refine ⟨_, e4 i _ (by rw [List.getElem?_append_left (by rw [lentVs_len hl]; exact hi)]; exact lentVs_at hb hx), ⟨by rw [hn]; exact hm, fun y hy => by rw [hall y hy]; decide, .inr ⟨_, 0, es[i].length + 2, by rw [hn]; rfl, by rw [hn]; omega, by unfold maxLen; omega, fun k hk => ?_⟩, ⟨by simp [cellsT], cellsT_one _, .inr ⟨⟨_, 0, none⟩, es[i].length + 2, by rw [hn]; rfl, by rw [hn]; omega, by unfold maxLen; omega, fun _ => rfl, fun hz => by rw [List.length_eq_zero_iff.1 hz]; rfl, fun k u hu => ?_⟩⟩⟩, fun y hy => by rw [hall y hy]; decide⟩
      · rw [hcell k (by rw [← hn]; exact hk), hall _ (List.getElem_mem hk)]
      · have hk : k < (spoiltN es[i]).length := by have := (List.getElem?_eq_some_iff.1 hu).1; simpa [cellsT] using this
        rw [cellsT_at hk] at hu
        cases hu
        rw [addr_add, hcell k (by rw [← hn]; exact hk), hall _ (List.getElem_mem hk)]
end Go.Proofs.YtbbfajbnklgncaaGreat
