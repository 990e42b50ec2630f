/- Lists that are lent, by their cells. -/
import Derived.Test.YtcojlcbljhnbgaaBuMem
import Derived.Lib.AppendZeros
import Derived.OwnWalk
import Derived.Deep.AppendLies
import Derived.Laws.MakeOwn
import Derived.Laws.OwnMore
import Derived.BigQuiet
namespace Go.Proofs.Ytcojlcbljhnbgaa
open Go.RowKit Go.Shelf

/-- A list of n elements, each of s cells, in memory: cs are its cells. -/
structure Src (s : Nat) (w : World) (v : Value) (n : Nat) (cs : List Value) : Prop where
  len : cs.length = n * s
  one : ∀ u ∈ cs, u.oneCell' = true
  lie : (v = .slice none 0 0 ∧ n = 0) ∨ ∃ a c, v = .slice (some a) n c ∧ n ≤ c ∧ c ≤ maxLen ∧ (0 < n → a.spot = none) ∧ (n = 0 → cs = []) ∧ ∀ j u, cs[j]? = some u → w.cell? (a.add j) = some u
theorem Src.kept {s : Nat} {w w' : World} {v : Value} {n : Nat} {cs : List Value} (h : Src s w v n cs) (k : Kept [] w w') : Src s w' v n cs := by
  refine ⟨h.len, h.one, ?_⟩
  rcases h.lie with h1 | ⟨a, c, h1, h2, h3, h4, h5, h6⟩
  · exact .inl h1
  · refine .inr ⟨a, c, h1, h2, h3, h4, h5, fun j u hu => ?_⟩
    have hn : 0 < n := Nat.pos_of_ne_zero fun h0 => by rw [h5 h0] at hu; cases hu
    obtain ⟨b, o, sp⟩ := a
    obtain rfl : sp = none := h4 hn
    have q := h6 j u hu
    rw [addr_add] at q ⊢
    exact cell_kept0 k q
theorem Src.cellsAt {s : Nat} {w : World} {a : Addr} {n c : Nat} {cs : List Value} (h : Src s w (.slice (some a) n c) n cs) : ∀ j u, cs[j]? = some u → w.cell? (a.add j) = some u := by
  rcases h.lie with ⟨e, _⟩ | ⟨a', c', e, _, _, _, _, h6⟩
  · cases e
  · cases e
    exact h6
/-- What is lent: a block of its own, with two elements of room behind that have marks. -/
structure LentG (e : TypeId) (s : Nat) (W : World) (b n : Nat) (cs ms : List Value) : Prop where
  row : W.heap[b]? = some (.cells (cs ++ ms).toArray e (0, 0))
  len : cs.length = n * s
  mlen : ms.length = 2 * s
  few : n ≤ 20000000000000
theorem LentG.kept {e : TypeId} {s : Nat} {W W' : World} {b n : Nat} {cs ms : List Value} (h : LentG e s W b n cs ms) (k : Kept [] W W') : LentG e s W' b n cs ms := ⟨k.at h.row (by simp), h.len, h.mlen, h.few⟩
theorem LentG.keptF {F : List Nat} {e : TypeId} {s : Nat} {W W' : World} {b n : Nat} {cs ms : List Value} (h : LentG e s W b n cs ms) (k : Kept F W W') (hb : b ∉ F) : LentG e s W' b n cs ms := ⟨k.at h.row hb, h.len, h.mlen, h.few⟩
theorem LentG.src {e : TypeId} {s : Nat} {W : World} {b n : Nat} {cs ms : List Value} (h : LentG e s W b n cs ms) (h1 : ∀ u ∈ cs, u.oneCell' = true) : Src s W (.slice (some ⟨b, 0, none⟩) n (n + 2)) n cs := by
  have hf := h.few
  refine ⟨h.len, h1, .inr ⟨⟨b, 0, none⟩, n + 2, rfl, by omega, by unfold maxLen; omega, fun _ => rfl, fun hz => List.length_eq_zero_iff.1 (by have := h.len; rw [hz] at this; omega), fun j u hu => ?_⟩⟩
  rw [addr_add, Nat.zero_add, cell_of h.row j]
  have hl : j < cs.length := by
    rcases Nat.lt_or_ge j cs.length with h | h
    · exact h
    · rw [List.getElem?_eq_none h] at hu; cases hu
  simp only [List.getElem?_toArray]
  rw [List.getElem?_append_left hl]
  exact hu
theorem LentG.mark {e : TypeId} {s : Nat} {W : World} {b n : Nat} {cs ms : List Value} (h : LentG e s W b n cs ms) {j : Nat} {u : Value} (hu : ms[j]? = some u) : W.cell? ⟨b, n * s + j, none⟩ = some u := by
  rw [cell_of h.row, ← h.len]
  simp only [List.getElem?_toArray]
  rw [List.getElem?_append_right (by omega)]
  simpa using hu
theorem lentG_of {W : World} {e : TypeId} {s b base : Nat} {cs ms : List Value} {n m : Nat} (h : W.ownsRow base e s (.slice (some ⟨b, 0, none⟩) m (n + 2)) m (cs ++ ms)) (hc : cs.length = n * s) (hm : ms.length = 2 * s) (hn : m = n + 2) (hf : n ≤ 20000000000000) : LentG e s W b n cs ms := by
  subst hn
  rcases h.2 with ⟨e, _⟩ | ⟨g, cap, cur, e, _, h2, _, _, h5, h6⟩
  · cases e
  · cases e
    refine ⟨?_, hc, hm, hf⟩
    rw [List.take_of_length_le (by rw [Array.length_toList, h5]; exact Nat.le_refl _)] at h6
    rw [h2, ← h6]
theorem own_zeroG {W : World} {g c n s : Nat} {e : TypeId} {l : List Value} (h : W.ownsRow g e s (.slice (some ⟨g, 0, none⟩) (0 + n) c) (0 + n) ([] ++ l)) : W.ownsRow g e s (.slice (some ⟨g, 0, none⟩) n c) n l := by
  rw [Nat.zero_add, List.nil_append] at h
  exact h
theorem bx_keptL {F : List Nat} {W W' : World} {base : Nat} {e : TypeId} {size : Nat} {v : Value} {n : Nat} {xs : List Value} (h : W.ownsRow base e size v n xs) (k : Kept F W W') (hF : ∀ g, v.ownBlock = some g → g ∉ F) : W'.ownsRow base e size v n xs := by
  refine ⟨h.1, ?_⟩
  rcases h.2 with h2 | ⟨g, cap, cur, rfl, hb, hw, h3⟩
  · exact .inl h2
  · exact .inr ⟨g, cap, cur, rfl, hb, k.at hw (hF g rfl), h3⟩
/-- How far it is written over. -/
def spoiltG (x : Value) (l : List Value) (i : Nat) : List Value := List.replicate i x ++ l.drop i
theorem spoiltG_step (x : Value) (l : List Value) (i : Nat) (h : i < l.length) : (spoiltG x l i).toArray.setIfInBounds i x = (spoiltG x l (i + 1)).toArray := by
  apply Array.toList_inj.1
  simp only [Array.toList_setIfInBounds]
  apply List.ext_getElem?
  intro j
  simp only [spoiltG, List.getElem?_set]
  by_cases e : i = j
  · subst e
    have e1 : (List.replicate i x ++ List.drop i l).length = l.length := by simp; omega
    have e2 : (List.replicate (i + 1) x ++ List.drop (i + 1) l)[i]? = some x := by rw [List.getElem?_append_left (by simp)]; simp
    rw [if_pos rfl, e2, if_pos (by rw [e1]; exact h)]
  · rw [if_neg e]
    rcases Nat.lt_or_ge j i with hj | hj
    · rw [List.getElem?_append_left (by simp; omega), List.getElem?_append_left (by simp; omega)]
      simp [hj, show j < i + 1 by omega]
    · rw [List.getElem?_append_right (by simp; omega), List.getElem?_append_right (by simp; omega)]
      simp only [List.length_replicate, List.getElem?_drop]
      congr 1
      omega
theorem spoiltG_end (x : Value) (l : List Value) : spoiltG x l l.length = List.replicate l.length x := by unfold spoiltG; rw [List.drop_length, List.append_nil]
theorem Src.form {s : Nat} {w : World} {v : Value} {n : Nat} {cs : List Value} (h : Src s w v n cs) : ∃ ad c, v = .slice ad n c := by
  rcases h.lie with ⟨rfl, rfl⟩ | ⟨a, c, rfl, _⟩
  · exact ⟨_, _, rfl⟩
  · exact ⟨_, _, rfl⟩
theorem Src.there {s : Nat} {w : World} {v : Value} {n : Nat} {cs : List Value} (h : Src s w v n cs) (h0 : 0 < n) : ∃ b o c, v = .slice (some ⟨b, o, none⟩) n c ∧ ∀ j u, cs[j]? = some u → w.cell? ⟨b, o + j, none⟩ = some u := by
  rcases h.lie with ⟨_, rfl⟩ | ⟨⟨b, o, sp⟩, c, h1, _, _, h4, _, h6⟩
  · omega
  · obtain rfl : sp = none := h4 h0
    exact ⟨b, o, c, h1, fun j u hu => by have := h6 j u hu; rwa [addr_add] at this⟩
end Go.Proofs.Ytcojlcbljhnbgaa
