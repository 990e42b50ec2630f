/- What holds of a text's tokens and places, plainly. -/
import Derived.Test.YtilgfnafkcjdgaaDoorLxPure
import Derived.Test.YtilgfnafkcjdgaaDoorLxToks
namespace Go.Proofs.YtilgfnafkcjdgaaDoor

/-- How a token stands in a text that was cut. -/
def writtenL (l : List UInt8) (x : Item) : List UInt8 := if x.kind = 2 ∧ l[x.pos]? = some 34 then [34] ++ x.text ++ [34] else x.text

theorem take_of_prefix {sign l : List UInt8} (h : sign.isPrefixOf l = true) : l.take sign.length = sign := by
  obtain ⟨t, rfl⟩ := List.isPrefixOf_iff_prefix.1 h
  simp
theorem upto34_take (r : List UInt8) (h : (upto34 r).length < r.length) : r.take ((upto34 r).length + 1) = upto34 r ++ [34] := by
  unfold upto34 at h ⊢
  induction r with
  | nil => simp at h
  | cons b r ih =>
    rw [List.takeWhile_cons] at h ⊢
    by_cases hb : b = 34
    · subst hb; simp
    · have hb' : (b != 34) = true := by simpa using hb
      rw [hb', if_pos rfl] at h ⊢
      simp only [List.length_cons] at h ⊢
      rw [List.take_succ_cons, ih (by omega), List.cons_append]
theorem exactly_text (l sign : List UInt8) (h : (exactlyP l sign).err = 0) : (exactlyP l sign).kind = 4 ∧ (exactlyP l sign).text = l.take (exactlyP l sign).width := by
  unfold exactlyP at h ⊢
  split at h
  · rename_i hp
    rw [if_pos hp]
    exact ⟨rfl, (take_of_prefix hp).symm⟩
  · simp [noneP] at h
theorem named_text (t : List UInt8) (n : Nat) (h : (namedP t n).err = 0) : namedP t n = ⟨2, t, n, 0⟩ := by
  unfold namedP at h ⊢
  split at h
  · rename_i hp; rw [if_pos hp]
  · simp at h
/-- The bytes that a token takes are how it is written. -/
theorem piece_text (b : UInt8) (r : List UInt8) (h : (pieceOf (b :: r)).err = 0) :
    (pieceOf (b :: r)).kind ≠ 1 ∧ (if (pieceOf (b :: r)).kind = 2 ∧ b = 34 then [34] ++ (pieceOf (b :: r)).text ++ [34] else (pieceOf (b :: r)).text) = (b :: r).take (pieceOf (b :: r)).width := by
  rw [pieceOf_cons] at h ⊢
  by_cases hl : isLetterB b = true
  · rw [if_pos hl] at h ⊢
    have hb : ¬ b = 34 := fun e => by subst e; exact absurd hl (by decide)
    unfold bareP at h ⊢
    split at h
    · rename_i hw; rw [if_pos hw]; exact ⟨show (3 : Fin 5) ≠ 1 by decide, by rw [if_neg (fun q => hb q.2)]⟩
    · rename_i hw; rw [if_neg hw, named_text _ _ h]; exact ⟨show (2 : Fin 5) ≠ 1 by decide, by rw [if_neg (fun q => hb q.2)]⟩
  rw [if_neg hl] at h ⊢
  have ex : ∀ sign, (exactlyP (b :: r) sign).err = 0 → (exactlyP (b :: r) sign).kind ≠ 1 ∧ (if (exactlyP (b :: r) sign).kind = 2 ∧ b = 34 then [34] ++ (exactlyP (b :: r) sign).text ++ [34] else (exactlyP (b :: r) sign).text) = (b :: r).take (exactlyP (b :: r) sign).width := fun sign he => by
    obtain ⟨h1, h2⟩ := exactly_text _ _ he
    rw [h1]
    exact ⟨by decide, by rw [if_neg (fun q => absurd q.1 (by decide))]; exact h2⟩
  by_cases hs : isSignB b = true
  · rw [if_pos hs] at h ⊢; exact ex _ h
  rw [if_neg hs] at h ⊢
  by_cases hq : b = 34
  · rw [if_pos hq] at h ⊢
    unfold quotedP at h ⊢
    split at h
    · rename_i hc
      rw [if_pos hc, named_text _ _ h]
      simp only [Bool.and_eq_true, decide_eq_true_eq] at hc
      refine ⟨show (2 : Fin 5) ≠ 1 by decide, ?_⟩
      rw [if_pos ⟨rfl, hq⟩, hq]
      show [34] ++ upto34 r ++ [34] = (34 :: r).take ((upto34 r).length + 1 + 1)
      rw [List.take_succ_cons, upto34_take r hc.1]
      rfl
    · simp at h
  rw [if_neg hq] at h ⊢
  by_cases hd : b = 45
  · rw [if_pos hd] at h ⊢; exact ex _ h
  rw [if_neg hd] at h ⊢
  by_cases he : b = 60
  · rw [if_pos he] at h ⊢; exact ex _ h
  rw [if_neg he] at h
  simp [noneP] at h

theorem blank_at (l : List UInt8) (p k : Nat) (h1 : p ≤ k) (h2 : k < p + blanksN (l.drop p)) : ∃ c, l[k]? = some c ∧ isBlankB c = true := by
  have hp := List.takeWhile_prefix (p := isBlankB) (l := l.drop p)
  have hk : k - p < ((l.drop p).takeWhile isBlankB).length := by unfold blanksN at h2; omega
  refine ⟨((l.drop p).takeWhile isBlankB)[k - p], ?_, ?_⟩
  · have e : (l.drop p)[k - p]? = l[k]? := by rw [List.getElem?_drop]; congr 1; omega
    rw [← e]
    obtain ⟨t, ht⟩ := hp
    have e2 : (l.drop p)[k - p]? = ((l.drop p).takeWhile isBlankB)[k - p]? := by
      have := List.getElem?_append_left (l₂ := t) hk
      rw [ht] at this
      exact this
    rw [e2, List.getElem?_eq_getElem hk]
  · have := List.all_takeWhile (p := isBlankB) (l := l.drop p)
    exact List.all_eq_true.1 this _ (List.getElem_mem hk)
/-- One token, or the end, from a place on. -/
theorem from_cases (l : List UInt8) (p : Nat) (hp : p ≤ l.length) (hg : ∀ x ∈ from_ l p, x.err = 0) :
    p + blanksN (l.drop p) ≤ l.length ∧
    ((p + blanksN (l.drop p) = l.length ∧ from_ l p = [⟨1, [], p + blanksN (l.drop p), 0⟩]) ∨
     ∃ x q, from_ l p = x :: from_ l q ∧ x.pos = p + blanksN (l.drop p) ∧ x.kind ≠ 1 ∧ x.pos < q ∧ q ≤ l.length ∧ writtenL l x = (l.drop x.pos).take (q - x.pos) ∧ (writtenL l x).length = q - x.pos) := by
  have hbl := blanksN_le (l.drop p)
  rw [List.length_drop] at hbl
  refine ⟨by omega, ?_⟩
  cases hd : l.drop (p + blanksN (l.drop p)) with
  | nil =>
    refine .inl ⟨?_, from_end l p hd⟩
    have := List.drop_eq_nil_iff.1 hd
    omega
  | cons b r =>
    have hlt : p + blanksN (l.drop p) < l.length := by
      rcases Nat.lt_or_ge (p + blanksN (l.drop p)) l.length with h | h
      · exact h
      · rw [List.drop_eq_nil_of_le h] at hd; cases hd
    by_cases he : (pieceOf (b :: r)).err = 0
    · obtain ⟨w1, w2⟩ := piece_width b r he
      obtain ⟨t1, t2⟩ := piece_text b r he
      have hlen : (b :: r).length = l.length - (p + blanksN (l.drop p)) := by rw [← hd, List.length_drop]
      refine .inr ⟨_, _, from_go l p b r hd he, rfl, t1, by show p + blanksN (l.drop p) < _; omega, by omega, ?_, ?_⟩
      · have hb : l[p + blanksN (l.drop p)]? = some b := by
          have : (l.drop (p + blanksN (l.drop p)))[0]? = some b := by rw [hd]; rfl
          rwa [List.getElem?_drop, Nat.add_zero] at this
        unfold writtenL
        show (if (pieceOf (b :: r)).kind = 2 ∧ l[p + blanksN (l.drop p)]? = some 34 then [34] ++ (pieceOf (b :: r)).text ++ [34] else (pieceOf (b :: r)).text) = (l.drop (p + blanksN (l.drop p))).take (p + blanksN (l.drop p) + (pieceOf (b :: r)).width - (p + blanksN (l.drop p)))
        rw [hb, hd, Nat.add_sub_cancel_left, ← t2]
        simp
      · have hb : l[p + blanksN (l.drop p)]? = some b := by
          have : (l.drop (p + blanksN (l.drop p)))[0]? = some b := by rw [hd]; rfl
          rwa [List.getElem?_drop, Nat.add_zero] at this
        unfold writtenL
        show (if (pieceOf (b :: r)).kind = 2 ∧ l[p + blanksN (l.drop p)]? = some 34 then [34] ++ (pieceOf (b :: r)).text ++ [34] else (pieceOf (b :: r)).text).length = p + blanksN (l.drop p) + (pieceOf (b :: r)).width - (p + blanksN (l.drop p))
        have e3 : (if (pieceOf (b :: r)).kind = 2 ∧ some b = some 34 then [34] ++ (pieceOf (b :: r)).text ++ [34] else (pieceOf (b :: r)).text) = (b :: r).take (pieceOf (b :: r)).width := by rw [← t2]; simp
        rw [hb, e3, List.length_take]
        omega
    · exfalso
      have := hg _ (by rw [from_err l p b r hd he]; exact List.mem_singleton.2 rfl)
      exact he this
theorem from_ne (l : List UInt8) (p : Nat) : 0 < (from_ l p).length := by
  unfold from_
  cases hd : (l.drop p).drop (blanksN (l.drop p)) with
  | nil => rw [items_end _ _ _ hd]; simp
  | cons b r =>
    by_cases he : (pieceOf (b :: r)).err = 0
    · rw [items_go _ _ _ _ _ hd he]; simp
    · rw [items_err _ _ _ _ _ hd he]; simp
theorem flatI_at : ∀ (xs : List Item) (i : Nat) (x : Item), xs[i]? = some x → (flatI xs)[i * 3]? = some (.int .u8 (x.kind.val : Nat)) ∧ (flatI xs)[i * 3 + 1]? = some (.string ⟨x.text.toArray⟩) ∧ (flatI xs)[i * 3 + 2]? = some (.int .i64 (x.pos : Nat))
  | [], _, _, h => by simp at h
  | y :: r, 0, x, h => by cases h; exact ⟨rfl, rfl, rfl⟩
  | y :: r, i + 1, x, h => by
    have ih := flatI_at r i x (by simpa using h)
    have e : flatI (y :: r) = (tokC y).toList ++ flatI r := rfl
    have hl : (tokC y).toList.length = 3 := rfl
    have a1 : ∀ j, (flatI (y :: r))[(i + 1) * 3 + j]? = (flatI r)[i * 3 + j]? := fun j => by
      rw [e, List.getElem?_append_right (by omega), hl]
      congr 1
      omega
    exact ⟨(a1 0).trans ih.1, (a1 1).trans ih.2.1, (a1 2).trans ih.2.2⟩
end Go.Proofs.YtilgfnafkcjdgaaDoor
