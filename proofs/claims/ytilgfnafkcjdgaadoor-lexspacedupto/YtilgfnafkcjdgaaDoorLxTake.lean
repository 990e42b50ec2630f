/- A text ahead of what is no token has just the tokens ahead of it, plainly. -/
import Derived.Test.YtilgfnafkcjdgaaDoorLxAll
namespace Go.Proofs.YtilgfnafkcjdgaaDoor

theorem takeWhile_take {p : UInt8 → Bool} : ∀ (l : List UInt8) (m : Nat), (l.takeWhile p).length ≤ m → (l.take m).takeWhile p = l.takeWhile p
  | [], m, _ => by simp
  | b :: l, 0, h => by
    rw [List.takeWhile_cons] at h
    cases hb : p b
    · rw [List.takeWhile_cons, hb]; rfl
    · rw [hb] at h; simp at h
  | b :: l, m + 1, h => by
    rw [List.take_succ_cons, List.takeWhile_cons, List.takeWhile_cons]
    rw [List.takeWhile_cons] at h
    cases hb : p b
    · rfl
    · rw [hb] at h
      simp only [if_true, List.length_cons] at h ⊢
      rw [takeWhile_take l m (by omega)]
theorem bareN_take (b : UInt8) (r : List UInt8) (m : Nat) (h : bareN (b :: r) ≤ m + 1) : bareN (b :: r.take m) = bareN (b :: r) := by
  rw [bareN_cons, bareN_cons] at *
  split
  · rename_i hb
    rw [if_pos hb] at h
    rw [takeWhile_take r m (by omega)]
  · rfl
theorem exactly_take (b : UInt8) (r sign : List UInt8) (m : Nat) (he : (exactlyP (b :: r) sign).err = 0) (h : (exactlyP (b :: r) sign).width ≤ m + 1) : exactlyP (b :: r.take m) sign = exactlyP (b :: r) sign := by
  unfold exactlyP at he h ⊢
  split at he
  · rename_i hp
    rw [if_pos hp] at h ⊢
    have h' : sign.length ≤ m + 1 := h
    have hp2 : sign.isPrefixOf (b :: r.take m) = true := by
      rw [List.isPrefixOf_iff_prefix] at hp ⊢
      have e : b :: r.take m = (b :: r).take (m + 1) := rfl
      rw [e, List.prefix_take_iff]
      exact ⟨hp, h'⟩
    rw [if_pos hp2]
  · simp [noneP] at he
/-- What stands at a place is the same where the text is cut behind it. -/
theorem piece_take (b : UInt8) (r : List UInt8) (m : Nat) (he : (pieceOf (b :: r)).err = 0) (h : (pieceOf (b :: r)).width ≤ m + 1) : pieceOf (b :: r.take m) = pieceOf (b :: r) := by
  rw [pieceOf_cons] at he h
  rw [pieceOf_cons, pieceOf_cons]
  by_cases hl : isLetterB b = true
  · rw [if_pos hl] at he h
    rw [if_pos hl, if_pos hl]
    have hn : bareN (b :: r) ≤ m + 1 := by
      unfold bareP at he h
      split at h
      · exact h
      · rename_i hw
        rw [if_neg hw] at he
        rwa [named_width _ _ he] at h
    unfold bareP
    rw [bareN_take b r m hn]
    have e : b :: r.take m = (b :: r).take (m + 1) := rfl
    rw [e, List.take_take, Nat.min_eq_left hn]
  rw [if_neg hl] at he h
  rw [if_neg hl, if_neg hl]
  by_cases hs : isSignB b = true
  · rw [if_pos hs] at he h
    rw [if_pos hs, if_pos hs]
    exact exactly_take b r _ m he h
  rw [if_neg hs] at he h
  rw [if_neg hs, if_neg hs]
  by_cases hq : b = 34
  · rw [if_pos hq] at he h
    rw [if_pos hq, if_pos hq]
    unfold quotedP at he h ⊢
    split at he
    · rename_i hc
      rw [if_pos hc] at h
      rw [named_width _ _ he] at h
      simp only [Bool.and_eq_true, decide_eq_true_eq] at hc
      have e : upto34 (r.take m) = upto34 r := takeWhile_take r m (by unfold upto34 at h; omega)
      have hl2 : (r.take m).length = min m r.length := List.length_take
      rw [e, if_pos (by simp only [Bool.and_eq_true, decide_eq_true_eq]; exact ⟨by omega, hc.2⟩), if_pos (by simp only [Bool.and_eq_true, decide_eq_true_eq]; exact hc)]
    · simp at he
  rw [if_neg hq] at he h
  rw [if_neg hq, if_neg hq]
  by_cases hd : b = 45
  · rw [if_pos hd] at he h
    rw [if_pos hd, if_pos hd]
    exact exactly_take b r _ m he h
  rw [if_neg hd] at he h
  rw [if_neg hd, if_neg hd]
  by_cases hx : b = 60
  · rw [if_pos hx] at he h
    rw [if_pos hx, if_pos hx]
    exact exactly_take b r _ m he h
  rw [if_neg hx] at he
  simp [noneP] at he

/-- From a place on, ahead of the place of the error. -/
theorem from_take (l : List UInt8) (e : Item) : ∀ (n p : Nat), l.length - p ≤ n → p ≤ l.length → (from_ l p).find? (fun x => x.err != 0) = some e →
    p ≤ e.pos ∧ e.pos < l.length ∧ from_ (l.take e.pos) p = (from_ l p).takeWhile goodI ++ [⟨1, [], e.pos, 0⟩] := by
  intro n
  induction n with
  | zero =>
    intro p hn hp hf
    exfalso
    have h0 : l.drop (p + blanksN (l.drop p)) = [] := List.drop_eq_nil_of_le (by omega)
    rw [from_end l p h0] at hf
    simp at hf
  | succ n ih =>
    intro p hn hp hf
    have hbl := blanksN_le (l.drop p)
    rw [List.length_drop] at hbl
    have cutb : ∀ q, p + blanksN (l.drop p) ≤ q → q ≤ l.length → blanksN ((l.take q).drop p) = blanksN (l.drop p) := fun q hq1 hq2 => by
      unfold blanksN
      rw [List.drop_take, takeWhile_take _ _ (by unfold blanksN at hq1; omega)]
    cases hd : l.drop (p + blanksN (l.drop p)) with
    | nil => rw [from_end l p hd] at hf; simp at hf
    | cons b r =>
      have hlt : p + blanksN (l.drop p) < l.length := by
        rcases Nat.lt_or_ge (p + blanksN (l.drop p)) l.length with h | h
        · exact h
        · rw [List.drop_eq_nil_of_le h] at hd; cases hd
      by_cases he : (pieceOf (b :: r)).err = 0
      · obtain ⟨w1, w2⟩ := piece_width b r he
        have hlen : (b :: r).length = l.length - (p + blanksN (l.drop p)) := by rw [← hd, List.length_drop]
        rw [from_go l p b r hd he] at hf ⊢
        rw [List.find?_cons] at hf
        have hf2 : (from_ l (p + blanksN (l.drop p) + (pieceOf (b :: r)).width)).find? (fun x => x.err != 0) = some e := by simpa using hf
        obtain ⟨q1, q2, q3⟩ := ih _ (by omega) (by omega) hf2
        refine ⟨by omega, q2, ?_⟩
        have hb1 := cutb e.pos (by omega) (by omega)
        have hd2 : (l.take e.pos).drop (p + blanksN ((l.take e.pos).drop p)) = b :: r.take (e.pos - (p + blanksN (l.drop p)) - 1) := by
          rw [hb1, List.drop_take, hd]
          obtain ⟨m, hm⟩ : ∃ m, e.pos - (p + blanksN (l.drop p)) = m + 1 := ⟨e.pos - (p + blanksN (l.drop p)) - 1, by omega⟩
          rw [hm]; rfl
        have hp2 := piece_take b r (e.pos - (p + blanksN (l.drop p)) - 1) he (by omega)
        rw [from_go _ p b _ hd2 (by rw [hp2]; exact he), hp2, hb1, q3]
        rw [List.takeWhile_cons]
        rfl
      · rw [from_err l p b r hd he] at hf ⊢
        have hee : (⟨0, [], p + blanksN (l.drop p), (pieceOf (b :: r)).err⟩ : Item) = e := by simpa [he] using hf
        subst hee
        refine ⟨by show p ≤ p + _; omega, hlt, ?_⟩
        have hb1 := cutb (p + blanksN (l.drop p)) (Nat.le_refl _) (by omega)
        show from_ (l.take (p + blanksN (l.drop p))) p = _
        have hd2 : (l.take (p + blanksN (l.drop p))).drop (p + blanksN ((l.take (p + blanksN (l.drop p))).drop p)) = [] := List.drop_eq_nil_of_le (by rw [hb1, List.length_take]; omega)
        rw [from_end _ _ hd2, hb1, List.takeWhile_cons, show goodI ⟨0, [], p + blanksN (l.drop p), (pieceOf (b :: r)).err⟩ = false by simp [goodI, he]]
        rfl
/-- The tokens ahead of what is none. -/
theorem cut_items (l : List UInt8) (e : Item) (h : (itemsOf l).find? (fun x => x.err != 0) = some e) : e.pos < l.length ∧ itemsOf (l.take e.pos) = toksOf l ++ [⟨1, [], e.pos, 0⟩] := by
  rw [← from_zero] at h
  obtain ⟨_, h2, h3⟩ := from_take l e l.length 0 (by omega) (Nat.zero_le _) h
  exact ⟨h2, by rw [← from_zero, h3, from_zero]; rfl⟩
end Go.Proofs.YtilgfnafkcjdgaaDoor
