/- What holds of a text's tokens, plainly. -/
import Derived.Test.YtilgfnafkcjdgaaDoorLxRef
namespace Go.Proofs.YtilgfnafkcjdgaaDoor

theorem not_blank_letter (b : UInt8) (h : isLetterB b = true) : isBlankB b = false := by
  have key : ∀ n, n < 256 → isLetterB (UInt8.ofNat n) = true → isBlankB (UInt8.ofNat n) = false := by decide +kernel
  have := key b.toNat (UInt8.toNat_lt b)
  rw [UInt8.ofNat_toNat] at this
  exact this h
theorem blanks_cons (b : UInt8) (r : List UInt8) (h : isBlankB b = false) : blanksN (b :: r) = 0 := by
  unfold blanksN
  rw [List.takeWhile_cons, h]; rfl
theorem ok_ne (b : UInt8) (h : okB b = true) : (b != 34) = true := by
  unfold okB at h
  simp only [Bool.and_eq_true, Bool.not_eq_true', decide_eq_false_iff_not] at h
  simp only [bne_iff_ne, ne_eq]
  intro e
  subst e
  exact h.1.2 rfl
theorem upto34_all (s : List UInt8) (h : quotableB s = true) : upto34 (s ++ [34]) = s := by
  unfold upto34
  induction s with
  | nil => rfl
  | cons b r ih =>
    unfold quotableB at h ih
    rw [List.all_cons, Bool.and_eq_true] at h
    rw [List.cons_append, List.takeWhile_cons, ok_ne b h.1, if_pos rfl, ih h.2]
/-- There and back: a name as a text writes it is one token, that name. -/
theorem quoted_items (s : List UInt8) (h : namedB s = true) : itemsOf (quoteL s) = [⟨2, s, 0, 0⟩, ⟨1, [], (quoteL s).length, 0⟩] := by
  unfold namedB at h
  have hg : goodLenB s = true := (Bool.and_eq_true _ _ ▸ h).1
  have hq : quotableB s = true := (Bool.and_eq_true _ _ ▸ h).2
  rw [← from_zero]
  by_cases hn : isNameB s = true
  · have e : quoteL s = s := by unfold quoteL; rw [if_pos hn]
    rw [e]
    cases s with
    | nil => cases hn
    | cons b r =>
      have hn2 := hn
      rw [name_eq] at hn2
      simp only [Bool.and_eq_true, Bool.not_eq_true'] at hn2
      obtain ⟨⟨_, hl, hb⟩, hw⟩ := hn2
      have hbl := blanks_cons b r (not_blank_letter b hl)
      have hbn : bareN (b :: r) = (b :: r).length := by
        unfold isNameB at hn
        simp only [Bool.and_eq_true, decide_eq_true_eq] at hn
        exact hn.1.2
      have hp : pieceOf (b :: r) = ⟨2, b :: r, (b :: r).length, 0⟩ := by
        rw [pieceOf_cons, if_pos hl]
        unfold bareP
        rw [hbn, List.take_length, hw, if_neg (by simp)]
        unfold namedP
        rw [if_pos hg]
      have h0 : (b :: r).drop (0 + blanksN ((b :: r).drop 0)) = b :: r := by rw [List.drop_zero, hbl]; rfl
      rw [from_go _ 0 b r h0 (by rw [hp]), hp, List.drop_zero, hbl]
      congr 1
      have h1 : (b :: r).drop (0 + 0 + (b :: r).length + blanksN ((b :: r).drop (0 + 0 + (b :: r).length))) = [] := List.drop_eq_nil_of_le (by omega)
      rw [from_end _ _ h1]
      have h2 : (b :: r).drop (0 + 0 + (b :: r).length) = [] := List.drop_eq_nil_of_le (by omega)
      rw [h2]
      simp [blanksN]
  · have e : quoteL s = 34 :: (s ++ [34]) := by
      unfold quoteL
      rw [if_neg hn, if_pos (by rw [hg, hq]; rfl)]
      rfl
    rw [e]
    have hbl := blanks_cons 34 (s ++ [34]) (by decide)
    have hp : pieceOf (34 :: (s ++ [34])) = ⟨2, s, s.length + 2, 0⟩ := by
      rw [pieceOf_cons, if_neg (by decide), if_neg (by decide), if_pos rfl]
      unfold quotedP
      rw [upto34_all s hq, hq, if_pos (by simp)]
      unfold namedP
      rw [if_pos hg]
    have h0 : (34 :: (s ++ [34])).drop (0 + blanksN ((34 :: (s ++ [34])).drop 0)) = 34 :: (s ++ [34]) := by rw [List.drop_zero, hbl]; rfl
    rw [from_go _ 0 34 _ h0 (by rw [hp]), hp, List.drop_zero, hbl]
    congr 1
    have hlen : (34 :: (s ++ [34])).length = s.length + 2 := by simp
    have h1 : (34 :: (s ++ [34])).drop (0 + 0 + (s.length + 2) + blanksN ((34 :: (s ++ [34])).drop (0 + 0 + (s.length + 2)))) = [] := List.drop_eq_nil_of_le (by omega)
    show from_ (34 :: (s ++ [34])) (0 + 0 + (s.length + 2)) = _
    rw [from_end _ _ h1]
    have h2 : (34 :: (s ++ [34])).drop (0 + 0 + (s.length + 2)) = [] := List.drop_eq_nil_of_le (by omega)
    rw [h2, hlen]
    simp [blanksN]
theorem quote_self (s : List UInt8) (h : namedB s = true) : isNameB s = decide (quoteL s = s) := by
  unfold namedB at h
  rw [Bool.eq_iff_iff, decide_eq_true_eq]
  constructor
  · intro hn; unfold quoteL; rw [if_pos hn]
  · intro he
    cases hn : isNameB s
    · unfold quoteL at he
      rw [hn, if_neg (by simp), if_pos h] at he
      have := congrArg List.length he
      simp at this
      omega
    · rfl
theorem not_named (s : List UInt8) (h : namedB s = false) : quoteL s = [] := by
  unfold quoteL
  have h1 : isNameB s = false := by
    cases hn : isNameB s
    · rfl
    · exfalso
      cases s with
      | nil => cases hn
      | cons b r =>
        rw [name_eq] at hn
        simp only [Bool.and_eq_true] at hn
        obtain ⟨⟨hg, hl, hb⟩, _⟩ := hn
        have key : ∀ n, n < 256 → isBareB (UInt8.ofNat n) = true → okB (UInt8.ofNat n) = true := by decide +kernel
        have ok : ∀ c : UInt8, isBareB c = true → okB c = true := fun c hc => by
          have := key c.toNat (UInt8.toNat_lt c)
          rw [UInt8.ofNat_toNat] at this
          exact this hc
        have hq : quotableB (b :: r) = true := by
          unfold quotableB
          rw [List.all_cons, ok b (by simp [isBareB, hl]), Bool.true_and]
          exact List.all_eq_true.2 fun c hc => ok c (List.all_eq_true.1 hb c hc)
        unfold namedB at h
        rw [hg, hq] at h
        cases h
  rw [h1, if_neg (by simp)]
  unfold namedB at h
  rw [h, if_neg (by simp)]
end Go.Proofs.YtilgfnafkcjdgaaDoor
