/- Tokens with blanks between are the same tokens, plainly. -/
import Derived.Test.YtilgfnafkcjdgaaDoorLxPlace
import Derived.Test.YtilgfnafkcjdgaaDoorLxTake
namespace Go.Proofs.YtilgfnafkcjdgaaDoor

/-- What may stand behind a token: nothing, or a blank. -/
def Loose (rest : List UInt8) : Prop := rest = [] ∨ ∃ c t, rest = c :: t ∧ isBlankB c = true
theorem loose_stop {p : UInt8 → Bool} (hp : ∀ c, isBlankB c = true → p c = false) {rest : List UInt8} (h : Loose rest) : rest.takeWhile p = [] := by
  rcases h with rfl | ⟨c, t, rfl, hc⟩
  · rfl
  · rw [List.takeWhile_cons, hp c hc]; rfl
theorem takeWhile_loose {p : UInt8 → Bool} (hp : ∀ c, isBlankB c = true → p c = false) {rest : List UInt8} (h : Loose rest) (r : List UInt8) : (r ++ rest).takeWhile p = r.takeWhile p := by
  rw [List.takeWhile_append, loose_stop hp h]
  split
  · rename_i he
    rw [List.append_nil]
    exact ((List.takeWhile_prefix p).eq_of_length he).symm
  · rfl
theorem blank_not_bare (c : UInt8) (h : isBlankB c = true) : isBareB c = false := by
  have key : ∀ n, n < 256 → isBlankB (UInt8.ofNat n) = true → isBareB (UInt8.ofNat n) = false := by decide +kernel
  have := key c.toNat (UInt8.toNat_lt c)
  rw [UInt8.ofNat_toNat] at this
  exact this h
theorem upto34_append (r rest : List UInt8) (h : (upto34 r).length < r.length) : upto34 (r ++ rest) = upto34 r := by
  unfold upto34 at h ⊢
  rw [List.takeWhile_append, if_neg (by omega)]
theorem exactly_append (b : UInt8) (r rest sign : List UInt8) (he : (exactlyP (b :: r) sign).err = 0) : exactlyP (b :: (r ++ rest)) sign = exactlyP (b :: r) sign := by
  unfold exactlyP at he ⊢
  split at he
  · rename_i hp
    have hp2 : sign.isPrefixOf (b :: (r ++ rest)) = true := by
      rw [List.isPrefixOf_iff_prefix] at hp ⊢
      exact hp.trans (List.prefix_append (b :: r) rest)
    rw [if_pos hp, if_pos hp2]
  · simp [noneP] at he
/-- What stands at a place is the same where blanks follow. -/
theorem piece_append (b : UInt8) (r rest : List UInt8) (he : (pieceOf (b :: r)).err = 0) (hr : Loose rest) : pieceOf (b :: (r ++ rest)) = pieceOf (b :: r) := by
  rw [pieceOf_cons] at he
  rw [pieceOf_cons, pieceOf_cons]
  by_cases hl : isLetterB b = true
  · rw [if_pos hl, if_pos hl]
    have hn : bareN (b :: (r ++ rest)) = bareN (b :: r) := by rw [bareN_cons, bareN_cons, takeWhile_loose blank_not_bare hr]
    have ht : (b :: (r ++ rest)).take (bareN (b :: r)) = (b :: r).take (bareN (b :: r)) := by
      have e : b :: (r ++ rest) = (b :: r) ++ rest := rfl
      rw [e, List.take_append_of_le_length (bareN_le _)]
    unfold bareP
    rw [hn, ht]
  rw [if_neg hl] at he
  rw [if_neg hl, if_neg hl]
  by_cases hs : isSignB b = true
  · rw [if_pos hs] at he
    rw [if_pos hs, if_pos hs]
    exact exactly_append b r rest _ he
  rw [if_neg hs] at he
  rw [if_neg hs, if_neg hs]
  by_cases hq : b = 34
  · rw [if_pos hq] at he
    rw [if_pos hq, if_pos hq]
    unfold quotedP at he ⊢
    split at he
    · rename_i hc
      rw [if_pos hc]
      simp only [Bool.and_eq_true, decide_eq_true_eq] at hc
      rw [upto34_append r rest hc.1, if_pos (by simp only [Bool.and_eq_true, decide_eq_true_eq]; exact ⟨by rw [List.length_append]; omega, hc.2⟩)]
    · simp at he
  rw [if_neg hq] at he
  rw [if_neg hq, if_neg hq]
  by_cases hd : b = 45
  · rw [if_pos hd] at he
    rw [if_pos hd, if_pos hd]
    exact exactly_append b r rest _ he
  rw [if_neg hd] at he
  rw [if_neg hd, if_neg hd]
  by_cases hx : b = 60
  · rw [if_pos hx] at he
    rw [if_pos hx, if_pos hx]
    exact exactly_append b r rest _ he
  rw [if_neg hx] at he
  simp [noneP] at he
theorem piece_not_blank (b : UInt8) (r : List UInt8) (he : (pieceOf (b :: r)).err = 0) : isBlankB b = false := by
  cases hb : isBlankB b
  · rfl
  · exfalso
    have key : ∀ n, n < 256 → isBlankB (UInt8.ofNat n) = true → isLetterB (UInt8.ofNat n) = false ∧ isSignB (UInt8.ofNat n) = false ∧ ¬ UInt8.ofNat n = 34 ∧ ¬ UInt8.ofNat n = 45 ∧ ¬ UInt8.ofNat n = 60 := by decide +kernel
    have := key b.toNat (UInt8.toNat_lt b)
    rw [UInt8.ofNat_toNat] at this
    obtain ⟨h1, h2, h3, h4, h5⟩ := this hb
    rw [pieceOf_cons, h1, h2, if_neg (by simp), if_neg (by simp), if_neg h3, if_neg h4, if_neg h5] at he
    simp [noneP] at he
theorem blanks_app (bl : List UInt8) (hb : ∀ c ∈ bl, isBlankB c = true) (t : List UInt8) (ht : t = [] ∨ ∃ b r, t = b :: r ∧ isBlankB b = false) : blanksN (bl ++ t) = bl.length := by
  unfold blanksN
  have h1 : bl.takeWhile isBlankB = bl := by
    induction bl with
    | nil => rfl
    | cons c r ih => rw [List.takeWhile_cons, hb c (by simp), if_pos rfl, ih (fun d hd => hb d (by simp [hd]))]
  have h2 : t.takeWhile isBlankB = [] := by
    rcases ht with rfl | ⟨b, r, rfl, h⟩
    · rfl
    · rw [List.takeWhile_cons, h]; rfl
  rw [List.takeWhile_append, h1, if_pos rfl, h2, List.append_nil]
end Go.Proofs.YtilgfnafkcjdgaaDoor
