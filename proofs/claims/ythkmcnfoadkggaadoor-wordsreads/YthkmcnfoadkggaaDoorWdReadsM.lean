/- How long the text is that Show writes of a word that was read. Plain mathematics. -/
import Derived.Test.YthkmcnfoadkggaaDoorWdText
namespace Go.Proofs.YthkmcnfoadkggaaDoor
open Go.Lib

theorem nDigits_pow : ∀ (m x : Nat), 0 < m → x < 10 ^ m → nDigits x ≤ m := by
  intro m
  induction m with
  | zero => intro x h; omega
  | succ m ih =>
    intro x _ hx
    by_cases h : x < 10
    · rw [nDigits_small h]; omega
    · rw [nDigits_big h]
      rw [Nat.pow_succ] at hx
      rcases Nat.eq_zero_or_pos m with rfl | hm
      · simp at hx; omega
      · have := ih (x / 10) hm (by omega)
        omega
theorem letterN_pow (t : List UInt8) : ∀ (v : Nat) (f : Bool), (letterN v f t).1 < (v + 1) * 10 ^ (letterN v f t).2 := by
  induction t with
  | nil => intro v f; simp [letterN]
  | cons b r ih =>
    intro v f
    unfold letterN
    split
    · rename_i hb
      split
      · simp
      · have h := ih (v * 10 + (b.toNat - 48)) false
        have hd : b.toNat - 48 ≤ 9 := by
          unfold isDig at hb
          simp at hb
          omega
        simp only
        rw [Nat.pow_succ]
        refine Nat.lt_of_lt_of_le h ?_
        have e : (v + 1) * (10 ^ (letterN (v * 10 + (b.toNat - 48)) false r).2 * 10) = ((v + 1) * 10) * 10 ^ (letterN (v * 10 + (b.toNat - 48)) false r).2 := by
          rw [Nat.mul_comm (10 ^ _) 10, Nat.mul_assoc]
        rw [e]
        exact Nat.mul_le_mul_right _ (by omega)
    · simp
theorem letterN_dec_le {t : List UInt8} (h : headDig t = true) : (decDigits (letterN 0 true t).1).length ≤ (letterN 0 true t).2 := by
  rw [decDigits_length]
  refine nDigits_pow _ _ (letterN_pos h) ?_
  have := letterN_pow t 0 true
  simpa using this
theorem stemB_cons (x : Nat) (r : List Nat) : (stemB (x :: r)).length = (decDigits x).length + 1 + (stemB r).length := by
  simp [stemB]
  omega
theorem lettersF_text : ∀ (n : Nat) (t : List UInt8), (lettersF n t).1 ≠ [] → (stemB (lettersF n t).1).length + blanksN t ≤ (lettersF n t).2 + 1 := by
  intro n
  induction n with
  | zero => intro t h; exact absurd rfl h
  | succ n ih =>
    intro t h
    simp only [lettersF] at h ⊢
    by_cases hd : headDig (t.drop (blanksN t)) = true
    · rw [if_pos hd] at h ⊢
      have hl := letterN_dec_le hd
      by_cases hd2 : headDig ((t.drop (blanksN t)).drop (letterN 0 true (t.drop (blanksN t))).2) = true
      · rw [if_pos hd2]
        simp only
        rw [stemB_cons]
        simp [stemB]
        omega
      · rw [if_neg hd2]
        simp only
        rw [stemB_cons]
        have ih2 := ih ((t.drop (blanksN t)).drop (letterN 0 true (t.drop (blanksN t))).2)
        generalize (t.drop (blanksN t)).drop (letterN 0 true (t.drop (blanksN t))).2 = t2 at ih2 hd2 ⊢
        by_cases h0 : (lettersF n t2).1 = []
        · rw [h0]; simp [stemB]; omega
        · have h1 := ih2 h0
          have hb : 0 < blanksN t2 := by
            rcases Nat.eq_zero_or_pos (blanksN t2) with e | e
            · exfalso
              cases n with
              | zero => exact h0 rfl
              | succ n =>
                apply h0
                simp only [lettersF]
                rw [e, List.drop_zero, if_neg hd2]
            · exact e
          omega
    · rw [if_neg hd] at h
      exact absurd rfl h
theorem lettersOf_text (t : List UInt8) : (stemB (lettersOf t).1).length ≤ (lettersOf t).2 + 1 := by
  by_cases h : (lettersOf t).1 = []
  · rw [h]; simp [stemB]
  · have := lettersF_text (t.length + 1) t h
    show (stemB (lettersF (t.length + 1) t).1).length ≤ (lettersF (t.length + 1) t).2 + 1
    omega
theorem loopB_stem (l : List Nat) (h : l ≠ []) : (loopB l l.length).length + 1 = (stemB l).length := by
  cases l with
  | nil => exact absurd rfl h
  | cons x r =>
    rw [List.length_cons, loopB_cons x r r.length (Nat.le_refl _), List.take_length, stemB_cons, List.length_append]
    have : ∀ r : List Nat, (loopR r).length = (stemB r).length := by
      intro r
      induction r with
      | nil => rfl
      | cons y r ih => rw [stemB_cons]; unfold loopR at ih ⊢; rw [List.flatMap_cons, List.length_append, ih, List.length_cons]
    rw [this r]
    omega
theorem word_text {t : List UInt8} {q : Wd} {n : Nat} (h : wordF t = (some q, n)) : q.loop ≠ [] ∧ (showB q).length ≤ t.length + 1 := by
  unfold wordF at h
  simp only at h
  split at h
  · split at h
    · cases h
    · rename_i h0
      split at h
      · split at h
        · rename_i hlen
          have e : (⟨(lettersOf t).1, (lettersOf ((t.drop (lettersOf t).2).drop 1)).1⟩ : Wd) = q := by
            have := congrArg Prod.fst h
            exact Option.some.inj this
          subst e
          refine ⟨h0, ?_⟩
          have a1 := lettersOf_text t
          have a2 := lettersOf_text ((t.drop (lettersOf t).2).drop 1)
          have a3 := loopB_stem _ h0
          unfold showB
          rw [if_neg (fun e => h0 (List.length_eq_zero_iff.1 e))]
          simp only [List.length_append, List.length_singleton]
          omega
        · cases h
      · cases h
  · cases h
theorem read_text {t : List UInt8} {q : Wd} {n : Nat} (h : readF t = (some q, n)) : q.loop ≠ [] ∧ (showB q).length ≤ t.length + 1 := by
  unfold readF at h
  split at h
  · cases h
  · generalize hw : wordF t = x at h
    obtain ⟨o, k⟩ := x
    cases o with
    | none => cases h
    | some q' =>
      obtain rfl : q' = q := Option.some.inj (congrArg Prod.fst h)
      exact word_text hw
theorem read_show2 (q : Wd) (hs : ∀ x ∈ q.stem, x < 65536) (hl : ∀ x ∈ q.loop, x < 65536) (h0 : q.loop ≠ []) (hlen : (showB q).length ≤ 65536) : readF (showB q) = (some q, 0) := by
  unfold readF
  rw [if_neg (by omega), word_show q hs hl h0]
theorem stem_letters (l : List Nat) : l.length ≤ (stemB l).length := by
  induction l with
  | nil => simp
  | cons x r ih => rw [stemB_cons, List.length_cons]; omega
theorem show_letters (q : Wd) (h0 : q.loop ≠ []) : q.stem.length + q.loop.length ≤ (showB q).length := by
  have a1 := stem_letters q.stem
  have a2 := stem_letters q.loop
  have a3 := loopB_stem _ h0
  unfold showB
  rw [if_neg (fun e => h0 (List.length_eq_zero_iff.1 e))]
  simp only [List.length_append, List.length_singleton]
  omega
end Go.Proofs.YthkmcnfoadkggaaDoor
