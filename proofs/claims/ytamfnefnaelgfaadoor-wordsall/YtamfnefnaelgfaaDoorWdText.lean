/- A word as a text, and back. Plain mathematics, no walk. -/
import Derived.Test.YtamfnefnaelgfaaDoorWdMath
import Derived.Lib.ItoaNum
namespace Go.Proofs.YtamfnefnaelgfaaDoor
open Go.Lib

/-- The letters of a stem. -/
def stemB (l : List Nat) : List UInt8 := l.flatMap fun x => decDigits x ++ [32]
/-- The letters of a loop. -/
def sepB (i x : Nat) : List UInt8 := (if i = 0 then [] else [32]) ++ decDigits x
def loopB (l : List Nat) (n : Nat) : List UInt8 := (List.range n).flatMap fun i => sepB i (l.getD i 0)
/-- What Show writes. -/
def showB (w : Wd) : List UInt8 := if w.loop.length = 0 then [] else stemB w.stem ++ [40] ++ loopB w.loop w.loop.length ++ [41]
theorem loopB_succ (l : List Nat) (n : Nat) : loopB l (n + 1) = loopB l n ++ sepB n (l.getD n 0) := by
  unfold loopB; rw [List.range_succ, List.flatMap_append]; simp
theorem stemB_take (l : List Nat) (n : Nat) (h : n < l.length) : stemB (l.take (n + 1)) = stemB (l.take n) ++ (decDigits (l.getD n 0) ++ [32]) := by
  unfold stemB
  rw [List.take_succ_eq_append_getElem h, List.flatMap_append]
  simp [List.getD_eq_getElem?_getD, h]
theorem nDigits_le {x : Nat} (h : x < 65536) : (decDigits x).length ≤ 5 := by
  rw [decDigits_length]
  by_cases h1 : x < 10
  · rw [nDigits_small h1]; omega
  by_cases h2 : x / 10 < 10
  · rw [nDigits_big h1, nDigits_small h2]; omega
  by_cases h3 : x / 10 / 10 < 10
  · rw [nDigits_big h1, nDigits_big h2, nDigits_small h3]; omega
  by_cases h4 : x / 10 / 10 / 10 < 10
  · rw [nDigits_big h1, nDigits_big h2, nDigits_big h3, nDigits_small h4]; omega
  · rw [nDigits_big h1, nDigits_big h2, nDigits_big h3, nDigits_big h4, nDigits_small (by omega)]; omega
theorem stemB_len (l : List Nat) (h : ∀ x ∈ l, x < 65536) : (stemB l).length ≤ 6 * l.length := by
  induction l with
  | nil => simp [stemB]
  | cons x r ih =>
    have h1 := nDigits_le (h x (by simp))
    have h2 := ih (fun y hy => h y (by simp [hy]))
    unfold stemB at h2 ⊢
    rw [List.flatMap_cons, List.length_append, List.length_append, List.length_singleton]
    simp only [List.length_cons]
    omega
theorem loopB_len (l : List Nat) (h : ∀ x ∈ l, x < 65536) (n : Nat) : (loopB l n).length ≤ 6 * n := by
  induction n with
  | zero => simp [loopB]
  | succ n ih =>
    rw [loopB_succ, List.length_append]
    have h1 : (decDigits (l.getD n 0)).length ≤ 5 := by
      apply nDigits_le
      rw [List.getD_eq_getElem?_getD]
      rcases Nat.lt_or_ge n l.length with hn | hn
      · rw [List.getElem?_eq_getElem hn]; exact h _ (List.getElem_mem _)
      · rw [List.getElem?_eq_none hn]; decide
    have h2 : (sepB n (l.getD n 0)).length ≤ 6 := by
      unfold sepB
      rw [List.length_append]
      split
      · rw [List.length_nil]; omega
      · rw [List.length_singleton]; omega
    omega

/-- How many blanks stand ahead. -/
def blanksN : List UInt8 → Nat
  | [] => 0
  | b :: r => if b = 32 then blanksN r + 1 else 0
def isDig (b : UInt8) : Bool := decide (48 ≤ b.toNat) && decide (b.toNat ≤ 57)
def headDig (t : List UInt8) : Bool := match t with | [] => false | b :: _ => isDig b
def headIs (t : List UInt8) (c : UInt8) : Bool := match t with | [] => false | b :: _ => decide (b = c)
/-- The longest letter that begins here: its value, and how many digits it has. -/
def letterN (v : Nat) (first : Bool) : List UInt8 → Nat × Nat
  | [] => (v, 0)
  | b :: r => if isDig b = true then
      (if 65535 < v * 10 + (b.toNat - 48) ∨ (v = 0 ∧ first = false) then (v, 0)
       else ((letterN (v * 10 + (b.toNat - 48)) false r).1, (letterN (v * 10 + (b.toNat - 48)) false r).2 + 1))
    else (v, 0)
/-- As many letters as there are, and how many bytes they and the blanks around them take. -/
def lettersF : Nat → List UInt8 → List Nat × Nat
  | 0, _ => ([], 0)
  | n + 1, t =>
    let t1 := t.drop (blanksN t)
    if headDig t1 = true then
      let c := letterN 0 true t1
      let t2 := t1.drop c.2
      if headDig t2 = true then ([c.1], blanksN t + c.2)
      else (c.1 :: (lettersF n t2).1, blanksN t + c.2 + (lettersF n t2).2)
    else ([], blanksN t)
theorem blanksN_le (t : List UInt8) : blanksN t ≤ t.length := by
  induction t with
  | nil => simp [blanksN]
  | cons b r ih => unfold blanksN; split <;> simp <;> omega
theorem letterN_le (t : List UInt8) : ∀ (v : Nat) (f : Bool), (letterN v f t).2 ≤ t.length := by
  induction t with
  | nil => intro v f; simp [letterN]
  | cons b r ih =>
    intro v f
    unfold letterN
    split
    · split
      · simp
      · have := ih (v * 10 + (b.toNat - 48)) false
        simp only [List.length_cons]; omega
    · simp
theorem letterN_small (t : List UInt8) : ∀ (v : Nat) (f : Bool), v ≤ 65535 → (letterN v f t).1 ≤ 65535 := by
  induction t with
  | nil => intro v f h; simpa [letterN] using h
  | cons b r ih =>
    intro v f h
    unfold letterN
    split
    · split
      · exact h
      · rename_i h1
        exact ih _ _ (by omega)
    · exact h
theorem letterN_pos {t : List UInt8} (h : headDig t = true) : 0 < (letterN 0 true t).2 := by
  cases t with
  | nil => simp [headDig] at h
  | cons b r =>
    have hb : isDig b = true := h
    unfold letterN
    rw [if_pos hb, if_neg]
    · simp
    · have : b.toNat < 256 := b.toNat_lt
      simp; omega
/-- The fuel does not matter. -/
theorem lettersF_fuel : ∀ (n m : Nat) (t : List UInt8), t.length < n → t.length < m → lettersF n t = lettersF m t := by
  intro n
  induction n with
  | zero => intro m t h _; omega
  | succ n ih =>
    intro m t h1 h2
    cases m with
    | zero => omega
    | succ m =>
      simp only [lettersF]
      split
      · rename_i hd
        split
        · rfl
        · have hp := letterN_pos hd
          have hl : ((t.drop (blanksN t)).drop (letterN 0 true (t.drop (blanksN t))).2).length < t.length := by
            rw [List.length_drop, List.length_drop]
            have : 0 < (t.drop (blanksN t)).length := by
              cases hq : t.drop (blanksN t) with
              | nil => rw [hq] at hd; simp [headDig] at hd
              | cons b r => simp
            rw [List.length_drop] at this
            omega
          rw [ih m _ (by omega) (by omega)]
      · rfl
def lettersOf (t : List UInt8) : List Nat × Nat := lettersF (t.length + 1) t
theorem lettersOf_stop {t : List UInt8} (h : headDig (t.drop (blanksN t)) = false) : lettersOf t = ([], blanksN t) := by
  unfold lettersOf; simp only [lettersF]; rw [h]; simp
theorem lettersOf_last {t : List UInt8} (h : headDig (t.drop (blanksN t)) = true) (h2 : headDig ((t.drop (blanksN t)).drop (letterN 0 true (t.drop (blanksN t))).2) = true) : lettersOf t = ([(letterN 0 true (t.drop (blanksN t))).1], blanksN t + (letterN 0 true (t.drop (blanksN t))).2) := by
  unfold lettersOf; simp only [lettersF]; rw [if_pos h, if_pos h2]
theorem lettersOf_more {t : List UInt8} (h : headDig (t.drop (blanksN t)) = true) (h2 : headDig ((t.drop (blanksN t)).drop (letterN 0 true (t.drop (blanksN t))).2) = false) :
    lettersOf t = ((letterN 0 true (t.drop (blanksN t))).1 :: (lettersOf ((t.drop (blanksN t)).drop (letterN 0 true (t.drop (blanksN t))).2)).1, blanksN t + (letterN 0 true (t.drop (blanksN t))).2 + (lettersOf ((t.drop (blanksN t)).drop (letterN 0 true (t.drop (blanksN t))).2)).2) := by
  have hp := letterN_pos h
  have hl : 0 < (t.drop (blanksN t)).length := by
    cases hq : t.drop (blanksN t) with
    | nil => rw [hq] at h; simp [headDig] at h
    | cons b r => simp
  rw [List.length_drop] at hl
  unfold lettersOf
  rw [lettersF]
  simp only
  rw [if_pos h, if_neg (by rw [h2]; simp)]
  rw [lettersF_fuel t.length (((t.drop (blanksN t)).drop (letterN 0 true (t.drop (blanksN t))).2).length + 1) _ (by rw [List.length_drop, List.length_drop]; omega) (by omega)]
/-- What Read makes of a text: the word, or how far it goes. -/
def wordF (t : List UInt8) : Option Wd × Nat :=
  let a := lettersOf t
  let t1 := t.drop a.2
  if headIs t1 40 = true then
    let b := lettersOf (t1.drop 1)
    let t2 := (t1.drop 1).drop b.2
    if b.1 = [] then (none, a.2 + 1 + b.2)
    else if headIs t2 41 = true then
      (if a.2 + 1 + b.2 + 1 + blanksN (t2.drop 1) = t.length then some ⟨a.1, b.1⟩ else none, a.2 + 1 + b.2 + 1 + blanksN (t2.drop 1))
    else (none, a.2 + 1 + b.2)
  else (none, a.2)
def readF (t : List UInt8) : Option Wd × Nat :=
  if 65536 < t.length then (none, 65536) else
    match wordF t with
    | (some w, _) => (some w, 0)
    | (none, k) => (none, k)

/-! There and back. -/
theorem isDig_dg (d : Nat) (h : d < 10) : isDig (UInt8.ofNat (48 + d)) = true ∧ (UInt8.ofNat (48 + d)).toNat = 48 + d := by
  have : (UInt8.ofNat (48 + d)).toNat = 48 + d := by rw [UInt8.toNat_ofNat']; omega
  refine ⟨?_, this⟩
  unfold isDig
  rw [this]
  simp; omega
theorem letterN_end (v : Nat) (f : Bool) (r : List UInt8) (hr : headDig r = false) : letterN v f r = (v, 0) := by
  cases r with
  | nil => rfl
  | cons b r =>
    have hb : isDig b = false := hr
    unfold letterN
    rw [if_neg (by rw [hb]; simp)]
/-- A numeral is read whole. -/
theorem letterN_app : ∀ (n u : Nat), u ≤ n → ∀ (v : Nat) (f : Bool) (r : List UInt8), (v ≠ 0 ∨ f = true) → v * 10 ^ nDigits u + u ≤ 65535 →
    letterN v f (decDigits u ++ r) = ((letterN (v * 10 ^ nDigits u + u) false r).1, (letterN (v * 10 ^ nDigits u + u) false r).2 + nDigits u) := by
  intro n
  induction n using Nat.strongRecOn with
  | ind n ih =>
    intro u hu v f r hv hb
    by_cases h : u < 10
    · obtain ⟨d1, d2⟩ := isDig_dg u h
      rw [decDigits_one h, nDigits_small h]
      rw [nDigits_small h, Nat.pow_one] at hb
      rw [List.cons_append, List.nil_append, letterN, if_pos d1, if_neg (by
        rw [d2]; rcases hv with hv | hv
        · omega
        · rw [hv]; simp; omega), d2]
      rw [show 48 + u - 48 = u by omega, Nat.pow_one]
    · obtain ⟨d1, d2⟩ := isDig_dg (u % 10) (Nat.mod_lt _ (by omega))
      rw [nDigits_big h] at hb ⊢
      have hpow : v * 10 ^ (nDigits (u / 10) + 1) = v * 10 ^ nDigits (u / 10) * 10 := by rw [Nat.pow_succ, Nat.mul_assoc]
      rw [hpow] at hb ⊢
      have hu10 : u / 10 < u := by omega
      rw [decDigits, dif_neg h, List.append_assoc, ih (u / 10) (by omega) (u / 10) (Nat.le_refl _) v f _ hv (by omega)]
      rw [List.cons_append, List.nil_append, letterN, if_pos d1, if_neg (by rw [d2]; omega), d2]
      rw [show (v * 10 ^ nDigits (u / 10) + u / 10) * 10 + (48 + u % 10 - 48) = v * 10 ^ nDigits (u / 10) * 10 + u by omega]
      simp only [Prod.mk.injEq, true_and]
      omega
theorem letterN_dec (x : Nat) (hx : x < 65536) (r : List UInt8) (hr : headDig r = false) : letterN 0 true (decDigits x ++ r) = (x, (decDigits x).length) := by
  rw [letterN_app x x (Nat.le_refl _) 0 true r (.inr rfl) (by omega), letterN_end _ _ _ hr, decDigits_length]
  simp
theorem dec_head (x : Nat) (r : List UInt8) : headDig (decDigits x ++ r) = true ∧ blanksN (decDigits x ++ r) = 0 := by
  have key : ∀ (n x : Nat), x ≤ n → ∀ r, ∃ d r', d < 10 ∧ decDigits x ++ r = UInt8.ofNat (48 + d) :: r' := by
    intro n
    induction n using Nat.strongRecOn with
    | ind n ih =>
      intro x hx r
      by_cases h : x < 10
      · exact ⟨x, r, h, by rw [decDigits_one h]; rfl⟩
      · obtain ⟨d, r', h1, h2⟩ := ih (x / 10) (by omega) (x / 10) (Nat.le_refl _) ([UInt8.ofNat (48 + x % 10)] ++ r)
        exact ⟨d, r', h1, by rw [decDigits, dif_neg h, List.append_assoc]; exact h2⟩
  obtain ⟨d, r', h1, h2⟩ := key x x (Nat.le_refl _) r
  obtain ⟨d1, d2⟩ := isDig_dg d h1
  rw [h2]
  refine ⟨d1, ?_⟩
  unfold blanksN
  rw [if_neg]
  intro e
  rw [e] at d2
  have : (32 : UInt8).toNat = 32 := rfl
  omega
theorem blanks_one (t : List UInt8) : blanksN (32 :: t) = blanksN t + 1 := by rw [blanksN, if_pos rfl]
/-- A numeral ahead of what is no digit. -/
theorem letters_dec (x : Nat) (hx : x < 65536) (r : List UInt8) (hr : headDig r = false) : lettersOf (decDigits x ++ r) = (x :: (lettersOf r).1, (decDigits x).length + (lettersOf r).2) := by
  obtain ⟨h1, h2⟩ := dec_head x r
  have h3 := letterN_dec x hx r hr
  have e : (decDigits x ++ r).drop (blanksN (decDigits x ++ r)) = decDigits x ++ r := by rw [h2]; rfl
  have e2 : ((decDigits x ++ r).drop (blanksN (decDigits x ++ r))).drop (letterN 0 true ((decDigits x ++ r).drop (blanksN (decDigits x ++ r)))).2 = r := by rw [e, h3]; simp
  rw [lettersOf_more (by rw [e]; exact h1) (by rw [e2]; exact hr), e2, e, h3, h2]
  simp
theorem letters_blank (t : List UInt8) : lettersOf (32 :: t) = ((lettersOf t).1, (lettersOf t).2 + 1) := by
  have hb := blanks_one t
  have e : (32 :: t).drop (blanksN (32 :: t)) = t.drop (blanksN t) := by rw [hb]; rfl
  cases h : headDig (t.drop (blanksN t)) with
  | false =>
    rw [lettersOf_stop (by rw [e]; exact h), lettersOf_stop h, hb]
  | true =>
    cases h2 : headDig ((t.drop (blanksN t)).drop (letterN 0 true (t.drop (blanksN t))).2) with
    | true =>
      rw [lettersOf_last (by rw [e]; exact h) (by rw [e]; exact h2), lettersOf_last h h2, e, hb]
      simp only [Prod.mk.injEq, true_and]; omega
    | false =>
      rw [lettersOf_more (by rw [e]; exact h) (by rw [e]; exact h2), lettersOf_more h h2, e, hb]
      simp only [Prod.mk.injEq, true_and]; omega
theorem letters_sign (c : UInt8) (t : List UInt8) (h1 : c ≠ 32) (h2 : isDig c = false) : lettersOf (c :: t) = ([], 0) := by
  have hb : blanksN (c :: t) = 0 := by rw [blanksN, if_neg h1]
  rw [lettersOf_stop (by rw [hb]; exact h2), hb]
theorem letters_stem (l : List Nat) (h : ∀ x ∈ l, x < 65536) (c : UInt8) (t : List UInt8) (h1 : c ≠ 32) (h2 : isDig c = false) : lettersOf (stemB l ++ (c :: t)) = (l, (stemB l).length) := by
  induction l with
  | nil => rw [show stemB [] ++ (c :: t) = c :: t from rfl, letters_sign c t h1 h2]; rfl
  | cons x r ih =>
    have e : stemB (x :: r) ++ (c :: t) = decDigits x ++ (32 :: (stemB r ++ (c :: t))) := by simp [stemB]
    have e2 : (stemB (x :: r)).length = (decDigits x).length + ((stemB r).length + 1) := by simp [stemB] <;> omega
    rw [e, letters_dec x (h x (by simp)) _ (by simp [headDig, isDig]), letters_blank, ih (fun y hy => h y (by simp [hy])), e2]
/-- The loop's letters, from the front. -/
def loopR (l : List Nat) : List UInt8 := l.flatMap fun x => 32 :: decDigits x
theorem loopB_cons (x : Nat) (r : List Nat) : ∀ n, n ≤ r.length → loopB (x :: r) (n + 1) = decDigits x ++ loopR (r.take n) := by
  intro n
  induction n with
  | zero => intro _; simp [loopB, sepB, loopR]
  | succ n ih =>
    intro hn
    rw [loopB_succ, ih (by omega)]
    have hn' : n < r.length := by omega
    unfold loopR sepB
    rw [List.take_succ_eq_append_getElem hn', List.flatMap_append]
    simp [List.getD_eq_getElem?_getD, hn']
theorem letters_loop (r : List Nat) (h : ∀ x ∈ r, x < 65536) (c : UInt8) (t : List UInt8) (h1 : c ≠ 32) (h2 : isDig c = false) : lettersOf (loopR r ++ (c :: t)) = (r, (loopR r).length) := by
  induction r with
  | nil => rw [show loopR [] ++ (c :: t) = c :: t from rfl, letters_sign c t h1 h2]; rfl
  | cons x r ih =>
    have e : loopR (x :: r) ++ (c :: t) = 32 :: (decDigits x ++ (loopR r ++ (c :: t))) := by simp [loopR]
    have e2 : (loopR (x :: r)).length = (decDigits x).length + (loopR r).length + 1 := by simp [loopR] <;> omega
    have hd : headDig (loopR r ++ (c :: t)) = false := by
      cases r with
      | nil => exact h2
      | cons y r => simp [loopR, headDig, isDig]
    rw [e, letters_blank, letters_dec x (h x (by simp)) _ hd, ih (fun y hy => h y (by simp [hy])), e2]
/-- Read of Show is the word. -/
theorem word_show (w : Wd) (hs : ∀ x ∈ w.stem, x < 65536) (hl : ∀ x ∈ w.loop, x < 65536) (h0 : w.loop ≠ []) : wordF (showB w) = (some w, (showB w).length) := by
  obtain ⟨st, lp⟩ := w
  cases lp with
  | nil => exact absurd rfl h0
  | cons x r =>
    have e : showB ⟨st, x :: r⟩ = stemB st ++ (40 :: (decDigits x ++ (loopR r ++ [41]))) := by
      unfold showB
      rw [if_neg (by simp), List.length_cons, loopB_cons x r r.length (Nat.le_refl _), List.take_length]
      simp
    have l1 := letters_stem st hs 40 (decDigits x ++ (loopR r ++ [41])) (by decide) (by decide)
    have hd : headDig (loopR r ++ [41]) = false := by
      cases r with
      | nil => decide
      | cons y r => simp [loopR, headDig, isDig]
    have l2 : lettersOf (decDigits x ++ (loopR r ++ [41])) = (x :: r, (decDigits x).length + (loopR r).length) := by
      rw [letters_dec x (hl x (by simp)) _ hd, letters_loop r (fun y hy => hl y (by simp [hy])) 41 [] (by decide) (by decide)]
    unfold wordF
    rw [e, l1]
    simp only
    rw [show List.drop (stemB st).length (stemB st ++ 40 :: (decDigits x ++ (loopR r ++ [41]))) = 40 :: (decDigits x ++ (loopR r ++ [41])) from by simp]
    rw [if_pos (by rfl)]
    rw [show List.drop 1 ((40 : UInt8) :: (decDigits x ++ (loopR r ++ [41]))) = decDigits x ++ (loopR r ++ [41]) from rfl, l2]
    simp only
    rw [show List.drop ((decDigits x).length + (loopR r).length) (decDigits x ++ (loopR r ++ [41])) = [41] from by rw [← List.append_assoc, ← List.length_append]; simp]
    rw [if_neg (by simp), if_pos (by rfl)]
    have hlen : (stemB st).length + 1 + ((decDigits x).length + (loopR r).length) + 1 + blanksN ([41].drop 1) = (stemB st ++ 40 :: (decDigits x ++ (loopR r ++ [41]))).length := by
      simp [blanksN]; omega
    rw [if_pos hlen, hlen]
theorem read_show (w : Wd) (hs : ∀ x ∈ w.stem, x < 65536) (hl : ∀ x ∈ w.loop, x < 65536) (h0 : w.loop ≠ []) (hlen : w.stem.length + w.loop.length ≤ 10000) : readF (showB w) = (some w, 0) := by
  unfold readF
  have h1 := stemB_len w.stem hs
  have h2 := loopB_len w.loop hl w.loop.length
  have h3 : (showB w).length ≤ 65536 := by
    unfold showB
    split
    · simp
    · simp; omega
  rw [if_neg (by omega), word_show w hs hl h0]
end Go.Proofs.YtamfnefnaelgfaaDoor
