/- Infinite words that repeat: letters, periods, the one normal form. Plain mathematics, no walk. -/
namespace Go.Proofs.Ytcojlcbljhnbgaa

/-- From s on f has the period d. -/
def Per (f : Nat → Nat) (s d : Nat) : Prop := ∀ i, s ≤ i → f (i + d) = f i
theorem Per.mul {f : Nat → Nat} {s d : Nat} (h : Per f s d) (k i : Nat) (hi : s ≤ i) : f (i + k * d) = f i := by
  induction k with
  | zero => simp
  | succ k ih => rw [Nat.succ_mul, ← Nat.add_assoc, h _ (by omega), ih]
theorem Per.late {f : Nat → Nat} {s s' d : Nat} (h : Per f s d) (hs : s ≤ s') : Per f s' d := fun i hi => h i (by omega)
/-- A period that holds late holds as early as any does. -/
theorem Per.early {f : Nat → Nat} {s s' d d' : Nat} (h : Per f s d) (hd : 0 < d) (h' : Per f s' d') : Per f s d' := by
  intro i hi
  have e1 : f (i + s' * d + d') = f (i + s' * d) := h' _ (by have : s' ≤ s' * d := Nat.le_mul_of_pos_right _ hd; omega)
  have e2 : i + s' * d + d' = (i + d') + s' * d := by omega
  rw [e2, h.mul s' (i + d') (by omega), h.mul s' i hi] at e1
  exact e1
theorem Per.sub {f : Nat → Nat} {s a b : Nat} (ha : Per f s a) (hb : Per f s b) (hab : a ≤ b) : Per f s (b - a) := by
  intro i hi
  have h1 := ha (i + (b - a)) (by omega)
  rw [show i + (b - a) + a = i + b by omega, hb i hi] at h1
  exact h1.symm
theorem Per.mod {f : Nat → Nat} {s a : Nat} (ha : Per f s a) : ∀ (n b : Nat), b ≤ n → Per f s b → Per f s (b % a) := by
  intro n
  induction n with
  | zero => intro b hb h; have : b = 0 := by omega
            subst this; simpa using h
  | succ n ih =>
    intro b hb h
    rcases Nat.lt_or_ge b a with hlt | hge
    · rw [Nat.mod_eq_of_lt hlt]; exact h
    · rcases Nat.eq_zero_or_pos a with h0 | h0
      · subst h0; simpa using h
      · rw [Nat.mod_eq_sub_mod hge]
        exact ih _ (by omega) (ha.sub h hge)
/-- The least period. -/
def Least (f : Nat → Nat) (s d : Nat) : Prop := 0 < d ∧ Per f s d ∧ ∀ d', 0 < d' → Per f s d' → d ≤ d'
theorem Least.dvd {f : Nat → Nat} {s d b : Nat} (h : Least f s d) (hb : Per f s b) : d ∣ b := by
  have h1 := h.2.1.mod b b (Nat.le_refl _) hb
  rcases Nat.eq_zero_or_pos (b % d) with h0 | h0
  · exact Nat.dvd_of_mod_eq_zero h0
  · have := h.2.2 _ h0 h1
    have := Nat.mod_lt b h.1
    omega
theorem least_some {f : Nat → Nat} {s : Nat} : ∀ (n : Nat), 0 < n → Per f s n → ∃ d, Least f s d := by
  intro n
  induction n using Nat.strongRecOn with
  | ind n ih =>
    intro h0 hp
    by_cases h : ∃ m, m < n ∧ 0 < m ∧ Per f s m
    · obtain ⟨m, h1, h2, h3⟩ := h
      exact ih m h1 h2 h3
    · exact ⟨n, h0, hp, fun d' h1 h2 => by
        rcases Nat.lt_or_ge d' n with h3 | h3
        · exact absurd ⟨d', h3, h1, h2⟩ h
        · exact h3⟩
/-- f is written in its normal form: stem of s letters, loop of d. -/
def NormF (f : Nat → Nat) (s d : Nat) : Prop := Least f s d ∧ (s = 0 ∨ f (s - 1) ≠ f (s - 1 + d))
theorem NormF.le {f : Nat → Nat} {s d s' d' : Nat} (h : NormF f s d) (h' : NormF f s' d') : s ≤ s' := by
  rcases Nat.lt_or_ge s' s with hlt | hge
  · exfalso
    have hp : Per f s' d := h'.1.2.1.early h'.1.1 h.1.2.1
    rcases h.2 with h0 | h0
    · omega
    · exact h0 (hp _ (by omega)).symm
  · exact hge
theorem NormF.unique {f : Nat → Nat} {s d s' d' : Nat} (h : NormF f s d) (h' : NormF f s' d') : s = s' ∧ d = d' := by
  have e : s = s' := Nat.le_antisymm (h.le h') (h'.le h)
  subst e
  exact ⟨rfl, Nat.le_antisymm (h.1.2.2 _ h'.1.1 h'.1.2.1) (h'.1.2.2 _ h.1.1 h.1.2.1)⟩

/-- A word: a stem and a loop. -/
structure Wd where
  stem : List Nat
  loop : List Nat
/-- The letter at i. -/
def Wd.at (w : Wd) (i : Nat) : Nat := if i < w.stem.length then w.stem.getD i 0 else w.loop.getD ((i - w.stem.length) % w.loop.length) 0
theorem Wd.per (w : Wd) : Per w.at w.stem.length w.loop.length := by
  intro i hi
  unfold Wd.at
  rw [if_neg (by omega), if_neg (by omega)]
  congr 1
  rw [show i + w.loop.length - w.stem.length = i - w.stem.length + w.loop.length by omega, Nat.add_mod_right]
/-- A word is normal. -/
def Wd.Norm (w : Wd) : Prop := 0 < w.loop.length ∧ NormF w.at w.stem.length w.loop.length
theorem Wd.ext_at {a b : Wd} (hs : a.stem.length = b.stem.length) (hl : a.loop.length = b.loop.length) (h : ∀ i, a.at i = b.at i) (h0 : 0 < a.loop.length) : a = b := by
  obtain ⟨as, al⟩ := a
  obtain ⟨bs, bl⟩ := b
  simp only at hs hl h0
  have e1 : as = bs := by
    apply List.ext_getElem hs
    intro i h1 h2
    have := h i
    simp only [Wd.at] at this
    rw [if_pos h1, if_pos h2] at this
    simpa [List.getD_eq_getElem?_getD, h1, h2] using this
  have e2 : al = bl := by
    apply List.ext_getElem hl
    intro i h1 h2
    have := h (as.length + i)
    simp only [Wd.at] at this
    rw [if_neg (by omega), if_neg (by omega)] at this
    rw [show as.length + i - as.length = i by omega, show as.length + i - bs.length = i by omega, Nat.mod_eq_of_lt h1, Nat.mod_eq_of_lt h2] at this
    simpa [List.getD_eq_getElem?_getD, h1, h2] using this
  rw [e1, e2]
/-- One normal form of each infinite word. -/
theorem Wd.Norm.unique {a b : Wd} (ha : a.Norm) (hb : b.Norm) (h : ∀ i, a.at i = b.at i) : a = b := by
  have e : a.at = b.at := funext h
  have hb2 : NormF a.at b.stem.length b.loop.length := by rw [e]; exact hb.2
  obtain ⟨e1, e2⟩ := ha.2.unique hb2
  exact Wd.ext_at e1 e2 h ha.1
/-- Letters that agree so far agree for ever. -/
theorem per_agree {f g : Nat → Nat} {s a b : Nat} (ha : Per f s a) (hb : Per g s b) (ha0 : 0 < a) (hb0 : 0 < b) (h : ∀ i, i < s + a + b → f i = g i) : ∀ i, f i = g i := by
  have hg : Per g s a := by
    -- within the first b letters behind s, then by the period b
    have h1 : ∀ j, j < b → g (s + j + a) = g (s + j) := fun j hj => by
      rw [← h (s + j + a) (by omega), ha (s + j) (by omega), h (s + j) (by omega)]
    intro i hi
    have e : i = s + (i - s) % b + (i - s) / b * b := by
      have := Nat.mod_add_div (i - s) b
      rw [Nat.mul_comm] at this
      omega
    have h2 := hb.mul ((i - s) / b) (s + (i - s) % b) (by omega)
    have h3 := hb.mul ((i - s) / b) (s + (i - s) % b + a) (by omega)
    have h4 := h1 _ (Nat.mod_lt (i - s) hb0)
    rw [show i + a = s + (i - s) % b + a + (i - s) / b * b by omega, h3, h4, ← h2, ← e]
  intro i
  rcases Nat.lt_or_ge i s with hlt | hge
  · exact h i (by omega)
  · have e : i = s + (i - s) % a + (i - s) / a * a := by
      have := Nat.mod_add_div (i - s) a
      rw [Nat.mul_comm] at this
      omega
    have h2 := ha.mul ((i - s) / a) (s + (i - s) % a) (by omega)
    have h3 := hg.mul ((i - s) / a) (s + (i - s) % a) (by omega)
    have := Nat.mod_lt (i - s) ha0
    rw [← e] at h2 h3
    rw [h2, h3, h _ (by omega)]
theorem Wd.agree {a b : Wd} (ha : 0 < a.loop.length) (hb : 0 < b.loop.length) (h : ∀ i, i < max a.stem.length b.stem.length + a.loop.length + b.loop.length → a.at i = b.at i) : ∀ i, a.at i = b.at i :=
  per_agree (a.per.late (Nat.le_max_left _ _)) (b.per.late (Nat.le_max_right _ _)) ha hb h

/-- A list, again and again. -/
def cyc (l : List Nat) (i : Nat) : Nat := l.getD (i % l.length) 0
theorem cyc_per (l : List Nat) : Per (cyc l) 0 l.length := fun i _ => by unfold cyc; rw [Nat.add_mod_right]
/-- The first n letters of l are those behind them, as far as l goes. -/
def rep (l : List Nat) (n : Nat) : Prop := ∀ i, i + n < l.length → l.getD (i + n) 0 = l.getD i 0
theorem rep_iff (l : List Nat) (n k : Nat) (hl : l.length = n * k) (h0 : 0 < l.length) : rep l n ↔ Per (cyc l) 0 n := by
  constructor
  · intro h
    have hn : 0 < n := by
      rcases Nat.eq_zero_or_pos n with e | e
      · subst e; rw [Nat.zero_mul] at hl; omega
      · exact e
    -- every letter is that of its place modulo n
    have h1 : ∀ m j, j < n → j + m * n < l.length → l.getD (j + m * n) 0 = l.getD j 0 := by
      intro m
      induction m with
      | zero => intro j _ _; simp
      | succ m ih =>
        intro j hj hb
        rw [Nat.succ_mul, ← Nat.add_assoc] at hb ⊢
        rw [h _ hb, ih j hj (by omega)]
    have h2 : ∀ i, cyc l i = l.getD (i % n) 0 := by
      intro i
      unfold cyc
      have hlt := Nat.mod_lt i h0
      have e : i % l.length = (i % l.length) % n + (i % l.length) / n * n := by
        have := Nat.mod_add_div (i % l.length) n
        rw [Nat.mul_comm] at this
        omega
      have e2 : (i % l.length) % n = i % n := Nat.mod_mod_of_dvd _ ⟨k, hl⟩
      have h3 := h1 ((i % l.length) / n) ((i % l.length) % n) (Nat.mod_lt _ hn) (by omega)
      rw [← e, e2] at h3
      exact h3
    intro i _
    rw [h2, h2, Nat.add_mod_right]
  · intro h i hi
    have := h i (by omega)
    unfold cyc at this
    rwa [Nat.mod_eq_of_lt hi, Nat.mod_eq_of_lt (by omega)] at this
/-- The beginning of a list that is a period of it, again and again, is the list's. -/
theorem cyc_take (l : List Nat) (n k : Nat) (hl : l.length = n * k) (h0 : 0 < l.length) (h : Per (cyc l) 0 n) : ∀ i, cyc (l.take n) i = cyc l i := by
  have hn : 0 < n := by
    rcases Nat.eq_zero_or_pos n with e | e
    · subst e; rw [Nat.zero_mul] at hl; omega
    · exact e
  have hk : 0 < k := by
    rcases Nat.eq_zero_or_pos k with e | e
    · subst e; rw [Nat.mul_zero] at hl; omega
    · exact e
  have hle : n ≤ l.length := by rw [hl]; exact Nat.le_mul_of_pos_right _ hk
  intro i
  have e : i = i % n + i / n * n := by
    have := Nat.mod_add_div i n
    rw [Nat.mul_comm] at this
    omega
  have h2 := h.mul (i / n) (i % n) (by omega)
  rw [← e] at h2
  rw [h2]
  have hlt := Nat.mod_lt i hn
  unfold cyc
  rw [List.length_take, Nat.min_eq_left hle, Nat.mod_eq_of_lt (show i % n < l.length by omega)]
  simp [List.getD_eq_getElem?_getD, hlt]
theorem take_rep (l : List Nat) (n m : Nat) : rep (l.take n) m ↔ ∀ i, i + m < n → i + m < l.length → l.getD (i + m) 0 = l.getD i 0 := by
  unfold rep
  constructor
  · intro h i h1 h2
    have := h i (by simp; omega)
    simpa [List.getD_eq_getElem?_getD, List.getElem?_take, h1, show i < n by omega] using this
  · intro h i hi
    rw [List.length_take] at hi
    have h1 : i + m < n := by omega
    have := h i h1 (by omega)
    simpa [List.getD_eq_getElem?_getD, List.getElem?_take, h1, show i < n by omega] using this
end Go.Proofs.Ytcojlcbljhnbgaa
