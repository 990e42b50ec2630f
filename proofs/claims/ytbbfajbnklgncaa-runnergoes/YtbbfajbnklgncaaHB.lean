/- Infinite words that repeat: letters, periods, the one normal form. Plain mathematics, no walk. -/

namespace Go.Proofs.Ytbbfajbnklgncaa

/-- From s on f has the period d. -/
def Per (f : Nat → Nat) (s d : Nat) : Prop := ∀ i, s ≤ i → f (i + d) = f i
theorem Per.mul {f : Nat → Nat} {s d : Nat} (h : Per f s d) (k i : Nat) (hi : s ≤ i) : f (i + k * d) = f i := by
  induction k with
  | zero => simp
  | succ k ih => rw [Nat.succ_mul, ← Nat.add_assoc, h _ (by omega), ih]
theorem Per.late {f : Nat → Nat} {s s' d : Nat} (h : Per f s d) (hs : s ≤ s') : Per f s' d := fun i hi => h i (by omega)
/-- A period that holds late holds as early as any does. -/
theorem Per.early {f : Nat → Nat} {s s' d d' : Nat} (h : Per f s d) (hd : 0 < d) (h' : Per f s' d') : Per f s d' := by
  intro i hi
  have e1 : f (i + s' * d + d') = f (i + s' * d) := h' _ (by have : s' ≤ s' * d := Nat.le_mul_of_pos_right _ hd; omega)
  have e2 : i + s' * d + d' = (i + d') + s' * d := by omega
  rw [e2, h.mul s' (i + d') (by omega), h.mul s' i hi] at e1
  exact e1
theorem Per.sub {f : Nat → Nat} {s a b : Nat} (ha : Per f s a) (hb : Per f s b) (hab : a ≤ b) : Per f s (b - a) := by
  intro i hi
  have h1 := ha (i + (b - a)) (by omega)
  rw [show i + (b - a) + a = i + b by omega, hb i hi] at h1
  exact h1.symm
theorem Per.mod {f : Nat → Nat} {s a : Nat} (ha : Per f s a) : ∀ (n b : Nat), b ≤ n → Per f s b → Per f s (b % a) := by
  intro n
  induction n with
  | zero => intro b hb h; have : b = 0 := by omega
            subst this; simpa using h
  | succ n ih =>
    intro b hb h
    rcases Nat.lt_or_ge b a with hlt | hge
    · rw [Nat.mod_eq_of_lt hlt]; exact h
    · rcases Nat.eq_zero_or_pos a with h0 | h0
      · subst h0; simpa using h
      · rw [Nat.mod_eq_sub_mod hge]
        exact ih _ (by omega) (ha.sub h hge)
/-- The least period. -/
def Least (f : Nat → Nat) (s d : Nat) : Prop := 0 < d ∧ Per f s d ∧ ∀ d', 0 < d' → Per f s d' → d ≤ d'
theorem Least.dvd {f : Nat → Nat} {s d b : Nat} (h : Least f s d) (hb : Per f s b) : d ∣ b := by
  have h1 := h.2.1.mod b b (Nat.le_refl _) hb
  rcases Nat.eq_zero_or_pos (b % d) with h0 | h0
  · exact Nat.dvd_of_mod_eq_zero h0
  · have := h.2.2 _ h0 h1
    have := Nat.mod_lt b h.1
    omega
theorem least_some {f : Nat → Nat} {s : Nat} : ∀ (n : Nat), 0 < n → Per f s n → ∃ d, Least f s d := by
  intro n
  induction n using Nat.strongRecOn with
  | ind n ih =>
    intro h0 hp
    by_cases h : ∃ m, m < n ∧ 0 < m ∧ Per f s m
    · obtain ⟨m, h1, h2, h3⟩ := h
      exact ih m h1 h2 h3
    · exact ⟨n, h0, hp, fun d' h1 h2 => by
        rcases Nat.lt_or_ge d' n with h3 | h3
        · exact absurd ⟨d', h3, h1, h2⟩ h
        · exact h3⟩
/-- f is written in its normal form: stem of s letters, loop of d. -/
def NormF (f : Nat → Nat) (s d : Nat) : Prop := Least f s d ∧ (s = 0 ∨ f (s - 1) ≠ f (s - 1 + d))
theorem NormF.le {f : Nat → Nat} {s d s' d' : Nat} (h : NormF f s d) (h' : NormF f s' d') : s ≤ s' := by
  rcases Nat.lt_or_ge s' s with hlt | hge
  · exfalso
    have hp : Per f s' d := h'.1.2.1.early h'.1.1 h.1.2.1
    rcases h.2 with h0 | h0
    · omega
    · exact h0 (hp _ (by omega)).symm
  · exact hge
theorem NormF.unique {f : Nat → Nat} {s d s' d' : Nat} (h : NormF f s d) (h' : NormF f s' d') : s = s' ∧ d = d' := by
  have e : s = s' := Nat.le_antisymm (h.le h') (h'.le h)
  subst e
  exact ⟨rfl, Nat.le_antisymm (h.1.2.2 _ h'.1.1 h'.1.2.1) (h'.1.2.2 _ h.1.1 h.1.2.1)⟩

/-- A word: a stem and a loop. -/
structure Wd where
  stem : List Nat
  loop : List Nat
/-- The letter at i. -/
def Wd.at (w : Wd) (i : Nat) : Nat := if i < w.stem.length then w.stem.getD i 0 else w.loop.getD ((i - w.stem.length) % w.loop.length) 0
theorem Wd.per (w : Wd) : Per w.at w.stem.length w.loop.length := by
  intro i hi
  unfold Wd.at
  rw [if_neg (by omega), if_neg (by omega)]
  congr 1
  rw [show i + w.loop.length - w.stem.length = i - w.stem.length + w.loop.length by omega, Nat.add_mod_right]
/-- A word is normal. -/
def Wd.Norm (w : Wd) : Prop := 0 < w.loop.length ∧ NormF w.at w.stem.length w.loop.length
theorem Wd.ext_at {a b : Wd} (hs : a.stem.length = b.stem.length) (hl : a.loop.length = b.loop.length) (h : ∀ i, a.at i = b.at i) (h0 : 0 < a.loop.length) : a = b := by
  obtain ⟨as, al⟩ := a
  obtain ⟨bs, bl⟩ := b
  simp only at hs hl h0
  have e1 : as = bs := by
    apply List.ext_getElem hs
    intro i h1 h2
    have := h i
    simp only [Wd.at] at this
    rw [if_pos h1, if_pos h2] at this
    simpa [List.getD_eq_getElem?_getD, h1, h2] using this
  have e2 : al = bl := by
    apply List.ext_getElem hl
    intro i h1 h2
    have := h (as.length + i)
    simp only [Wd.at] at this
    rw [if_neg (by omega), if_neg (by omega)] at this
    rw [show as.length + i - as.length = i by omega, show as.length + i - bs.length = i by omega, Nat.mod_eq_of_lt h1, Nat.mod_eq_of_lt h2] at this
    simpa [List.getD_eq_getElem?_getD, h1, h2] using this
  rw [e1, e2]
/-- One normal form of each infinite word. -/
theorem Wd.Norm.unique {a b : Wd} (ha : a.Norm) (hb : b.Norm) (h : ∀ i, a.at i = b.at i) : a = b := by
  have e : a.at = b.at := funext h
  have hb2 : NormF a.at b.stem.length b.loop.length := by rw [e]; exact hb.2
  obtain ⟨e1, e2⟩ := ha.2.unique hb2
  exact Wd.ext_at e1 e2 h ha.1
/-- Letters that agree so far agree for ever. -/
theorem per_agree {f g : Nat → Nat} {s a b : Nat} (ha : Per f s a) (hb : Per g s b) (ha0 : 0 < a) (hb0 : 0 < b) (h : ∀ i, i < s + a + b → f i = g i) : ∀ i, f i = g i := by
  have hg : Per g s a := by
    -- within the first b letters behind s, then by the period b
    have h1 : ∀ j, j < b → g (s + j + a) = g (s + j) := fun j hj => by
      rw [← h (s + j + a) (by omega), ha (s + j) (by omega), h (s + j) (by omega)]
    intro i hi
    have e : i = s + (i - s) % b + (i - s) / b * b := by
      have := Nat.mod_add_div (i - s) b
      rw [Nat.mul_comm] at this
      omega
    have h2 := hb.mul ((i - s) / b) (s + (i - s) % b) (by omega)
    have h3 := hb.mul ((i - s) / b) (s + (i - s) % b + a) (by omega)
    have h4 := h1 _ (Nat.mod_lt (i - s) hb0)
    rw [show i + a = s + (i - s) % b + a + (i - s) / b * b by omega, h3, h4, ← h2, ← e]
  intro i
  rcases Nat.lt_or_ge i s with hlt | hge
  · exact h i (by omega)
  · have e : i = s + (i - s) % a + (i - s) / a * a := by
      have := Nat.mod_add_div (i - s) a
      rw [Nat.mul_comm] at this
      omega
    have h2 := ha.mul ((i - s) / a) (s + (i - s) % a) (by omega)
    have h3 := hg.mul ((i - s) / a) (s + (i - s) % a) (by omega)
    have := Nat.mod_lt (i - s) ha0
    rw [← e] at h2 h3
    rw [h2, h3, h _ (by omega)]
theorem Wd.agree {a b : Wd} (ha : 0 < a.loop.length) (hb : 0 < b.loop.length) (h : ∀ i, i < max a.stem.length b.stem.length + a.loop.length + b.loop.length → a.at i = b.at i) : ∀ i, a.at i = b.at i :=
  per_agree (a.per.late (Nat.le_max_left _ _)) (b.per.late (Nat.le_max_right _ _)) ha hb h

/-- A list, again and again. -/
def cyc (l : List Nat) (i : Nat) : Nat := l.getD (i % l.length) 0
theorem cyc_per (l : List Nat) : Per (cyc l) 0 l.length := fun i _ => by unfold cyc; rw [Nat.add_mod_right]
/-- The first n letters of l are those behind them, as far as l goes. -/
def rep (l : List Nat) (n : Nat) : Prop := ∀ i, i + n < l.length → l.getD (i + n) 0 = l.getD i 0
theorem rep_iff (l : List Nat) (n k : Nat) (hl : l.length = n * k) (h0 : 0 < l.length) : rep l n ↔ Per (cyc l) 0 n := by
  constructor
  · intro h
    have hn : 0 < n := by
      rcases Nat.eq_zero_or_pos n with e | e
      · subst e; rw [Nat.zero_mul] at hl; omega
      · exact e
    -- every letter is that of its place modulo n
    have h1 : ∀ m j, j < n → j + m * n < l.length → l.getD (j + m * n) 0 = l.getD j 0 := by
      intro m
      induction m with
      | zero => intro j _ _; simp
      | succ m ih =>
        intro j hj hb
        rw [Nat.succ_mul, ← Nat.add_assoc] at hb ⊢
        rw [h _ hb, ih j hj (by omega)]
    have h2 : ∀ i, cyc l i = l.getD (i % n) 0 := by
      intro i
      unfold cyc
      have hlt := Nat.mod_lt i h0
      have e : i % l.length = (i % l.length) % n + (i % l.length) / n * n := by
        have := Nat.mod_add_div (i % l.length) n
        rw [Nat.mul_comm] at this
        omega
      have e2 : (i % l.length) % n = i % n := Nat.mod_mod_of_dvd _ ⟨k, hl⟩
      have h3 := h1 ((i % l.length) / n) ((i % l.length) % n) (Nat.mod_lt _ hn) (by omega)
      rw [← e, e2] at h3
      exact h3
    intro i _
    rw [h2, h2, Nat.add_mod_right]
  · intro h i hi
    have := h i (by omega)
    unfold cyc at this
    rwa [Nat.mod_eq_of_lt hi, Nat.mod_eq_of_lt (by omega)] at this
/-- The beginning of a list that is a period of it, again and again, is the list's. -/
theorem cyc_take (l : List Nat) (n k : Nat) (hl : l.length = n * k) (h0 : 0 < l.length) (h : Per (cyc l) 0 n) : ∀ i, cyc (l.take n) i = cyc l i := by
  have hn : 0 < n := by
    rcases Nat.eq_zero_or_pos n with e | e
    · subst e; rw [Nat.zero_mul] at hl; omega
    · exact e
  have hk : 0 < k := by
    rcases Nat.eq_zero_or_pos k with e | e
    · subst e; rw [Nat.mul_zero] at hl; omega
    · exact e
  have hle : n ≤ l.length := by rw [hl]; exact Nat.le_mul_of_pos_right _ hk
  intro i
  have e : i = i % n + i / n * n := by
    have := Nat.mod_add_div i n
    rw [Nat.mul_comm] at this
    omega
  have h2 := h.mul (i / n) (i % n) (by omega)
  rw [← e] at h2
  rw [h2]
  have hlt := Nat.mod_lt i hn
  unfold cyc
  rw [List.length_take, Nat.min_eq_left hle, Nat.mod_eq_of_lt (show i % n < l.length by omega)]
  simp [List.getD_eq_getElem?_getD, hlt]
theorem take_rep (l : List Nat) (n m : Nat) : rep (l.take n) m ↔ ∀ i, i + m < n → i + m < l.length → l.getD (i + m) 0 = l.getD i 0 := by
  unfold rep
  constructor
  · intro h i h1 h2
    have := h i (by simp; omega)
    simpa [List.getD_eq_getElem?_getD, List.getElem?_take, h1, show i < n by omega] using this
  · intro h i hi
    rw [List.length_take] at hi
    have h1 : i + m < n := by omega
    have := h i h1 (by omega)
    simpa [List.getD_eq_getElem?_getD, List.getElem?_take, h1, show i < n by omega] using this
end Go.Proofs.Ytbbfajbnklgncaa

/- The shortest period by prime factors; the stem that goes into the loop. Plain mathematics, no walk. -/
namespace Go.Proofs.Ytbbfajbnklgncaa

/-- What the search of the period has come to. -/
structure PerInv (l : List Nat) (d sh left p : Nat) : Prop where
  pos : 0 < left
  two : 2 ≤ p
  ls : left ∣ sh
  sd : sh ∣ d * left
  ds : d ∣ sh
  sl : sh ∣ l.length
  small : ∀ q, 2 ≤ q → q < p → ¬ q ∣ left
theorem PerInv.start {l : List Nat} {d : Nat} (h0 : 0 < l.length) (h : Least (cyc l) 0 d) : PerInv l d l.length l.length 2 :=
  ⟨h0, by omega, Nat.dvd_refl _, Nat.dvd_mul_left _ _, h.dvd (cyc_per l), Nat.dvd_refl _, fun q h1 h2 => by omega⟩
theorem PerInv.le {l : List Nat} {d sh left p : Nat} (h : PerInv l d sh left p) (h1 : 1 < left) : p ≤ left := by
  rcases Nat.lt_or_ge left p with hlt | hge
  · exact absurd (Nat.dvd_refl left) (h.small left (by omega) hlt)
  · exact hge
theorem PerInv.lens {l : List Nat} {d sh left p : Nat} (h : PerInv l d sh left p) (h0 : 0 < l.length) : 0 < sh ∧ left ≤ sh ∧ sh ≤ l.length := by
  have h1 := Nat.le_of_dvd h0 h.sl
  have h2 : 0 < sh := Nat.pos_of_dvd_of_pos h.sl h0
  exact ⟨h2, Nat.le_of_dvd h2 h.ls, h1⟩
theorem PerInv.next {l : List Nat} {d sh left p : Nat} (h : PerInv l d sh left p) (hn : ¬ p ∣ left) : PerInv l d sh left (p + 1) :=
  ⟨h.pos, by have := h.two; omega, h.ls, h.sd, h.ds, h.sl, fun q h1 h2 => by
    rcases Nat.lt_or_ge q p with h3 | h3
    · exact h.small q h1 h3
    · obtain rfl : q = p := by omega
      exact hn⟩
theorem PerInv.done {l : List Nat} {d sh left p : Nat} (h : PerInv l d sh left p) (h1 : left ≤ 1) : sh = d := by
  have e : left = 1 := by have := h.pos; omega
  have h2 := h.sd
  rw [e, Nat.mul_one] at h2
  exact Nat.dvd_antisymm h2 h.ds
/-- A divisor is a period of the beginning just if it is one of the whole. -/
theorem rep_take_iff {l : List Nat} {d sh p : Nat} (h0 : 0 < l.length) (h : Least (cyc l) 0 d) (hd : d ∣ sh) (hs : sh ∣ l.length) (hp : p ∣ sh) : rep (l.take sh) (sh / p) ↔ d ∣ sh / p := by
  obtain ⟨k, hk⟩ := hs
  obtain ⟨m, hm⟩ := hd
  have hsh : 0 < sh := Nat.pos_of_dvd_of_pos ⟨k, hk⟩ h0
  have hle : sh ≤ l.length := Nat.le_of_dvd h0 ⟨k, hk⟩
  have hlen : (l.take sh).length = sh := by rw [List.length_take]; omega
  have hper : Per (cyc l) 0 sh := by
    intro i _
    rw [hm, Nat.mul_comm]
    exact h.2.1.mul m i (by omega)
  have hcyc := cyc_take l sh k hk h0 hper
  rw [rep_iff (l.take sh) (sh / p) p (by rw [hlen, Nat.div_mul_cancel hp]) (by omega), funext hcyc]
  constructor
  · exact h.dvd
  · rintro ⟨q, hq⟩ i _
    rw [hq, Nat.mul_comm]
    exact h.2.1.mul q i (by omega)
theorem coprime_of_small {s p left : Nat} (hp2 : 2 ≤ p) (hpl : p ∣ left) (hs : ¬ p ∣ s) (small : ∀ q, 2 ≤ q → q < p → ¬ q ∣ left) : Nat.gcd s p = 1 := by
  have h1 : Nat.gcd s p ∣ p := Nat.gcd_dvd_right _ _
  have h2 : Nat.gcd s p ∣ s := Nat.gcd_dvd_left _ _
  have h3 : Nat.gcd s p ≤ p := Nat.le_of_dvd (by omega) h1
  have h4 : 0 < Nat.gcd s p := Nat.gcd_pos_of_pos_right _ (by omega)
  rcases Nat.lt_or_ge (Nat.gcd s p) 2 with h5 | h5
  · omega
  · rcases Nat.lt_or_ge (Nat.gcd s p) p with h6 | h6
    · exact absurd (Nat.dvd_trans h1 hpl) (small _ h5 h6)
    · have e : Nat.gcd s p = p := by omega
      rw [e] at h2
      exact absurd h2 hs
theorem PerInv.yes {l : List Nat} {d sh left p : Nat} (h : PerInv l d sh left p) (hp : p ∣ left) (hd : d ∣ sh / p) : PerInv l d (sh / p) (left / p) p := by
  obtain ⟨a, ha⟩ := hp
  obtain ⟨b, hb⟩ := h.ls
  have hp0 : 0 < p := by have := h.two; omega
  have e1 : left / p = a := by rw [ha, Nat.mul_div_cancel_left _ hp0]
  have e2 : sh / p = a * b := by rw [hb, ha, Nat.mul_assoc, Nat.mul_div_cancel_left _ hp0]
  refine ⟨?_, h.two, ?_, ?_, hd, ?_, ?_⟩
  · rw [e1]
    rcases Nat.eq_zero_or_pos a with e | e
    · have := h.pos; rw [ha, e] at this; omega
    · exact e
  · rw [e1, e2]; exact Nat.dvd_mul_right _ _
  · have := h.sd
    rw [e1, e2]
    rw [hb, ha, Nat.mul_assoc, show d * (p * a) = p * (d * a) by rw [Nat.mul_left_comm]] at this
    exact Nat.dvd_of_mul_dvd_mul_left hp0 this
  · exact Nat.dvd_trans ⟨p, by rw [e2, hb, ha]; rw [Nat.mul_assoc, Nat.mul_comm p]⟩ h.sl
  · intro q h1 h2 h3
    exact h.small q h1 h2 (Nat.dvd_trans h3 ⟨p, by rw [e1, ha, Nat.mul_comm]⟩)
theorem PerInv.no {l : List Nat} {d sh left p : Nat} (h : PerInv l d sh left p) (hd0 : 0 < d) (hp : p ∣ left) (hd : ¬ d ∣ sh / p) : PerInv l d sh (left / p) p := by
  obtain ⟨a, ha⟩ := hp
  obtain ⟨s, hs⟩ := h.ds
  have hp0 : 0 < p := by have := h.two; omega
  have e1 : left / p = a := by rw [ha, Nat.mul_div_cancel_left _ hp0]
  have hps : ¬ p ∣ s := by
    rintro ⟨s', e⟩
    apply hd
    rw [hs, e, show d * (p * s') = p * (d * s') by rw [Nat.mul_left_comm], Nat.mul_div_cancel_left _ hp0]
    exact Nat.dvd_mul_right _ _
  have hsl : s ∣ p * a := by
    have := h.sd
    rw [hs, ha] at this
    exact Nat.dvd_of_mul_dvd_mul_left hd0 this
  have hco := coprime_of_small h.two ⟨a, ha⟩ hps h.small
  have hsa : s ∣ a := Nat.Coprime.dvd_of_dvd_mul_left hco hsl
  refine ⟨?_, h.two, ?_, ?_, h.ds, h.sl, ?_⟩
  · rw [e1]
    rcases Nat.eq_zero_or_pos a with e | e
    · have := h.pos; rw [ha, e] at this; omega
    · exact e
  · rw [e1]; exact Nat.dvd_trans ⟨p, by rw [ha, Nat.mul_comm]⟩ h.ls
  · rw [e1, hs]; exact Nat.mul_dvd_mul_left d hsa
  · intro q h1 h2 h3
    exact h.small q h1 h2 (Nat.dvd_trans h3 ⟨p, by rw [e1, ha, Nat.mul_comm]⟩)

/-- A list from its n-th letter on, and behind its end the letters ahead of that. -/
def rot (l : List Nat) (n : Nat) : List Nat := l.drop n ++ l.take n
theorem rot_length (l : List Nat) (n : Nat) : (rot l n).length = l.length := by
  unfold rot; rw [List.length_append, List.length_drop, List.length_take]; omega
theorem cyc_rot (l : List Nat) (n j : Nat) (hn : n < l.length) : cyc (rot l n) j = cyc l (n + j) := by
  unfold cyc
  rw [rot_length]
  have hj := Nat.mod_lt j (show 0 < l.length by omega)
  generalize hr : j % l.length = r at hj
  have e : (n + j) % l.length = if n + r < l.length then n + r else n + r - l.length := by
    rw [Nat.add_mod, hr, Nat.mod_eq_of_lt hn]
    split
    · exact Nat.mod_eq_of_lt (by assumption)
    · rw [Nat.mod_eq_sub_mod (by omega)]; exact Nat.mod_eq_of_lt (by omega)
  rw [e]
  unfold rot
  rw [List.getD_eq_getElem?_getD, List.getElem?_append, List.length_drop, List.getD_eq_getElem?_getD]
  split
  · rw [if_pos (by omega), List.getElem?_drop]
  · rw [if_neg (by omega), List.getElem?_take, if_pos (by omega)]
    congr 2
    omega
theorem Wd.at_lo {w : Wd} {i : Nat} (h : i < w.stem.length) : w.at i = w.stem.getD i 0 := by unfold Wd.at; rw [if_pos h]
theorem Wd.at_hi {w : Wd} {i : Nat} (h : w.stem.length ≤ i) : w.at i = cyc w.loop (i - w.stem.length) := by unfold Wd.at cyc; rw [if_neg (by omega)]
theorem getD_take (l : List Nat) (m i : Nat) (h : i < m) : (l.take m).getD i 0 = l.getD i 0 := by
  rw [List.getD_eq_getElem?_getD, List.getElem?_take, if_pos h, List.getD_eq_getElem?_getD]

/-- What the search of the stem's end has come to: m letters of it are left; the loop begins at its letter 'first'. -/
structure StripInv (st l : List Nat) (m first : Nat) : Prop where
  le : m ≤ st.length
  lt : first < l.length
  same : ∀ i, (Wd.mk (st.take m) (rot l first)).at i = (Wd.mk st l).at i
theorem StripInv.start (st l : List Nat) (h0 : 0 < l.length) : StripInv st l st.length 0 :=
  ⟨Nat.le_refl _, h0, fun i => by rw [List.take_length]; unfold rot; simp⟩
theorem last_lt {d first : Nat} (h : first < d) : (first + d - 1) % d < d := Nat.mod_lt _ (by omega)
theorem StripInv.step {st l : List Nat} {m first : Nat} (h : StripInv st l m first) (hm : 0 < m) (hc : st.getD (m - 1) 0 = l.getD ((first + l.length - 1) % l.length) 0) : StripInv st l (m - 1) ((first + l.length - 1) % l.length) := by
  have hl := h.lt
  have h1 := h.le
  have hlast := last_lt hl
  refine ⟨by omega, hlast, fun i => ?_⟩
  rw [← h.same i]
  have n1 : (st.take m).length = m := by rw [List.length_take]; omega
  have n2 : (st.take (m - 1)).length = m - 1 := by rw [List.length_take]; omega
  rcases Nat.lt_or_ge i (m - 1) with hi | hi
  · rw [Wd.at_lo (by show i < (st.take (m - 1)).length; omega), Wd.at_lo (by show i < (st.take m).length; omega)]
    show (st.take (m - 1)).getD i 0 = (st.take m).getD i 0
    rw [getD_take _ _ _ hi, getD_take _ _ _ (by omega)]
  · rw [Wd.at_hi (by show (st.take (m - 1)).length ≤ i; omega)]
    show cyc (rot l _) (i - (st.take (m - 1)).length) = _
    rw [n2, cyc_rot _ _ _ hlast]
    rcases Nat.lt_or_ge i m with hi2 | hi2
    · obtain rfl : i = m - 1 := by omega
      rw [Wd.at_lo (by show m - 1 < (st.take m).length; omega)]
      show _ = (st.take m).getD (m - 1) 0
      rw [getD_take _ _ _ (by omega), hc]
      unfold cyc
      rw [Nat.sub_self, Nat.add_zero, Nat.mod_eq_of_lt hlast]
    · rw [Wd.at_hi (by show (st.take m).length ≤ i; omega)]
      show _ = cyc (rot l first) (i - (st.take m).length)
      rw [n1, cyc_rot _ _ _ hl]
      rcases Nat.eq_zero_or_pos first with e0 | e0
      · subst e0
        have e : (0 + l.length - 1) % l.length = l.length - 1 := by rw [Nat.zero_add]; exact Nat.mod_eq_of_lt (by omega)
        rw [e, show l.length - 1 + (i - (m - 1)) = 0 + (i - m) + l.length by omega]
        exact cyc_per l _ (by omega)
      · have e : (first + l.length - 1) % l.length = first - 1 := by rw [Nat.mod_eq_sub_mod (by omega)]; rw [show first + l.length - 1 - l.length = first - 1 by omega]; exact Nat.mod_eq_of_lt (by omega)
        rw [e, show first - 1 + (i - (m - 1)) = first + (i - m) by omega]
theorem least_tail {f g : Nat → Nat} {t₀ s t d : Nat} (h : Least g t₀ d) (ht : t₀ ≤ t) (e : ∀ j, f (s + j) = g (t + j)) : Least f s d := by
  refine ⟨h.1, fun i hi => ?_, fun d' h0 hp => ?_⟩
  · have e1 := e (i - s)
    have e2 := e (i - s + d)
    rw [show s + (i - s) = i by omega] at e1
    rw [show s + (i - s + d) = i + d by omega] at e2
    rw [e1, e2, ← Nat.add_assoc]
    exact h.2.1 _ (by omega)
  · refine h.2.2 d' h0 (h.2.1.early h.1 (s' := t) fun i hi => ?_)
    have e1 := e (i - t)
    have e2 := e (i - t + d')
    rw [show t + (i - t) = i by omega] at e1
    rw [show t + (i - t + d') = i + d' by omega] at e2
    rw [← e1, ← e2, ← Nat.add_assoc]
    exact hp _ (by omega)
/-- Where the search has ended the word is normal. -/
theorem StripInv.norm {st l : List Nat} {m first : Nat} (h : StripInv st l m first) (hL : Least (cyc l) 0 l.length) (he : m = 0 ∨ st.getD (m - 1) 0 ≠ l.getD ((first + l.length - 1) % l.length) 0) : (Wd.mk (st.take m) (rot l first)).Norm := by
  have hl := h.lt
  have h1 := h.le
  have n1 : (st.take m).length = m := by rw [List.length_take]; omega
  have hhi : ∀ j, (Wd.mk (st.take m) (rot l first)).at (m + j) = cyc l (first + j) := fun j => by
    rw [Wd.at_hi (by show (st.take m).length ≤ m + j; omega)]
    show cyc (rot l first) (m + j - (st.take m).length) = _
    rw [n1, cyc_rot _ _ _ hl, show m + j - m = j by omega]
  refine ⟨by show 0 < (rot l first).length; rw [rot_length]; omega, ?_⟩
  show NormF _ (st.take m).length (rot l first).length
  rw [n1, rot_length]
  refine ⟨least_tail hL (Nat.zero_le _) hhi, ?_⟩
  rcases he with he | he
  · exact .inl he
  · rcases Nat.eq_zero_or_pos m with e0 | e0
    · exact .inl e0
    · right
      rw [Wd.at_lo (by show m - 1 < (st.take m).length; omega)]
      show (st.take m).getD (m - 1) 0 ≠ _
      rw [getD_take _ _ _ (by omega), show m - 1 + l.length = m + (l.length - 1) by omega, hhi]
      unfold cyc
      rw [show first + (l.length - 1) = first + l.length - 1 by omega]
      exact he
/-- The loop cut to its period is the same word. -/
theorem at_cut {st l : List Nat} {d : Nat} (h0 : 0 < l.length) (h : Least (cyc l) 0 d) : (∀ i, (Wd.mk st (l.take d)).at i = (Wd.mk st l).at i) ∧ (l.take d).length = d ∧ Least (cyc (l.take d)) 0 (l.take d).length := by
  obtain ⟨k, hk⟩ := h.dvd (cyc_per l)
  have hle : d ≤ l.length := Nat.le_of_dvd h0 ⟨k, hk⟩
  have hc := cyc_take l d k hk h0 h.2.1
  have hlen : (l.take d).length = d := by rw [List.length_take]; omega
  refine ⟨fun i => ?_, hlen, ?_⟩
  · rcases Nat.lt_or_ge i st.length with hi | hi
    · rw [Wd.at_lo hi, Wd.at_lo hi]
    · rw [Wd.at_hi hi, Wd.at_hi hi]
      exact hc _
  · rw [hlen, funext hc]; exact h
theorem norm_self {w : Wd} (h0 : 0 < w.loop.length) : w.Norm ↔ Least (cyc w.loop) 0 w.loop.length ∧ (w.stem.length = 0 ∨ w.stem.getD (w.stem.length - 1) 0 ≠ w.loop.getD (w.loop.length - 1) 0) := by
  have hhi : ∀ j, w.at (w.stem.length + j) = cyc w.loop (0 + j) := fun j => by rw [Wd.at_hi (by omega), Nat.zero_add, show w.stem.length + j - w.stem.length = j by omega]
  have e : 0 < w.stem.length → (w.at (w.stem.length - 1) ≠ w.at (w.stem.length - 1 + w.loop.length) ↔ w.stem.getD (w.stem.length - 1) 0 ≠ w.loop.getD (w.loop.length - 1) 0) := fun hs => by
    rw [Wd.at_lo (by omega), show w.stem.length - 1 + w.loop.length = w.stem.length + (w.loop.length - 1) by omega, hhi]
    unfold cyc
    rw [Nat.zero_add, Nat.mod_eq_of_lt (by omega)]
  constructor
  · rintro ⟨_, hL, hs⟩
    refine ⟨least_tail hL (Nat.le_refl _) (fun j => (hhi j).symm), ?_⟩
    rcases Nat.eq_zero_or_pos w.stem.length with h | h
    · exact .inl h
    · rcases hs with hs | hs
      · exact .inl hs
      · exact .inr ((e h).1 hs)
  · rintro ⟨hL, hs⟩
    refine ⟨h0, least_tail hL (Nat.zero_le _) hhi, ?_⟩
    rcases Nat.eq_zero_or_pos w.stem.length with h | h
    · exact .inl h
    · rcases hs with hs | hs
      · exact .inl hs
      · exact .inr ((e h).2 hs)
end Go.Proofs.Ytbbfajbnklgncaa
