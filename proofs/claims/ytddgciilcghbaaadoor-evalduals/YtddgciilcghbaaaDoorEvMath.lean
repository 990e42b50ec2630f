/- What a formula means, number by number; and a row that is found backwards over the places of a word: that it tells the same. Plain maths. -/
import Derived.Test.YtddgciilcghbaaaDoorTr
import Derived.Test.YtddgciilcghbaaaDoorWdNorm
namespace Go.Proofs.YtddgciilcghbaaaDoor

/-- Some number from i on has a, and all before it b. -/
def untilP (b a : Nat → Prop) (i : Nat) : Prop := ∃ k, a (i + k) ∧ ∀ j, j < k → b (i + j)
theorem untilP_congr {b b' a a' : Nat → Prop} (hb : ∀ i, b i ↔ b' i) (ha : ∀ i, a i ↔ a' i) (i : Nat) : untilP b a i ↔ untilP b' a' i := by
  rw [show b = b' from funext fun i => propext (hb i), show a = a' from funext fun i => propext (ha i)]
theorem untilP_or (b a : Nat → Prop) (i : Nat) : untilP (fun j => a j ∨ b j) a i ↔ untilP b a i := by
  constructor
  · rintro ⟨k, ha, hb⟩
    induction k using Nat.strongRecOn with
    | ind k ih =>
      by_cases h : ∃ j, j < k ∧ a (i + j)
      · obtain ⟨j, hj, haj⟩ := h
        exact ih j hj haj (fun m hm => hb m (by omega))
      · exact ⟨k, ha, fun j hj => (hb j hj).resolve_left (fun q => h ⟨j, hj, q⟩)⟩
  · rintro ⟨k, ha, hb⟩
    exact ⟨k, ha, fun j hj => .inr (hb j hj)⟩

/-- The place behind a place; the place of a number. -/
def Wd.len (q : Wd) : Nat := q.stem.length + q.loop.length
def nxt (q : Wd) (i : Nat) : Nat := if i + 1 = q.len then q.stem.length else i + 1
def plc (q : Wd) (i : Nat) : Nat := if i < q.stem.length then i else q.stem.length + (i - q.stem.length) % q.loop.length
theorem plc_lt {q : Wd} (h0 : 0 < q.loop.length) (i : Nat) : plc q i < q.len := by
  unfold plc Wd.len
  have := Nat.mod_lt (i - q.stem.length) h0
  split <;> omega
theorem plc_of_lt {q : Wd} {i : Nat} (h : i < q.len) : plc q i = i := by
  unfold plc Wd.len at *
  split
  · rfl
  · rw [Nat.mod_eq_of_lt (by omega)]; omega
theorem nxt_lt {q : Wd} (h0 : 0 < q.loop.length) {i : Nat} (h : i < q.len) : nxt q i < q.len := by unfold nxt Wd.len at *; split <;> omega
theorem plc_succ {q : Wd} (h0 : 0 < q.loop.length) (i : Nat) : plc q (i + 1) = nxt q (plc q i) := by
  unfold plc nxt Wd.len
  by_cases h : i < q.stem.length
  · rw [if_pos h]
    by_cases h1 : i + 1 < q.stem.length
    · rw [if_pos h1, if_neg (by omega)]
    · rw [if_neg h1, if_neg (by omega), show i + 1 - q.stem.length = 0 by omega, Nat.zero_mod]; omega
  · rw [if_neg h, if_neg (by omega)]
    obtain ⟨m, hm⟩ : ∃ m, i - q.stem.length = m := ⟨_, rfl⟩
    rw [show i + 1 - q.stem.length = m + 1 by omega, hm]
    have hl := Nat.mod_lt m h0
    have hd : (m + 1) % q.loop.length = (m % q.loop.length + 1) % q.loop.length := by rw [Nat.add_mod m 1, Nat.add_mod (m % _) 1, Nat.mod_mod]
    split
    · rw [hd, show m % q.loop.length + 1 = q.loop.length by omega, Nat.mod_self]; rfl
    · rw [hd, Nat.mod_eq_of_lt (by omega)]; omega
theorem at_plc {q : Wd} (i : Nat) : q.at (plc q i) = q.at i := by
  unfold plc Wd.at
  by_cases h : i < q.stem.length
  · simp [h]
  · simp only [if_neg h]
    rw [if_neg (by omega), show q.stem.length + (i - q.stem.length) % q.loop.length - q.stem.length = (i - q.stem.length) % q.loop.length by omega, Nat.mod_mod]
/-- Each place of the loop comes again. -/
theorem plc_again {q : Wd} (h0 : 0 < q.loop.length) (i : Nat) {j : Nat} (h1 : q.stem.length ≤ j) (h2 : j < q.len) : ∃ k, plc q (i + k) = j := by
  have hle : i ≤ i * q.loop.length := Nat.le_mul_of_pos_right i h0
  refine ⟨j + i * q.loop.length - i, ?_⟩
  rw [show i + (j + i * q.loop.length - i) = j + i * q.loop.length by omega]
  unfold plc Wd.len at *
  rw [if_neg (by omega), show j + i * q.loop.length - q.stem.length = (j - q.stem.length) + i * q.loop.length by omega, Nat.add_mul_mod_self_right, Nat.mod_eq_of_lt (by omega)]
  omega

/-- One way backwards: k places, from the last on. -/
def upd (r : Nat → Bool) (i : Nat) (b : Bool) : Nat → Bool := fun j => if j = i then b else r j
theorem upd_same (r : Nat → Bool) (i : Nat) (b : Bool) : upd r i b i = b := by simp [upd]
theorem upd_other (r : Nat → Bool) {i j : Nat} (b : Bool) (h : j ≠ i) : upd r i b j = r j := by simp [upd, h]
def pass (q : Wd) (hold : Nat → Bool → Bool) (r : Nat → Bool) : Nat → (Nat → Bool)
  | 0 => r
  | k + 1 => upd (pass q hold r k) (q.len - 1 - k) (hold (q.len - 1 - k) (pass q hold r k (nxt q (q.len - 1 - k))))
theorem pass_same {q : Wd} {hold : Nat → Bool → Bool} {r : Nat → Bool} : ∀ (k : Nat), k ≤ q.len → ∀ j, j < q.len - k → pass q hold r k j = r j
  | 0, _, _, _ => rfl
  | k + 1, hk, j, hj => by
    rw [pass, upd_other _ _ (by omega)]
    exact pass_same k (by omega) j (by omega)
theorem pass_step {q : Wd} {hold : Nat → Bool → Bool} {r : Nat → Bool} : ∀ (k : Nat), k ≤ q.len → ∀ i, q.len - k ≤ i → i + 1 < q.len → pass q hold r k i = hold i (pass q hold r k (i + 1))
  | 0, _, i, h1, h2 => by omega
  | k + 1, hk, i, h1, h2 => by
    rw [pass]
    by_cases e : i = q.len - 1 - k
    · subst e
      rw [upd_same, upd_other _ _ (by omega)]
      rw [show nxt q (q.len - 1 - k) = q.len - 1 - k + 1 from by unfold nxt; rw [if_neg (by omega)]]
    · rw [upd_other _ _ e, upd_other _ _ (by omega)]
      exact pass_step k (by omega) i (by omega) h2
theorem pass_last {q : Wd} (h0 : 0 < q.loop.length) {hold : Nat → Bool → Bool} {r : Nat → Bool} : ∀ (k : Nat), k + 1 ≤ q.len → pass q hold r (k + 1) (q.len - 1) = hold (q.len - 1) (r q.stem.length)
  | 0, hk => by
    rw [pass, show q.len - 1 - 0 = q.len - 1 from rfl, upd_same, pass]
    rw [show nxt q (q.len - 1) = q.stem.length from by unfold nxt; rw [if_pos (by omega)]]
  | k + 1, hk => by
    rw [pass, upd_other _ _ (by omega)]
    exact pass_last h0 k (by omega)
/-- The row that is found. -/
def backR (q : Wd) (forever : Bool) (hold : Nat → Bool → Bool) : Nat → Bool := pass q hold (pass q hold (upd (fun _ => false) q.stem.length forever) q.loop.length) q.len

def Mono (hold : Nat → Bool → Bool) : Prop := ∀ i, hold i false = true → hold i true = true
/-- A way down the loop, from what is said behind it. -/
theorem chain_mono {hold : Nat → Bool → Bool} (hm : Mono hold) {r r' : Nat → Bool} {s e : Nat} (h : ∀ i, s ≤ i → i < e → r i = hold i (r (i + 1))) (h' : ∀ i, s ≤ i → i < e → r' i = hold i (r' (i + 1))) (hs : r e = true → r' e = true) : ∀ k, k ≤ e - s → r (e - k) = true → r' (e - k) = true
  | 0, _, q => hs q
  | k + 1, hk, q => by
    have ih := chain_mono hm h h' hs k (by omega)
    rw [h (e - (k + 1)) (by omega) (by omega), show e - (k + 1) + 1 = e - k by omega] at q
    rw [h' (e - (k + 1)) (by omega) (by omega), show e - (k + 1) + 1 = e - k by omega]
    cases h1 : r (e - k) with
    | true => rw [h1] at q; rw [ih h1]; exact q
    | false =>
      rw [h1] at q
      cases r' (e - k) with
      | true => exact hm _ q
      | false => exact q
theorem chain_id {hold : Nat → Bool → Bool} {r : Nat → Bool} {s e : Nat} (h : ∀ i, s ≤ i → i < e → r i = hold i (r (i + 1))) (hid : ∀ i, s ≤ i → i < e → ∀ l, hold i l = l) : ∀ k, k ≤ e - s → r (e - k) = r e
  | 0, _ => rfl
  | k + 1, hk => by
    rw [h (e - (k + 1)) (by omega) (by omega), hid _ (by omega) (by omega), show e - (k + 1) + 1 = e - k by omega]
    exact chain_id h hid k (by omega)
structure BackIs (q : Wd) (forever : Bool) (hold : Nat → Bool → Bool) (r : Nat → Bool) : Prop where
  fix : ∀ i, i < q.len → r i = hold i (r (nxt q i))
  rest : (∀ i, q.stem.length ≤ i → i < q.len → ∀ l, hold i l = l) → r q.stem.length = forever
theorem backR_is {q : Wd} (h0 : 0 < q.loop.length) {hold : Nat → Bool → Bool} (hm : Mono hold) (forever : Bool) : BackIs q forever hold (backR q forever hold) := by
  obtain ⟨r0, hr0⟩ : ∃ r0, upd (fun _ => false) q.stem.length forever = r0 := ⟨_, rfl⟩
  obtain ⟨r1, hr1⟩ : ∃ r1, pass q hold r0 q.loop.length = r1 := ⟨_, rfl⟩
  obtain ⟨r2, hr2⟩ : ∃ r2, pass q hold r1 q.len = r2 := ⟨_, rfl⟩
  have hlen : q.len = q.stem.length + q.loop.length := rfl
  have e0 : r0 q.stem.length = forever := by rw [← hr0, upd_same]
  have s1 : ∀ i, q.stem.length ≤ i → i < q.len - 1 → r1 i = hold i (r1 (i + 1)) := fun i h1 h2 => by rw [← hr1]; exact pass_step _ (by omega) i (by omega) (by omega)
  have l1 : r1 (q.len - 1) = hold (q.len - 1) forever := by
    obtain ⟨k, hk⟩ : ∃ k, q.loop.length = k + 1 := ⟨q.loop.length - 1, by omega⟩
    rw [← hr1, hk, pass_last h0 k (by omega), e0]
  have s2 : ∀ i, i < q.len - 1 → r2 i = hold i (r2 (i + 1)) := fun i h2 => by rw [← hr2]; exact pass_step _ (Nat.le_refl _) i (by omega) (by omega)
  have l2 : r2 (q.len - 1) = hold (q.len - 1) (r1 q.stem.length) := by
    obtain ⟨k, hk⟩ : ∃ k, q.len = k + 1 := ⟨q.len - 1, by omega⟩
    rw [← hr2]
    have := pass_last (hold := hold) (r := r1) h0 k (by omega)
    rw [← hk] at this
    exact this
  have e : q.len - 1 - (q.loop.length - 1) = q.stem.length := by omega
  have up : r1 (q.len - 1) = true → r2 (q.len - 1) = true → r1 q.stem.length = true → r2 q.stem.length = true := fun _ b c => by
    have := chain_mono hm s1 (fun i _ h => s2 i h) (fun _ => b) (q.loop.length - 1) (by omega)
    rw [e] at this; exact this c
  have key : r2 q.stem.length = r1 q.stem.length := by
    by_cases hq : r1 q.stem.length = forever
    · have hl : r2 (q.len - 1) = r1 (q.len - 1) := by rw [l1, l2, hq]
      have a := chain_mono hm s1 (fun i _ h => s2 i h) (fun h => by rw [hl]; exact h) (q.loop.length - 1) (by omega)
      have b := chain_mono hm (fun i (_ : q.stem.length ≤ i) h => s2 i h) s1 (fun h => by rw [← hl]; exact h) (q.loop.length - 1) (by omega)
      rw [e] at a b
      cases h1 : r1 q.stem.length with
      | true => exact a h1
      | false =>
        cases h2 : r2 q.stem.length with
        | false => rfl
        | true => rw [b h2] at h1; cases h1
    · cases hf : forever with
      | false =>
        have h1 : r1 q.stem.length = true := by rw [hf] at hq; simpa using hq
        rw [hf] at l1; rw [h1] at l2
        have a := chain_mono hm s1 (fun i _ h => s2 i h) (fun h => by rw [l1] at h; rw [l2]; exact hm _ h) (q.loop.length - 1) (by omega)
        rw [e] at a
        rw [a h1, h1]
      | true =>
        have h1 : r1 q.stem.length = false := by rw [hf] at hq; simpa using hq
        rw [hf] at l1; rw [h1] at l2
        have a := chain_mono hm (fun i (_ : q.stem.length ≤ i) h => s2 i h) s1 (fun h => by rw [l2] at h; rw [l1]; exact hm _ h) (q.loop.length - 1) (by omega)
        rw [e] at a
        cases h2 : r2 q.stem.length with
        | false => rw [h1]
        | true => rw [a h2] at h1; cases h1
  have hb : backR q forever hold = r2 := by unfold backR; rw [hr0, hr1, hr2]
  rw [hb]
  refine ⟨fun i hi => ?_, fun hid => ?_⟩
  · by_cases h : i + 1 = q.len
    · obtain rfl : i = q.len - 1 := by omega
      rw [l2, ← key]
      unfold nxt; rw [if_pos (by omega)]
    · rw [s2 i (by omega)]
      unfold nxt; rw [if_neg h]
  · have a := chain_id s1 (fun i h1 h2 => hid i h1 (by omega)) (q.loop.length - 1) (by omega)
    rw [e, l1, hid _ (by omega) (by omega)] at a
    rw [key, a]

/-- What such a row tells. -/
theorem BackIs.down {q : Wd} (h0 : 0 < q.loop.length) {hold : Nat → Bool → Bool} (hm : Mono hold) {r : Nat → Bool} (h : BackIs q false hold r) (i : Nat) :
    r (plc q i) = true ↔ untilP (fun j => hold (plc q j) true = true) (fun j => hold (plc q j) false = true) i := by
  have st : ∀ i, r (plc q i) = hold (plc q i) (r (plc q (i + 1))) := fun i => by rw [plc_succ h0]; exact h.fix _ (plc_lt h0 i)
  constructor
  · intro hr
    refine Classical.byContradiction fun hno => ?_
    have key : ∀ k, r (plc q (i + k)) = true ∧ ∀ j, j < k → hold (plc q (i + j)) true = true := by
      intro k
      induction k with
      | zero => exact ⟨hr, fun j hj => by omega⟩
      | succ k ih =>
        obtain ⟨a, b⟩ := ih
        have na : ¬ hold (plc q (i + k)) false = true := fun c => hno ⟨k, c, b⟩
        rw [st (i + k)] at a
        cases h1 : r (plc q (i + k + 1)) with
        | false => rw [h1] at a; exact absurd a na
        | true =>
          rw [h1] at a
          refine ⟨rfl, fun j hj => ?_⟩
          by_cases e : j = k
          · subst e; exact a
          · exact b j (by omega)
    have na : ∀ k, hold (plc q (i + k)) false = false := fun k => by
      cases c : hold (plc q (i + k)) false with
      | false => rfl
      | true => exact absurd ⟨k, c, (key k).2⟩ hno
    have hs : r q.stem.length = false := h.rest (fun j h1 h2 l => by
      obtain ⟨k, hk⟩ := plc_again h0 i h1 h2
      cases l with
      | false => rw [← hk]; exact na k
      | true => rw [← hk]; exact (key (k + 1)).2 k (by omega))
    obtain ⟨k, hk⟩ := plc_again h0 i (Nat.le_refl _) (show q.stem.length < q.len by unfold Wd.len; omega)
    have := (key k).1
    rw [hk, hs] at this
    cases this
  · rintro ⟨k, ha, hb⟩
    induction k generalizing i with
    | zero =>
      rw [st i]
      cases r (plc q (i + 1)) with
      | false => exact ha
      | true => exact hm _ ha
    | succ k ih =>
      have := ih (i + 1) (by rw [show i + 1 + k = i + (k + 1) by omega]; exact ha) (fun j hj => by have := hb (j + 1) (by omega); rwa [show i + (j + 1) = i + 1 + j by omega] at this)
      rw [st i, this]
      exact hb 0 (by omega)
theorem BackIs.up {q : Wd} (h0 : 0 < q.loop.length) {hold : Nat → Bool → Bool} (hm : Mono hold) {r : Nat → Bool} (h : BackIs q true hold r) (i : Nat) :
    r (plc q i) = true ↔ ¬ untilP (fun j => ¬ hold (plc q j) false = true) (fun j => ¬ hold (plc q j) true = true) i := by
  have hd : BackIs q false (fun i l => !hold i (!l)) (fun i => !r i) := by
    refine ⟨fun i hi => ?_, fun hid => ?_⟩
    · show (!r i) = !hold i (!!r (nxt q i))
      rw [Bool.not_not, ← h.fix i hi]
    · show (!r q.stem.length) = false
      rw [h.rest (fun j h1 h2 l => by have := hid j h1 h2 (!l); simpa using this)]; rfl
  have hm' : Mono (fun i l => !hold i (!l)) := fun i hi => by
    have hi' : (!hold i true) = true := hi
    show (!hold i false) = true
    cases c : hold i false with
    | false => rfl
    | true => rw [hm i c] at hi'; cases hi'
  have := BackIs.down h0 hm' hd i
  rw [untilP_congr (b' := fun j => ¬ hold (plc q j) false = true) (a' := fun j => ¬ hold (plc q j) true = true) (fun j => by simp) (fun j => by simp)] at this
  rw [← this]
  cases r (plc q i) <;> simp
end Go.Proofs.YtddgciilcghbaaaDoor
