/- Sets as their members: what the words say of numbers. No walk here. -/
import Derived.Test.YtjfhfdpbdjeedaaCmp
import Derived.Test.YtjfhfdpbdjeedaaKey
import Derived.Test.YtjfhfdpbdjeedaaPop
namespace Go.Proofs.Ytjfhfdpbdjeedaa
open Go.RowKit

theorem getD_beyond {ws : List Nat} {k : Nat} (h : ws.length ≤ k) : ws.getD k 0 = 0 := by
  rw [List.getD_eq_getElem?_getD, List.getElem?_eq_none h]; rfl
theorem mem_beyond {ws : List Nat} {i : Nat} (h : ws.length ≤ i / 64) : mem ws i = false := by
  unfold mem; rw [getD_beyond h]; simp

/-- Sets of one width with the same members are the same words. -/
theorem ext_mem {n : Nat} {ws ws2 : List Nat} (h : Good n ws) (h2 : Good n ws2) (hm : ∀ i, mem ws i = mem ws2 i) : ws = ws2 := by
  refine ext_words (by rw [h.len, h2.len]) (fun j _ => ?_)
  apply Nat.eq_of_testBit_eq
  intro i
  by_cases hi : i < 64
  · have := hm (64 * j + i)
    rwa [mem_at _ _ _ hi, mem_at _ _ _ hi] at this
  · have p : 18446744073709551616 ≤ 2 ^ i := by
      have : 2 ^ 64 ≤ 2 ^ i := Nat.pow_le_pow_right (by omega) (by omega)
      omega
    rw [Nat.testBit_lt_two_pow (Nat.lt_of_lt_of_le (h.word j) p), Nat.testBit_lt_two_pow (Nat.lt_of_lt_of_le (h2.word j) p)]

theorem opW_getD (f : Nat → Nat → Nat) (ws ws2 : List Nat) (k : Nat) (hk : k < ws.length) : (opW f ws ws2).getD k 0 = f (ws.getD k 0) (ws2.getD k 0) := by
  rw [← getD_get (by rw [opW_len]; exact hk)]
  simp [opW]

theorem mem_and (ws ws2 : List Nat) (i : Nat) : mem (opW fAnd ws ws2) i = (mem ws i && mem ws2 i) := by
  by_cases h : i / 64 < ws.length
  · unfold mem; rw [opW_getD _ _ _ _ h]; unfold fAnd; rw [Nat.testBit_and]
  · rw [mem_beyond (by rw [opW_len]; omega), mem_beyond (by omega)]; rfl
theorem mem_less {n2 : Nat} (ws : List Nat) {ws2 : List Nat} (h2 : Good n2 ws2) (i : Nat) : mem (opW fLess ws ws2) i = (mem ws i && !mem ws2 i) := by
  by_cases h : i / 64 < ws.length
  · unfold mem; rw [opW_getD _ _ _ _ h]; unfold fLess; rw [Nat.testBit_and, testBit_not _ _ (by omega) (h2.word _)]
  · rw [mem_beyond (by rw [opW_len]; omega), mem_beyond (by omega)]; rfl
theorem mem_or0 (ws ws2 : List Nat) (i : Nat) (h : i / 64 < ws.length) : mem (opW fOr ws ws2) i = (mem ws i || mem ws2 i) := by
  unfold mem; rw [opW_getD _ _ _ _ h]; unfold fOr; rw [Nat.testBit_or]

theorem mem_trim {n : Nat} {ws : List Nat} (hl : ws.length = (n + 63) / 64) (i : Nat) : mem (trimW n ws) i = (mem ws i && decide (i < n)) := by
  by_cases hb : ws.length ≤ i / 64
  · have : (trimW n ws).length ≤ i / 64 := by unfold trimW; split <;> simpa using hb
    rw [mem_beyond this, mem_beyond hb]; rfl
  · unfold trimW
    by_cases hz : n % 64 = 0
    · rw [if_pos hz]
      have : i < n := by omega
      simp [this]
    · rw [if_neg hz]
      by_cases hk : i / 64 = ws.length - 1
      · unfold mem
        rw [getD_set _ _ _ _ (by omega), if_pos hk.symm, Nat.testBit_and, testBit_below, hk]
        congr 1
        rw [decide_eq_decide]; omega
      · unfold mem
        rw [getD_set _ _ _ _ (by omega), if_neg (fun e => hk e.symm)]
        have : i < n := by omega
        simp [this]
theorem mem_or {n : Nat} {ws : List Nat} (ws2 : List Nat) (h : Good n ws) (i : Nat) : mem (trimW n (opW fOr ws ws2)) i = ((mem ws i || mem ws2 i) && decide (i < n)) := by
  rw [mem_trim (by rw [opW_len]; exact h.len)]
  by_cases hi : i < n
  · rw [mem_or0 _ _ _ (by have := h.len; omega)]
  · simp [hi]

theorem Good.and {n : Nat} {ws : List Nat} (h : Good n ws) (ws2 : List Nat) : Good n (opW fAnd ws ws2) := by
  refine ⟨h.top, by rw [opW_len]; exact h.len, fun x hx => ?_, fun i hi => by rw [mem_and, h.trim i hi]; rfl⟩
  unfold opW at hx
  obtain ⟨k, _, rfl⟩ := List.mem_map.1 hx
  exact and_small (h.word k)
theorem Good.less {n n2 : Nat} {ws ws2 : List Nat} (h : Good n ws) (h2 : Good n2 ws2) : Good n (opW fLess ws ws2) := by
  refine ⟨h.top, by rw [opW_len]; exact h.len, fun x hx => ?_, fun i hi => by rw [mem_less _ h2, h.trim i hi]; rfl⟩
  unfold opW at hx
  obtain ⟨k, _, rfl⟩ := List.mem_map.1 hx
  exact and_small (h.word k)
theorem Good.or {n n2 : Nat} {ws ws2 : List Nat} (h : Good n ws) (h2 : Good n2 ws2) : Good n (trimW n (opW fOr ws ws2)) := by
  refine ⟨h.top, ?_, fun x hx => ?_, fun i hi => ?_⟩
  · unfold trimW; split
    · rw [opW_len]; exact h.len
    · rw [List.length_set, opW_len]; exact h.len
  · have hs := opW_or_small h h2
    unfold trimW at hx
    split at hx
    · exact hs x hx
    · rcases List.mem_or_eq_of_mem_set hx with h1 | h1
      · exact hs x h1
      · rw [h1]
        rcases getD_mem_or (ws := opW fOr ws ws2) (k := (opW fOr ws ws2).length - 1) with h3 | h3
        · exact and_small (hs _ h3)
        · rw [h3]; simp
  · rw [mem_or _ h]
    have : ¬ i < n := by omega
    simp [this]

/-- Len is how many members there are. -/
def cnt (m : Nat) (ws : List Nat) : Nat := (List.range m).countP fun i => mem ws i
theorem cnt_succ (m : Nat) (ws : List Nat) : cnt (m + 1) ws = cnt m ws + (mem ws m).toNat := by
  unfold cnt
  rw [List.range_succ, List.countP_append, List.countP_singleton]
  cases mem ws m <;> rfl
theorem cnt_word (ws : List Nat) (k : Nat) : ∀ j, j ≤ 64 → cnt (64 * k + j) ws = cnt (64 * k) ws + popc j (ws.getD k 0) := by
  intro j
  induction j with
  | zero => intro _; rw [popc_zero]; rfl
  | succ j ih =>
    intro hj
    rw [show 64 * k + (j + 1) = (64 * k + j) + 1 from by omega, cnt_succ, ih (by omega), popc_succ, mem_at _ _ _ (by omega)]
    omega
theorem lenW_cnt (ws : List Nat) (hs : ∀ x ∈ ws, x < 18446744073709551616) : lenW ws = cnt (64 * ws.length) ws := by
  have : ∀ k, k ≤ ws.length → lenW (ws.take k) = cnt (64 * k) ws := by
    intro k
    induction k with
    | zero => intro _; rfl
    | succ k ih =>
      intro hk
      rw [List.take_succ_eq_append_getElem (by omega), lenW_snoc, ih (by omega), ones_popc _ (hs _ (List.getElem_mem _)), show 64 * (k + 1) = 64 * k + 64 from by omega, cnt_word ws k 64 (by omega), getD_get]
  have h := this ws.length (Nat.le_refl _)
  rwa [List.take_of_length_le (Nat.le_refl _)] at h
theorem cnt_more {n : Nat} {ws : List Nat} (h : Good n ws) : ∀ d, cnt (n + d) ws = cnt n ws := by
  intro d
  induction d with
  | zero => rfl
  | succ d ih => rw [show n + (d + 1) = (n + d) + 1 from by omega, cnt_succ, ih, h.trim _ (by omega)]; rfl
theorem Good.lenW {n : Nat} {ws : List Nat} (h : Good n ws) : lenW ws = cnt n ws := by
  rw [lenW_cnt ws h.small, h.len]
  have e : 64 * ((n + 63) / 64) = n + (64 * ((n + 63) / 64) - n) := by omega
  rw [e]; exact cnt_more h _

theorem cnt_or_and (ws ws2 o a : List Nat) (m : Nat) (ho : ∀ i, i < m → mem o i = (mem ws i || mem ws2 i)) (ha : ∀ i, i < m → mem a i = (mem ws i && mem ws2 i)) : cnt m o + cnt m a = cnt m ws + cnt m ws2 := by
  induction m with
  | zero => rfl
  | succ m ih =>
    have := ih (fun i hi => ho i (by omega)) (fun i hi => ha i (by omega))
    rw [cnt_succ, cnt_succ, cnt_succ, cnt_succ, ho m (by omega), ha m (by omega)]
    cases mem ws m <;> cases mem ws2 m <;> simp <;> omega
theorem cnt_less_and (ws ws2 l a : List Nat) (m : Nat) (hl : ∀ i, i < m → mem l i = (mem ws i && !mem ws2 i)) (ha : ∀ i, i < m → mem a i = (mem ws i && mem ws2 i)) : cnt m l + cnt m a = cnt m ws := by
  induction m with
  | zero => rfl
  | succ m ih =>
    have := ih (fun i hi => hl i (by omega)) (fun i hi => ha i (by omega))
    rw [cnt_succ, cnt_succ, cnt_succ, hl m (by omega), ha m (by omega)]
    cases mem ws m <;> cases mem ws2 m <;> simp <;> omega
theorem cnt_none (l : List Nat) (m : Nat) (hl : ∀ i, i < m → mem l i = false) : cnt m l = 0 := by
  induction m with
  | zero => rfl
  | succ m ih => rw [cnt_succ, ih (fun i hi => hl i (by omega)), hl m (by omega)]; rfl

theorem testBit_zero_iff {x : Nat} (h : ∀ j, j < 64 → x.testBit j = false) (hx : x < 18446744073709551616) : x = 0 := by
  apply Nat.eq_of_testBit_eq
  intro i
  rw [Nat.zero_testBit]
  by_cases hi : i < 64
  · exact h i hi
  · have p : 18446744073709551616 ≤ 2 ^ i := by
      have : 2 ^ 64 ≤ 2 ^ i := Nat.pow_le_pow_right (by omega) (by omega)
      omega
    exact Nat.testBit_lt_two_pow (Nat.lt_of_lt_of_le hx p)
theorem within_iff {n n2 : Nat} {ws ws2 : List Nat} (h : Good n ws) (h2 : Good n2 ws2) : withinW ws ws2 = true ↔ ∀ i, mem ws i = true → mem ws2 i = true := by
  unfold withinW
  rw [List.all_eq_true]
  constructor
  · intro hw i hi
    by_cases hl : i / 64 < ws.length
    · have := hw (i / 64) (by simpa using hl)
      have e : fLess (ws.getD (i / 64) 0) (ws2.getD (i / 64) 0) = 0 := by simpa using this
      have hm := mem_less ws h2 i
      have hz : mem (opW fLess ws ws2) i = false := by unfold mem; rw [opW_getD _ _ _ _ hl, e]; simp
      rw [hz, hi] at hm
      simpa using hm.symm
    · rw [mem_beyond (by omega)] at hi; cases hi
  · intro hw k hk
    have hk' : k < ws.length := by simpa using hk
    have : fLess (ws.getD k 0) (ws2.getD k 0) = 0 := by
      refine testBit_zero_iff (fun j hj => ?_) (and_small (h.word k))
      have hm := mem_less ws h2 (64 * k + j)
      rw [mem_at _ _ _ hj, opW_getD _ _ _ _ hk'] at hm
      rw [hm]
      cases e : mem ws (64 * k + j)
      · rfl
      · rw [hw _ e]; rfl
    simpa using this

/-- Keys tell sets of one width apart. -/
theorem keyB_bit {n : Nat} {ws : List Nat} (_h : Good n ws) (j i : Nat) (hi : i < 8) : (keyB ws j).toNat.testBit i = mem ws (8 * j + i) := by
  unfold keyB mem
  rw [UInt8.toNat_ofNat', Nat.testBit_mod_two_pow]
  have e1 : (8 * j + i) / 64 = j / 8 := by omega
  have e2 : (8 * j + i) % 64 = i + j % 8 * 8 := by omega
  rw [e1, e2, Nat.testBit_div_two_pow]
  simp [hi]
theorem keyW_inj {n : Nat} {ws ws2 : List Nat} (h : Good n ws) (h2 : Good n ws2) (hk : keyW n ws = keyW n ws2) : ws = ws2 := by
  refine ext_mem h h2 (fun i => ?_)
  by_cases hi : i < n
  · have hj : i / 8 < (n + 7) / 8 := by omega
    have e : (keyW n ws)[i / 8]? = (keyW n ws2)[i / 8]? := by rw [hk]
    unfold keyW at e
    rw [List.getElem?_map, List.getElem?_map, List.getElem?_range hj] at e
    have e' : keyB ws (i / 8) = keyB ws2 (i / 8) := by simpa using e
    have b1 := keyB_bit h (i / 8) (i % 8) (by omega)
    have b2 := keyB_bit h2 (i / 8) (i % 8) (by omega)
    rw [show 8 * (i / 8) + i % 8 = i from by omega] at b1 b2
    rw [← b1, ← b2, e']
  · rw [h.trim i (by omega), h2.trim i (by omega)]
end Go.Proofs.Ytjfhfdpbdjeedaa
