/- What Base has beyond Keeps. (Written by wip/portk.py.) -/
import Derived.Test.YtkkhilgcjaigcaaDoorBx

namespace Go.Proofs.YtkkhilgcjaigcaaDoor
open Go.RowKit

/-- A set of width n and words ws lies in memory: its struct is block b, its words begin block g, of capacity c. -/
structure IsSet (w : World) (b g c n : Nat) (ws : List Nat) : Prop where
  head : w.heap[b]? = some (.cells #[.int .i64 n, .slice (some ⟨g, 0, none⟩) ws.length c] 68 (0, 0))
  row : ∃ cur, w.heap[g]? = some (.cells cur 70 (0, 0)) ∧ cur.size = c ∧ cur.toList.take ws.length = ws.map (fun x => .int .u64 (x : Nat))
  lec : ws.length ≤ c
  maxc : c ≤ maxLen
  ne : b ≠ g

theorem IsSet.kept {w w' : World} {b g c n : Nat} {ws F : List Nat} (h : IsSet w b g c n ws) (k : Kept F w w') (hb : b ∉ F) (hg : g ∉ F) : IsSet w' b g c n ws := by
  obtain ⟨h1, ⟨cur, h2, h3⟩, h4, h5, h6⟩ := h
  exact ⟨k.at h1 hb, ⟨cur, k.at h2 hg, h3⟩, h4, h5, h6⟩

theorem IsSet.ltb {w : World} {b g c n : Nat} {ws : List Nat} (h : IsSet w b g c n ws) : b < w.heap.size := lt_of h.head
theorem IsSet.ltg {w : World} {b g c n : Nat} {ws : List Nat} (h : IsSet w b g c n ws) : g < w.heap.size := by obtain ⟨cur, h2, _⟩ := h.row; exact lt_of h2

theorem IsSet.c0 {w : World} {b g c n : Nat} {ws : List Nat} (h : IsSet w b g c n ws) : w.cell? ⟨b, 0, none⟩ = some (.int .i64 n) := by rw [cell_of h.head]; rfl
theorem IsSet.c1 {w : World} {b g c n : Nat} {ws : List Nat} (h : IsSet w b g c n ws) : w.cell? ⟨b, 1, none⟩ = some (.slice (some ⟨g, 0, none⟩) ws.length c) := by rw [cell_of h.head]; rfl
theorem IsSet.cw {w : World} {b g c n : Nat} {ws : List Nat} (h : IsSet w b g c n ws) (i : Nat) (hi : i < ws.length) : w.cell? ⟨g, i, none⟩ = some (.int .u64 (ws[i] : Nat)) := by
  obtain ⟨cur, h2, h3, h4⟩ := h.row
  rw [cell_of h2]
  have : (cur.toList.take ws.length)[i]? = (ws.map (fun x => Value.int .u64 (x : Nat)))[i]? := by rw [h4]
  rw [List.getElem?_take, if_pos hi] at this
  rw [← Array.getElem?_toList, this]
  simp [hi]
theorem IsSet.fw {w : World} {b g c n : Nat} {ws : List Nat} (h : IsSet w b g c n ws) (i : Nat) : w.frozen? ⟨g, i, none⟩ = false := by
  obtain ⟨cur, h2, _⟩ := h.row
  exact free_of h2 i

theorem IsSet.set {w : World} {b g c n : Nat} {ws : List Nat} (h : IsSet w b g c n ws) (i x : Nat) : IsSet (w.setCell ⟨g, i, none⟩ (.int .u64 (x : Nat))) b g c n (ws.set i x) := by
  obtain ⟨h1, ⟨cur, h2, h3, h4⟩, h5, h6, h7⟩ := h
  refine ⟨?_, ⟨cur.setIfInBounds i (.int .u64 (x : Nat)), ?_, ?_, ?_⟩, by simpa using h5, h6, h7⟩
  · rw [Below.heap_setCell _ _ _ _ h7, List.length_set]; exact h1
  · simp only [World.setCell, Array.getElem?_modify, if_true]
    rw [h2]
    simp
  · simpa using h3
  · rw [Array.toList_setIfInBounds, List.length_set, List.take_set, h4, List.map_set]

theorem IsSet.alloc {w : World} {b g c n : Nat} {ws : List Nat} (h : IsSet w b g c n ws) (o : Obj) : IsSet (w.alloc o) b g c n ws :=
  h.kept ((Kept.refl [] w).alloc o) (by simp) (by simp)
theorem IsSet.drew {w : World} {b g c n : Nat} {ws : List Nat} (h : IsSet w b g c n ws) : IsSet w.drew b g c n ws :=
  h.kept ((Kept.refl [] w).drew) (by simp) (by simp)

/-- What holds of the words of a set of width n: as many as the width asks, each a word, no number at or above n among them. -/
def mem (ws : List Nat) (i : Nat) : Bool := (ws.getD (i / 64) 0).testBit (i % 64)
structure Good (n : Nat) (ws : List Nat) : Prop where
  top : n ≤ 65536
  len : ws.length = (n + 63) / 64
  small : ∀ x ∈ ws, x < 18446744073709551616
  trim : ∀ i, n ≤ i → mem ws i = false

/-- The word that has the one bit of number i. -/
def bitN (i : Nat) : Nat := 2 ^ (i % 64)
theorem bitN_lt (i : Nat) : bitN i < 18446744073709551616 := by
  have : bitN i < 2 ^ 64 := Nat.pow_lt_pow_right (by omega) (by omega)
  omega
def putW (ws : List Nat) (i : Nat) : List Nat := ws.set (i / 64) (ws.getD (i / 64) 0 ||| bitN i)
def cutW (ws : List Nat) (i : Nat) : List Nat := ws.set (i / 64) (ws.getD (i / 64) 0 &&& (18446744073709551615 - bitN i))
def putI (n : Nat) (ws : List Nat) (i : Int) : List Nat := if 0 ≤ i ∧ i < n then putW ws i.toNat else ws
def cutI (n : Nat) (ws : List Nat) (i : Int) : List Nat := if 0 ≤ i ∧ i < n then cutW ws i.toNat else ws

theorem getD_mem_or {ws : List Nat} {k : Nat} : ws.getD k 0 ∈ ws ∨ ws.getD k 0 = 0 := by
  rw [List.getD_eq_getElem?_getD]
  rcases Nat.lt_or_ge k ws.length with h | h
  · left; rw [List.getElem?_eq_getElem h]; simp
  · right; rw [List.getElem?_eq_none h]; rfl
theorem Good.word {n : Nat} {ws : List Nat} (h : Good n ws) (k : Nat) : ws.getD k 0 < 18446744073709551616 := by
  rcases getD_mem_or (ws := ws) (k := k) with h1 | h1
  · exact h.small _ h1
  · rw [h1]; omega

theorem getD_set (ws : List Nat) (k x j : Nat) (hk : k < ws.length) : (ws.set k x).getD j 0 = if k = j then x else ws.getD j 0 := by
  simp only [List.getD_eq_getElem?_getD, List.getElem?_set]
  split
  · rename_i e; subst e; rfl
  · rfl

theorem testBit_bitN (i j : Nat) : (bitN i).testBit j = decide (i % 64 = j) := by
  unfold bitN; rw [Nat.testBit_two_pow]

theorem testBit_below (i j : Nat) : (bitN i - 1).testBit j = decide (j < i % 64) := by
  unfold bitN; rw [Nat.testBit_two_pow_sub_one]
theorem mem_at (ws : List Nat) (k j : Nat) (hj : j < 64) : mem ws (64 * k + j) = (ws.getD k 0).testBit j := by
  unfold mem
  have e1 : (64 * k + j) / 64 = k := by omega
  have e2 : (64 * k + j) % 64 = j := by omega
  rw [e1, e2]

theorem mem_putW (ws : List Nat) (i j : Nat) (hk : i / 64 < ws.length) : mem (putW ws i) j = (decide (i = j) || mem ws j) := by
  unfold mem putW
  rw [getD_set _ _ _ _ hk]
  by_cases e : i / 64 = j / 64
  · rw [if_pos e, Nat.testBit_or, testBit_bitN, e, Bool.or_comm]
    congr 1
    rw [decide_eq_decide]; omega
  · rw [if_neg e]
    have : decide (i = j) = false := by simp; intro h; subst h; exact e rfl
    rw [this]; simp

theorem testBit_not (x i : Nat) (hi : i < 64) (hx : x < 18446744073709551616) : (18446744073709551615 - x).testBit i = !x.testBit i := by
  have h := Nat.testBit_two_pow_sub_succ (x := x) (n := 64) (by omega) i
  have e : (2 ^ 64 - (x + 1) : Nat) = 18446744073709551615 - x := by omega
  rw [e] at h; rw [h]; simp [hi]

theorem mem_cutW (ws : List Nat) (i j : Nat) (hk : i / 64 < ws.length) : mem (cutW ws i) j = (!decide (i = j) && mem ws j) := by
  unfold mem cutW
  rw [getD_set _ _ _ _ hk]
  by_cases e : i / 64 = j / 64
  · rw [if_pos e, Nat.testBit_and, testBit_not _ _ (by omega) (bitN_lt i), testBit_bitN, e, Bool.and_comm]
    congr 2
    rw [decide_eq_decide]; omega
  · rw [if_neg e]
    have : decide (i = j) = false := by simp; intro h; subst h; exact e rfl
    rw [this]; simp

theorem or_small {a b : Nat} (ha : a < 18446744073709551616) (hb : b < 18446744073709551616) : a ||| b < 18446744073709551616 :=
  Nat.or_lt_two_pow (n := 64) ha hb
theorem and_small {a b : Nat} (ha : a < 18446744073709551616) : a &&& b < 18446744073709551616 :=
  Nat.lt_of_le_of_lt Nat.and_le_left ha

theorem Good.putW {n : Nat} {ws : List Nat} (h : Good n ws) {i : Nat} (hi : i < n) : Good n (putW ws i) := by
  have hl := h.len
  refine ⟨h.top, by unfold Go.Proofs.YtkkhilgcjaigcaaDoor.putW; simpa using h.len, ?_, ?_⟩
  · intro x hx
    unfold Go.Proofs.YtkkhilgcjaigcaaDoor.putW at hx
    rcases List.mem_or_eq_of_mem_set hx with h1 | h1
    · exact h.small _ h1
    · rw [h1]; exact or_small (h.word _) (bitN_lt i)
  · intro j hj
    rw [mem_putW _ _ _ (by omega), h.trim j hj]
    simp; omega
theorem Good.cutW {n : Nat} {ws : List Nat} (h : Good n ws) {i : Nat} (hi : i < n) : Good n (cutW ws i) := by
  have hl := h.len
  refine ⟨h.top, by unfold Go.Proofs.YtkkhilgcjaigcaaDoor.cutW; simpa using h.len, ?_, ?_⟩
  · intro x hx
    unfold Go.Proofs.YtkkhilgcjaigcaaDoor.cutW at hx
    rcases List.mem_or_eq_of_mem_set hx with h1 | h1
    · exact h.small _ h1
    · rw [h1]; exact and_small (h.word _)
  · intro j hj
    rw [mem_cutW _ _ _ (by omega), h.trim j hj]
    simp
theorem Good.putI {n : Nat} {ws : List Nat} (h : Good n ws) (i : Int) : Good n (putI n ws i) := by
  unfold Go.Proofs.YtkkhilgcjaigcaaDoor.putI; split
  · exact h.putW (by omega)
  · exact h
theorem Good.cutI {n : Nat} {ws : List Nat} (h : Good n ws) (i : Int) : Good n (cutI n ws i) := by
  unfold Go.Proofs.YtkkhilgcjaigcaaDoor.cutI; split
  · exact h.cutW (by omega)
  · exact h
theorem mem_zero (k j : Nat) : mem (List.replicate k 0) j = false := by
  unfold mem
  rw [List.getD_eq_getElem?_getD, List.getElem?_replicate]
  split <;> simp
theorem Good.zero {n : Nat} (h : n ≤ 65536) : Good n (List.replicate ((n + 63) / 64) 0) :=
  ⟨h, by simp, fun x hx => by rw [List.eq_of_mem_replicate hx]; omega, fun i _ => mem_zero _ i⟩
end Go.Proofs.YtkkhilgcjaigcaaDoor
