/- The document's letter of names is the runner's. -/
import Derived.Test.YtbbfajbnklgncaaHK
namespace Go.Proofs.Ytbbfajbnklgncaa
open Go.RowKit Go.Shelf Go.Maps

theorem sameN_dataD (s x : ByteArray) : sameN s x = (x.data.toList == s.data.toList) := by
  unfold sameN
  rw [ByteArray.toList_eq, ByteArray.toList_eq, Bool.eq_iff_iff, beq_iff_eq, beq_iff_eq]
  exact ⟨Eq.symm, Eq.symm⟩
/-- The document's letter, of the first k names of the machine. -/
def dletN (ps us : List ByteArray) : Nat → Nat
  | 0 => 0
  | i + 1 => if us.any (fun x => sameN x (ps.getD i ⟨#[]⟩)) then dletN ps us i ||| 2 ^ i else dletN ps us i
theorem dletN_bit (ps us : List ByteArray) (j : Nat) : ∀ k, (dletN ps us k).testBit j = (decide (j < k) && us.any (fun x => sameN x (ps.getD j ⟨#[]⟩)))
  | 0 => by simp [dletN]
  | k + 1 => by
    unfold dletN
    have ih := dletN_bit ps us j k
    split
    · rename_i h
      rw [Nat.testBit_or, ih, Nat.testBit_two_pow]
      by_cases e : k = j
      · subst e; rw [h]; simp
      · have : decide (j < k + 1) = decide (j < k) := by simp; omega
        simp [e, this]
    · rename_i h
      rw [ih]
      by_cases e : k = j
      · subst e; rw [Bool.not_eq_true] at h; rw [h]; simp
      · have : decide (j < k + 1) = decide (j < k) := by simp; omega
        rw [this]
theorem names_apart {ps : List ByteArray} (h : listB ps = true) {i j : Nat} (hij : i < j) (hj : j < ps.length) : (ps.getD i ⟨#[]⟩).data.toList ≠ (ps.getD j ⟨#[]⟩).data.toList := by
  unfold listB at h
  rw [Bool.and_eq_true, List.all_eq_true] at h
  have h1 := h.2 j (List.mem_range.2 hj)
  unfold nmAt at h1
  rw [Bool.and_eq_true] at h1
  have h2 := h1.2
  rw [Bool.not_eq_true'] at h2
  unfold hasN at h2
  rw [List.any_eq_false] at h2
  intro e
  have hi : i < ps.length := by omega
  refine h2 (ps[i]) ?_ ?_
  · rw [List.mem_take_iff_getElem]
    exact ⟨i, by omega, rfl⟩
  · rw [sameN_dataD]
    rw [List.getD_eq_getElem?_getD, List.getD_eq_getElem?_getD, List.getElem?_eq_getElem hi, List.getElem?_eq_getElem hj] at e
    simp only [Option.getD_some] at e
    rw [List.getD_eq_getElem?_getD, List.getElem?_eq_getElem hj, Option.getD_some, beq_iff_eq]
    exact e
theorem bitK_bit {ps : List ByteArray} (h : listB ps = true) (x : ByteArray) (j : Nat) : ∀ k, k ≤ ps.length → (bitK ps k x).testBit j = (decide (j < k) && sameN x (ps.getD j ⟨#[]⟩))
  | 0, _ => by simp [bitK]
  | k + 1, hk => by
    unfold bitK
    split
    · rename_i e
      rw [Nat.testBit_two_pow]
      by_cases ej : k = j
      · subst ej
        rw [sameN_dataD, beq_iff_eq.2 e]
        simp
      · rcases Nat.lt_or_ge j k with q | q
        · have := names_apart h q (by omega)
          rw [sameN_dataD, beq_eq_false_iff_ne.2 (fun q => this (q.trans e.symm))]
          simp [ej]
        · have : ¬ j < k + 1 := by omega
          simp [ej, this]
    · rename_i e
      rw [bitK_bit h x j k (by omega)]
      by_cases ej : k = j
      · subst ej
        rw [sameN_dataD, beq_eq_false_iff_ne.2 e]
        simp
      · have : decide (j < k + 1) = decide (j < k) := by simp; omega
        rw [this]
theorem letterN_bit {ps : List ByteArray} (h : listB ps = true) (us : List ByteArray) (j : Nat) : (letterN ps us).testBit j = (decide (j < ps.length) && us.any (fun x => sameN x (ps.getD j ⟨#[]⟩))) := by
  unfold letterN
  have key : ∀ (l : List ByteArray) (a : Nat), (l.foldl (fun a s => a ||| bitK ps ps.length s) a).testBit j = (a.testBit j || (decide (j < ps.length) && l.any (fun x => sameN x (ps.getD j ⟨#[]⟩)))) := by
    intro l
    induction l with
    | nil => intro a; simp
    | cons x l ih =>
      intro a
      rw [List.foldl_cons, ih, Nat.testBit_or, bitK_bit h x j ps.length (Nat.le_refl _), List.any_cons]
      cases a.testBit j <;> cases decide (j < ps.length) <;> simp
  rw [key]
  simp
theorem dletN_is {ps : List ByteArray} (h : listB ps = true) (us : List ByteArray) : dletN ps us ps.length = letterN ps us := by
  apply Nat.eq_of_testBit_eq
  intro j
  rw [dletN_bit, letterN_bit h]
end Go.Proofs.Ytbbfajbnklgncaa
