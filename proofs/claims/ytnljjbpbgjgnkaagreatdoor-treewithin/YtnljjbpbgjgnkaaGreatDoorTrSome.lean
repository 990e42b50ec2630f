/- unlike is never empty. No walk here. -/
import Derived.Test.YtnljjbpbgjgnkaaGreatDoorTrUnlike
namespace Go.Proofs.YtnljjbpbgjgnkaaGreatDoor
open Go.RowKit Go.Shelf Go.Maps

theorem last_list (t : Tr) (b : Nat × Nat × USt) : b.2.2.2.length ≤ (lastStep t b).2.2.2.length := by
  show _ ≤ (if (numRow b.2.2.1 ⟨0, ⟨#[]⟩, b.1, 0⟩).2.1 then b.2.2.2 ++ [(b.2.1, t)] else b.2.2.2).length
  split
  · rw [List.length_append]; omega
  · exact Nat.le_refl _
theorem kids_list (t : Tr) (h : ∀ k ∈ t.kids, ∀ st, st.2.length ≤ (visitP k st).2.2.2.length) (st : USt) (j : Nat) : ∀ d, j + d ≤ t.kids.length → (kidsP t j st).2.2.2.length ≤ (kidsP t (j + d) st).2.2.2.length := by
  intro d
  induction d with
  | zero => intro _; exact Nat.le_refl _
  | succ d ih =>
    intro hd
    rw [← Nat.add_assoc, kidsP_succ t (j + d) (by omega)]
    exact Nat.le_trans (ih (by omega)) (h _ (List.getElem_mem _) _)
theorem visit_mono (t : Tr) : ∀ st : USt, st.2.length ≤ (visitP t st).2.2.2.length := by
  induction t using Tr.ind with
  | h t ih =>
    intro st
    rw [visitP_eq]
    refine Nat.le_trans ?_ (last_list t _)
    have := kids_list t ih st 0 t.kids.length (by omega)
    rw [Nat.zero_add] at this
    exact this
theorem numRow_pos (rows : List Rw) (r : Rw) : 1 ≤ (numRow rows r).1 := by
  cases h : rows.findIdx? (fun s => r.same s) with
  | some i => rw [numRow_some h]; simp
  | none => rw [numRow_none h]; simp
theorem numRow_ahead {rows : List Rw} {r : Rw} (h : ∀ s ∈ rows, s.ahead = 0) (hr : r.ahead = 0) : ∀ s ∈ (numRow rows r).2.2, s.ahead = 0 := by
  cases e : rows.findIdx? (fun s => r.same s) with
  | some i => rw [numRow_some e]; exact h
  | none =>
    rw [numRow_none e]
    intro s hs
    rcases List.mem_append.1 hs with q | q
    · exact h s q
    · rw [List.mem_singleton.1 q]; exact hr
theorem visit_more (t : Tr) : ∀ st : USt, (∀ r ∈ st.1, r.ahead = 0) → st.2.length + 1 ≤ (visitP t st).2.2.2.length := by
  induction t using Tr.ind with
  | h t ih =>
    intro st hst
    have hh : ∀ r ∈ (headStep t st).2.2.1, r.ahead = 0 := numRow_ahead hst rfl
    rw [visitP_eq]
    by_cases h0 : t.kids.length = 0
    · rw [h0, kidsP_zero]
      have hp : 1 ≤ (headStep t st).1 := numRow_pos _ _
      have hf : (headStep t st).2.2.1.findIdx? (fun s => (⟨0, ⟨#[]⟩, (headStep t st).1, 0⟩ : Rw).same s) = none := by
        rw [List.findIdx?_eq_none_iff]
        intro s hs
        rw [← Bool.not_eq_true, Rw.same_iff]
        rintro rfl
        have := hh _ hs
        simp only at this
        omega
      show _ ≤ (if (numRow (headStep t st).2.2.1 ⟨0, ⟨#[]⟩, (headStep t st).1, 0⟩).2.1 then (headStep t st).2.2.2 ++ [((headStep t st).2.1, t)] else (headStep t st).2.2.2).length
      rw [numRow_none hf]
      simp [headStep]
    · refine Nat.le_trans ?_ (last_list t _)
      have h1 := kids_list t (fun k _ => visit_mono k) st 1 (t.kids.length - 1) (by omega)
      rw [show 1 + (t.kids.length - 1) = t.kids.length by omega] at h1
      refine Nat.le_trans ?_ h1
      rw [show (1 : Nat) = 0 + 1 from rfl, kidsP_succ t 0 (by omega), kidsP_zero]
      exact ih _ (List.getElem_mem _) (headStep t st).2.2 hh
theorem unlike_some (t : Tr) : 1 ≤ (unlikeP t).length := by
  have := visit_more t ([], []) (by simp)
  show 1 ≤ (visitP t ([], [])).2.2.2.length
  simpa using this
theorem unlike_len (t : Tr) : (unlikeP t).length ≤ t.size := by
  have := (bnd_visit t ([], [])).list
  simpa [unlikeP] using this
theorem visit_all (N : Nat) (t : Tr) : t.size ≤ N → t.Fine → ∀ st : USt, (∀ x ∈ st.2, x.2.size ≤ N ∧ x.2.Fine) → ∀ x ∈ (visitP t st).2.2.2, x.2.size ≤ N ∧ x.2.Fine := by
  induction t using Tr.ind with
  | h t ih =>
    intro hs hF st hst
    have hk : ∀ i, i ≤ t.kids.length → ∀ x ∈ (kidsP t i st).2.2.2, x.2.size ≤ N ∧ x.2.Fine := by
      intro i
      induction i with
      | zero => intro _; exact hst
      | succ i ihi =>
        intro hi
        rw [kidsP_succ t i (by omega)]
        have hm := List.getElem_mem (l := t.kids) (n := i) (by omega)
        exact ih _ hm (by have := Tr.kid_size hm; omega) (((Tr.all_eq t).1 hF).2 _ hm) _ (ihi (by omega))
    rw [visitP_eq]
    intro x hx
    have hx' : x ∈ (if (numRow (kidsP t t.kids.length st).2.2.1 ⟨0, ⟨#[]⟩, (kidsP t t.kids.length st).1, 0⟩).2.1 then (kidsP t t.kids.length st).2.2.2 ++ [((kidsP t t.kids.length st).2.1, t)] else (kidsP t t.kids.length st).2.2.2) := hx
    split at hx'
    · rcases List.mem_append.1 hx' with q | q
      · exact hk _ (Nat.le_refl _) x q
      · rw [List.mem_singleton.1 q]; exact ⟨hs, hF⟩
    · exact hk _ (Nat.le_refl _) x hx'
theorem unlike_all (t : Tr) (hF : t.Fine) : ∀ x ∈ unlikeP t, x.2.size ≤ t.size ∧ x.2.Fine := visit_all t.size t (Nat.le_refl _) hF ([], []) (by simp)
end Go.Proofs.YtnljjbpbgjgnkaaGreatDoor
