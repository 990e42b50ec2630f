/- Trees that Cmp finds alike are one tree. -/
import Derived.Test.YtjcfgmoppmjnmaaGreatDoorTrOrd
namespace Go.Proofs.YtjcfgmoppmjnmaaGreatDoor
open Go.RowKit Go.Shelf

theorem cmpS_zero {a b : ByteArray} (h : cmpS a b = 0) : a = b := by
  unfold cmpS at h
  split at h
  · simp at h
  · split at h
    · rename_i e
      have e' : a.toList = b.toList := by simpa using e
      rw [ByteArray.toList_eq, ByteArray.toList_eq] at e'
      exact ByteArray.ext (Array.toList_inj.1 e')
    · simp at h
theorem rowCmp_each : ∀ (rs : List (Tr → Int)) (us : List Tr), rs.length = us.length → rowCmp rs us = 0 → ∀ i (h : i < rs.length) (h' : i < us.length), rs[i] us[i] = 0
  | [], _, _, _, i, h, _ => by simp at h
  | r :: rs, [], h, _, _, _, _ => by simp at h
  | r :: rs, u :: us, hl, h, i, hi, hj => by
    rw [rowCmp] at h
    split at h
    · rename_i e
      cases i with
      | zero => exact e
      | succ i => exact rowCmp_each rs us (by simpa using hl) h i (by simpa using hi) (by simpa using hj)
    · rename_i e; exact absurd h e
theorem or3_zero {x y z : Int} (h : or3 x y z = 0) : x = 0 ∧ y = 0 ∧ z = 0 := by
  unfold or3 at h
  split at h
  · rename_i e; exact absurd h e
  · split at h
    · rename_i e; exact absurd h e
    · rename_i e1 e2
      exact ⟨by simpa using e1, by simpa using e2, h⟩
theorem cmpT_zero (t : Tr) : ∀ u, cmpT t u = 0 → t = u := by
  induction t using Tr.ind with
  | h t ih =>
    intro u h
    rw [cmpT_eq] at h
    by_cases hh : cmpHead t u = 0
    · rw [if_pos hh] at h
      obtain ⟨h1, h2, h3⟩ := or3_zero hh
      have e1 := cmpN_zero.1 h1
      have e2 := cmpS_zero h2
      have e3 := cmpN_zero.1 h3
      have e4 : t.kids = u.kids := by
        refine List.ext_getElem e3 fun i hi hj => ?_
        have hr := rowCmp_each (t.kids.map cmpT) u.kids (by simpa using e3) h i (by simpa using hi) hj
        rw [List.getElem_map] at hr
        exact ih _ (List.getElem_mem hi) _ hr
      cases t; cases u
      simp only at e1 e2 e4
      subst e1 e2 e4
      rfl
    · rw [if_neg hh] at h
      exact absurd h hh
end Go.Proofs.YtjcfgmoppmjnmaaGreatDoor
