/- Subs: from unlike's list to what is sorted; the list of copies that grows. No walk here. -/
import Derived.Test.YtnljjbpbgjgnkaaGreatDoorTrSome
import Derived.Test.YtnljjbpbgjgnkaaGreatDoorTrSort2
namespace Go.Proofs.YtnljjbpbgjgnkaaGreatDoor
open Go.RowKit Go.Shelf Go.Sort

/-- The list G has its first i trees. -/
structure RowAt (G n : Nat) (us : List Tr) (i : Nat) (wr : World) : Prop where
  row : ∃ arr, wr.heap[G]? = some (.cells arr 25 (0, 0)) ∧ arr.size = n * 3 ∧ ∀ j (hj : j < us.length), j < i → ∃ ad cap, arr[j * 3]? = some (.int .u8 (us[j].op : Nat)) ∧ arr[j * 3 + 1]? = some (.string us[j].name) ∧ arr[j * 3 + 2]? = some (.slice ad us[j].kids.length cap) ∧ IsT (fun k => G < k) wr us[j] (.slice ad us[j].kids.length cap)
theorem RowAt.next {wr W5 : World} {G n : Nat} {us : List Tr} {i : Nat} (h : RowAt G n us i wr) (hk : Kept [] wr W5) (hi : i < us.length) (hn : us.length = n) {ad : Option Addr} {cap : Nat} (hI : IsT (fun k => G < k) W5 us[i] (.slice ad us[i].kids.length cap)) :
    (∃ v0 v1 v2, W5.cell? ⟨G, i * 3, none⟩ = some v0 ∧ W5.cell? ⟨G, i * 3 + 1, none⟩ = some v1 ∧ W5.cell? ⟨G, i * 3 + 2, none⟩ = some v2 ∧ ∀ k, W5.frozen? ⟨G, k, none⟩ = false) ∧
    RowAt G n us (i + 1) (((W5.setCell ⟨G, i * 3, none⟩ (.int .u8 (us[i].op : Nat))).setCell ⟨G, i * 3 + 1, none⟩ (.string us[i].name)).setCell ⟨G, i * 3 + 2, none⟩ (.slice ad us[i].kids.length cap)) := by
  obtain ⟨arr, hg, hsz, hr⟩ := h.row
  have hg5 : W5.heap[G]? = some (.cells arr 25 (0, 0)) := hk.at hg (by simp)
  refine ⟨⟨arr[i * 3]'(by omega), arr[i * 3 + 1]'(by omega), arr[i * 3 + 2]'(by omega), ?_, ?_, ?_, fun k => free_of hg5 k⟩, ⟨_, row_set (row_set (row_set hg5 _) _) _, by simp [hsz], fun j hj hji => ?_⟩⟩
  · rw [cell_of hg5]; exact Array.getElem?_eq_getElem _
  · rw [cell_of hg5]; exact Array.getElem?_eq_getElem _
  · rw [cell_of hg5]; exact Array.getElem?_eq_getElem _
  · have hnG : ¬ (G < G) := by omega
    rcases Nat.lt_or_ge j i with h' | h'
    · obtain ⟨ad', cap', a0, a1, a2, hIj⟩ := hr j hj h'
      refine ⟨ad', cap', ?_, ?_, ?_, ?_⟩
      · rw [Array.getElem?_setIfInBounds_ne (by omega), Array.getElem?_setIfInBounds_ne (by omega), Array.getElem?_setIfInBounds_ne (by omega)]; exact a0
      · rw [Array.getElem?_setIfInBounds_ne (by omega), Array.getElem?_setIfInBounds_ne (by omega), Array.getElem?_setIfInBounds_ne (by omega)]; exact a1
      · rw [Array.getElem?_setIfInBounds_ne (by omega), Array.getElem?_setIfInBounds_ne (by omega), Array.getElem?_setIfInBounds_ne (by omega)]; exact a2
      · exact ((((hIj.cells (fun _ h => h) (fun _ _ _ _ cc => cell_kept0 hk cc)).other hnG _ _).other hnG _ _).other hnG _ _)
    · obtain rfl : j = i := by omega
      refine ⟨ad, cap, ?_, ?_, ?_, ?_⟩
      · rw [Array.getElem?_setIfInBounds_ne (by omega), Array.getElem?_setIfInBounds_ne (by omega), Array.getElem?_setIfInBounds_self_of_lt (by omega)]
      · rw [Array.getElem?_setIfInBounds_ne (by omega), Array.getElem?_setIfInBounds_self_of_lt (by simp; omega)]
      · rw [Array.getElem?_setIfInBounds_self_of_lt (by simp; omega)]
      · exact ((hI.other hnG _ _).other hnG _ _).other hnG _ _
/-- The trees, each with the word that it lies in w. -/
def liesOf (w : World) (l : List En) (h : ∀ x ∈ l, IsF w x.t (.slice x.kad x.t.kids.length x.kcap) ∧ x.t.size ≤ 1099511627776 ∧ x.t.Fine) : List (Lies w) := l.attach.map fun x => ⟨x.1, (h x.1 x.2).1, (h x.1 x.2).2.1, (h x.1 x.2).2.2⟩
theorem liesOf_val (w : World) (l : List En) (h) : (liesOf w l h).map (fun x => x.1) = l := by
  unfold liesOf
  rw [List.map_map]
  exact List.attach_map_subtype_val l
theorem liesOf_len (w : World) (l : List En) (h) : (liesOf w l h).length = l.length := by simp [liesOf]
theorem liesOf_at (w : World) (l : List En) (h) (i : Nat) (hi : i < l.length) : ((liesOf w l h)[i]'(by rw [liesOf_len]; exact hi)).1 = l[i] := by
  simp [liesOf]
theorem ents_get : ∀ (l : List En) (i c : Nat) (hi : i < l.length), c < 4 → (ents l)[i * 4 + c]? = l[i].cells[c]?
  | [], _, _, hi, _ => by simp at hi
  | x :: r, 0, c, _, hc => by
    show (x.cells ++ ents r)[0 * 4 + c]? = _
    rw [List.getElem?_append_left (by simp [En.cells]; omega)]
    simp
  | x :: r, i + 1, c, hi, hc => by
    show (x.cells ++ ents r)[(i + 1) * 4 + c]? = _
    have hl : x.cells.length = 4 := rfl
    rw [List.getElem?_append_right (by omega), hl, show (i + 1) * 4 + c - 4 = i * 4 + c by omega, ents_get r i c (by simpa using hi) hc]
    simp
/-- unlike's list holds what is to be sorted. -/
theorem holds_of {w W : World} [Inhabited (Lies w)] {l : List En} {g cap : Nat} {ad : Option Addr} (h : ∀ x ∈ l, IsF w x.t (.slice x.kad x.t.kids.length x.kcap) ∧ x.t.size ≤ 1099511627776 ∧ x.t.Fine) (hr : W.ownsRow w.heap.size 71 4 (.slice ad l.length cap) l.length (ents l)) (hg : ad = some ⟨g, 0, none⟩) : w.heap.size ≤ g ∧ g < W.heap.size ∧ HoldsK (encE (w := w)) 4 W g 0 (liesOf w l h).toArray := by
  subst hg
  rcases hr.2 with ⟨e, _⟩ | ⟨g', cap', cur, e, hb, hc, _, _, hsz, htk⟩
  · cases e
  · cases e
    refine ⟨hb, lt_of hc, fun j hj => ?_⟩
    have hj2 : j < l.length * 4 := by
      have := size_flatK (encE (w := w)) 4 (liesOf w l h).toArray
      rw [this] at hj
      simpa [liesOf_len] using hj
    have hj3 : j < (liesOf w l h).toArray.size * 4 := by simpa [liesOf_len] using hj2
    have hd : j / 4 < l.length := by omega
    have hm : j % 4 < 4 := by omega
    have hcell : W.cell? ⟨g, 0 + j, none⟩ = (ents l)[j]? := by
      rw [cell_of hc, ← htk, List.getElem?_take_of_lt hj2, Nat.zero_add]
      simp
    refine ⟨?_, free_of hc _⟩
    rw [hcell, get_flatK _ _ _ _ hj3]
    have hx : (liesOf w l h).toArray[j / 4]! = (liesOf w l h)[j / 4]'(by rw [liesOf_len]; exact hd) := by
      rw [getElem!_pos _ _ (by simpa [liesOf_len] using hd)]; simp
    rw [hx]
    show _ = some ((((liesOf w l h)[j / 4]'(by rw [liesOf_len]; exact hd)).1.cells)[j % 4]!)
    rw [liesOf_at w l h (j / 4) hd]
    have := ents_get l (j / 4) (j % 4) hd hm
    rw [show j / 4 * 4 + j % 4 = j by omega] at this
    rw [this, List.getElem?_eq_getElem (by simp [En.cells]; omega), getElem!_pos _ _ (by simp [En.cells]; omega)]
end Go.Proofs.YtnljjbpbgjgnkaaGreatDoor
