/- Letters that are lent: two of room behind that have marks. -/
import Derived.Test.YtjnbfiikgogknaaDoorWdRefs
namespace Go.Proofs.YtjnbfiikgogknaaDoor
open Go.RowKit
attribute [local go_sem ↓] Go.wp_at_zero Go.wp_at_succ

/-- Letters that are lent, in a block of their own. -/
structure LentL (W : World) (b : Nat) (xs : List Nat) : Prop where
  row : W.heap[b]? = some (.cells (u16s (xs ++ [60001, 60002])).toArray 29 (0, 0))
  small : ∀ x ∈ xs, x < 65536
  few : xs.length ≤ 1000000000
theorem LentL.kept {W W' : World} {b : Nat} {xs : List Nat} (h : LentL W b xs) (k : Kept [] W W') : LentL W' b xs := ⟨k.at h.row (by simp), h.small, h.few⟩
theorem LentL.lets {W : World} {b : Nat} {xs : List Nat} (h : LentL W b xs) : Lets W (.slice (some ⟨b, 0, none⟩) xs.length (xs.length + 2)) xs := by
  have hf := h.few
  refine ⟨h.small, by omega, .inr ⟨b, 0, xs.length + 2, rfl, by omega, by unfold maxLen; omega, fun i hi => ?_⟩⟩
  rw [Nat.zero_add, cell_of h.row i]
  simp [u16s, List.getElem?_append_left, hi]
theorem LentL.marks {W : World} {b : Nat} {xs : List Nat} (h : LentL W b xs) : W.cell? ⟨b, xs.length, none⟩ = some (.int .u16 60001) ∧ W.cell? ⟨b, xs.length + 1, none⟩ = some (.int .u16 60002) := by
  constructor
  · rw [cell_of h.row]; simp [u16s]
  · rw [cell_of h.row]; simp [u16s]
set_option maxHeartbeats 800000 in
theorem wholeLetters_any (b : Nat) (u : Value) (xs ys : List Nat) (w : World) (h : LentL w b xs) (hu : Lets w u ys) :
    Calls Tryd.prog 28 #[.slice (some ⟨b, 0, none⟩) xs.length (xs.length + 2), u] w fun e w' => e = .returned (.bool (decide (xs = ys))) ∧ Kept [] w w' := by
  have hf := h.few
  obtain ⟨m0, m1⟩ := h.marks
  have HC : Hid (∀ W, Quiet w W → Calls Tryd.prog 35 #[.slice (some ⟨b, 0, none⟩) xs.length (xs.length + 2), u] W fun e w1 => e = .returned (.bool (decide (xs = ys))) ∧ Hid (Quiet W w1)) := fun W q => sameLetters_any _ _ xs ys W (h.lets.kept q.kept) (hu.kept q.kept)
  obtain ⟨ad, c, rfl, _, _⟩ := hu.form
  clear h hu
  generalize decide (xs = ys) = r at HC ⊢
  generalize xs.length = n at *
  generalize ys.length = k at *
  have b1 : ¬ ((n : Int) + 2 < (n : Int) + 2) := by omega
  go_enter Tryd.func28, Tryd.ntmps28
  go_wp2_with (go_at_call 35; refine (HC.out _ (Quiet.refl _)).mono ?_; rintro e w1 ⟨rfl, HQ⟩)
  go_ret
  exact ⟨rfl, HQ.out.kept⟩
/-- How far it is written over. -/
def spoilt (l : List Nat) (i : Nat) : List Nat := List.replicate i 60003 ++ l.drop i
theorem spoilt_step (l : List Nat) (i : Nat) (h : i < l.length) : (u16s (spoilt l i)).toArray.setIfInBounds i (.int .u16 60003) = (u16s (spoilt l (i + 1))).toArray := by
  apply Array.toList_inj.1
  simp only [Array.toList_setIfInBounds]
  apply List.ext_getElem?
  intro j
  simp only [u16s, spoilt, List.getElem?_set, List.getElem?_map]
  by_cases e : i = j
  · subst e
    have e1 : (List.map (fun x : Nat => Value.int IntKind.u16 (x : Nat)) (List.replicate i 60003 ++ List.drop i l)).length = l.length := by simp; omega
    have e2 : (List.replicate (i + 1) 60003 ++ List.drop (i + 1) l)[i]? = some 60003 := by rw [List.getElem?_append_left (by simp)]; simp
    rw [if_pos rfl, e2]
    first | rw [if_pos (by rw [e1]; exact h)]; rfl | (simp only [e1, h, if_true]; rfl)
  · rw [if_neg e]
    congr 1
    rcases Nat.lt_or_ge j i with hj | hj
    · rw [List.getElem?_append_left (by simp; omega), List.getElem?_append_left (by simp; omega)]
      simp [hj, show j < i + 1 by omega]
    · rw [List.getElem?_append_right (by simp; omega), List.getElem?_append_right (by simp; omega)]
      simp only [List.length_replicate, List.getElem?_drop]
      congr 1
      omega
set_option maxHeartbeats 800000 in
theorem spoilLetters_any (b : Nat) (xs : List Nat) (w : World) (h : LentL w b xs) :
    Calls Tryd.prog 29 #[.slice (some ⟨b, 0, none⟩) xs.length (xs.length + 2)] w fun e w' => (∃ v, e = .returned v) ∧ Kept [b] w w' ∧ w'.heap[b]? = some (.cells (u16s (List.replicate (xs.length + 2) 60003)).toArray 29 (0, 0)) := by
  have hf := h.few
  have HR : Hid (w.heap[b]? = some (.cells (u16s (spoilt (xs ++ [60001, 60002]) 0)).toArray 29 (0, 0))) := h.row
  have hlen : (xs ++ [60001, 60002]).length = xs.length + 2 := by simp
  have HLN : Hid ((xs ++ [60001, 60002]).length = xs.length + 2) := hlen
  have HE : Hid (spoilt (xs ++ [60001, 60002]) (xs.length + 2) = List.replicate (xs.length + 2) 60003) := by show spoilt _ _ = _; unfold spoilt; rw [← hlen, List.drop_length, List.append_nil]
  generalize xs ++ [60001, 60002] = l at *
  generalize xs.length = n at *
  clear h hlen
  go_enter Tryd.func29, Tryd.ntmps29
  go_wp2_with fail
  go_loopw [3] (fun v wr => ∃ i : Nat, v = .int .i64 (i : Nat) ∧ i ≤ n + 2 ∧ Hid (wr.heap[b]? = some (.cells (u16s (spoilt l i)).toArray 29 (0, 0))) ∧ Hid (Kept [b] w wr)) (fun v _ => n + 2 - (intOf v).toNat)
  case atStart => exact ⟨0, rfl, Nat.zero_le _, HR.out, Kept.refl _ _⟩
  case round =>
    obtain ⟨i, rfl, hi, HB, HK⟩ := hrel
    by_cases hlt : i < n + 2
    · have l1 : (i : Int) < (n : Int) + 2 := by omega
      have l0 : (0 : Int) ≤ (i : Int) := by omega
      have hll : i < l.length := by rw [HLN.out]; exact hlt
      obtain ⟨x, hx⟩ : ∃ x, wr.cell? ⟨b, i, none⟩ = some x := ⟨_, (cell_of HB.out i).trans (Array.getElem?_eq_getElem (by simp [u16s, spoilt]; omega))⟩
      have f0 : wr.frozen? ⟨b, i, none⟩ = false := free_of HB.out i
      have HS : Hid ((wr.setCell ⟨b, i, none⟩ (.int .u16 60003)).heap[b]? = some (.cells (u16s (spoilt l (i + 1))).toArray 29 (0, 0))) := by
        show _ = _
        rw [← spoilt_step l i hll]
        exact row_set HB.out _
      clear hll
      go_wp2
      go_roundw
      case rel => exact ⟨i + 1, by go_num, by omega, HS.out, HK.out.setCell (.inl (by simp)) _⟩
      case measure => simp [intOf]; omega
    · obtain rfl : i = n + 2 := by omega
      have l1 : ¬ (((n + 2 : Nat) : Int) < (n : Int) + 2) := by omega
      go_wp2
      first | go_end0 | refine bodyPost_ret (results_none rfl _ _ _) rfl ?_
      exact ⟨⟨_, rfl⟩, HK.out, by rw [← HE.out]; exact HB.out⟩
end Go.Proofs.YtjnbfiikgogknaaDoor
