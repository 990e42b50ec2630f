/- augurref00.SameTokens at two slices of the same tokens. -/
import Derived.Test.YtilgfnafkcjdgabDoorLxWorks
import Derived.BigQuiet
namespace Go.Proofs.YtilgfnafkcjdgabDoor
open Go.RowKit

theorem flatI_get : ∀ (xs : List Item) (i : Nat) (x : Item), xs[i]? = some x → (flatI xs)[i * 3]? = some (.int .u8 (x.kind.val : Nat)) ∧ (flatI xs)[i * 3 + 1]? = some (.string ⟨x.text.toArray⟩) ∧ (flatI xs)[i * 3 + 2]? = some (.int .i64 (x.pos : Nat))
  | [], _, _, h => by simp at h
  | y :: r, 0, x, h => by cases h; exact ⟨rfl, rfl, rfl⟩
  | y :: r, i + 1, x, h => by
    have ih := flatI_get r i x (by simpa using h)
    have e : flatI (y :: r) = (tokC y).toList ++ flatI r := rfl
    have hl : (tokC y).toList.length = 3 := rfl
    have a1 : ∀ j, (flatI (y :: r))[(i + 1) * 3 + j]? = (flatI r)[i * 3 + j]? := fun j => by
      rw [e, List.getElem?_append_right (by omega), hl]
      congr 1
      omega
    exact ⟨(a1 0).trans ih.1, (a1 1).trans ih.2.1, (a1 2).trans ih.2.2⟩
/-- A slice that holds tokens. -/
def TokSl (W : World) (v : Value) (xs : List Item) : Prop :=
  ∃ ad cap, v = .slice ad xs.length cap ∧ ∀ i x, xs[i]? = some x → ∃ g, ad = some ⟨g, 0, none⟩ ∧ g < W.heap.size ∧ W.cell? ⟨g, i * 3, none⟩ = some (.int .u8 (x.kind.val : Nat)) ∧ W.cell? ⟨g, i * 3 + 1, none⟩ = some (.string ⟨x.text.toArray⟩) ∧ W.cell? ⟨g, i * 3 + 2, none⟩ = some (.int .i64 (x.pos : Nat))
theorem TokSl.kept {W W' : World} {v : Value} {xs : List Item} (h : TokSl W v xs) (k : Kept [] W W') : TokSl W' v xs := by
  obtain ⟨ad, cap, rfl, h⟩ := h
  refine ⟨ad, cap, rfl, fun i x hx => ?_⟩
  obtain ⟨g, rfl, hg, c0, c1, c2⟩ := h i x hx
  have same : ∀ j, W'.cell? ⟨g, j, none⟩ = W.cell? ⟨g, j, none⟩ := fun j => World.cell?_of_block (w := W) (a := ⟨g, j, none⟩) (k.block g hg (by simp))
  exact ⟨g, rfl, Nat.lt_of_lt_of_le hg k.size, (same _).trans c0, (same _).trans c1, (same _).trans c2⟩
theorem TokSl.of_own {W : World} {base : Nat} {v : Value} {xs : List Item} (h : W.ownsRow base 31 3 v xs.length (flatI xs)) : TokSl W v xs := by
  rcases h.2 with ⟨rfl, h0⟩ | ⟨g, cap, cur, rfl, _, hc, _, _, _, ht⟩
  · exact ⟨none, 0, by rw [h0], fun i x hx => by rw [List.length_eq_zero_iff.1 h0] at hx; simp at hx⟩
  · refine ⟨_, cap, rfl, fun i x hx => ⟨g, rfl, lt_of hc, ?_⟩⟩
    have hi : i < xs.length := (List.getElem?_eq_some_iff.1 hx).1
    obtain ⟨f0, f1, f2⟩ := flatI_get xs i x hx
    have cc : ∀ j, j < xs.length * 3 → W.cell? ⟨g, j, none⟩ = (flatI xs)[j]? := fun j hj => by
      rw [cell_of hc, ← ht, List.getElem?_take, if_pos hj, Array.getElem?_toList]
    exact ⟨(cc _ (by omega)).trans f0, (cc _ (by omega)).trans f1, (cc _ (by omega)).trans f2⟩

set_option maxHeartbeats 2000000 in
set_option maxRecDepth 20000 in
theorem same_any (v1 v2 : Value) (xs : List Item) (w : World) (h1 : TokSl w v1 xs) (h2 : TokSl w v2 xs) (hl : xs.length ≤ 1099511627776) :
    Calls Tryd.prog 7 #[v1, v2] w fun e w' => e = .returned (.bool true) ∧ Kept [] w w' := by
  have H1 : Hid (TokSl w v1 xs) := h1
  have H2 : Hid (TokSl w v2 xs) := h2
  obtain ⟨ad1, cap1, rfl, _⟩ := h1
  obtain ⟨ad2, cap2, rfl, _⟩ := h2
  have s1 : Tryd.prog.eqGuardType Tryd.prog.depth 31 = false := by kernel_rfl
  have s2 : Tryd.prog.stoodInHeld 31 = false := by kernel_rfl
  go_enter Tryd.func7, Tryd.ntmps7
  go_wp2
  go_loopw [5] (fun vi wr => ∃ i : Nat, i ≤ xs.length ∧ vi = .int .i64 (i : Nat) ∧ Hid (Kept [] w wr)) (fun vi _ => xs.length - (intOf vi).toNat)
  case atStart => exact ⟨0, Nat.zero_le _, rfl, Kept.refl _ _⟩
  case round =>
    obtain ⟨i, hi, rfl, HK⟩ := hrel
    by_cases hlt : i < xs.length
    · obtain ⟨x, hx⟩ : ∃ x, xs[i]? = some x := ⟨xs[i], List.getElem?_eq_getElem hlt⟩
      obtain ⟨_, _, e1, hc1⟩ := H1.out.kept HK.out
      cases e1
      obtain ⟨_, _, e2, hc2⟩ := H2.out.kept HK.out
      cases e2
      obtain ⟨g1, rfl, _, a0, a1, a2⟩ := hc1 i x hx
      obtain ⟨g2, rfl, _, b0, b1, b2⟩ := hc2 i x hx
      have hii : (i : Int) < (xs.length : Int) := by omega
      generalize x.kind.val = k at a0 b0
      generalize x.pos = p at a2 b2
      generalize (⟨x.text.toArray⟩ : ByteArray) = t at a1 b1
      have htt : (t.toList == t.toList) = true := by simp
      clear hc1 hc2 hx
      go_wp2
      go_quiet (fail)
      go_wp2
      go_roundw
      case rel => exact ⟨i + 1, by omega, by go_num, HK.out.drewN _⟩
      case measure => simp [intOf]; omega
    · have hii : ¬ (i : Int) < (xs.length : Int) := by omega
      go_wp2
      go_ret
      exact ⟨rfl, HK.out⟩
end Go.Proofs.YtilgfnafkcjdgabDoor
