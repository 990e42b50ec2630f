/- Which blanks stand ahead of which token. -/
import Derived.Test.YtilgfnafkcjdgaaDoorLxSpaced
namespace Go.Proofs.YtilgfnafkcjdgaaDoor

def kOf (zs : List Int) (i : Nat) : Nat := match zs[i]? with
  | none => 0
  | some v => (v.tmod 5).natAbs
def blankL : Nat → List UInt8
  | 0 => [32]
  | 1 => [10]
  | 2 => [9, 32]
  | 3 => [13, 10]
  | _ => [32, 32]
def blOf (zs : List Int) (i : Nat) : List UInt8 := blankL (kOf zs i)
theorem kOf_le (zs : List Int) (i : Nat) : kOf zs i ≤ 4 := by
  unfold kOf
  split
  · omega
  · rename_i v _
    rw [Int.natAbs_tmod]
    have := Nat.mod_lt v.natAbs (show 0 < (5 : Int).natAbs by decide)
    have h5 : (5 : Int).natAbs = 5 := rfl
    omega
theorem kOf_none {zs : List Int} {i : Nat} (h : ¬ i < zs.length) : kOf zs i = 0 := by
  unfold kOf
  rw [List.getElem?_eq_none (by omega)]
theorem kOf_some {zs : List Int} {i : Nat} (h : i < zs.length) : ((zs[i]).tmod 5 = (kOf zs i : Nat) ∧ 0 ≤ (zs[i]).tmod 5) ∨ ((zs[i]).tmod 5 = -((kOf zs i : Nat) : Int) ∧ (zs[i]).tmod 5 < 0) := by
  unfold kOf
  rw [List.getElem?_eq_getElem h]
  show ((zs[i]).tmod 5 = (((zs[i]).tmod 5).natAbs : Nat) ∧ _) ∨ ((zs[i]).tmod 5 = -((((zs[i]).tmod 5).natAbs : Nat) : Int) ∧ _)
  omega
theorem blankL_cell (k : Nat) (h : k ≤ 4) : (#[.string ⟨#[32]⟩, .string ⟨#[10]⟩, .string ⟨#[9, 32]⟩, .string ⟨#[13, 10]⟩, .string ⟨#[32, 32]⟩] : Array Value)[k]? = some (.string ⟨(blankL k).toArray⟩) := by
  match k, h with
  | 0, _ => rfl
  | 1, _ => rfl
  | 2, _ => rfl
  | 3, _ => rfl
  | 4, _ => rfl
theorem blankL_good (k : Nat) : blankL k ≠ [] ∧ (∀ c ∈ blankL k, isBlankB c = true) ∧ (blankL k).length ≤ 2 := by
  match k with
  | 0 => exact ⟨by decide, by decide, by decide⟩
  | 1 => exact ⟨by decide, by decide, by decide⟩
  | 2 => exact ⟨by decide, by decide, by decide⟩
  | 3 => exact ⟨by decide, by decide, by decide⟩
  | _ + 4 => exact ⟨show ([32, 32] : List UInt8) ≠ [] by decide, show ∀ c ∈ ([32, 32] : List UInt8), isBlankB c = true by decide, show ([32, 32] : List UInt8).length ≤ 2 by decide⟩
/-- What the second cutting finds. -/
theorem spaced_again (L : List UInt8) (zs : List Int) (hg : ∀ x ∈ itemsOf L, x.err = 0) :
    (itemsOf (spacedFrom L (blOf zs) 0 (itemsOf L))).map kindTE = (itemsOf L).map kindTE ∧ (∀ x ∈ itemsOf L, (writtenL L x).length ≤ L.length) ∧ (spacedFrom L (blOf zs) 0 (itemsOf L)).length ≤ (itemsOf L).length * (L.length + 2) := by
  have h := spaced_items L (blOf zs) (fun i => ⟨(blankL_good _).1, (blankL_good _).2.1⟩) L.length 0 0 0 ((spacedFrom L (blOf zs) 0 (itemsOf L)).length + 1) (by omega) (by omega) (by rw [from_zero]; exact hg) (by rw [from_zero]; omega)
  rw [from_zero] at h
  exact ⟨h.1, h.2, spaced_length L (blOf zs) (fun i => (blankL_good _).2.2) L.length _ 0 h.2⟩
theorem map_kind_at {ys xs : List Item} (h : ys.map kindTE = xs.map kindTE) : ys.length = xs.length ∧ ∀ (i : Nat) x, xs[i]? = some x → ∃ y, ys[i]? = some y ∧ y.kind = x.kind ∧ y.text = x.text ∧ y.err = x.err := by
  have hl : ys.length = xs.length := by have := congrArg List.length h; simpa using this
  refine ⟨hl, fun i x hx => ?_⟩
  have h1 : (ys.map kindTE)[i]? = (xs.map kindTE)[i]? := by rw [h]
  rw [List.getElem?_map, List.getElem?_map, hx] at h1
  cases hy : ys[i]? with
  | none => rw [hy] at h1; cases h1
  | some y =>
    rw [hy] at h1
    have h2 : kindTE y = kindTE x := Option.some.inj h1
    unfold kindTE at h2
    exact ⟨y, rfl, (Prod.ext_iff.1 h2).1, (Prod.ext_iff.1 (Prod.ext_iff.1 h2).2).1, (Prod.ext_iff.1 (Prod.ext_iff.1 h2).2).2⟩
theorem spaced_step (L : List UInt8) (bl : Nat → List UInt8) (xs : List Item) (i : Nat) (x : Item) (hx : xs[i]? = some x) : spacedFrom L bl i (xs.drop i) = bl i ++ (writtenL L x ++ spacedFrom L bl (i + 1) (xs.drop (i + 1))) := by
  rw [List.drop_eq_getElem?_toList_append, hx]
  rfl
end Go.Proofs.YtilgfnafkcjdgaaDoor
