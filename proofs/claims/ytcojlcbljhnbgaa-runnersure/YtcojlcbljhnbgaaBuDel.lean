/- package buchi: drop's closure, slices.IndexFunc and DeleteFunc by it. -/
import Derived.Test.YtcojlcbljhnbgaaBuRows
namespace Go.Proofs.Ytcojlcbljhnbgaa
open Go.RowKit Go.Shelf

/-- Truths in a list. -/
structure Bools (W : World) (v : Value) (bs : List Bool) : Prop where
  few : bs.length ≤ 2199023255552
  lie : (v = .slice none 0 0 ∧ bs = []) ∨ ∃ b o c, v = .slice (some ⟨b, o, none⟩) bs.length c ∧ bs.length ≤ c ∧ c ≤ maxLen ∧ ∀ i (h : i < bs.length), W.cell? ⟨b, o + i, none⟩ = some (.bool bs[i])
theorem Bools.kept {W W' : World} {v : Value} {bs : List Bool} (h : Bools W v bs) (k : Kept [] W W') : Bools W' v bs := by
  refine ⟨h.few, ?_⟩
  rcases h.lie with h1 | ⟨b, o, c, h1, h2, h3, h4⟩
  · exact .inl h1
  · exact .inr ⟨b, o, c, h1, h2, h3, fun i hi => cell_kept0 k (h4 i hi)⟩
theorem Bools.there {W : World} {v : Value} {bs : List Bool} (h : Bools W v bs) (h0 : 0 < bs.length) : ∃ b o c, v = .slice (some ⟨b, o, none⟩) bs.length c ∧ bs.length ≤ c ∧ c ≤ maxLen ∧ ∀ i (h : i < bs.length), W.cell? ⟨b, o + i, none⟩ = some (.bool bs[i]) := by
  rcases h.lie with ⟨_, h2⟩ | h2
  · rw [h2] at h0; simp at h0
  · exact h2
/-- A spot is out. -/
def outB (bs : List Bool) (x : Int) : Bool := !(bs.getD x.toNat true)
/-- Numbers of spots. -/
def Spots (bs : List Bool) (xs : List Int) : Prop := ∀ x ∈ xs, 0 ≤ x ∧ x < (bs.length : Int)
theorem Spots.nat {bs : List Bool} {xs : List Int} (h : Spots bs xs) {k : Nat} (hk : k < xs.length) : ∃ n : Nat, xs[k] = (n : Int) ∧ ∃ hn : n < bs.length, outB bs xs[k] = !bs[n] := by
  obtain ⟨h1, h2⟩ := h _ (List.getElem_mem hk)
  refine ⟨xs[k].toNat, by omega, by omega, ?_⟩
  unfold outB
  rw [List.getD_eq_getElem?_getD, List.getElem?_eq_getElem (by omega)]
  rfl
end Go.Proofs.Ytcojlcbljhnbgaa
