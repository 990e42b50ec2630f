/- package dfa: Has of any automaton; a row of bools in memory. -/
import Derived.Test.YtcojlcbljhnbgaaDfRn
namespace Go.Proofs.Ytcojlcbljhnbgaa
open Go.RowKit Go.Shelf

/-- A row of bools. -/
structure Bls (W : World) (v : Value) (xs : List Bool) : Prop where
  few : xs.length ≤ 140737488351232
  lie : (v = .slice none 0 0 ∧ xs = []) ∨ ∃ b o c, v = .slice (some ⟨b, o, none⟩) xs.length c ∧ xs.length ≤ c ∧ c ≤ maxLen ∧ ∀ i, i < xs.length → W.cell? ⟨b, o + i, none⟩ = some (.bool (xs.getD i false))
theorem Bls.kept {W W' : World} {v : Value} {xs : List Bool} (h : Bls W v xs) (k : Kept [] W W') : Bls W' v xs := by
  refine ⟨h.few, ?_⟩
  rcases h.lie with h1 | ⟨b, o, c, h1, h2, h3, h4⟩
  · exact .inl h1
  · exact .inr ⟨b, o, c, h1, h2, h3, fun i hi => cell_kept0 k (h4 i hi)⟩
theorem Bls.nil (W : World) : Bls W (.slice none 0 0) [] := ⟨by simp, .inl ⟨rfl, rfl⟩⟩
theorem Bls.form {W : World} {v : Value} {xs : List Bool} (h : Bls W v xs) : ∃ ad c, v = .slice ad xs.length c := by
  rcases h.lie with ⟨rfl, rfl⟩ | ⟨b, o, c, rfl, _⟩
  · exact ⟨none, 0, rfl⟩
  · exact ⟨_, c, rfl⟩
/-- What Has answers. -/
def hasE (ps : List ByteArray) (next : List (List Int)) (lv : List Bool) (us : List Nat) : Bool :=
  runE ps next lv.length us == 0 && lv.getD (runS ps next lv.length us) false
end Go.Proofs.Ytcojlcbljhnbgaa
