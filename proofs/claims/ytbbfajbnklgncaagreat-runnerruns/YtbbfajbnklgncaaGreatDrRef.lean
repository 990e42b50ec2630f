/- augurref13.Check, Run, Has at any deterministic automaton: the document's answers are the program's. -/
import Derived.Test.YtbbfajbnklgncaaGreatHF
import Derived.Test.YtbbfajbnklgncaaGreatHN
import Derived.BigQuiet
import Derived.Deep.RegionHeld3
namespace Go.Proofs.YtbbfajbnklgncaaGreat
open Go.RowKit Go.Shelf

theorem rightD_no {ps : List ByteArray} {next : List (List Int)} {ll i : Nat} (hi : i < next.length) (h : wrongB ps.length next.length next[i] = true) : rightD ps next ll = false := by
  unfold rightD
  rw [List.any_eq_true.2 ⟨next[i], List.getElem_mem hi, h⟩]
  simp
theorem rightD_yes {ps : List ByteArray} {next : List (List Int)} {ll : Nat} (h1 : listB ps = true) (h2 : next.length ≠ 0) (h3 : ll = next.length) (h : ∀ i (hi : i < next.length), wrongB ps.length next.length next[i] = false) : rightD ps next ll = true := by
  unfold rightD
  rw [h1, any_no h, decide_eq_false h2, decide_eq_true h3]
  rfl
theorem rowsD_get {W : World} {ad : Option Addr} {c : Nat} {ss : List (List Int)} (h : Rowss W (.slice ad ss.length c) ss) (i : Nat) (hi : i < ss.length) : ∃ b o u, ad = some ⟨b, o, none⟩ ∧ W.cell? ⟨b, o + i, none⟩ = some u ∧ Ints W u ss[i] := by
  rcases h.lie with ⟨_, rfl⟩ | ⟨b, o, c, e, _, _, h4⟩
  · simp at hi
  · cases e
    obtain ⟨u, h5, h6⟩ := h4 i hi
    exact ⟨b, o, u, rfl, h5, h6⟩
theorem ret_errD {a b : Nat} (h : a = b) : Ending.returned (.int .i64 (a : Nat)) = Ending.returned (.int .i64 (b : Nat)) := by rw [h]
end Go.Proofs.YtbbfajbnklgncaaGreat
