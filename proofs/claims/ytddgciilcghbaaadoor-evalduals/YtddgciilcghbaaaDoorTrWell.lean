/- tree.wellFormed. -/
import Derived.Test.YtddgciilcghbaaaDoorTrBox
namespace Go.Proofs.YtddgciilcghbaaaDoor
open Go.RowKit Go.Shelf
attribute [local go_sem] Oper.semAt_some

/-- Is all that stands in a tree so. -/
def Tr.every (q : Tr → Bool) (t : Tr) : Bool := (t.parts []).all fun x => q x.2
theorem every_yes {q : Tr → Bool} {t : Tr} {xs : List Part} (hS : xs.map Part.key = t.parts []) (h : ∀ y ∈ xs, q y.t = true) : t.every q = true := by
  unfold Tr.every
  rw [← hS, List.all_map, List.all_eq_true]
  exact h
theorem every_no {q : Tr → Bool} {t : Tr} {pre : List Part} {x : Part} (hS : (pre ++ [x]).map Part.key <+: t.parts []) (h : q x.t = false) : t.every q = false := by
  unfold Tr.every
  rw [List.all_eq_false]
  exact ⟨x.key, hS.subset (List.mem_map.2 ⟨x, by simp, rfl⟩), by simp [Part.key, h]⟩

end Go.Proofs.YtddgciilcghbaaaDoor
