/- package buchi: rowsOf of one edge. -/
import Derived.Test.YtcojlcbljhnbgaaBuCheck
namespace Go.Proofs.Ytcojlcbljhnbgaa
open Go.RowKit Go.Shelf

theorem set_one {W : World} {B : Nat} {x : Value} {T : TypeId} (h : W.heap[B]? = some (.cells #[x] T (0, 0))) (v : Value) : (W.setCell ⟨B, 0, none⟩ v).drew.heap[B]? = some (.cells #[v] T (0, 0)) := by
  show (W.setCell ⟨B, 0, none⟩ v).heap[B]? = _
  simp only [World.setCell, Array.getElem?_modify, if_true, h, Option.map_some]
  rfl
end Go.Proofs.Ytcojlcbljhnbgaa
