/- A slice of int among the arguments: from its reading to what the walks ask. -/
import Derived.Test.YtilgfnafkcjdgaaDoorKeeps
import Derived.ProofKit
import Derived.OpenShut
import Derived.SizedLaws
import Derived.Lib.SmallJoins
namespace Go.Proofs.YtilgfnafkcjdgaaDoor
open Go.ChangeShapes Go.WideShapes Go.ChangeAt Go.WideMaps Go.WideElems Go.RowKit

/-- A list of int, as a slice that came in. -/
def IsSl (w : World) (v : Value) (zs : List Int) : Prop :=
  ∃ ad cap, v = .slice ad zs.length cap ∧ (zs = [] ∨ ∃ lb lo, ad = some ⟨lb, lo, none⟩ ∧ lb < w.heap.size ∧ ∀ i (h : i < zs.length), w.cell? ⟨lb, lo + i, none⟩ = some (.int .i64 zs[i]))
theorem IsSl.kept {w w' : World} {v : Value} {zs : List Int} (h : IsSl w v zs) (k : Kept [] w w') : IsSl w' v zs := by
  obtain ⟨ad, cap, h1, h2 | ⟨lb, lo, h2, h3, h4⟩⟩ := h
  · exact ⟨ad, cap, h1, Or.inl h2⟩
  · exact ⟨ad, cap, h1, Or.inr ⟨lb, lo, h2, Nat.lt_of_lt_of_le h3 k.size, fun i hi => (k.below.cell (p := ⟨lb, lo + i, none⟩) h3).trans (h4 i hi)⟩⟩
theorem Tryd.cellsI : Tryd.prog.cellsOf 3 = 1 := by kernel_rfl
theorem sl_of_trod {H : Type} {enc : TypeId × Value → H} {W : World} {fuel : Nat} {v : Value} {y : DataW H × List MemPlace} (h : DataW.trod enc Tryd.prog W 0 (fun _ => true) true fuel 56 [v] = some y) :
    ∃ (ad : Option Addr) (cap : Nat) (zs : List Int), v = .slice ad zs.length cap ∧ IsSl W (.slice ad zs.length cap) zs ∧ (∀ n ∈ zs, (Lit.int .i64 n).wf = true) := by
  rcases open_ints Tryd.underlying56 Tryd.underlying3 Tryd.cellsI h with ⟨hcs, hx⟩ | ⟨a, len, cap, zs, hcs, _, hl, hm, hz, hx, hcell, hwz⟩
  · simp at hcs
    subst hcs
    exact ⟨none, 0, [], rfl, ⟨none, 0, rfl, Or.inl rfl⟩, fun n hn => by simp at hn⟩
  · simp at hcs
    subst hcs
    simp only [if_true] at hz
    have e : (zs.take len).length = len := by rw [List.length_take]; omega
    refine ⟨some a, cap, zs.take len, by rw [e], ⟨some a, cap, by rw [e], ?_⟩, fun n hn => hwz n (List.mem_of_mem_take hn)⟩
    by_cases h0 : len = 0
    · left; subst h0; simp
    · right
      obtain ⟨b, off, rfl, hc⟩ := ints_at hcell (by omega)
      refine ⟨b, off, rfl, World.block_lt_of_cell? W _ (hc 0 (by omega)), fun i hi => ?_⟩
      have hi' : i < zs.length := by rw [List.length_take] at hi; omega
      rw [hc i hi', List.getElem_take, List.getD_eq_getElem?_getD, List.getElem?_eq_getElem hi']
      rfl
theorem i64_bounds {n : Int} (h : (Lit.int .i64 n).wf = true) : -9223372036854775808 ≤ n ∧ n ≤ 9223372036854775807 := by
  simp [Lit.wf, IntKind.min, IntKind.max, IntKind.signed, IntKind.bits] at h
  omega
end Go.Proofs.YtilgfnafkcjdgaaDoor
