/- A slice of int among the arguments: from its reading to what the walks ask. -/
import Derived.Test.YtjfhfdpbdjeedaaDoorOf
import Derived.ProofKit
import Derived.OpenShut
import Derived.SizedLaws
import Derived.Lib.SmallJoins
namespace Go.Proofs.YtjfhfdpbdjeedaaDoor
open Go.ChangeShapes Go.WideShapes Go.ChangeAt Go.WideMaps Go.WideElems Go.RowKit

theorem Tryd.cellsI : Tryd.prog.cellsOf 3 = 1 := by kernel_rfl
theorem Tryd.bytesI : Tryd.prog.bytesOf 3 = 8 := by kernel_rfl

theorem sl_of_trod {H : Type} {enc : TypeId × Value → H} {W : World} {fuel : Nat} {v : Value} {y : DataW H × List MemPlace} (h : DataW.trod enc Tryd.prog W 0 (fun _ => true) true fuel 23 [v] = some y) :
    ∃ (ad : Option Addr) (cap : Nat) (zs : List Int), v = .slice ad zs.length cap ∧ IsSl W (.slice ad zs.length cap) zs ∧
      (zs.length = 0 ∨ ∃ elems spare, y.1 = .slice elems spare ∧ zs.length ≤ elems.length + spare.length) ∧ (∀ n ∈ zs, (Lit.int .i64 n).wf = true) := by
  rcases open_ints Tryd.underlying23 Tryd.underlying3 Tryd.cellsI h with ⟨hcs, hx⟩ | ⟨a, len, cap, zs, hcs, _, hl, hm, hz, hx, hcell, hwz⟩
  · simp at hcs
    subst hcs
    exact ⟨none, 0, [], rfl, ⟨none, 0, rfl, Or.inl rfl⟩, Or.inl rfl, fun n hn => by simp at hn⟩
  · simp at hcs
    subst hcs
    simp only [if_true] at hz
    have e : (zs.take len).length = len := by rw [List.length_take]; omega
    refine ⟨some a, cap, zs.take len, by rw [e], ⟨some a, cap, by rw [e], ?_⟩, Or.inr ⟨_, _, by rw [hx], ?_⟩, fun n hn => hwz n (List.mem_of_mem_take hn)⟩
    · by_cases h0 : len = 0
      · left; subst h0; simp
      · right
        obtain ⟨b, off, rfl, hc⟩ := ints_at hcell (by omega)
        refine ⟨b, off, rfl, World.block_lt_of_cell? W _ (hc 0 (by omega)), fun i hi => ?_⟩
        have hi' : i < zs.length := by rw [List.length_take] at hi; omega
        rw [hc i hi', List.getElem_take, List.getD_eq_getElem?_getD, List.getElem?_eq_getElem hi']
        rfl
    · simp only [lits, List.length_map, List.length_take, List.length_drop]; omega
theorem sl_small {H : Type} {ts : List TypeId} {ds : List (DataW H)} (hsz : (DataW.weightsEach Tryd.prog ts ds).all (· ≤ reachBytes) = true) {j : Nat} {d : DataW H} {m : Nat} (ht : ts[j]? = some 23) (hd : ds[j]? = some d)
    (h : m = 0 ∨ ∃ elems spare, d = .slice elems spare ∧ m ≤ elems.length + spare.length) : m ≤ 17592186044416 := by
  rcases h with h | ⟨el, sp, rfl, h⟩
  · omega
  · have := sized_slice hsz (j := j) (t := 23) (e := 3) ht hd Tryd.underlying23
    rw [Tryd.bytesI] at this
    simp only [reachBytes] at this
    omega
theorem i64_bounds {n : Int} (h : (Lit.int .i64 n).wf = true) : -9223372036854775808 ≤ n ∧ n ≤ 9223372036854775807 := by
  simp [Lit.wf, IntKind.min, IntKind.max, IntKind.signed, IntKind.bits] at h
  omega
end Go.Proofs.YtjfhfdpbdjeedaaDoor
