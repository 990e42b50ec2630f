/- slices.SortFunc by Subs' comparison. -/
import Derived.Test.YtnljjbpbgjgnkaaGreatDoorTrSort
import Derived.Test.YtnljjbpbgjgnkaaGreatDoorTrOrd
namespace Go.Proofs.YtnljjbpbgjgnkaaGreatDoor
open Go.RowKit Go.Shelf Go.Sort

theorem preE : Pre cmpE := by
  have h : cmpE = lex2 (fun x y : Nat × Tr => cmpN x.1 y.1) (fun x y : Nat × Tr => cmpT x.2 y.2) := by
    funext x y
    unfold cmpE lex2
    by_cases e : x.1 = y.1
    · rw [if_pos e, if_pos (cmpN_zero.2 e)]
    · rw [if_neg e, if_neg (fun q => e (cmpN_zero.1 q))]
  rw [h]
  exact (preN.pull (fun x : Nat × Tr => x.1)).lex (preT.pull (fun x : Nat × Tr => x.2))
/-- What is sorted: trees that lie in w. -/
structure Lies (w : World) where
  val : En
  lies : IsF w val.t (.slice val.kad val.t.kids.length val.kcap)
  small : val.t.size ≤ 1099511627776
  fine : val.t.Fine
def encE {w : World} (x : Lies w) : List Value := x.1.cells
theorem sorted_block {w : World} {α : Type} [Inhabited α] (enc : α → List Value) (k blk off m : Nat) (dk : Array α) (os : Array Obj) (W : World) (hW : Kept [] w W) (hb : w.heap.size ≤ blk) : Kept [] w (sortWorldK enc k W blk off m dk os) := by
  refine hW.trans (F := []) (G := [blk]) ⟨rfl, rfl, rfl, size_sortWorldK_c enc k W blk off m dk os, fun i hi hn => ?_⟩ (by simp) (fun x hx => .inr (by simpa using (List.mem_singleton.1 hx) ▸ hb))
  have hne : i ≠ blk := by simpa using hn
  have hs : i < (W.heap.modify blk (onCells (putCells id off (flatK enc k dk)))).size := by rw [Array.size_modify]; exact hi
  show ((W.heap.modify blk (onCells (putCells id off (flatK enc k dk))) ++ os)[i]?) = _
  rw [Array.getElem?_append_left hs, Array.getElem?_modify, if_neg (fun e => hne e.symm)]
theorem cmpLays (w W : World) (blk off size : Nat) [Inhabited (Lies w)] (hW : Kept [] w W) (hb : w.heap.size ≤ blk) : CmpLays Tryz.prog 36 #[] (encE (w := w)) 4 (fun x y => cmpE x.1.key y.1.key) blk off size W := by
  intro m os dk _ x y
  have hk := sorted_block (w := w) encE 4 blk off m dk os W hW hb
  exact subsCmp_any x.1 y.1 _ (x.lies.kept hk) (y.lies.kept hk) x.small y.small
theorem aggSized (w : World) : (isAgg 71).run Tryz.prog w = .ok true w := by kernel_rfl
theorem sizeSized (w : World) : (Go.sizeOf 71).run Tryz.prog w = .ok 4 w := by kernel_rfl
theorem sort_any (w W : World) (blk cap : Nat) [Inhabited (Lies w)] (d : Array (Lies w)) (hW : Kept [] w W) (hb : w.heap.size ≤ blk) (hl : blk < W.heap.size) (hH : HoldsK (encE (w := w)) 4 W blk 0 d) (hs : d.size < 4611686018427387904) :
    Calls Tryz.prog 35 #[.slice (some ⟨blk, 0, none⟩) d.size cap, .func (.func 36) #[] #[]] W fun e w' =>
      e = .returned (.tuple #[]) ∧ ∃ d' n os, Go.Sort.PermIn 0 d.size d d' ∧ Go.Sort.SortedIn (ltOf fun x y : Lies w => cmpE x.1.key y.1.key) 0 d.size d' ∧ w' = sortWorldK encE 4 W blk 0 n d' os :=
  AnyQ.slices_SortFunc Tryz.laysSort 4 aggSized sizeSized encE (fun _ => rfl) (fun x v hv => by
    simp [encE, En.cells] at hv
    rcases hv with rfl | rfl | rfl | rfl <;> rfl) _ (preE.pull (fun x : Lies w => x.1.key)).swo 36 #[] blk 0 cap d W (enters_of Tryz.func36 (by kernel_rfl) rfl) (cmpLays w W blk 0 d.size hW hb) hH hl hs
end Go.Proofs.YtnljjbpbgjgnkaaGreatDoor
