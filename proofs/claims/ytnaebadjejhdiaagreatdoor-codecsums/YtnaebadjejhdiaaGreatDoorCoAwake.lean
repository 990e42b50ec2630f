/- What the layer's examples fix: awake answers true in every memory, reckoned by the evaluator; and the variables that are laid. -/
import Derived.KernelRfl
import Derived.LaidMore
import Derived.Lay
import Derived.Lib.LaidTab
import Derived.Lib.TrailingZeros
import Derived.OpenShut
import Derived.ProofKit
import Derived.Stop.Joined
import Derived.Stop.LaidErr
import Derived.Test.YtnaebadjejhdiaaGreatDoorChecked
import Derived.Test.YtnaebadjejhdiaaGreatDoorRows
import Derived.Test.YtnaebadjejhdiaaGreatDoorRxC
namespace Go.Proofs.YtnaebadjejhdiaaGreatDoor
open Go.ChangeShapes Go.WideShapes Go.ChangeAt Go.WideMaps Go.WideElems Go.RowKit Rx

def yes : Option (Value × AH) → Bool
  | some (.bool b, _) => b
  | _ => false
theorem yes_out {r : Option (Value × AH)} (h : yes r = true) : ∃ H1, r = some (.bool true, H1) := by
  unfold yes at h
  split at h
  · subst h; exact ⟨_, rfl⟩
  · cases h
theorem mixed_ok : Tryz.prog.follows .mixedOrders = true := Checked.mixed Tryz.checked
theorem own : ownKnob Tryz.prog.godebug = none := by kernel_rfl

theorem funcs_ok : Tryz.prog.funcs.toList.all (funcOkB 2) = true := by kernel_rfl
def ckidsL : List Nat := [0, 0, 0, 0, 1, 2, 2, 2, 2, 1, 1, 1, 2, 2, 2, 2, 1, 1, 1, 1, 2, 2]
def tab0 : List Value := ckidsL.map fun n : Nat => .int .u8 (n : Int)
def kidsL : List Nat := [0, 0, 0, 0, 1, 2, 2, 2, 2, 1, 1, 1, 2, 2, 2, 2, 1, 1, 1, 1, 2, 2]
def tab1 : List Value := kidsL.map fun n : Nat => .int .i64 (n : Int)
def H0 : AH := ⟨2, some (Tri.s14 (some (Tri.s14 none 0 ⟨2, tab0, 0, none, none, 0⟩)) 1 ⟨2, tab1, 0, none, none, 0⟩)⟩
def Tab (w : World) : Prop := 2 ≤ w.heap.size ∧ (∀ j, j < 22 → w.cell? ⟨0, j, none⟩ = some (.int .u8 (ckidsL.getD j 0 : Nat))) ∧ (∀ j, j < 22 → w.cell? ⟨1, j, none⟩ = some (.int .i64 (kidsL.getD j 0 : Nat)))
theorem map_get (k : IntKind) (l : List Nat) (i : Nat) (v : Value) (h : (l.map fun n : Nat => Value.int k (n : Int))[i]? = some v) : i < l.length ∧ v = .int k (l.getD i 0 : Nat) := by
  rw [List.getElem?_map] at h
  cases hd : l[i]? with
  | none => rw [hd] at h; cases h
  | some n =>
    rw [hd] at h
    cases h
    exact ⟨(List.getElem?_eq_some_iff.1 hd).1, by rw [List.getD_eq_getElem?_getD, hd]; rfl⟩
theorem tab_R {W : World} (h : Tab W) : R 2 W.heap.size W (fun b => if b < 2 then some ⟨b, 0, 0, 0⟩ else none) H0 W :=
  start_R (tabs := fun g => if g = 0 then tab0 else tab1) rfl (by decide) (fun g hg _ => by have := h.1; omega) (fun g hg => by
    rcases (by omega : g = 0 ∨ g = 1) with rfl | rfl
    · exact .inr rfl
    · exact .inr rfl)
    (fun g hg i v hv _ => by
      rcases (by omega : g = 0 ∨ g = 1) with rfl | rfl
      · obtain ⟨h1, rfl⟩ := map_get .u8 ckidsL i v (by simpa [tab0] using hv)
        exact ⟨h.2.1 i h1, rfl⟩
      · obtain ⟨h1, rfl⟩ := map_get .i64 kidsL i v (by simpa [tab1] using hv)
        exact ⟨h.2.2 i h1, rfl⟩)
theorem awake_ev : yes ((ev Tryz.prog [] 60).enter 4 [] H0) = true := by kernel_rfl
theorem awake_walk (W : World) (h : Tab W) : Calls Tryz.prog 4 #[] W fun e w' => e = .returned (.bool true) ∧ Below W.heap.size W w' := by
  obtain ⟨H1, h1⟩ := yes_out awake_ev
  exact ev_calls (okP_of funcs_ok mixed_ok) (K := []) (fun _ h => by cases h) rfl h1 (tab_R h)

def laidTab : List (String × DataW Unit) := [("augur/tree.kidsOf", Rows.laid_augur_tree_kidsOf), ("augur/codec.kidsOf", Rows.laid_augur_codec_kidsOf)]
theorem g_kids : Tryz.prog.globalNamed "augur/tree.kidsOf" = some 1 := by kernel_rfl
theorem g_ckids : Tryz.prog.globalNamed "augur/codec.kidsOf" = some 0 := by kernel_rfl
theorem tab_plain (W : World) : laidMetH Tryz.prog laidTab W = laidMet Tryz.prog laidTab W := MakeChecks.laidMetH_plain _ _ _ (by kernel_rfl)
theorem tab_shape (os : Os) : (World.laidAll Tryz.prog os laidTab).Shaped Tryz.prog := World.shaped_of_ZipB (by kernel_rfl) (by kernel_rfl)
theorem tab_met (os : Os) (args : Array Value) : laidMetH Tryz.prog laidTab ((World.laidAll Tryz.prog os laidTab).forCall (fun _ _ => 0) ⟨#[], args, []⟩).memory := by
  rw [tab_plain]
  exact laidMet_laidAll _ (by kernel_rfl) (by kernel_rfl)
theorem int_get (l : List Nat) (i : Nat) : (l.map fun n : Nat => (n : Int)).getD i 0 = ((l.getD i 0 : Nat) : Int) := by
  rw [List.getD_eq_getElem?_getD, List.getD_eq_getElem?_getD, List.getElem?_map]
  cases l[i]? <;> rfl
theorem of_laid {W : World} (h : laidMetH Tryz.prog laidTab W) : Tab W := by
  rw [tab_plain] at h
  have h1 : Lib.TabIs Tryz.prog W "augur/tree.kidsOf" .i64 (kidsL.map fun n : Nat => (n : Int)) :=
    Lib.tabIs_of_head (t := 157) (e := 3) (n := 22) g_kids (by kernel_rfl) (by kernel_rfl) (by kernel_rfl) (by kernel_rfl) (by kernel_rfl) h
  have h0 : Lib.TabIs Tryz.prog W "augur/codec.kidsOf" .u8 (ckidsL.map fun n : Nat => (n : Int)) :=
    Lib.tabIs_of_head (t := 98) (e := 5) (n := 22) g_ckids (by kernel_rfl) (by kernel_rfl) (by kernel_rfl) (by kernel_rfl) (by kernel_rfl) h.tail
  have c0 : ∀ j, j < 22 → W.cell? ⟨0, j, none⟩ = some (.int .u8 (ckidsL.getD j 0 : Nat)) := fun j hj => by
    rw [h0.cell g_ckids j (by rw [List.length_map]; exact hj), int_get]
  have c1 : ∀ j, j < 22 → W.cell? ⟨1, j, none⟩ = some (.int .i64 (kidsL.getD j 0 : Nat)) := fun j hj => by
    rw [h1.cell g_kids j (by rw [List.length_map]; exact hj), int_get]
  exact ⟨World.block_lt_of_cell? W _ (c1 0 (by omega)), c0, c1⟩
end Go.Proofs.YtnaebadjejhdiaaGreatDoor
