/- The call of the law, by the evaluator. -/
import Derived.Test.YtcfnhecalmfjiaaGreatDoorRxC
import Derived.Test.YtcfnhecalmfjiaaGreatDoorChecked
import Derived.KernelRfl
import Derived.ProofKit
import Derived.OpenShut
import Derived.Lib.LaidTab
import Derived.Lib.TrailingZeros
import Derived.Lay
import Derived.SevenTiedAt
import Derived.Stop.LaidErr
namespace Go.Proofs.YtcfnhecalmfjiaaGreatDoor
open Go.ChangeShapes Go.WideShapes Go.ChangeAt Go.WideMaps Go.WideElems Go.RowKit Rx

def yes : Option (Value × AH) → Bool
  | some (.bool b, _) => b
  | _ => false
theorem yes_out {r : Option (Value × AH)} (h : yes r = true) : ∃ H1, r = some (.bool true, H1) := by
  unfold yes at h
  split at h
  · subst h; exact ⟨_, rfl⟩
  · cases h
theorem mixed_ok : Tryz.prog.follows .mixedOrders = true := Checked.mixed Tryz.checked
theorem own : ownKnob Tryz.prog.godebug = none := by kernel_rfl

theorem funcs_ok : Tryz.prog.funcs.toList.all (funcOkB 2) = true := by kernel_rfl
def ckidsL : List Nat := [0, 0, 0, 0, 1, 2, 2, 2, 2, 1, 1, 1, 2, 2, 2, 2, 1, 1, 1, 1, 2, 2]
def tab0 : List Value := ckidsL.map fun n : Nat => .int .u8 (n : Int)
def kidsL : List Nat := [0, 0, 0, 0, 1, 2, 2, 2, 2, 1, 1, 1, 2, 2, 2, 2, 1, 1, 1, 1, 2, 2]
def tab1 : List Value := kidsL.map fun n : Nat => .int .i64 (n : Int)
def H0 : AH := ⟨2, some (Tri.s14 (some (Tri.s14 none 0 ⟨2, tab0, 0, none, none, 0⟩)) 1 ⟨2, tab1, 0, none, none, 0⟩)⟩
def Tab (w : World) : Prop := 2 ≤ w.heap.size ∧ (∀ j, j < 22 → w.cell? ⟨0, j, none⟩ = some (.int .u8 (ckidsL.getD j 0 : Nat))) ∧ (∀ j, j < 22 → w.cell? ⟨1, j, none⟩ = some (.int .i64 (kidsL.getD j 0 : Nat)))
theorem map_get (k : IntKind) (l : List Nat) (i : Nat) (v : Value) (h : (l.map fun n : Nat => Value.int k (n : Int))[i]? = some v) : i < l.length ∧ v = .int k (l.getD i 0 : Nat) := by
  rw [List.getElem?_map] at h
  cases hd : l[i]? with
  | none => rw [hd] at h; cases h
  | some n =>
    rw [hd] at h
    cases h
    exact ⟨(List.getElem?_eq_some_iff.1 hd).1, by rw [List.getD_eq_getElem?_getD, hd]; rfl⟩
theorem tab_R {W : World} (h : Tab W) : R 2 W.heap.size W (fun b => if b < 2 then some ⟨b, 0, 0, 0⟩ else none) H0 W :=
  start_R (tabs := fun g => if g = 0 then tab0 else tab1) rfl (by decide) h.1 (fun g hg => by
    rcases (by omega : g = 0 ∨ g = 1) with rfl | rfl
    · exact .inr rfl
    · exact .inr rfl)
    (fun g hg i v hv _ => by
      rcases (by omega : g = 0 ∨ g = 1) with rfl | rfl
      · obtain ⟨h1, rfl⟩ := map_get .u8 ckidsL i v (by simpa [tab0] using hv)
        exact ⟨h.2.1 i h1, rfl⟩
      · obtain ⟨h1, rfl⟩ := map_get .i64 kidsL i v (by simpa [tab1] using hv)
        exact ⟨h.2.2 i h1, rfl⟩)
theorem codecNumbers_ev : yes ((ev Tryz.prog [] 60).enter 3 [] H0) = true := by kernel_rfl
theorem codecNumbers_walk (W : World) (h : Tab W) : Calls Tryz.prog 3 #[] W fun e w' => e = .returned (.bool true) ∧ Below W.heap.size W w' := by
  obtain ⟨H1, h1⟩ := yes_out codecNumbers_ev
  exact ev_calls (okP_of funcs_ok mixed_ok) (K := []) (fun _ h => by cases h) rfl h1 (tab_R h)

end Go.Proofs.YtcfnhecalmfjiaaGreatDoor
