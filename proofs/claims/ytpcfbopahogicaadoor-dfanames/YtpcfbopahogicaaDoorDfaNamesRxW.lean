/- The call of the law, by the evaluator. -/
import Derived.Test.YtpcfbopahogicaaDoorRxC
import Derived.Test.YtpcfbopahogicaaDoorChecked
import Derived.KernelRfl
import Derived.ProofKit
import Derived.OpenShut
import Derived.Lib.LaidTab
import Derived.Lib.TrailingZeros
namespace Go.Proofs.YtpcfbopahogicaaDoor
open Go.ChangeShapes Go.WideShapes Go.ChangeAt Go.WideMaps Go.WideElems Go.RowKit Rx

def yes : Option (Value × AH) → Bool
  | some (.bool b, _) => b
  | _ => false
theorem yes_out {r : Option (Value × AH)} (h : yes r = true) : ∃ H1, r = some (.bool true, H1) := by
  unfold yes at h
  split at h
  · subst h; exact ⟨_, rfl⟩
  · cases h
theorem mixed_ok : Tryd.prog.follows .mixedOrders = true := Checked.mixed Tryd.checked
theorem own : ownKnob Tryd.prog.godebug = none := by kernel_rfl

theorem funcs_ok : Tryd.prog.funcs.toList.all (funcOkB 1) = true := by kernel_rfl
def tabL : List Value := Lib.deBruijn64tab.map fun n : Nat => .int .u8 (n : Int)
def H0 : AH := ⟨1, some (Tri.s14 none 0 ⟨2, tabL, 0, none, none, 0⟩)⟩
def Tab (w : World) : Prop := 0 < w.heap.size ∧ ∀ j, j < 64 → w.cell? ⟨0, j, none⟩ = some (.int .u8 (Lib.deBruijn64tab.getD j 0 : Nat))
theorem tabL_get (i : Nat) (v : Value) (h : tabL[i]? = some v) : i < 64 ∧ v = .int .u8 (Lib.deBruijn64tab.getD i 0 : Nat) := by
  unfold tabL at h
  rw [List.getElem?_map] at h
  cases hd : Lib.deBruijn64tab[i]? with
  | none => rw [hd] at h; cases h
  | some n =>
    rw [hd] at h
    cases h
    have hl : Lib.deBruijn64tab.length = 64 := by decide
    have := (List.getElem?_eq_some_iff.1 hd).1
    exact ⟨by omega, by rw [List.getD_eq_getElem?_getD, hd]; rfl⟩
theorem tab_R {W : World} (h : Tab W) : R 1 W.heap.size W (fun b => if b < 1 then some ⟨b, 0, 0, 0⟩ else none) H0 W :=
  start_R (tabs := fun _ => tabL) rfl (by decide) h.1 (fun g hg => by
    obtain rfl : g = 0 := by omega
    exact .inr rfl)
    (fun g hg i v hv _ => by
      obtain rfl : g = 0 := by omega
      obtain ⟨h1, rfl⟩ := tabL_get i v hv
      exact ⟨h.2 i h1, rfl⟩)
theorem dfaNames_ev : yes ((ev Tryd.prog [] 60).enter 3 [] H0) = true := by kernel_rfl
theorem dfaNames_walk (W : World) (h : Tab W) : Calls Tryd.prog 3 #[] W fun e w' => e = .returned (.bool true) ∧ Below W.heap.size W w' := by
  obtain ⟨H1, h1⟩ := yes_out dfaNames_ev
  exact ev_calls (okP_of funcs_ok mixed_ok) (K := []) (fun _ h => by cases h) rfl h1 (tab_R h)

end Go.Proofs.YtpcfbopahogicaaDoor
