/- The laws' closed head: known() answers true in every memory, by the evaluator. -/
import Derived.Test.YtbbfajbnklgncaaRxC
import Derived.Test.YtbbfajbnklgncaaChecked
import Derived.KernelRfl
import Derived.ProofKit
import Derived.OpenShut
namespace Go.Proofs.Ytbbfajbnklgncaa
open Go.ChangeShapes Go.WideShapes Go.ChangeAt Go.WideMaps Go.WideElems Go.RowKit Rx

def yes : Option (Value × AH) → Bool
  | some (.bool b, _) => b
  | _ => false
theorem yes_out {r : Option (Value × AH)} (h : yes r = true) : ∃ H1, r = some (.bool true, H1) := by
  unfold yes at h
  split at h
  · subst h; exact ⟨_, rfl⟩
  · cases h
theorem mixed_ok : Try.prog.follows .mixedOrders = true := Checked.mixed Try.checked
theorem own : ownKnob Try.prog.godebug = none := by kernel_rfl

theorem funcs_ok : Try.prog.funcs.toList.all (funcOkB 0) = true := by kernel_rfl
def H0 : AH := ⟨0, none⟩
theorem none_R (W : World) : R 0 W.heap.size W (fun b => if b < 0 then some ⟨b, 0, 0, 0⟩ else none) H0 W :=
  start_R (tabs := fun _ => []) rfl (by decide) (fun g hg _ => absurd hg (Nat.not_lt_zero g)) (fun g hg => absurd hg (Nat.not_lt_zero g)) (fun g hg => absurd hg (Nat.not_lt_zero g))
theorem known_ev : yes ((ev Try.prog [] 60).enter 7 [] H0) = true := by kernel_rfl
theorem known_walk (W : World) : Calls Try.prog 7 #[] W fun e w' => e = .returned (.bool true) ∧ Below W.heap.size W w' := by
  obtain ⟨H1, h1⟩ := yes_out known_ev
  exact ev_calls (okP_of funcs_ok mixed_ok) (K := []) (fun _ h => by cases h) rfl h1 (none_R W)

end Go.Proofs.Ytbbfajbnklgncaa
