/- Proved: 'GraphNumbers' answers true: the error of layer 11 has its number, and the chapter's examples come out as the chapter says. Conditions: none. The call is reckoned by an evaluator over an abstract memory, which is proved sound (RxA, RxB, RxC). -/
import Derived.Test.YtfcjcbaconfaaaaRxC
import Derived.Test.YtfcjcbaconfaaaaRows
import Derived.Test.YtfcjcbaconfaaaaChecked
import Derived.KernelRfl
import Derived.ProofKit
import Derived.OpenShut
namespace Go.Proofs.Ytfcjcbaconfaaaa
open Go.ChangeShapes Go.WideShapes Go.ChangeAt Go.WideMaps Go.WideElems Go.RowKit Rx

def yes : Option (Value × AH) → Bool
  | some (.bool b, _) => b
  | _ => false
theorem yes_out {r : Option (Value × AH)} (h : yes r = true) : ∃ H1, r = some (.bool true, H1) := by
  unfold yes at h
  split at h
  · subst h; exact ⟨_, rfl⟩
  · cases h
theorem mixed_ok : Try.prog.follows .mixedOrders = true := Checked.mixed Try.checked
theorem own : ownKnob Try.prog.godebug = none := by kernel_rfl

theorem funcs_ok : Try.prog.funcs.toList.all (funcOkB 0) = true := by kernel_rfl
def H0 : AH := ⟨0, none⟩
theorem none_R (W : World) : R 0 W.heap.size W (fun b => if b < 0 then some ⟨b, 0, 0, 0⟩ else none) H0 W :=
  start_R (tabs := fun _ => []) rfl (by decide) (Nat.zero_le _) (fun g hg => absurd hg (Nat.not_lt_zero g)) (fun g hg => absurd hg (Nat.not_lt_zero g))
theorem graphNumbers_ev : yes ((ev Try.prog 60).enter 3 [] H0) = true := by kernel_rfl
theorem graphNumbers_walk (W : World) : Calls Try.prog 3 #[] W fun e w' => e = .returned (.bool true) ∧ Below W.heap.size W w' := by
  obtain ⟨H1, h1⟩ := yes_out graphNumbers_ev
  exact ev_calls (okP_of funcs_ok mixed_ok) rfl h1 (none_R W)

set_option maxRecDepth 100000 in
theorem graphNumbers_lifted (os : Os) (started : os.Started) (H : Type) (enc : TypeId × Value → H) :
    ReturnsInHanded {} Try.checked os 3 .any (Rows.graphNumbersSpec.pre6 enc Try.prog Try.f3 Rows.graphNumbersRow.domain false) (Rows.graphNumbersSpec.post enc Try.prog Try.f3 false true false false) := by
  refine returnsInHanded_of_change_sized (C := Try.checked) own started (by kernel_rfl) Try.func3
    (ChangeSpec.witness6 (enc := enc) (C := Try.checked) false ⟨#[], #[], []⟩ 8 (by kernel_rfl) (by kernel_rfl) (by kernel_rfl) (by kernel_rfl)) ?_
  intro W base args ds gs before hval0 hW _ _ _
  have hW' := hW
  obtain ⟨p, q, hA0, hV, rfl, _, _⟩ := hW
  have hA : DataW.TrodAll enc Try.prog W 0 (fun _ => true) true Try.f3.params.toList args.toList ds p := hA0
  rw [Try.params3] at hA
  obtain ⟨hargs, rfl, rfl⟩ := trodAll_none hA
  obtain rfl : args = #[] := by cases args; simp_all
  obtain ⟨rfl, rfl⟩ := trodVars_none hV
  clear hA0 hval0
  simp only [List.append_nil] at hW'
  refine (graphNumbers_walk W).mono fun e W' ⟨he, hb⟩ => ?_
  subst he
  exact ⟨_, rfl, _, _, _, [], [], [], hW', trodAll_mk1 (shut_bool Try.underlying4 _), trodAll_mk0, rfl, hb.frame _, fun h => by cases h⟩

theorem graphNumbers_holds : Rows.GraphNumbersSaid :=
  OpenClaim.holds_of_wide 3 Try.f3 rfl rfl rfl rfl rfl rfl rfl ⟨rfl, rfl, rfl, rfl, rfl⟩ rfl rfl rfl rfl rfl (by kernel_rfl) Try.func3 (by kernel_rfl)
    (of_decide_eq_true (by kernel_rfl)) (by unfold Func.isWrapper; first | (rw [if_pos (by decide +kernel)]; kernel_rfl) | (rw [if_neg (by decide +kernel)]; exact ⟨rfl, rfl⟩))
    (fun os started H enc _ => graphNumbers_lifted os started H enc)
end Go.Proofs.Ytfcjcbaconfaaaa
