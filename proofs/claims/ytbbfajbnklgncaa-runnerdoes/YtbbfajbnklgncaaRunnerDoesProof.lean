/- Proved: 'RunnerDoes' answers true for every machine and script: runners side by side, every call in every order; the machine stays, and is not looked at again. Conditions: none. What the chapter's example fixes (the law's head) is reckoned by an evaluator that is proved sound (RxA, RxB, RxC). -/
import Derived.Test.YtbbfajbnklgncaaRuDoes
import Derived.Test.YtbbfajbnklgncaaRuOps
import Derived.Test.YtbbfajbnklgncaaRows
namespace Go.Proofs.Ytbbfajbnklgncaa
open Go.ChangeShapes Go.WideShapes Go.ChangeAt Go.WideMaps Go.WideElems Go.RowKit Go.Shelf

set_option maxRecDepth 100000 in
theorem runnerDoes_lifted (os : Os) (started : os.Started) (H : Type) (enc : TypeId × Value → H) :
    ReturnsInHanded {} Try.checked os 3 .any (Rows.runnerDoesSpec.pre6 enc Try.prog Try.f3 Rows.runnerDoesRow.domain false) (Rows.runnerDoesSpec.post enc Try.prog Try.f3 false true false false) := by
  refine returnsInHanded_of_change_sized (C := Try.checked) own started (by kernel_rfl) Try.func3
    (ChangeSpec.witness6 (enc := enc) (C := Try.checked) false ⟨#[], #[.agg #[.slice none 0 0, .slice none 0 0, .slice none 0 0], .slice none 0 0], []⟩ 8 (by kernel_rfl) (by kernel_rfl) (by kernel_rfl) (by kernel_rfl)) ?_
  intro W base args ds gs before hval0 hW _ hsz0 _
  have hsz : (DataW.weightsEach Try.prog (Try.f3.params.toList ++ Rows.runnerDoesSpec.plain.varTypes Try.prog) (ds ++ gs)).all (· ≤ reachBytes) = true := hsz0
  clear hsz0
  have hval : ∀ (j : Nat) t v, Try.f3.params[j]? = some t → args[j]? = some v → Value.okWide Try.prog W .any base t v := hval0
  have hW' := hW
  obtain ⟨p, q, hA0, hV, rfl, _, _⟩ := hW
  have hA : DataW.TrodAll enc Try.prog W 0 (fun _ => true) true Try.f3.params.toList args.toList ds p := hA0
  rw [Try.params3] at hA hval hsz
  obtain ⟨v0, v1, d0, d1, p0, p1, rfl, rfl, rfl, h0, h1⟩ := trodAll_two hA
  obtain ⟨rfl, rfl⟩ := trodVars_none hV
  obtain ⟨pv, nv, ov, ps, next, out, rfl, i0⟩ := open_moore (hval 0 26 v0 rfl rfl) h0
  have i0 := i0 (each_weightB hsz 0 26 d0 rfl rfl)
  obtain ⟨ops, i1⟩ := open_ops (hval 1 27 v1 rfl rfl) h1
  have i1 := i1 (each_weightB hsz 1 27 d1 rfl rfl)
  clear hA0 hval0 hsz
  simp only [List.append_nil] at hW'
  have l0 : ∀ x ∈ p0, x.block < W.heap.size := fun x hx => by simpa using hW'.lt x (by simp [hx])
  have l1 : ∀ x ∈ p1, x.block < W.heap.size := fun x hx => by simpa using hW'.lt x (by simp [hx])
  refine (runnerDoes_some pv nv ov v1 ps next out ops W i0.1.1 i0.2.1 i0.2.2 i1 i0.1.2).mono fun e W' ⟨he, hg⟩ => ?_
  subst he
  have hb := Kept.below hg.out
  exact ⟨_, rfl, _, _, _, [], _, [], hW', trodAll_mk1 (shut_bool Try.underlying4 _), trodAll_mk2 (moore_again h0 hb l0) (ops_again h1 hb l1), rfl, hb.frame _, fun h => by cases h⟩

theorem runnerDoes_holds : Rows.RunnerDoesSaid :=
  OpenClaim.holds_of_wide 3 Try.f3 rfl rfl rfl rfl rfl rfl rfl ⟨rfl, rfl, rfl, rfl, rfl⟩ rfl rfl rfl rfl rfl (by kernel_rfl) Try.func3 (by kernel_rfl)
    (of_decide_eq_true (by kernel_rfl)) (by unfold Func.isWrapper; first | (rw [if_pos (by decide +kernel)]; kernel_rfl) | (rw [if_neg (by decide +kernel)]; exact ⟨rfl, rfl⟩))
    (fun os started H enc _ => runnerDoes_lifted os started H enc)
end Go.Proofs.Ytbbfajbnklgncaa
