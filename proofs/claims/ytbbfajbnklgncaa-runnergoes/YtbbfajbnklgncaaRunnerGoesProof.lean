/- Proved: 'RunnerGoes' answers true for every machine, all letters and every int (All: ranged over twice to its end, and once more till it is broken off; letters are asked for only as they are wanted; what is handed in stays). Conditions: none. What the chapter's example fixes (the law's head) is reckoned by an evaluator that is proved sound (RxA, RxB, RxC). -/
import Derived.Test.YtbbfajbnklgncaaRuGoes
import Derived.Test.YtbbfajbnklgncaaRows
namespace Go.Proofs.Ytbbfajbnklgncaa
open Go.ChangeShapes Go.WideShapes Go.ChangeAt Go.WideMaps Go.WideElems Go.RowKit Go.Shelf

theorem runnerGoes_i64 {n : Int} (h : (Lit.int .i64 n).wf = true) : -9223372036854775808 ≤ n ∧ n ≤ 9223372036854775807 := by
  simp [Lit.wf, IntKind.min, IntKind.max, IntKind.signed, IntKind.bits] at h
  omega

set_option maxRecDepth 100000 in
theorem runnerGoes_lifted (os : Os) (started : os.Started) (H : Type) (enc : TypeId × Value → H) :
    ReturnsInHanded {} Try.checked os 4 .any (Rows.runnerGoesSpec.pre6 enc Try.prog Try.f4 Rows.runnerGoesRow.domain false) (Rows.runnerGoesSpec.post enc Try.prog Try.f4 false true false false) := by
  refine returnsInHanded_of_change_sized (C := Try.checked) own started (by kernel_rfl) Try.func4
    (ChangeSpec.witness6 (enc := enc) (C := Try.checked) false ⟨#[], #[.agg #[.slice none 0 0, .slice none 0 0, .slice none 0 0], .slice none 0 0, .int .i64 0], []⟩ 8 (by kernel_rfl) (by kernel_rfl) (by kernel_rfl) (by kernel_rfl)) ?_
  intro W base args ds gs before hval0 hW _ hsz0 _
  have hsz : (DataW.weightsEach Try.prog (Try.f4.params.toList ++ Rows.runnerGoesSpec.plain.varTypes Try.prog) (ds ++ gs)).all (· ≤ reachBytes) = true := hsz0
  clear hsz0
  have hval : ∀ (j : Nat) t v, Try.f4.params[j]? = some t → args[j]? = some v → Value.okWide Try.prog W .any base t v := hval0
  have hW' := hW
  obtain ⟨p, q, hA0, hV, rfl, _, _⟩ := hW
  have hA : DataW.TrodAll enc Try.prog W 0 (fun _ => true) true Try.f4.params.toList args.toList ds p := hA0
  rw [Try.params4] at hA hval hsz
  obtain ⟨v0, v1, v2, d0, d1, d2, p0, p1, p2, rfl, rfl, rfl, h0, h1, h2⟩ := trodAll_three hA
  obtain ⟨rfl, rfl⟩ := trodVars_none hV
  obtain ⟨pv, nv, ov, ps, next, out, rfl, i0⟩ := open_moore (hval 0 26 v0 rfl rfl) h0
  have i0 := i0 (each_weightB hsz 0 26 d0 rfl rfl)
  obtain ⟨us, i1⟩ := open_letters (hval 1 53 v1 rfl rfl) h1
  have i1 := i1 (each_weightB hsz 1 53 d1 rfl rfl)
  obtain ⟨z2, rfl, rfl, rfl, m2⟩ := open_int Try.underlying3 (hval 2 3 v2 rfl rfl) h2
  clear hA0 hval0 hsz
  simp only [List.append_nil] at hW'
  have l0 : ∀ x ∈ p0, x.block < W.heap.size := fun x hx => by simpa using hW'.lt x (by simp [hx])
  have l1 : ∀ x ∈ p1, x.block < W.heap.size := fun x hx => by simpa using hW'.lt x (by simp [hx])
  refine (runnerGoes_some pv nv ov v1 z2 ps next out us W i0.1.1 i0.2.1 i0.2.2 i1 (runnerGoes_i64 m2) i0.1.2).mono fun e W' ⟨he, hg⟩ => ?_
  subst he
  have hb := Kept.below hg.out
  exact ⟨_, rfl, _, _, _, [], _, [], hW', trodAll_mk1 (shut_bool Try.underlying4 _), trodAll_mk3 (moore_again h0 hb l0) (letters_again h1 hb l1) (shut_int Try.underlying3 m2), rfl, hb.frame _, fun h => by cases h⟩

theorem runnerGoes_holds : Rows.RunnerGoesSaid :=
  OpenClaim.holds_of_wide 4 Try.f4 rfl rfl rfl rfl rfl rfl rfl ⟨rfl, rfl, rfl, rfl, rfl⟩ rfl rfl rfl rfl rfl (by kernel_rfl) Try.func4 (by kernel_rfl)
    (of_decide_eq_true (by kernel_rfl)) (by unfold Func.isWrapper; first | (rw [if_pos (by decide +kernel)]; kernel_rfl) | (rw [if_neg (by decide +kernel)]; exact ⟨rfl, rfl⟩))
    (fun os started H enc _ => runnerGoes_lifted os started H enc)
end Go.Proofs.Ytbbfajbnklgncaa
