/- EvalSteps: what U, R, W, M say at a place they say of this place and of the one behind it. Conditions: none but that the listed package variable is as the program's text lays it, which the card ties. -/
import Derived.Test.YtondmjnagkldpaaDoorEvSteps
import Derived.Test.YtondmjnagkldpaaDoorEvOpen
import Derived.Test.YtondmjnagkldpaaDoorCards
import Derived.Test.YtondmjnagkldpaaDoorTie
namespace Go.Proofs.YtondmjnagkldpaaDoor
open Go.ChangeShapes Go.WideShapes Go.ChangeAt Go.WideMaps Go.WideElems Go.RowKit Go.Shelf

set_option maxRecDepth 100000 in
theorem evalSteps_lifted (os : Os) (started : os.Started) (H : Type) (enc : TypeId × Value → H) :
    ReturnsInHanded {} Tryd.checked os 5 .any (fun w args => (Rows.evalStepsSpec.pre enc Tryd.prog Tryd.f5 [] false w args ∧ laidMetH Tryd.prog laidTab w) ∧ sizedMet enc Tryd.prog Tryd.f5 (OpenSpec.ofChange Rows.evalStepsSpec) false w args)
      (Rows.evalStepsSpec.post enc Tryd.prog Tryd.f5 false true false false) := by
  refine returnsInHanded_of_change_and (C := Tryd.checked) (X := fun w _ => laidMetH Tryd.prog laidTab w) (fun _ _ _ hh h => h.of_heap hh) own started (by kernel_rfl) Tryd.func5
    (ChangeSpec.witness_shaped (enc := enc) (C := Tryd.checked) (os := os) (X := fun w _ => laidMetH Tryd.prog laidTab w) false (World.laidAll Tryd.prog os laidTab) #[.agg #[.int .u8 0, .string ⟨#[]⟩, .slice none 0 0], .agg #[.int .u8 0, .string ⟨#[]⟩, .slice none 0 0], .slice none 0 0, .agg #[.slice none 0 0, .slice none 0 0]] 8 (World.laidAll_os _ _ _) (tab_shape os) (by kernel_rfl) (by kernel_rfl) (by kernel_rfl) (tab_met os _)) ?_
  intro W base args ds gs before hval0 hW _ hsz0 hL _
  have hW' := hW
  obtain ⟨p, q, hA0, hV, rfl, hfz, hnd⟩ := hW
  have hA : DataW.TrodAll enc Tryd.prog W 0 (fun _ => true) true Tryd.f5.params.toList args.toList ds p := hA0
  have hval : ∀ (j : Nat) t v, Tryd.f5.params[j]? = some t → args[j]? = some v → Value.okWide Tryd.prog W .any base t v := hval0
  have hsz : (DataW.weightsEach Tryd.prog (Tryd.f5.params.toList ++ Rows.evalStepsSpec.plain.varTypes Tryd.prog) (ds ++ gs)).all (· ≤ reachBytes) = true := hsz0
  rw [Tryd.params5] at hA hval hsz
  obtain ⟨v0, v1, v2, v3, d0, d1, d2, d3, p0, p1, p2, p3, rfl, rfl, rfl, h0, h1, h2, h3⟩ := trodAll_four hA
  obtain ⟨rfl, rfl⟩ := trodVars_none hV
  obtain ⟨t0, k0, rfl, i0, f0, m0⟩ := open_tree (hval 0 26 v0 rfl rfl) h0
  have m0 := m0 (each_weight hsz 0 26 d0 rfl rfl)
  obtain ⟨t1, k1, rfl, i1, f1, m1⟩ := open_tree (hval 1 26 v1 rfl rfl) h1
  have m1 := m1 (each_weight hsz 1 26 d1 rfl rfl)
  obtain ⟨x2, i2⟩ := open_strs (hval 2 27 v2 rfl rfl) h2
  have i2 := i2 (each_weight hsz 2 27 d2 rfl rfl)
  obtain ⟨sv3, lv3, q3, rfl, i3⟩ := open_word (hval 3 30 v3 rfl rfl) h3
  have i3 := i3 (each_weight hsz 3 30 d3 rfl rfl)
  clear hA0 hval0 hsz0 hsz
  simp only [List.append_nil] at hW'
  have l0 : ∀ x ∈ p0, x.block < W.heap.size := fun x hx => by simpa using hW'.lt x (by simp [hx])
  have l1 : ∀ x ∈ p1, x.block < W.heap.size := fun x hx => by simpa using hW'.lt x (by simp [hx])
  have l2 : ∀ x ∈ p2, x.block < W.heap.size := fun x hx => by simpa using hW'.lt x (by simp [hx])
  have l3 : ∀ x ∈ p3, x.block < W.heap.size := fun x hx => by simpa using hW'.lt x (by simp [hx])
  refine (evalSteps_walk t0 t1 k0 k1 v2 sv3 lv3 x2 q3 W i0 i1 f0 f1 m0 m1 i2.1 i2.2 i3.1 i3.2 (kids_of_laid hL)).mono fun e W' ⟨he, hg⟩ => ?_
  subst he
  have hb := hg.below
  exact ⟨_, rfl, _, _, _, [], _, [], hW', trodAll_mk1 (shut_bool Tryd.underlying4 _), trodAll_mk4 (tree_again h0 hb l0) (tree_again h1 hb l1) (strs_again h2 hb l2) (word_again h3 hb l3), rfl, hb.frame _, fun h => by cases h⟩

theorem evalSteps_holds : Rows.EvalStepsSaid :=
  OpenClaim.holds_of_wide 5 Tryd.f5 rfl rfl rfl rfl rfl rfl rfl ⟨rfl, rfl, rfl, rfl, rfl⟩ rfl rfl rfl rfl rfl (by kernel_rfl) Tryd.func5 (by kernel_rfl)
    (of_decide_eq_true (by kernel_rfl)) (by unfold Func.isWrapper; first | (rw [if_pos (by decide +kernel)]; kernel_rfl) | (rw [if_neg (by decide +kernel)]; exact ⟨rfl, rfl⟩))
    (fun os started H enc _ => evalSteps_lifted os started H enc)

theorem evalSteps_card : Rows.EvalStepsCardSaid :=
  Claim7.holds_tied_plain_at .later [] _ _ _ _ evalSteps_holds (fun _ h => by cases h) (by kernel_rfl) (fun _ h => by cases h) evalSteps_row_tie rfl ⟨rfl, rfl⟩ (by kernel_rfl) rfl
    (fun f fn hf hfn => by
      obtain rfl : f = 5 := Option.some.inj ((show Tryd.prog.funcNamed "augur/augurlaw06.EvalSteps" = some 5 by kernel_rfl).symm.trans hf) |>.symm
      obtain rfl : fn = Tryd.f5 := (Option.some.inj (Tryd.func5.symm.trans hfn)).symm
      exact ⟨by kernel_rfl, fun j t ht => by
        rw [Tryd.params5] at ht
        have hm : t ∈ [26, 26, 27, 30] := by simpa using Array.mem_of_getElem? ht
        have hall : ([26, 26, 27, 30].all fun u => !Tryd.prog.wantsStandIn u) = true := by kernel_rfl
        exact (show Tryd.prog.wantsStandIn t = false by simpa using List.all_eq_true.1 hall t hm)⟩)
    (by kernel_rfl)
end Go.Proofs.YtondmjnagkldpaaDoor
