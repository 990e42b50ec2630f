/- Proved: 'DfaRuns' answers true for every automaton and every row of letters: dfa.Check, dfa.Run and dfa.Has answer as the document does, also when the owner has written others into the same lists; what is handed in stays. Conditions: none but that the library's table of math/bits is as its initialiser lays it, which the card ties to the program's text. What the chapter's example fixes (the law's head) is reckoned by an evaluator that is proved sound (RxA, RxB, RxC). -/
import Derived.Test.YtghlijhbhdjhfaaGreatDoorDrWalk
import Derived.Test.YtghlijhbhdjhfaaGreatDoorDrOpen
import Derived.Test.YtghlijhbhdjhfaaGreatDoorDrKnown
import Derived.Test.YtghlijhbhdjhfaaGreatDoorCards
import Derived.Test.YtghlijhbhdjhfaaGreatDoorTie
namespace Go.Proofs.YtghlijhbhdjhfaaGreatDoor
open Go.ChangeShapes Go.WideShapes Go.ChangeAt Go.WideMaps Go.WideElems Go.RowKit Go.Shelf

theorem tab_kept {W W' : World} (h : Tab W) (k : Kept [] W W') : Tab W' :=
  ⟨Nat.le_trans h.1 k.size, fun j hj => cell_kept0 k (h.2 j hj)⟩

set_option maxRecDepth 100000 in
theorem dfaRuns_lifted (os : Os) (started : os.Started) (H : Type) (enc : TypeId × Value → H) :
    ReturnsInHanded {} Tryz.checked os 3 .any (fun w args => (Rows.dfaRunsSpec.pre enc Tryz.prog Tryz.f3 [] false w args ∧ laidMetH Tryz.prog laidTab w) ∧ sizedMet enc Tryz.prog Tryz.f3 (OpenSpec.ofChange Rows.dfaRunsSpec) false w args)
      (Rows.dfaRunsSpec.post enc Tryz.prog Tryz.f3 false true false false) := by
  refine returnsInHanded_of_change_and (C := Tryz.checked) (X := fun w _ => laidMetH Tryz.prog laidTab w) (fun _ _ _ hh h => h.of_heap hh) own started (by kernel_rfl) Tryz.func3
    (ChangeSpec.witness_shaped (enc := enc) (C := Tryz.checked) (os := os) (X := fun w _ => laidMetH Tryz.prog laidTab w) false (World.laidAll Tryz.prog os laidTab) #[.agg #[.slice none 0 0, .slice none 0 0, .slice none 0 0], .slice none 0 0] 8 (World.laidAll_os _ _ _) (tab_shape os) (by kernel_rfl) (by kernel_rfl) (by kernel_rfl) (tab_met os _)) ?_
  intro W base args ds gs before hval0 hW _ hsz0 hL _
  have hW' := hW
  obtain ⟨p, q, hA0, hV, rfl, hfz, hnd⟩ := hW
  have hA : DataW.TrodAll enc Tryz.prog W 0 (fun _ => true) true Tryz.f3.params.toList args.toList ds p := hA0
  have hval : ∀ (j : Nat) t v, Tryz.f3.params[j]? = some t → args[j]? = some v → Value.okWide Tryz.prog W .any base t v := hval0
  have hsz : (DataW.weightsEach Tryz.prog (Tryz.f3.params.toList ++ Rows.dfaRunsSpec.plain.varTypes Tryz.prog) (ds ++ gs)).all (· ≤ reachBytes) = true := hsz0
  rw [Tryz.params3] at hA hval hsz
  obtain ⟨v0, v1, d0, d1, p0, p1, rfl, rfl, rfl, h0, h1⟩ := trodAll_two hA
  obtain ⟨rfl, rfl⟩ := trodVars_none hV
  obtain ⟨pv, nv, lv, ps, next, live, rfl, i0⟩ := open_dfa (hval 0 26 v0 rfl rfl) h0
  have i0 := i0 (each_weightB hsz 0 26 d0 rfl rfl)
  obtain ⟨us, i1⟩ := open_letters (hval 1 27 v1 rfl rfl) h1
  have i1 := i1 (each_weightB hsz 1 27 d1 rfl rfl)
  have hT := of_laid hL
  clear hA0 hval0 hsz0 hsz
  simp only [List.append_nil] at hW'
  have l0 : ∀ x ∈ p0, x.block < W.heap.size := fun x hx => by simpa using hW'.lt x (by simp [hx])
  have l1 : ∀ x ∈ p1, x.block < W.heap.size := fun x hx => by simpa using hW'.lt x (by simp [hx])
  refine (dfaRuns_walk pv nv lv v1 ps next live us W i0.1.1 i0.1.2 i0.2.1 i0.2.2 i1 (fun W' k => known_walk W' (tab_kept hT k))).mono fun e W' ⟨he, hg⟩ => ?_
  subst he
  have hb := Kept.below hg
  exact ⟨_, rfl, _, _, _, [], _, [], hW', trodAll_mk1 (shut_bool Tryz.underlying4 _), trodAll_mk2 (dfa_again h0 hb l0) (letters_again h1 hb l1), rfl, hb.frame _, fun h => by cases h⟩

theorem dfaRuns_holds : Rows.DfaRunsSaid :=
  OpenClaim.holds_of_wide 3 Tryz.f3 rfl rfl rfl rfl rfl rfl rfl ⟨rfl, rfl, rfl, rfl, rfl⟩ rfl rfl rfl rfl rfl (by kernel_rfl) Tryz.func3 (by kernel_rfl)
    (of_decide_eq_true (by kernel_rfl)) (by unfold Func.isWrapper; first | (rw [if_pos (by decide +kernel)]; kernel_rfl) | (rw [if_neg (by decide +kernel)]; exact ⟨rfl, rfl⟩))
    (fun os started H enc _ => dfaRuns_lifted os started H enc)

theorem dfaRuns_card : Rows.DfaRunsCardSaid :=
  Claim7.holds_tied_plain_at .later [] _ _ _ _ dfaRuns_holds (fun _ h => by cases h) (by kernel_rfl) (fun _ h => by cases h) dfaRuns_row_tie rfl ⟨rfl, rfl⟩ (by kernel_rfl) rfl
    (fun f fn hf hfn => by
      obtain rfl : f = 3 := Option.some.inj ((show Tryz.prog.funcNamed "augur/augurlaw13.DfaRuns" = some 3 by kernel_rfl).symm.trans hf) |>.symm
      obtain rfl : fn = Tryz.f3 := (Option.some.inj (Tryz.func3.symm.trans hfn)).symm
      exact ⟨by kernel_rfl, fun j t ht => by
        rw [Tryz.params3] at ht
        have hm : t ∈ [26, 27] := by simpa using Array.mem_of_getElem? ht
        have hall : ([26, 27].all fun u => !Tryz.prog.wantsStandIn u) = true := by kernel_rfl
        exact (show Tryz.prog.wantsStandIn t = false by simpa using List.all_eq_true.1 hall t hm)⟩)
    (by kernel_rfl)
end Go.Proofs.YtghlijhbhdjhfaaGreatDoor
