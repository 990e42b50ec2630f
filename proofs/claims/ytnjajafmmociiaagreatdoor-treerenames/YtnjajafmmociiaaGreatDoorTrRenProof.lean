/- TreeRenames: every Rename, asked twice, answers as the document does, over memory of its own, and leaves what it is lent. Conditions: none but that the listed package variables are as the program's text lays them, which the card ties. -/
import Derived.Test.YtnjajafmmociiaaGreatDoorTrRenWalk
import Derived.Test.YtnjajafmmociiaaGreatDoorGT
import Derived.Test.YtnjajafmmociiaaGreatDoorTrAwk3
import Derived.Test.YtnjajafmmociiaaGreatDoorCards
import Derived.Test.YtnjajafmmociiaaGreatDoorTie
namespace Go.Proofs.YtnjajafmmociiaaGreatDoor
open Go.ChangeShapes Go.WideShapes Go.ChangeAt Go.WideMaps Go.WideElems Go.RowKit Go.Shelf

set_option maxRecDepth 100000 in
theorem treeRenames_lifted (os : Os) (started : os.Started) (H : Type) (enc : TypeId × Value → H) :
    ReturnsInHanded {} Tryz.checked os 4 .any (fun w args => (Rows.treeRenamesSpec.pre enc Tryz.prog Tryz.f4 [] false w args ∧ laidMetH Tryz.prog laidTab w) ∧ sizedMet enc Tryz.prog Tryz.f4 (OpenSpec.ofChange Rows.treeRenamesSpec) false w args)
      (Rows.treeRenamesSpec.post enc Tryz.prog Tryz.f4 false true false false) := by
  refine returnsInHanded_of_change_and (C := Tryz.checked) (X := fun w _ => laidMetH Tryz.prog laidTab w) (fun _ _ _ hh h => h.of_heap hh) own started (by kernel_rfl) Tryz.func4
    (ChangeSpec.witness_shaped (enc := enc) (C := Tryz.checked) (os := os) (X := fun w _ => laidMetH Tryz.prog laidTab w) false (World.laidAll Tryz.prog os laidTab) #[.agg #[.int .u8 0, .string ⟨#[]⟩, .slice none 0 0], .slice none 0 0, .slice none 0 0] 8 (World.laidAll_os _ _ _) (tab_shape os) (by kernel_rfl) (by kernel_rfl) (by kernel_rfl) (tab_met os _)) ?_
  intro W base args ds gs before hval0 hW _ hsz0 hL _
  have hW' := hW
  obtain ⟨p, q, hA0, hV, rfl, hfz, hnd⟩ := hW
  have hA : DataW.TrodAll enc Tryz.prog W 0 (fun _ => true) true Tryz.f4.params.toList args.toList ds p := hA0
  have hval : ∀ (j : Nat) t v, Tryz.f4.params[j]? = some t → args[j]? = some v → Value.okWide Tryz.prog W .any base t v := hval0
  have hsz : (DataW.weightsEach Tryz.prog (Tryz.f4.params.toList ++ Rows.treeRenamesSpec.plain.varTypes Tryz.prog) (ds ++ gs)).all (· ≤ reachBytes) = true := hsz0
  rw [Tryz.params4] at hA hval hsz
  obtain ⟨v0, v1, v2, d0, d1, d2, p0, p1, p2, rfl, rfl, rfl, h0, h1, h2⟩ := trodAll_three hA
  obtain ⟨rfl, rfl⟩ := trodVars_none hV
  obtain ⟨t0, k0, rfl, i0, f0, m0⟩ := open_tree (hval 0 25 v0 rfl rfl) h0
  have m0 := m0 (each_weight hsz 0 25 d0 rfl rfl)
  obtain ⟨xs1, i1⟩ := open_strs (hval 1 51 v1 rfl rfl) h1
  obtain ⟨i1, m1⟩ := i1 (each_weight hsz 1 51 d1 rfl rfl)
  obtain ⟨xs2, i2⟩ := open_strs (hval 2 51 v2 rfl rfl) h2
  obtain ⟨i2, m2⟩ := i2 (each_weight hsz 2 51 d2 rfl rfl)
  clear hA0 hval0 hsz0 hsz
  simp only [List.append_nil] at hW'
  have l0 : ∀ x ∈ p0, x.block < W.heap.size := fun x hx => by simpa using hW'.lt x (by simp [hx])
  have l1 : ∀ x ∈ p1, x.block < W.heap.size := fun x hx => by simpa using hW'.lt x (by simp [hx])
  have l2 : ∀ x ∈ p2, x.block < W.heap.size := fun x hx => by simpa using hW'.lt x (by simp [hx])
  refine (treeRenames_some t0 xs1 xs2 k0 v1 v2 W (fun V k => awake_any V ((kids_of_laid hL).kept k) ((num_of_laid hL).kept k)) i0 f0 m0 i1 i2 m1 m2 (kids_of_laid hL)).mono fun e W' ⟨he, hg⟩ => ?_
  subst he
  have hb := hg.below
  exact ⟨_, rfl, _, _, _, [], _, [], hW', trodAll_mk1 (shut_bool Tryz.underlying4 _), trodAll_mk3 (tree_again h0 hb l0) (strs_again h1 hb l1) (strs_again h2 hb l2), rfl, hb.frame _, fun h => by cases h⟩

theorem treeRenames_holds : Rows.TreeRenamesSaid :=
  OpenClaim.holds_of_wide 4 Tryz.f4 rfl rfl rfl rfl rfl rfl rfl ⟨rfl, rfl, rfl, rfl, rfl⟩ rfl rfl rfl rfl rfl (by kernel_rfl) Tryz.func4 (by kernel_rfl)
    (of_decide_eq_true (by kernel_rfl)) (by unfold Func.isWrapper; first | (rw [if_pos (by decide +kernel)]; kernel_rfl) | (rw [if_neg (by decide +kernel)]; exact ⟨rfl, rfl⟩))
    (fun os started H enc _ => treeRenames_lifted os started H enc)

theorem treeRenames_card : Rows.TreeRenamesCardSaid :=
  Claim7.holds_tied_plain_at .later [] _ _ _ _ treeRenames_holds (fun _ h => by cases h) (by kernel_rfl) (fun _ h => by cases h) treeRenames_row_tie rfl ⟨rfl, rfl⟩ (by kernel_rfl) rfl
    (fun f fn hf hfn => by
      obtain rfl : f = 4 := Option.some.inj ((show Tryz.prog.funcNamed "augur/augurlaw03.TreeRenames" = some 4 by kernel_rfl).symm.trans hf) |>.symm
      obtain rfl : fn = Tryz.f4 := (Option.some.inj (Tryz.func4.symm.trans hfn)).symm
      exact ⟨by kernel_rfl, fun j t ht => by
        rw [Tryz.params4] at ht
        have hm : t ∈ [25, 51, 51] := by simpa using Array.mem_of_getElem? ht
        have hall : ([25, 51, 51].all fun u => !Tryz.prog.wantsStandIn u) = true := by kernel_rfl
        exact (show Tryz.prog.wantsStandIn t = false by simpa using List.all_eq_true.1 hall t hm)⟩)
    (by kernel_rfl)
end Go.Proofs.YtnjajafmmociiaaGreatDoor
