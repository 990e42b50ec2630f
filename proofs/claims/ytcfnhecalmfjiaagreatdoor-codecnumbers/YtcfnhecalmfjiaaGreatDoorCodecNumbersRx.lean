/- Proved: 'CodecNumbers' answers true: this layer's error has its number, and the chapter's examples of what is written and read come out. Conditions: none but that the library's table of math/bits is as its initialiser lays it, which the card ties to the program's text. The call is reckoned by an evaluator over an abstract memory, which is proved sound (RxA, RxB, RxC). -/
import Derived.Test.YtcfnhecalmfjiaaGreatDoorCodecNumbersRxW
import Derived.Test.YtcfnhecalmfjiaaGreatDoorRows
import Derived.Test.YtcfnhecalmfjiaaGreatDoorChecked
import Derived.KernelRfl
import Derived.ProofKit
import Derived.OpenShut
import Derived.LaidMore
import Derived.Stop.Joined
import Derived.Lib.LaidTab
import Derived.Lib.TrailingZeros
import Derived.Test.YtcfnhecalmfjiaaGreatDoorCards
import Derived.Test.YtcfnhecalmfjiaaGreatDoorTie
import Derived.Lay
import Derived.SevenTiedAt
import Derived.Stop.LaidErr
namespace Go.Proofs.YtcfnhecalmfjiaaGreatDoor
open Go.ChangeShapes Go.WideShapes Go.ChangeAt Go.WideMaps Go.WideElems Go.RowKit Rx

def laidTab : List (String × DataW Unit) := [("augur/tree.kidsOf", Rows.laid_augur_tree_kidsOf), ("augur/codec.kidsOf", Rows.laid_augur_codec_kidsOf)]
theorem g_kids : Tryz.prog.globalNamed "augur/tree.kidsOf" = some 1 := by kernel_rfl
theorem g_ckids : Tryz.prog.globalNamed "augur/codec.kidsOf" = some 0 := by kernel_rfl
theorem tab_plain (W : World) : laidMetH Tryz.prog laidTab W = laidMet Tryz.prog laidTab W := MakeChecks.laidMetH_plain _ _ _ (by kernel_rfl)
theorem tab_shape (os : Os) : (World.laidAll Tryz.prog os laidTab).Shaped Tryz.prog := World.shaped_of_ZipB (by kernel_rfl) (by kernel_rfl)
theorem tab_met (os : Os) (args : Array Value) : laidMetH Tryz.prog laidTab ((World.laidAll Tryz.prog os laidTab).forCall (fun _ _ => 0) ⟨#[], args, []⟩).memory := by
  rw [tab_plain]
  exact laidMet_laidAll _ (by kernel_rfl) (by kernel_rfl)
theorem int_get (l : List Nat) (i : Nat) : (l.map fun n : Nat => (n : Int)).getD i 0 = ((l.getD i 0 : Nat) : Int) := by
  rw [List.getD_eq_getElem?_getD, List.getD_eq_getElem?_getD, List.getElem?_map]
  cases l[i]? <;> rfl
theorem of_laid {W : World} (h : laidMetH Tryz.prog laidTab W) : Tab W := by
  rw [tab_plain] at h
  have h1 : Lib.TabIs Tryz.prog W "augur/tree.kidsOf" .i64 (kidsL.map fun n : Nat => (n : Int)) :=
    Lib.tabIs_of_head (t := 156) (e := 3) (n := 22) g_kids (by kernel_rfl) (by kernel_rfl) (by kernel_rfl) (by kernel_rfl) (by kernel_rfl) h
  have h0 : Lib.TabIs Tryz.prog W "augur/codec.kidsOf" .u8 (ckidsL.map fun n : Nat => (n : Int)) :=
    Lib.tabIs_of_head (t := 97) (e := 5) (n := 22) g_ckids (by kernel_rfl) (by kernel_rfl) (by kernel_rfl) (by kernel_rfl) (by kernel_rfl) h.tail
  have c0 : ∀ j, j < 22 → W.cell? ⟨0, j, none⟩ = some (.int .u8 (ckidsL.getD j 0 : Nat)) := fun j hj => by
    rw [h0.cell g_ckids j (by rw [List.length_map]; exact hj), int_get]
  have c1 : ∀ j, j < 22 → W.cell? ⟨1, j, none⟩ = some (.int .i64 (kidsL.getD j 0 : Nat)) := fun j hj => by
    rw [h1.cell g_kids j (by rw [List.length_map]; exact hj), int_get]
  exact ⟨World.block_lt_of_cell? W _ (c1 0 (by omega)), c0, c1⟩

set_option maxRecDepth 100000 in
theorem codecNumbers_lifted (os : Os) (started : os.Started) (H : Type) (enc : TypeId × Value → H) :
    ReturnsInHanded {} Tryz.checked os 3 .any (fun w args => (Rows.codecNumbersSpec.pre enc Tryz.prog Tryz.f3 [] false w args ∧ laidMetH Tryz.prog laidTab w) ∧ sizedMet enc Tryz.prog Tryz.f3 (OpenSpec.ofChange Rows.codecNumbersSpec) false w args)
      (Rows.codecNumbersSpec.post enc Tryz.prog Tryz.f3 false true false false) := by
  refine returnsInHanded_of_change_and (C := Tryz.checked) (X := fun w _ => laidMetH Tryz.prog laidTab w) (fun _ _ _ hh h => h.of_heap hh) own started (by kernel_rfl) Tryz.func3
    (ChangeSpec.witness_shaped (enc := enc) (C := Tryz.checked) (os := os) (X := fun w _ => laidMetH Tryz.prog laidTab w) false (World.laidAll Tryz.prog os laidTab) #[] 8 (World.laidAll_os _ _ _) (tab_shape os) (by kernel_rfl) (by kernel_rfl) (by kernel_rfl) (tab_met os _)) ?_
  intro W base args ds gs before hval0 hW _ _ hL _
  have hW' := hW
  obtain ⟨p, q, hA0, hV, rfl, hfz, hnd⟩ := hW
  have hA : DataW.TrodAll enc Tryz.prog W 0 (fun _ => true) true Tryz.f3.params.toList args.toList ds p := hA0
  rw [Tryz.params3] at hA
  obtain ⟨hargs, rfl, rfl⟩ := trodAll_none hA
  obtain rfl : args = #[] := by cases args; simp_all
  obtain ⟨rfl, rfl⟩ := trodVars_none hV
  have hT := of_laid hL
  clear hA0 hval0
  simp only [List.append_nil] at hW'
  refine (codecNumbers_walk W hT).mono fun e W' ⟨he, hb⟩ => ?_
  subst he
  exact ⟨_, rfl, _, _, _, [], [], [], hW', trodAll_mk1 (shut_bool Tryz.underlying4 _), trodAll_mk0, rfl, hb.frame _, fun h => by cases h⟩

theorem codecNumbers_holds : Rows.CodecNumbersSaid :=
  OpenClaim.holds_of_wide 3 Tryz.f3 rfl rfl rfl rfl rfl rfl rfl ⟨rfl, rfl, rfl, rfl, rfl⟩ rfl rfl rfl rfl rfl (by kernel_rfl) Tryz.func3 (by kernel_rfl)
    (of_decide_eq_true (by kernel_rfl)) (by unfold Func.isWrapper; first | (rw [if_pos (by decide +kernel)]; kernel_rfl) | (rw [if_neg (by decide +kernel)]; exact ⟨rfl, rfl⟩))
    (fun os started H enc _ => codecNumbers_lifted os started H enc)

theorem codecNumbers_card : Rows.CodecNumbersCardSaid :=
  Claim7.holds_tied_plain_at .later [] _ _ _ _
    codecNumbers_holds (fun _ h => by cases h) (by kernel_rfl) (fun _ h => by cases h) codecNumbers_row_tie rfl ⟨rfl, rfl⟩ (by kernel_rfl) rfl
    (fun f fn hf hfn => by
      obtain rfl : f = 3 := Option.some.inj ((show Tryz.prog.funcNamed "augur/augurlaw15.CodecNumbers" = some 3 by kernel_rfl).symm.trans hf) |>.symm
      obtain rfl : fn = Tryz.f3 := (Option.some.inj (Tryz.func3.symm.trans hfn)).symm
      exact ⟨by kernel_rfl, fun j t ht => by
        rw [Tryz.params3] at ht
        simp at ht⟩)
    (by kernel_rfl)
end Go.Proofs.YtcfnhecalmfjiaaGreatDoor
