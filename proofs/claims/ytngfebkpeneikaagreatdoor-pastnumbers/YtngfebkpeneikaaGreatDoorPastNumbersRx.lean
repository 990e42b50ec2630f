/- Proved: 'PastNumbers' answers true: the layer's errors, Ops and the limit have their numbers, and the chapter's example of a book comes out. Conditions: none but that the library's table of math/bits is as its initialiser lays it, which the card ties to the program's text. The call is reckoned by an evaluator over an abstract memory, which is proved sound (RxA, RxB, RxC). -/
import Derived.Test.YtngfebkpeneikaaGreatDoorPastNumbersRxW
import Derived.Test.YtngfebkpeneikaaGreatDoorRows
import Derived.Test.YtngfebkpeneikaaGreatDoorChecked
import Derived.KernelRfl
import Derived.ProofKit
import Derived.OpenShut
import Derived.LaidMore
import Derived.Stop.Joined
import Derived.Lib.LaidTab
import Derived.Lib.TrailingZeros
import Derived.Test.YtngfebkpeneikaaGreatDoorCards
import Derived.Test.YtngfebkpeneikaaGreatDoorTie
import Derived.SevenTiedAt
import Derived.Stop.LaidErr
import Derived.LaidSub
namespace Go.Proofs.YtngfebkpeneikaaGreatDoor
open Go.ChangeShapes Go.WideShapes Go.ChangeAt Go.WideMaps Go.WideElems Go.RowKit Rx

def laidTab : List (String × DataW Unit) := [("unicode/utf8.acceptRanges", Rows.laid_unicode_utf8_acceptRanges), ("errors.errorType", Rows.laid_errors_errorType), ("augur/tree.kidsOf", Rows.laid_augur_tree_kidsOf), ("unicode/utf8.first", Rows.laid_unicode_utf8_first)]
theorem g_kids : Tryz.prog.globalNamed "augur/tree.kidsOf" = some 0 := by kernel_rfl
def litsOf : DataW Unit → List Value
  | .agg l => l.map fun d => match d with
    | .lit (.int k n) => .int k n
    | _ => undef
  | _ => []
/-- the start: what the door lays, and the table that the form pins -/
noncomputable def startW (os : Os) : World :=
  { World.doorLaid Tryz.prog 4000 os with heap := (World.doorLaid Tryz.prog 4000 os).heap.setIfInBounds 3 (match (World.doorLaid Tryz.prog 4000 os).heap[3]? with
    | some (Obj.cells _ e f) => Obj.cells (litsOf Rows.laid_unicode_utf8_first).toArray e f
    | _ => Obj.cells #[] 0 (0, 0)) }
theorem door_met (os : Os) (args : Array Value) : laidMetH Tryz.prog laidTab ((startW os).forCall (fun _ _ => 0) ⟨#[], args, []⟩).memory :=
  laidMetH_of_parts3 (fuel := 8) (laidMet_of_run' 8 (by kernel_rfl) (by kernel_rfl)) (by kernel_rfl) (by kernel_rfl)
theorem int_get (l : List Nat) (i : Nat) : (l.map fun n : Nat => (n : Int)).getD i 0 = ((l.getD i 0 : Nat) : Int) := by
  rw [List.getD_eq_getElem?_getD, List.getD_eq_getElem?_getD, List.getElem?_map]
  cases l[i]? <;> rfl
theorem of_laid {W : World} (h : laidMetH Tryz.prog laidTab W) : Tab W := by
  have m0 : laidMet Tryz.prog [("augur/tree.kidsOf", Rows.laid_augur_tree_kidsOf)] W := by
    have h1 := h.filter (fun x => x.1 == "augur/tree.kidsOf")
    rw [show laidTab.filter (fun x => x.1 == "augur/tree.kidsOf") = [("augur/tree.kidsOf", Rows.laid_augur_tree_kidsOf)] from by rfl, MakeChecks.laidMetH_plain _ _ _ (by kernel_rfl)] at h1
    exact h1
  have h0 : Lib.TabIs Tryz.prog W "augur/tree.kidsOf" .i64 (kidsL.map fun n : Nat => (n : Int)) :=
    Lib.tabIs_of_head (t := 113) (e := 3) (n := 22) g_kids (by kernel_rfl) (by kernel_rfl) (by kernel_rfl) (by kernel_rfl) (by kernel_rfl) m0
  have c0 : ∀ j, j < 22 → W.cell? ⟨0, j, none⟩ = some (.int .i64 (kidsL.getD j 0 : Nat)) := fun j hj => by
    rw [h0.cell g_kids j (by rw [List.length_map]; exact hj), int_get]
  exact c0

set_option maxRecDepth 100000 in
theorem pastNumbers_lifted (os : Os) (started : os.Started) (H : Type) (enc : TypeId × Value → H) :
    ReturnsInHanded {} Tryz.checked os 3 .any (fun w args => (Rows.pastNumbersSpec.pre enc Tryz.prog Tryz.f3 [] false w args ∧ laidMetH Tryz.prog laidTab w) ∧ sizedMet enc Tryz.prog Tryz.f3 (OpenSpec.ofChange Rows.pastNumbersSpec) false w args)
      (Rows.pastNumbersSpec.post enc Tryz.prog Tryz.f3 false true false false) := by
  refine returnsInHanded_of_change_and (C := Tryz.checked) (X := fun w _ => laidMetH Tryz.prog laidTab w) (fun _ _ _ hh h => h.of_heap hh) own started (by kernel_rfl) Tryz.func3
    (ChangeSpec.witness_shaped (enc := enc) (C := Tryz.checked) (os := os) (X := fun w _ => laidMetH Tryz.prog laidTab w) false (startW os) #[] 8 rfl (World.shaped_of_RefB (by kernel_rfl) (by kernel_rfl)) (by kernel_rfl) (by kernel_rfl) (by kernel_rfl) (door_met os _)) ?_
  intro W base args ds gs before hval0 hW _ _ hL _
  have hW' := hW
  obtain ⟨p, q, hA0, hV, rfl, hfz, hnd⟩ := hW
  have hA : DataW.TrodAll enc Tryz.prog W 0 (fun _ => true) true Tryz.f3.params.toList args.toList ds p := hA0
  rw [Tryz.params3] at hA
  obtain ⟨hargs, rfl, rfl⟩ := trodAll_none hA
  obtain rfl : args = #[] := by cases args; simp_all
  obtain ⟨rfl, rfl⟩ := trodVars_none hV
  have hT := of_laid hL
  clear hA0 hval0
  simp only [List.append_nil] at hW'
  refine (pastNumbers_walk W hT).mono fun e W' ⟨he, hb⟩ => ?_
  subst he
  exact ⟨_, rfl, _, _, _, [], [], [], hW', trodAll_mk1 (shut_bool Tryz.underlying4 _), trodAll_mk0, rfl, hb.frame _, fun h => by cases h⟩

theorem pastNumbers_holds : Rows.PastNumbersSaid :=
  OpenClaim.holds_of_wide 3 Tryz.f3 rfl rfl rfl rfl rfl rfl rfl ⟨rfl, rfl, rfl, rfl, rfl⟩ rfl rfl rfl rfl rfl (by kernel_rfl) Tryz.func3 (by kernel_rfl)
    (of_decide_eq_true (by kernel_rfl)) (by unfold Func.isWrapper; first | (rw [if_pos (by decide +kernel)]; kernel_rfl) | (rw [if_neg (by decide +kernel)]; exact ⟨rfl, rfl⟩))
    (fun os started H enc _ => pastNumbers_lifted os started H enc)

theorem pastNumbers_card : Rows.PastNumbersCardSaid :=
  Claim7.holds_tied_plain_at .later [] _ _ _ _
    pastNumbers_holds (fun _ h => by cases h) (by kernel_rfl) (fun _ h => by cases h) pastNumbers_row_tie rfl ⟨rfl, rfl⟩ (by kernel_rfl) rfl
    (fun f fn hf hfn => by
      obtain rfl : f = 3 := Option.some.inj ((show Tryz.prog.funcNamed "augur/augurlaw08.PastNumbers" = some 3 by kernel_rfl).symm.trans hf) |>.symm
      obtain rfl : fn = Tryz.f3 := (Option.some.inj (Tryz.func3.symm.trans hfn)).symm
      exact ⟨by kernel_rfl, fun j t ht => by
        rw [Tryz.params3] at ht
        simp at ht⟩)
    (by kernel_rfl)
end Go.Proofs.YtngfebkpeneikaaGreatDoor
