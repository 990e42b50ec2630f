/- TreeBack: at any two trees, a name in the place of itself changes nothing, nor does a tree in the place of a name that is not there; renamed to names that are not there, and back, it is the tree. Conditions: none but that the listed package variables are as the program's text lays them, which the card ties. -/
import Derived.Test.YtjcfgmoppmjnmaaGreatDoorTrNum
import Derived.ProofKit
import Derived.OpenShut
import Derived.LaidMore
import Derived.Lay
import Derived.SevenTiedAt
import Derived.Stop.Joined
import Derived.Stop.LaidErr
import Derived.Lib.LaidTab
import Derived.Test.YtjcfgmoppmjnmaaGreatDoorRows
import Derived.Test.YtjcfgmoppmjnmaaGreatDoorTrOpen
import Derived.Test.YtjcfgmoppmjnmaaGreatDoorTrWeight
import Derived.Test.YtjcfgmoppmjnmaaGreatDoorTrBackN
import Derived.Test.YtjcfgmoppmjnmaaGreatDoorCards
import Derived.Test.YtjcfgmoppmjnmaaGreatDoorTie
namespace Go.Proofs.YtjcfgmoppmjnmaaGreatDoor
open Go.ChangeShapes Go.WideShapes Go.ChangeAt Go.RowKit Go.Shelf

def laidTab : List (String × DataW Unit) := Rows.treeBackRow.laid
theorem own : ownKnob Tryz.prog.godebug = none := by kernel_rfl
theorem laidOut : laidOutB Tryz.prog = true := by kernel_rfl
theorem tab_plain (W : World) : laidMetH Tryz.prog laidTab W = laidMet Tryz.prog laidTab W := MakeChecks.laidMetH_plain _ _ _ (by kernel_rfl)
theorem tab_shape (os : Os) : (World.laidAll Tryz.prog os laidTab).Shaped Tryz.prog := World.shaped_of_ZipB (by kernel_rfl) (by kernel_rfl)
theorem tab_met (os : Os) (args : Array Value) : laidMetH Tryz.prog laidTab ((World.laidAll Tryz.prog os laidTab).forCall (fun _ _ => 0) ⟨#[], args, []⟩).memory := by
  rw [tab_plain]
  exact laidMet_laidAll _ (by kernel_rfl) (by kernel_rfl)
theorem gKids : Tryz.prog.globalNamed "augur/tree.kidsOf" = some 0 := by kernel_rfl
theorem gSyn : Tryz.prog.globalNamed "strconv.ErrSyntax" = some 1 := by kernel_rfl
theorem gRng : Tryz.prog.globalNamed "strconv.ErrRange" = some 2 := by kernel_rfl
theorem star : "*" ++ "errors.errorString" = "*errors.errorString" := by decide
theorem nameErr (u : TypeId) (h : Tryz.prog.typeName? 3 u = some "*errors.errorString") : u = 148 :=
  typeName_ptr_named (nm := "errors.errorString") (by rw [star]; kernel_rfl) (by kernel_rfl) (by decide) u (by rw [star]; exact h)
theorem kids_at : ∀ i, i < 22 → (kidsL.map fun (n : Nat) => (n : Int)).getD i 0 = ((kidsN i : Nat) : Int) := by decide
theorem kids_of_laid {W : World} (h : laidMetH Tryz.prog laidTab W) : KidsTab W := by
  rw [tab_plain] at h
  have h6 := h.tail.tail.tail.tail.tail.tail
  have ht : Lib.TabIs Tryz.prog W "augur/tree.kidsOf" .i64 (kidsL.map fun (n : Nat) => (n : Int)) :=
    Lib.tabIs_of_head (t := 100) (e := 3) (n := 22) gKids (by kernel_rfl) (by kernel_rfl) (by kernel_rfl) (by kernel_rfl) (by kernel_rfl) h6
  intro i hi
  rw [ht.cell gKids i (by simpa [kidsL] using hi), kids_at i hi]
theorem num_of_laid {W : World} (h : laidMetH Tryz.prog laidTab W) : NumAt W := by
  rw [tab_plain] at h
  have h2 := h.tail.tail
  have h4 := h2.tail.tail
  have h5 := h4.tail
  refine ⟨?_, ?_, ?_⟩
  · obtain ⟨a1, s1, hv1, -, -, -⟩ := laid_sentinel h5 gSyn (ti := 79) (by kernel_rfl) Tryz.underlying79 nameErr Tryz.underlying148 Tryz.underlying150 rfl rfl Tryz.underlying9 (by kernel_rfl) (by kernel_rfl)
    have h0 := World.var?_cell gSyn hv1 0
    exact ⟨_, _, h0⟩
  · obtain ⟨a1, s1, hv1, -, -, -⟩ := laid_sentinel h4 gRng (ti := 79) (by kernel_rfl) Tryz.underlying79 nameErr Tryz.underlying148 Tryz.underlying150 rfl rfl Tryz.underlying9 (by kernel_rfl) (by kernel_rfl)
    have h0 := World.var?_cell gRng hv1 0
    exact ⟨_, _, h0⟩
  · exact Lib.tabIs_of_head (t := 152) (e := 112) (n := 20) Tryz.globPow (by kernel_rfl) (by kernel_rfl) (by kernel_rfl) (by kernel_rfl) (by kernel_rfl) h2
end Go.Proofs.YtjcfgmoppmjnmaaGreatDoor

/- Formulas among the arguments: from the row to walks. -/
namespace Go.Proofs.YtjcfgmoppmjnmaaGreatDoor
open Go.ChangeShapes Go.WideShapes Go.ChangeAt Go.RowKit Go.Shelf

set_option maxRecDepth 100000 in
theorem open_tree {H : Type} {enc : TypeId × Value → H} {W : World} {base : Nat} {v : Value} {d : DataW H} {p : List MemPlace} (hv : Value.okWide Tryz.prog W .any base 25 v) (h : DataW.Trod enc Tryz.prog W 0 (fun _ => true) true 25 v d p) :
    ∃ t kv, v = .agg #[.int .u8 (t.op : Nat), .string t.name, kv] ∧ IsF W t kv ∧ t.Fine ∧ ((∀ n ∈ d.weights Tryz.prog 25, n ≤ 140737488351232) → t.Modest) := by
  obtain ⟨cs, rfl, _⟩ := okWide_struct Tryz.underlying25 hv
  obtain ⟨fuel, hf⟩ := h
  obtain ⟨t, kv, e, hT, hF, hM⟩ := trod_tree fuel _ _ hf
  have e' : cs.toList = [.int .u8 (t.op : Nat), .string t.name, kv] := e
  refine ⟨t, kv, ?_, IsT.isF hT, hF, hM⟩
  congr 1
  exact Array.toList_inj.1 e'
theorem tree_again {H : Type} {enc : TypeId × Value → H} {W W' : World} {v : Value} {d : DataW H} {p : List MemPlace} (h : DataW.Trod enc Tryz.prog W 0 (fun _ => true) true 25 v d p) (hb : Below W.heap.size W W') (hlt : ∀ x ∈ p, x.block < W.heap.size) :
    DataW.Trod enc Tryz.prog W' 0 (fun b => decide (b < W.heap.size)) true 25 v d p :=
  Below.trod laidOut (by kernel_rfl) (of_decide_eq_true (by kernel_rfl)) h hb hlt
theorem each_weight {H : Type} {P : Program} : ∀ {ts : List TypeId} {ds : List (DataW H)}, (DataW.weightsEach P ts ds).all (· ≤ reachBytes) = true → ∀ (i : Nat) t d, ts[i]? = some t → ds[i]? = some d → ∀ n ∈ d.weights P t, n ≤ 140737488351232
  | [], _, _, i, t, d, ht, _, _, _ => by simp at ht
  | _ :: _, [], _, i, t, d, _, hd, _, _ => by simp at hd
  | t :: ts, d :: ds, h, 0, t', d', ht, hd, n, hn => by
    simp only [List.getElem?_cons_zero, Option.some.injEq] at ht hd
    subst ht hd
    rw [DataW.weightsEach, List.all_append, Bool.and_eq_true] at h
    have := List.all_eq_true.1 h.1 n hn
    have h2 : n ≤ reachBytes := of_decide_eq_true this
    exact h2
  | t :: ts, d :: ds, h, i + 1, t', d', ht, hd, n, hn => by
    simp only [List.getElem?_cons_succ] at ht hd
    rw [DataW.weightsEach, List.all_append, Bool.and_eq_true] at h
    exact each_weight h.2 i t' d' ht hd n hn
end Go.Proofs.YtjcfgmoppmjnmaaGreatDoor

namespace Go.Proofs.YtjcfgmoppmjnmaaGreatDoor
open Go.ChangeShapes Go.WideShapes Go.ChangeAt Go.WideMaps Go.WideElems Go.RowKit Go.Shelf

set_option maxRecDepth 100000 in
theorem treeBack_lifted (os : Os) (started : os.Started) (H : Type) (enc : TypeId × Value → H) :
    ReturnsInHanded {} Tryz.checked os 3 .any (fun w args => (Rows.treeBackSpec.pre enc Tryz.prog Tryz.f3 [] false w args ∧ laidMetH Tryz.prog laidTab w) ∧ sizedMet enc Tryz.prog Tryz.f3 (OpenSpec.ofChange Rows.treeBackSpec) false w args)
      (Rows.treeBackSpec.post enc Tryz.prog Tryz.f3 false true false false) := by
  refine returnsInHanded_of_change_and (C := Tryz.checked) (X := fun w _ => laidMetH Tryz.prog laidTab w) (fun _ _ _ hh h => h.of_heap hh) own started (by kernel_rfl) Tryz.func3
    (ChangeSpec.witness_shaped (enc := enc) (C := Tryz.checked) (os := os) (X := fun w _ => laidMetH Tryz.prog laidTab w) false (World.laidAll Tryz.prog os laidTab) #[.agg #[.int .u8 0, .string ⟨#[]⟩, .slice none 0 0], .agg #[.int .u8 0, .string ⟨#[]⟩, .slice none 0 0]] 8 (World.laidAll_os _ _ _) (tab_shape os) (by kernel_rfl) (by kernel_rfl) (by kernel_rfl) (tab_met os _)) ?_
  intro W base args ds gs before hval0 hW _ hsz0 hL _
  have hW' := hW
  obtain ⟨p, q, hA0, hV, rfl, hfz, hnd⟩ := hW
  have hA : DataW.TrodAll enc Tryz.prog W 0 (fun _ => true) true Tryz.f3.params.toList args.toList ds p := hA0
  have hval : ∀ (j : Nat) t v, Tryz.f3.params[j]? = some t → args[j]? = some v → Value.okWide Tryz.prog W .any base t v := hval0
  have hsz : (DataW.weightsEach Tryz.prog (Tryz.f3.params.toList ++ Rows.treeBackSpec.plain.varTypes Tryz.prog) (ds ++ gs)).all (· ≤ reachBytes) = true := hsz0
  rw [Tryz.params3] at hA hval hsz
  obtain ⟨v0, v1, d0, d1, p0, p1, rfl, rfl, rfl, h0, h1⟩ := trodAll_two hA
  obtain ⟨rfl, rfl⟩ := trodVars_none hV
  obtain ⟨t0, k0, rfl, i0, f0, m0⟩ := open_tree (hval 0 25 v0 rfl rfl) h0
  have m0 := m0 (each_weight hsz 0 25 d0 rfl rfl)
  obtain ⟨t1, k1, rfl, i1, f1, m1⟩ := open_tree (hval 1 25 v1 rfl rfl) h1
  have m1 := m1 (each_weight hsz 1 25 d1 rfl rfl)
  clear hA0 hval0 hsz0 hsz
  simp only [List.append_nil] at hW'
  have l0 : ∀ x ∈ p0, x.block < W.heap.size := fun x hx => by simpa using hW'.lt x (by simp [hx])
  have l1 : ∀ x ∈ p1, x.block < W.heap.size := fun x hx => by simpa using hW'.lt x (by simp [hx])
  refine (treeBack_walk t0 t1 k0 k1 W i0 i1 f0 f1 m0 m1 (kids_of_laid hL) (num_of_laid hL)).mono fun e W' ⟨he, hg⟩ => ?_
  subst he
  have hb := hg.below
  exact ⟨_, rfl, _, _, _, [], _, [], hW', trodAll_mk1 (shut_bool Tryz.underlying4 _), trodAll_mk2 (tree_again h0 hb l0) (tree_again h1 hb l1), rfl, hb.frame _, fun h => by cases h⟩

theorem treeBack_holds : Rows.TreeBackSaid :=
  OpenClaim.holds_of_wide 3 Tryz.f3 rfl rfl rfl rfl rfl rfl rfl ⟨rfl, rfl, rfl, rfl, rfl⟩ rfl rfl rfl rfl rfl (by kernel_rfl) Tryz.func3 (by kernel_rfl)
    (of_decide_eq_true (by kernel_rfl)) (by unfold Func.isWrapper; first | (rw [if_pos (by decide +kernel)]; kernel_rfl) | (rw [if_neg (by decide +kernel)]; exact ⟨rfl, rfl⟩))
    (fun os started H enc _ => treeBack_lifted os started H enc)

theorem treeBack_card : Rows.TreeBackCardSaid :=
  Claim7.holds_tied_plain_at .later [] _ _ _ _ treeBack_holds (fun _ h => by cases h) (by kernel_rfl) (fun _ h => by cases h) treeBack_row_tie rfl ⟨rfl, rfl⟩ (by kernel_rfl) rfl
    (fun f fn hf hfn => by
      obtain rfl : f = 3 := Option.some.inj ((show Tryz.prog.funcNamed "augur/augurlaw03.TreeBack" = some 3 by kernel_rfl).symm.trans hf) |>.symm
      obtain rfl : fn = Tryz.f3 := (Option.some.inj (Tryz.func3.symm.trans hfn)).symm
      exact ⟨by kernel_rfl, fun j t ht => by
        rw [Tryz.params3] at ht
        have hm : t ∈ [25, 25] := by simpa using Array.mem_of_getElem? ht
        have hall : ([25, 25].all fun u => !Tryz.prog.wantsStandIn u) = true := by kernel_rfl
        exact (show Tryz.prog.wantsStandIn t = false by simpa using List.all_eq_true.1 hall t hm)⟩)
    (by kernel_rfl)
end Go.Proofs.YtjcfgmoppmjnmaaGreatDoor
