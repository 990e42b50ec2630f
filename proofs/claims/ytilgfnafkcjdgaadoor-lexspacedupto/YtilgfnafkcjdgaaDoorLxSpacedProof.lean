/- Proved: 'LexSpaced' answers true for every text and every list of int whose bulk is at most the statement's bound: a text's tokens, written with any blanks between, are cut into the same tokens. Conditions: that bound, and that the library's two tables of unicode/utf8 are as the library lays them, which the card ties to the program's text. -/
import Derived.Test.YtilgfnafkcjdgaaDoorLxSpWalk
import Derived.Test.YtilgfnafkcjdgaaDoorLxSpAny
import Derived.Test.YtilgfnafkcjdgaaDoorLxLaid
import Derived.Test.YtilgfnafkcjdgaaDoorCards
import Derived.Test.YtilgfnafkcjdgaaDoorTie
import Derived.Deep.DeepHandedRow
namespace Go.Proofs.YtilgfnafkcjdgaaDoor
open Go.ChangeShapes Go.WideShapes Go.ChangeAt Go.WideMaps Go.WideElems Go.RowKit
open Go.ChangeMaps (open_string shut_string)

theorem laidOut : laidOutB Tryd.prog = true := by kernel_rfl
/-- What the bound gives: the text's length. -/
theorem spaced_short {H : Type} {s : ByteArray} {r : List (DataW H)} (hk : Rows.uptoSmall H (.lit (.string s.data.toList) :: r) = true) : s.size ≤ 1048576 := by
  have h : Rows.uptoBulkAll (DataW.lit (H := H) (.string s.data.toList) :: r) ≤ 1048576 := of_decide_eq_true hk
  simp only [Rows.uptoBulkAll, Rows.uptoBulk] at h
  have e : s.data.toList.length = s.size := by rw [Array.length_toList]; rfl
  omega
theorem lexSpaced_any (s : ByteArray) (ad : Option Addr) (cap : Nat) (zs : List Int) (w : World) (hv : IsSl w (.slice ad zs.length cap) zs) (hz : ∀ n ∈ zs, -9223372036854775808 ≤ n ∧ n ≤ 9223372036854775807) (hs : s.size ≤ 1048576) :
    Calls Tryd.prog 8 #[.string s, .slice ad zs.length cap] w fun e w' => e = .returned (.bool true) ∧ Kept [] w w' := by
  by_cases hb : 20000 < s.size
  · exact spaced_long s _ w (by omega) hb
  cases hf : (itemsOf s.data.toList).find? (fun x => x.err != 0) with
  | none => exact spaced_good s ad cap zs w hv hz (by omega) _ rfl (fun x hx => by simpa using List.find?_eq_none.1 hf x hx)
  | some x => exact spaced_bad s _ w (by omega) x hf

set_option maxRecDepth 100000 in
theorem spaced_contract (H : Type) (enc : TypeId × Value → H) (W : World) (base : Nat) (args : Array Value) (ds gs : List (DataW H)) (before : List MemPlace)
    (hval0 : ∀ (j : Nat) t v, Tryd.f8.params[j]? = some t → args[j]? = some v → Value.okWide Tryd.prog W .any base t v)
    (hW : DataW.Whole enc Tryd.prog Tryd.f8.params.toList Rows.lexSpacedSpec.vars false W args.toList ds gs before) (hk : Rows.uptoSmall H (ds ++ gs) = true) :
    Calls Tryd.prog 8 args W fun e W' => ∃ v, e = .returned v ∧ Rows.lexSpacedSpec.post enc Tryd.prog Tryd.f8 false true false false W args v W' := by
  have hW' := hW
  obtain ⟨p, q, hA0, hV, rfl, hfz, hnd⟩ := hW
  have hA : DataW.TrodAll enc Tryd.prog W 0 (fun _ => true) true Tryd.f8.params.toList args.toList ds p := hA0
  have hval : ∀ (j : Nat) t v, Tryd.f8.params[j]? = some t → args[j]? = some v → Value.okWide Tryd.prog W .any base t v := hval0
  rw [Tryd.params8] at hA hval
  obtain ⟨v0, v1, d0, d1, p0, p1, rfl, rfl, rfl, h0, h1⟩ := trodAll_two hA
  obtain ⟨rfl, rfl⟩ := trodVars_none hV
  obtain ⟨s, rfl, rfl, rfl, ws⟩ := open_string Tryd.underlying9 (hval 0 9 v0 rfl rfl) h0
  obtain ⟨a1, l1, c1, rfl⟩ := okWide_slice Tryd.underlying56 (hval 1 56 v1 rfl rfl)
  have h1k := h1
  obtain ⟨fuel, hf⟩ := h1
  have hs := spaced_short hk
  clear hA0 hval0
  simp only [List.append_nil] at hW'
  have hlt : ∀ x ∈ p1, x.block < W.heap.size := fun x hx => by simpa using hW'.lt x (by simpa using hx)
  have hargs : ∀ (W' : World), Below W.heap.size W W' → DataW.Trod enc Tryd.prog W' 0 (fun b => decide (b < W.heap.size)) true 56 (.slice a1 l1 c1) d1 p1 :=
    fun W' hn => Below.trod laidOut (by kernel_rfl) (of_decide_eq_true (by kernel_rfl)) h1k hn hlt
  obtain ⟨ad, cap, zs, hv, hsl, hwf⟩ := sl_of_trod (v := .slice a1 l1 c1) (by simpa [Value.cells] using hf)
  have hrun := lexSpaced_any s ad cap zs W hsl (fun n hn => i64_bounds (hwf n hn)) hs
  rw [← hv] at hrun
  refine hrun.mono fun e W' ⟨he, hg⟩ => ?_
  subst he
  have hb := hg.below
  exact ⟨_, rfl, _, _, _, [], _, [], hW', trodAll_mk1 (shut_bool Tryd.underlying4 _), trodAll_mk2 (shut_string Tryd.underlying9 ws) (hargs _ hb), rfl, hb.frame _, fun h => by cases h⟩

theorem spaced_reads (os : Os) {H : Type} (enc : TypeId × Value → H) : ∃ places, DataW.whole enc Tryd.prog ((World.laidAll Tryd.prog os laidTab).forCall (fun _ _ => 0) ⟨#[], #[.string ⟨#[]⟩, .slice none 0 0], []⟩).memory Tryd.f8.params.toList Rows.lexSpacedSpec.vars false #[Value.string ⟨#[]⟩, Value.slice none 0 0].toList 8 = some ([.lit (.string []), .nil], [], places) :=
  ⟨[], by kernel_rfl⟩

set_option maxRecDepth 100000 in
theorem spaced_lifted (os : Os) (started : os.Started) (H : Type) (enc : TypeId × Value → H) (F : Stop.Interp) :
    ReturnsInHanded {} Tryd.checked os 8 .any ((Rows.OpenSpec.upto Rows.lexSpacedSpec).preRow enc Tryd.prog Tryd.f8 Rows.lexSpacedUptoRow.domain false Rows.lexSpacedUptoRow.laid) (((Rows.OpenSpec.upto Rows.lexSpacedSpec).at F).post enc Tryd.prog Tryd.f8 false true false false) := by
  obtain ⟨places, hx⟩ := spaced_reads os enc
  have hok : Input.okWideB Tryd.prog ((World.laidAll Tryd.prog os laidTab).forCall (fun _ _ => 0) ⟨#[], #[.string ⟨#[]⟩, .slice none 0 0], []⟩) 8 ⟨#[], #[.string ⟨#[]⟩, .slice none 0 0], []⟩ = true := by kernel_rfl
  refine returnsInHanded_of_row (C := Tryd.checked) (s := Rows.OpenSpec.upto Rows.lexSpacedSpec) own started (by kernel_rfl) Tryd.func8
    ⟨World.laidAll Tryd.prog os laidTab, fun _ _ => 0, ⟨#[], #[.string ⟨#[]⟩, .slice none 0 0], []⟩, World.laidAll_os _ _ _, tab_shape os, (Input.okWide_of_okWideB (base := 0) hok).1, (Input.okWide_of_okWideB hok).2,
      OpenSpec.preRow_of_cond 8 hx (by kernel_rfl) (fun k hk => by cases hk; kernel_rfl) (by kernel_rfl) (tab_met os _), by
        simp only [Assume.holds]
        exact ⟨by simp, by simp, fun _ => Modest.zero, by simp, by simp⟩⟩ ?_
  intro W base args ds gs before hval hW _ hk _ _ _ _
  exact spaced_contract H enc W base args ds gs before hval hW (hk _ rfl)

theorem lexSpacedUpto_holds : Rows.LexSpacedUptoSaid :=
  OpenClaim.holds_of_cond 8 Tryd.f8 rfl rfl rfl rfl rfl rfl rfl ⟨rfl, rfl, rfl, rfl, rfl⟩ rfl rfl rfl rfl rfl (by kernel_rfl) Tryd.func8 (by kernel_rfl)
    (of_decide_eq_true (by kernel_rfl)) (by unfold Func.isWrapper; first | (rw [if_pos (by decide +kernel)]; kernel_rfl) | (rw [if_neg (by decide +kernel)]; exact ⟨rfl, rfl⟩))
    (fun os started H enc _ F => by rw [OpenClaim.pre_eq_preRow]; exact spaced_lifted os started H enc F)

theorem lexSpacedUpto_card : Rows.LexSpacedUptoCardSaid :=
  Claim7.holds_tied_plain_at .later [] [.data, .pinned] true Rows.lexSpacedUptoCard.stood.harness false
    lexSpacedUpto_holds (fun _ h => by cases h) (by kernel_rfl) (fun _ h => by cases h) lexSpacedUpto_row_tie rfl ⟨rfl, rfl⟩ (by kernel_rfl) rfl
    (fun f fn hf hfn => by
      obtain rfl : f = 8 := Option.some.inj ((show Tryd.prog.funcNamed "augur/augurlaw02.LexSpaced" = some 8 by kernel_rfl).symm.trans hf) |>.symm
      obtain rfl : fn = Tryd.f8 := (Option.some.inj (Tryd.func8.symm.trans hfn)).symm
      exact ⟨by kernel_rfl, fun j t ht => by
        rw [Tryd.params8] at ht
        have hm : t ∈ [9, 56] := by simpa using Array.mem_of_getElem? ht
        have hall : ([9, 56].all fun u => !Tryd.prog.wantsStandIn u) = true := by kernel_rfl
        exact (show Tryd.prog.wantsStandIn t = false by simpa using List.all_eq_true.1 hall t hm)⟩)
    (by kernel_rfl)
end Go.Proofs.YtilgfnafkcjdgaaDoor
