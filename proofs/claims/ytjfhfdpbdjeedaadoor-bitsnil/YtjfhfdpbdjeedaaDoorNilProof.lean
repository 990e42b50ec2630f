/- Proved: 'BitsNil' answers true for every int: New, Of, NewTable and NewWork answer nil just where the width is none. Conditions: none but that the library's table of math/bits is as its initialiser lays it, which the card ties to the program's text. -/
import Derived.Test.YtjfhfdpbdjeedaaDoorKnown
import Derived.Test.YtjfhfdpbdjeedaaDoorLaid
import Derived.Test.YtjfhfdpbdjeedaaDoorCards
import Derived.Test.YtjfhfdpbdjeedaaDoorTie
namespace Go.Proofs.YtjfhfdpbdjeedaaDoor
open Go.ChangeShapes Go.WideShapes Go.ChangeAt Go.WideMaps Go.WideElems Go.RowKit

set_option maxHeartbeats 1600000 in
theorem bitsNil_in (n : Nat) (w : World) (hT : Tab w) (hn : n ≤ 65536) :
    Calls Tryd.prog 5 #[.int .i64 n] w fun e w' => e = .returned (.bool true) ∧ Kept [] w w' := by
  have HT : Hid (Tab w) := hT
  clear hT
  have b1 : ¬ (n : Int) < 0 := by omega
  have b2 : ¬ (65536 : Int) < (n : Int) := by omega
  have d1 : decide ((n : Int) < 0) = false := by simp
  have d2 : decide ((65536 : Int) < (n : Int)) = false := by simp; omega
  go_enter Tryd.func5, Tryd.ntmps5
  go_wp2_with fail
  refine (known_any _ HT.out).mono ?_
  rintro e w1 ⟨rfl, k1⟩
  go_wp2_with fail
  refine (new_in n _ hn).mono ?_
  rintro e w2 ⟨b, g, c, rfl, _, _, _, k2⟩
  go_wp2_with fail
  refine (of_in n w2.heap.size 0 2 [1, 2] _ hn (by decide) (by simp) (fun i h => by
    rw [cell_of (heap_alloc_new w2 _)]
    have : i = 0 ∨ i = 1 := by simp at h; omega
    rcases this with rfl | rfl <;> rfl)).mono ?_
  rintro e w3 ⟨b', g', c', rfl, _, _, _, k3⟩
  go_wp2_with fail
  refine (newTable_any n _ hn).mono ?_
  rintro e w4 ⟨tb, mb, rfl, _, _, _, k4⟩
  go_wp2_with fail
  refine (newWork_in n _ hn).mono ?_
  rintro e w5 ⟨wb, sb, sg, sc, r, rfl, _, _, _, _, _, k5⟩
  go_wp2
  go_ret
  exact ⟨rfl, ((((k1.trans (F := []) (G := []) (H := []) k2 (by simp) (by simp)).alloc _).trans (F := []) (G := []) (H := []) k3 (by simp) (by simp)).trans (F := []) (G := []) (H := []) k4 (by simp) (by simp)).trans (F := []) (G := []) (H := []) k5 (by simp) (by simp)⟩

set_option maxHeartbeats 1600000 in
theorem bitsNil_out (n : Int) (w : World) (hT : Tab w) (hn : n < 0 ∨ 65536 < n) :
    Calls Tryd.prog 5 #[.int .i64 n] w fun e w' => e = .returned (.bool true) ∧ Kept [] w w' := by
  have HT : Hid (Tab w) := hT
  clear hT
  have HN : Hid (n < 0 ∨ 65536 < n) := hn
  rcases hn with h | h
  all_goals
    go_enter Tryd.func5, Tryd.ntmps5
    go_wp2_with fail
    refine (known_any _ HT.out).mono ?_
    rintro e w1 ⟨rfl, k1⟩
    go_wp2_with fail
    refine (new_out n _ HN.out).mono ?_
    rintro e w2 ⟨rfl, rfl⟩
    go_wp2_with fail
    refine (of_out n _ _ HN.out).mono ?_
    rintro e w3 ⟨rfl, rfl⟩
    go_wp2_with fail
    refine (newTable_out n _ HN.out).mono ?_
    rintro e w4 ⟨rfl, rfl⟩
    go_wp2_with fail
    refine (newWork_out n _ HN.out).mono ?_
    rintro e w5 ⟨rfl, rfl⟩
    go_wp2
    go_ret
    exact ⟨rfl, k1.alloc _⟩

theorem bitsNil_walk (n : Int) (w : World) (hT : Tab w) :
    Calls Tryd.prog 5 #[.int .i64 n] w fun e w' => e = .returned (.bool true) ∧ Kept [] w w' := by
  by_cases h : 0 ≤ n ∧ n ≤ 65536
  · obtain ⟨k, rfl⟩ : ∃ k : Nat, n = (k : Int) := ⟨n.toNat, by omega⟩
    exact bitsNil_in k w hT (by omega)
  · exact bitsNil_out n w hT (by omega)

set_option maxRecDepth 100000 in
theorem bitsNil_lifted (os : Os) (started : os.Started) (H : Type) (enc : TypeId × Value → H) :
    ReturnsInHanded {} Tryd.checked os 5 .any (fun w args => (Rows.bitsNilSpec.pre enc Tryd.prog Tryd.f5 [] false w args ∧ laidMetH Tryd.prog laidTab w) ∧ sizedMet enc Tryd.prog Tryd.f5 (OpenSpec.ofChange Rows.bitsNilSpec) false w args)
      (Rows.bitsNilSpec.post enc Tryd.prog Tryd.f5 false true false false) := by
  refine returnsInHanded_of_change_and (C := Tryd.checked) (X := fun w _ => laidMetH Tryd.prog laidTab w) (fun _ _ _ hh h => h.of_heap hh) own started (by kernel_rfl) Tryd.func5
    (ChangeSpec.witness_shaped (enc := enc) (C := Tryd.checked) (os := os) (X := fun w _ => laidMetH Tryd.prog laidTab w) false (World.doorLaid Tryd.prog 400 os) #[.int .i64 0] 8 rfl (World.shaped_of_RefB (by kernel_rfl) (by kernel_rfl)) (by kernel_rfl) (by kernel_rfl) (by kernel_rfl) (door_met os _)) ?_
  intro W base args ds gs before hval0 hW _ _ hL _
  have hW' := hW
  obtain ⟨p, q, hA0, hV, rfl, hfz, hnd⟩ := hW
  have hA : DataW.TrodAll enc Tryd.prog W 0 (fun _ => true) true Tryd.f5.params.toList args.toList ds p := hA0
  have hval : ∀ (j : Nat) t v, Tryd.f5.params[j]? = some t → args[j]? = some v → Value.okWide Tryd.prog W .any base t v := hval0
  rw [Tryd.params5] at hA hval
  obtain ⟨v0, d0, rfl, rfl, h0⟩ := trodAll_one hA
  obtain ⟨rfl, rfl⟩ := trodVars_none hV
  obtain ⟨n, rfl, rfl, rfl, wn⟩ := open_int Tryd.underlying3 (hval 0 3 v0 rfl rfl) h0
  have hT := of_laid hL
  clear hA0 hval0
  simp only [List.append_nil] at hW'
  refine (bitsNil_walk n W hT).mono fun e W' ⟨he, hg⟩ => ?_
  subst he
  have hb := hg.below
  exact ⟨_, rfl, _, _, _, [], [], [], hW', trodAll_mk1 (shut_bool Tryd.underlying4 _), trodAll_mk1 (shut_int Tryd.underlying3 wn), rfl, hb.frame _, fun h => by cases h⟩

theorem bitsNil_holds : Rows.BitsNilSaid :=
  OpenClaim.holds_of_wide 5 Tryd.f5 rfl rfl rfl rfl rfl rfl rfl ⟨rfl, rfl, rfl, rfl, rfl⟩ rfl rfl rfl rfl rfl (by kernel_rfl) Tryd.func5 (by kernel_rfl)
    (of_decide_eq_true (by kernel_rfl)) (by unfold Func.isWrapper; first | (rw [if_pos (by decide +kernel)]; kernel_rfl) | (rw [if_neg (by decide +kernel)]; exact ⟨rfl, rfl⟩))
    (fun os started H enc _ => bitsNil_lifted os started H enc)

theorem bitsNil_card : Rows.BitsNilCardSaid :=
  Claim7.holds_tied_plain_at .later [] [.data] true Rows.bitsNilCard.stood.harness false
    bitsNil_holds (fun _ h => by cases h) (by kernel_rfl) (fun _ h => by cases h) bitsNil_row_tie rfl ⟨rfl, rfl⟩ (by kernel_rfl) rfl
    (fun f fn hf hfn => by
      obtain rfl : f = 5 := Option.some.inj ((show Tryd.prog.funcNamed "augur/augurlaw01.BitsNil" = some 5 by kernel_rfl).symm.trans hf) |>.symm
      obtain rfl : fn = Tryd.f5 := (Option.some.inj (Tryd.func5.symm.trans hfn)).symm
      exact ⟨by kernel_rfl, fun j t ht => by
        rw [Tryd.params5] at ht
        have hm : t ∈ [3] := by simpa using Array.mem_of_getElem? ht
        have hall : ([3].all fun u => !Tryd.prog.wantsStandIn u) = true := by kernel_rfl
        exact (show Tryd.prog.wantsStandIn t = false by simpa using List.all_eq_true.1 hall t hm)⟩)
    (by kernel_rfl)
end Go.Proofs.YtjfhfdpbdjeedaaDoor
