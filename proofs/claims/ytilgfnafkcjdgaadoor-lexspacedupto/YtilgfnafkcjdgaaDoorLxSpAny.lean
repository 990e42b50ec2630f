/- LexSpaced: the ways that end early. -/
import Derived.Test.YtilgfnafkcjdgaaDoorLxInts
import Derived.Test.YtilgfnafkcjdgaaDoorLxPlaces
namespace Go.Proofs.YtilgfnafkcjdgaaDoor
open Go.RowKit

set_option maxHeartbeats 1000000 in
set_option maxRecDepth 20000 in
theorem spaced_long (s : ByteArray) (v : Value) (w : World) (hs : s.size ≤ 1099511627776) (hb : 20000 < s.size) :
    Calls Tryd.prog 8 #[.string s, v] w fun e w' => e = .returned (.bool true) ∧ Kept [] w w' := by
  have hbi : (20000 : Int) < (s.size : Int) := by omega
  have hT := fun w => tokens_walk s w hs
  have HT : Hid _ := hT
  clear hT
  obtain ⟨E, hE⟩ : ∃ E : Nat, (tokensE (itemsOf s.data.toList)).2.1 = E := ⟨_, rfl⟩
  by_cases h0 : E = 0
  · have h0i : (E : Int) = 0 := by omega
    subst h0
    go_enter Tryd.func8, Tryd.ntmps8
    go_wp2_with (first
      | (go_at_call 9; refine (works_any _).mono ?_; rintro e w1 ⟨rfl, k1⟩)
      | (go_at_call 12; refine (HT.out _).mono ?_; rintro e w2 ⟨v2, rfl, _, k2⟩; rw [hE]))
    go_ret
    exact ⟨rfl, k1.trans ⟨k2.os, k2.tape, k2.output, k2.size, fun k hk _ => k2.block k hk⟩ (H := []) (by simp) (G := []) (by simp)⟩
  · have h0i : ¬ (E : Int) = 0 := by omega
    go_enter Tryd.func8, Tryd.ntmps8
    go_wp2_with (first
      | (go_at_call 9; refine (works_any _).mono ?_; rintro e w1 ⟨rfl, k1⟩)
      | (go_at_call 12; refine (HT.out _).mono ?_; rintro e w2 ⟨v2, rfl, _, k2⟩; rw [hE]))
    go_ret
    exact ⟨rfl, k1.trans ⟨k2.os, k2.tape, k2.output, k2.size, fun k hk _ => k2.block k hk⟩ (H := []) (by simp) (G := []) (by simp)⟩
set_option maxHeartbeats 1000000 in
set_option maxRecDepth 20000 in
theorem spaced_bad (s : ByteArray) (v : Value) (w : World) (hs : s.size ≤ 1099511627776) (x : Item) (hf : (itemsOf s.data.toList).find? (fun x => x.err != 0) = some x) :
    Calls Tryd.prog 8 #[.string s, v] w fun e w' => e = .returned (.bool true) ∧ Kept [] w w' := by
  have hT := fun w => tokens_bad s w hs x hf
  have hx : x.err ≠ 0 := by simpa using List.find?_some hf
  have hxi : ¬ ((x.err : Nat) : Int) = 0 := by omega
  have HT : Hid _ := hT
  clear hT hf
  go_enter Tryd.func8, Tryd.ntmps8
  go_wp2_with (first
    | (go_at_call 9; refine (works_any _).mono ?_; rintro e w1 ⟨rfl, k1⟩)
    | (go_at_call 12; refine (HT.out _).mono ?_; rintro e w2 ⟨ad, cap, rfl, k2⟩))
  go_ret
  exact ⟨rfl, k1.trans k2.out (by simp) (by simp)⟩
end Go.Proofs.YtilgfnafkcjdgaaDoor
