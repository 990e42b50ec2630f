/- LexNames: the walk. -/
import Derived.Test.YtilgfnafkcjdgaaDoorLxWorks
import Derived.Test.YtilgfnafkcjdgaaDoorLxRef
namespace Go.Proofs.YtilgfnafkcjdgaaDoor
open Go.RowKit

set_option maxHeartbeats 1000000 in
theorem lexNames_any (s : ByteArray) (w : World) (hs : s.size ≤ 9223372036854775807) :
    Calls Tryd.prog 5 #[.string s] w fun e w' => e = .returned (.bool true) ∧ Kept [] w w' := by
  by_cases hb : 16777216 < s.size
  · have hbi : (16777216 : Int) < (s.size : Int) := by omega
    go_enter Tryd.func5, Tryd.ntmps5
    go_wp2_with (go_at_call 9; refine (works_any _).mono ?_; rintro e w' ⟨rfl, hk⟩)
    go_ret
    exact ⟨rfl, hk⟩
  · have hbi : ¬ (16777216 : Int) < (s.size : Int) := by omega
    obtain ⟨q, hq⟩ : ∃ q : ByteArray, (⟨(quoteL s.data.toList).toArray⟩ : ByteArray) = q := ⟨_, rfl⟩
    have h1 := fun w => quote_any s w hs
    have h2 := fun w => refQuote_any s w hs
    rw [hq] at h1 h2
    have H1 : Hid _ := h1
    have H2 : Hid _ := h2
    clear h1 h2
    obtain ⟨nm, hnm⟩ : ∃ nm, isNameB s.data.toList = nm := ⟨_, rfl⟩
    have h3 := fun w => isName_any s w hs
    have h4 := fun w => refIsName_any s w hs
    rw [hnm] at h3 h4
    have H3 : Hid _ := h3
    have H4 : Hid _ := h4
    clear h3 h4 hnm hq
    have hbb : (nm == nm) = true := by simp
    have hqq : (q.toList == q.toList) = true := by simp
    go_enter Tryd.func5, Tryd.ntmps5
    go_wp2_with (first
      | (go_at_call 9; refine (works_any _).mono ?_; rintro e w1 ⟨rfl, k1⟩)
      | (go_at_call 18; refine (H3.out _).mono ?_; rintro e w2 ⟨rfl, rfl⟩)
      | (go_at_call 19; refine (H1.out _).mono ?_; rintro e w3 ⟨rfl, rfl⟩)
      | (go_at_call 20; refine (H4.out _).mono ?_; rintro e w4 ⟨rfl, k4⟩)
      | (go_at_call 21; refine (H2.out _).mono ?_; rintro e w5 ⟨rfl, k5⟩))
    go_ret
    exact ⟨rfl, (k1.trans k4 (H := []) (by simp) (by simp)).trans k5 (by simp) (by simp)⟩
end Go.Proofs.YtilgfnafkcjdgaaDoor
