/- LexQuoted: the walk. -/
import Derived.Test.YtilgfnafkcjdgaaDoorLxWorks
import Derived.Test.YtilgfnafkcjdgaaDoorLxPure
namespace Go.Proofs.YtilgfnafkcjdgaaDoor
open Go.RowKit

/-- Tokens, where all of the text is tokens. -/
theorem tokens_good (s : ByteArray) (w : World) (hs : s.size ≤ 1099511627776) (xs : List Item) (hx : tokensE (itemsOf s.data.toList) = (xs, 0, 0)) (hl : 0 < xs.length) :
    Calls Tryd.prog 12 #[.string s] w fun e w' => ∃ g cap cur, e = .returned (.tuple #[.slice (some ⟨g, 0, none⟩) xs.length cap, .int .i64 0, .int .i64 0]) ∧ w.heap.size ≤ g ∧ Hid (w'.heap[g]? = some (.cells cur 50 (0, 0))) ∧ xs.length ≤ cap ∧ Hid (∀ j, j < xs.length * 3 → cur[j]? = (flatI xs)[j]?) ∧ Kept [] w w' := by
  refine (tokens_walk s w hs).mono ?_
  rintro e w' ⟨v, rfl, hown, hb⟩
  rw [hx] at hown ⊢
  obtain ⟨g, cap, cur, rfl, hg, hc, hcap, hcur⟩ := own_some hown hl
  exact ⟨g, cap, cur, rfl, hg, hc, hcap, hcur, hb.os, hb.tape, hb.output, hb.size, fun k hk _ => hb.block k hk⟩

set_option maxHeartbeats 1000000 in
set_option maxRecDepth 20000 in
theorem lexQuoted_any (s : ByteArray) (w : World) (hs : s.size ≤ 9223372036854775807) :
    Calls Tryd.prog 6 #[.string s] w fun e w' => e = .returned (.bool true) ∧ Kept [] w w' := by
  by_cases hb : 16777216 < s.size
  · have hbi : (16777216 : Int) < (s.size : Int) := by omega
    go_enter Tryd.func6, Tryd.ntmps6
    go_wp2_with (go_at_call 9; refine (works_any _).mono ?_; rintro e w' ⟨rfl, hk⟩)
    go_ret
    exact ⟨rfl, hk⟩
  have hbi : ¬ (16777216 : Int) < (s.size : Int) := by omega
  obtain ⟨q, hq⟩ : ∃ q : ByteArray, (⟨(quoteL s.data.toList).toArray⟩ : ByteArray) = q := ⟨_, rfl⟩
  have hqd : q.data.toList = quoteL s.data.toList := by rw [← hq]
  have hqs : q.size ≤ 1099511627776 := by
    rw [Lib.size_eq, hqd]
    unfold quoteL
    have := Lib.size_eq s
    split
    · omega
    · split
      · simp; omega
      · simp
  have h1 := fun w => quote_any s w hs
  rw [hq] at h1
  have h3 := fun w => refNamed_any s w hs
  cases hn : namedB s.data.toList
  · have hnil := not_named _ hn
    have hqe : q.toList.isEmpty = true := by rw [Lib.toList_data, hqd, hnil]; rfl
    rw [hn] at h3
    have H1 : Hid _ := h1
    have H3 : Hid _ := h3
    clear h1 h3 hqd hq hn hnil
    go_enter Tryd.func6, Tryd.ntmps6
    go_wp2_with (first
      | (go_at_call 9; refine (works_any _).mono ?_; rintro e w1 ⟨rfl, k1⟩)
      | (go_at_call 19; refine (H1.out _).mono ?_; rintro e w3 ⟨rfl, rfl⟩)
      | (go_at_call 22; refine (H3.out _).mono ?_; rintro e w4 ⟨rfl, rfl⟩))
    go_ret
    exact ⟨rfl, k1⟩
  · have hit := quoted_items _ hn
    have hte : tokensE (itemsOf q.data.toList) = ([⟨2, s.data.toList, 0, 0⟩, ⟨1, [], (quoteL s.data.toList).length, 0⟩], 0, 0) := by
      rw [hqd, hit]
      exact tokensE_good (by simp)
    have hT : ∀ w, Calls Tryd.prog 12 #[.string q] w fun e w' => ∃ g cap, e = .returned (.tuple #[.slice (some ⟨g, 0, none⟩) 2 cap, .int .i64 0, .int .i64 0]) ∧ (w'.cell? ⟨g, 0, none⟩ = some (.int .u8 2) ∧ w'.cell? ⟨g, 1, none⟩ = some (.string s) ∧ w'.cell? ⟨g, 2, none⟩ = some (.int .i64 0)) ∧ Hid (Kept [] w w') := fun w => by
      refine (tokens_good q w hqs _ hte (by simp)).mono ?_
      rintro e w5 ⟨g, cap, cur, rfl, _, hrow, _, hcur, k5⟩
      refine ⟨g, cap, rfl, ⟨(cell_of hrow.out 0).trans (hcur.out 0 (by simp)), ?_, (cell_of hrow.out 2).trans (hcur.out 2 (by simp))⟩, k5⟩
      rw [(cell_of hrow.out 1).trans (hcur.out 1 (by simp))]
      show some (Value.string ⟨s.data.toList.toArray⟩) = _
      rw [Lib.mk_data]
    have hself := quote_self _ hn
    obtain ⟨nm, hnm⟩ : ∃ nm, isNameB s.data.toList = nm := ⟨_, rfl⟩
    have h5 := fun w => isName_any s w hs
    rw [hnm] at h5 hself
    have heq : (nm == (q.toList == s.toList)) = true := by
      rw [hself, Lib.toList_data, Lib.toList_data, hqd, beq_iff_eq, Bool.eq_iff_iff]
      simp
    have hss : (s.toList == s.toList) = true := by simp
    rw [hn] at h3
    have s1 : Tryd.prog.eqGuardType Tryd.prog.depth 50 = false := by kernel_rfl
    have s2 : Tryd.prog.stoodInHeld 50 = false := by kernel_rfl
    have H1 : Hid _ := h1
    have H3 : Hid _ := h3
    have HT : Hid _ := hT
    have H5 : Hid _ := h5
    clear h1 h3 hT h5 hqd hq hn hit hte hself hnm
    go_enter Tryd.func6, Tryd.ntmps6
    go_wp2_with (first
      | (go_at_call 9; refine (works_any _).mono ?_; rintro e w1 ⟨rfl, k1⟩)
      | (go_at_call 19; refine (H1.out _).mono ?_; rintro e w3 ⟨rfl, rfl⟩)
      | (go_at_call 22; refine (H3.out _).mono ?_; rintro e w4 ⟨rfl, rfl⟩)
      | (go_at_call 12; refine (HT.out _).mono ?_; rintro e w5 ⟨g, cap, rfl, ⟨r0, r1, r2⟩, k5⟩)
      | (go_at_call 18; refine (H5.out _).mono ?_; rintro e w6 ⟨rfl, rfl⟩))
    go_ret
    exact ⟨rfl, k1.trans k5.out (by simp) (by simp)⟩
end Go.Proofs.YtilgfnafkcjdgaaDoor
