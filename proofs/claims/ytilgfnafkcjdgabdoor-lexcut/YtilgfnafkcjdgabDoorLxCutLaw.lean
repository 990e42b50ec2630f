/- LexCut: the walk. -/
import Derived.Test.YtilgfnafkcjdgabDoorLxBegins
import Derived.Test.YtilgfnafkcjdgabDoorLxSame
namespace Go.Proofs.YtilgfnafkcjdgabDoor
open Go.RowKit

theorem toks_plain (s : ByteArray) (w : World) (hs : s.size ≤ 1099511627776) (te : List Item × Nat × Nat) (h : tokensE (itemsOf s.data.toList) = te) :
    Calls Tryd.prog 5 #[.string s] w fun e w' => ∃ v, e = .returned (.tuple #[v, .int .i64 (te.2.1 : Nat), .int .i64 (te.2.2 : Nat)]) ∧ Hid (Kept [] w w') := by
  refine (tokens_walk s w hs).mono ?_
  rintro e w' ⟨v, rfl, _, hb⟩
  rw [h]
  exact ⟨v, rfl, hb.os, hb.tape, hb.output, hb.size, fun k hk _ => hb.block k hk⟩
theorem toks_row (s : ByteArray) (w : World) (hs : s.size ≤ 1099511627776) (xs : List Item) (x : Item) (h : tokensE (itemsOf s.data.toList) = (xs ++ [x], 0, 0)) :
    Calls Tryd.prog 5 #[.string s] w fun e w' => ∃ g cap, e = .returned (.tuple #[.slice (some ⟨g, 0, none⟩) (xs.length + 1) cap, .int .i64 0, .int .i64 0]) ∧ xs.length + 1 ≤ cap ∧ Hid (TokSl w' (.slice (some ⟨g, 0, none⟩) (xs.length + 1) cap) (xs ++ [x])) ∧ Hid (Kept [] w w') := by
  refine (tokens_walk s w hs).mono ?_
  rintro e w' ⟨v, rfl, hown, hb⟩
  rw [h] at hown ⊢
  have hsl := TokSl.of_own hown
  obtain ⟨g, cap, cur, rfl, _, _, hcap, _⟩ := own_some hown (by simp)
  have hl : (xs ++ [x]).length = xs.length + 1 := by simp
  rw [hl] at hsl hcap
  exact ⟨g, cap, by rw [hl]; rfl, hcap, hsl, hb.os, hb.tape, hb.output, hb.size, fun k hk _ => hb.block k hk⟩
theorem TokSl.front {W : World} {g cap n : Nat} {xs : List Item} {x : Item} (hn : xs.length = n) (h : TokSl W (.slice (some ⟨g, 0, none⟩) (n + 1) cap) (xs ++ [x])) (c : Nat) : TokSl W (.slice (some ⟨g, 0, none⟩) n c) xs := by
  obtain ⟨ad, cap', e, h⟩ := h
  simp only [Value.slice.injEq] at e
  obtain ⟨rfl, _, rfl⟩ := e
  refine ⟨_, c, by rw [hn], fun i y hy => h i y ?_⟩
  rw [List.getElem?_append_left (List.getElem?_eq_some_iff.1 hy).1]
  exact hy
theorem TokSl.last {W : World} {g cap n : Nat} {xs : List Item} {x : Item} (hn : xs.length = n) (h : TokSl W (.slice (some ⟨g, 0, none⟩) (n + 1) cap) (xs ++ [x])) : W.cell? ⟨g, n * 3, none⟩ = some (.int .u8 (x.kind.val : Nat)) ∧ W.cell? ⟨g, n * 3 + 1, none⟩ = some (.string ⟨x.text.toArray⟩) ∧ W.cell? ⟨g, n * 3 + 2, none⟩ = some (.int .i64 (x.pos : Nat)) := by
  obtain ⟨ad, cap', e, h⟩ := h
  simp only [Value.slice.injEq] at e
  obtain ⟨rfl, _, rfl⟩ := e
  obtain ⟨g', e, _, c0, c1, c2⟩ := h n x (by rw [← hn]; simp)
  cases e
  exact ⟨c0, c1, c2⟩

set_option maxHeartbeats 1000000 in
set_option maxRecDepth 20000 in
theorem lexCut_any (s : ByteArray) (w : World) (hs : s.size ≤ 9223372036854775807) :
    Calls Tryd.prog 3 #[.string s] w fun e w' => e = .returned (.bool true) ∧ Kept [] w w' := by
  by_cases hb : 16777216 < s.size
  · have hbi : (16777216 : Int) < (s.size : Int) := by omega
    go_enter Tryd.func3, Tryd.ntmps3
    go_wp2_with (go_at_call 4; refine (works_any _).mono ?_; rintro e w' ⟨rfl, hk⟩)
    go_ret
    exact ⟨rfl, hk⟩
  have hbi : ¬ (16777216 : Int) < (s.size : Int) := by omega
  cases hf : (itemsOf s.data.toList).find? (fun x => x.err != 0) with
  | none =>
    have hT := fun w => toks_plain s w (by omega) (itemsOf s.data.toList, 0, 0) (tokensE_good (fun x hx => by simpa using List.find?_eq_none.1 hf x hx))
    have HT : Hid _ := hT
    clear hT hf
    go_enter Tryd.func3, Tryd.ntmps3
    go_wp2_with (first
      | (go_at_call 4; refine (works_any _).mono ?_; rintro e w1 ⟨rfl, k1⟩)
      | (go_at_call 5; refine (HT.out _).mono ?_; rintro e w2 ⟨v, rfl, k2⟩))
    go_ret
    exact ⟨rfl, k1.trans k2.out (by simp) (by simp)⟩
  | some x =>
    have hx : x.err ≠ 0 := by simpa using List.find?_some hf
    obtain ⟨hp, hit⟩ := cut_items _ x hf
    rw [← Lib.size_eq] at hp
    have hT := fun w => toks_plain s w (by omega) ([], x.err, x.pos) (by unfold tokensE; rw [hf])
    obtain ⟨t, ht⟩ : ∃ t, s.extract 0 x.pos = t := ⟨_, rfl⟩
    have htd : t.data.toList = s.data.toList.take x.pos := by rw [← ht, Lib.extract_data]; simp
    have hts : t.size ≤ s.size := by rw [Lib.size_eq, htd, Lib.size_eq, List.length_take]; omega
    have hgood : ∀ y ∈ toksOf s.data.toList ++ [⟨1, [], x.pos, 0⟩], y.err = 0 := fun y hy => by
      rcases List.mem_append.1 hy with h | h
      · have : goodI y = true := List.all_eq_true.1 List.all_takeWhile y h
        simpa [goodI] using this
      · rw [List.mem_singleton.1 h]
    have hT2 := fun w => toks_row t w (by omega) (toksOf s.data.toList) ⟨1, [], x.pos, 0⟩ (by rw [htd, hit]; exact tokensE_good hgood)
    have hN : (itemsOf s.data.toList).length ≤ s.size + 1 := by rw [Lib.size_eq]; exact items_le _ _ _
    have hB := fun w => begins_any s (s.size + 1) w (by omega) hN
    obtain ⟨F, hF⟩ : ∃ F, toksOf s.data.toList = F := ⟨_, rfl⟩
    have hFl : F.length ≤ s.size + 1 := by
      rw [← hF]
      exact Nat.le_trans (List.takeWhile_prefix (p := goodI) (l := itemsOf s.data.toList)).length_le hN
    rw [hF] at hT2 hB
    have hB' : ∀ w, Calls Tryd.prog 6 #[.string s, .int .i64 ((s.size : Int) + 1)] w fun e w' => ∃ ad cap, e = .returned (.slice ad F.length cap) ∧ Hid (TokSl w' (.slice ad F.length cap) F) ∧ Hid (Kept [] w w') := fun w => by
      refine (hB w).mono ?_
      rintro e w' ⟨v, rfl, hown, hb⟩
      have hsl := TokSl.of_own hown
      obtain ⟨ad, cap, rfl⟩ := own_form hown
      exact ⟨ad, cap, rfl, hsl, hb.os, hb.tape, hb.output, hb.size, fun k hk _ => hb.block k hk⟩
    obtain ⟨n, hn⟩ : ∃ n, F.length = n := ⟨_, rfl⟩
    rw [hn] at hT2 hB' hFl
    have hxi : ¬ ((x.err : Nat) : Int) = 0 := by omega
    have hpi : ((x.pos : Nat) : Int) ≤ (s.size : Int) := by omega
    have s1 : Tryd.prog.eqGuardType Tryd.prog.depth 31 = false := by kernel_rfl
    have s2 : Tryd.prog.stoodInHeld 31 = false := by kernel_rfl
    have HT : Hid _ := hT
    have HT2 : Hid _ := hT2
    have HB : Hid _ := hB'
    clear hT hT2 hB hB' hf hit htd hgood hF
    go_enter Tryd.func3, Tryd.ntmps3
    go_wp2_with (first
      | (go_at_call 4; refine (works_any _).mono ?_; rintro e w1 ⟨rfl, k1⟩; have K1 : Hid _ := k1; clear k1)
      | (go_at_call 5; refine (HT.out _).mono ?_; clear HT; rintro e w2 ⟨v, rfl, k2⟩)
      | (go_at_call 6; refine (HB.out _).mono ?_; rintro e w3 ⟨ad7, cap7, rfl, sl7, k3⟩)
      | (go_at_call 5; refine (HT2.out _).mono ?_; rintro e w4 ⟨g, cap8, rfl, hcap8, sl8, k4⟩)
      | (go_at_call 7; refine (same_any _ _ F _ (TokSl.front hn sl8.out _) (sl7.out.kept k4.out) (by omega)).mono ?_; rintro e w5 ⟨rfl, k5⟩; obtain ⟨c0, c1, c2⟩ := TokSl.last hn (sl8.out.kept k5); have K5 : Hid _ := k5; clear k5))
    go_ret
    exact ⟨rfl, (((K1.out.trans k2.out (H := []) (by simp) (by simp)).trans k3.out (H := []) (by simp) (by simp)).trans k4.out (H := []) (by simp) (by simp)).trans K5.out (by simp) (by simp)⟩
end Go.Proofs.YtilgfnafkcjdgabDoor
