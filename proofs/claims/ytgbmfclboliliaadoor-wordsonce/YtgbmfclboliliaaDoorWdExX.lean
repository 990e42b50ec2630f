/- The chapter's examples, call by call. -/
import Derived.Test.YtgbmfclboliliaaDoorWdAllFX
namespace Go.Proofs.YtgbmfclboliliaaDoor
open Go.RowKit Go.Shelf Go.Lib

theorem norm_is {q r c : Wd} (h : NormOf q r) (hq : 0 < q.loop.length) (hc0 : 0 < c.loop.length) (hc : normB c = true) (hs : sameB c q = true) : r = c := by
  obtain ⟨h1, h2⟩ := h.2 (fun e => by rw [e] at hq; simp at hq)
  refine h1.unique ((normB_iff hc0).1 hc) (fun i => ?_)
  rw [h2, ← (sameB_iff hc0 hq).1 hs]
/-- Letters that a text lays. -/
theorem lets_lit {W : World} {b : Nat} {xs : List Nat} (h : W.heap[b]? = some (.cells (u16s xs).toArray 54 (0, 0))) (hs : ∀ x ∈ xs, x < 65536) (hl : xs.length ≤ 100) : Lets W (.slice (some ⟨b, 0, none⟩) xs.length xs.length) xs := by
  refine ⟨hs, by omega, .inr ⟨b, 0, xs.length, rfl, Nat.le_refl _, by unfold maxLen; omega, fun i hi => ?_⟩⟩
  rw [Nat.zero_add, cell_of h i]
  simp [u16s, hi]
/-- A word that comes back, known. -/
def Gives (W : World) (c : Wd) (e : Ending) (w' : World) : Prop := ∃ a1 c1 a2 c2, e = .returned (.agg #[.slice a1 c.stem.length c1, .slice a2 c.loop.length c2]) ∧ IsW w' (.slice a1 c.stem.length c1) (.slice a2 c.loop.length c2) c ∧ Kept [] W w'
theorem gives_of {W : World} {q c : Wd} {f : Nat} {args : Array Value} (h : Calls Tryd.prog f args W (MadeNorm W q)) (hq : 0 < q.loop.length) (hc0 : 0 < c.loop.length) (hc : normB c = true) (hs : sameB c q = true) (hl : c.stem.length + c.loop.length ≤ 100) : Calls Tryd.prog f args W (Gives W c) := by
  refine h.mono ?_
  rintro e w' ⟨sv, lv, r, rfl, hn, ho, hk⟩
  obtain rfl := norm_is ho hq hc0 hc hs
  obtain ⟨a1, c1, e1⟩ := own_form hn.own1
  obtain ⟨a2, c2, e2⟩ := own_form hn.own2
  subst e1 e2
  exact ⟨a1, c1, a2, c2, rfl, ⟨hn.lets1, hn.lets2, by omega⟩, hk⟩
theorem showB_1 : showB ⟨[1], [2, 3]⟩ = [49, 32, 40, 50, 32, 51, 41] := by simp [showB, stemB, loopB, sepB, decDigits_one, List.range_succ]
theorem showB_2 : showB ⟨[], [4, 3]⟩ = [40, 52, 32, 51, 41] := by simp [showB, stemB, loopB, sepB, decDigits_one, List.range_succ]
theorem readF_1 : readF [32, 49, 32, 50, 40, 51, 32, 32, 52, 32, 41, 32] = (some ⟨[1, 2], [3, 4]⟩, 0) := by kernel_rfl
theorem readF_2 : readF [40, 48, 49, 41] = (none, 2) := by kernel_rfl
end Go.Proofs.YtgbmfclboliliaaDoor
