/- words.All: a row that grows. -/
import Derived.Test.YtamfnefnaelgfaaDoorWdGrowEX
namespace Go.Proofs.YtamfnefnaelgfaaDoor
open Go.RowKit Go.Shelf
variable {l Br Bp Bs By Bb Bg base stem places below N : Nat} {T : Nat → Prop} {L : List Wd} {J Jx : (Nat → Prop) → List Nw → World → Prop}

/-- The boxes, apart. -/
structure Apart (Br Bp Bs By Bb Bg base : Nat) : Prop where
  rp : Bp ≠ Br
  rs : Bs ≠ Br
  ry : By ≠ Br
  rb : Bb ≠ Br
  rg : Bg ≠ Br
  low : base ≤ Br
/-- The row is one longer: an append, and its store. -/
theorem row_grown {X : Nat → Prop} {row : List Nat} {c : Nat} {wr : World} {v : Value} (hA : GrowAt l Br Bp Bs By Bb Bg base stem places below X row wr) (hv : Boxed wr Br 45 v) (hown : wr.ownsRow base 51 1 v row.length (u16s row)) (hpx : ∀ g, v.ownBlock = some g → X g ∧ g ≠ Bb)
    (hXL : ∀ k, X k → k < wr.heap.size) (hT : ∀ k, T k → k < base) (hB : Apart Br Bp Bs By Bb Bg base) (hc : c < 65536) (hl : row.length ≤ 1000) (hbase : base ≤ wr.heap.size) :
    ∃ v' w1, (∀ ty, (Builtin.append_ #[45, 45] ty #[v, .slice (some ⟨wr.heap.size, 0, none⟩) 1 1]).run Tryd.prog (wr.alloc (.cells #[.int .u16 (c : Nat)] 51)) = .ok v' w1) ∧ w1.cell? ⟨Br, 0, none⟩ = some v ∧ w1.frozen? ⟨Br, 0, none⟩ = false ∧ (∃ ad cap, v' = .slice ad (row.length + 1) cap) ∧ w1.heap[Bg]? = wr.heap[Bg]? ∧
      ∃ X' : Nat → Prop, (∀ k, X k → X' k) ∧ GrowAt l Br Bp Bs By Bb Bg base stem places below X' (row ++ [c]) (w1.setCell ⟨Br, 0, none⟩ v') ∧ KpX T wr (w1.setCell ⟨Br, 0, none⟩ v') ∧ (∀ k, X' k → k < (w1.setCell ⟨Br, 0, none⟩ v').heap.size) ∧ ∀ (J : (Nat → Prop) → List Nw → World → Prop) (pre : List Nw), Abide J → J X pre wr → J X' pre (w1.setCell ⟨Br, 0, none⟩ v') := by
  have kV : Kept [] wr (wr.alloc (.cells #[.int .u16 (c : Nat)] 51)) := (Kept.refl [] wr).alloc _
  have hownV : (wr.alloc (.cells #[.int .u16 (c : Nat)] 51)).ownsRow base 51 1 v row.length (u16s row) := owns_keptF hown kV (by simp)
  have hu : Lets (wr.alloc (.cells #[.int .u16 (c : Nat)] 51)) (.slice (some ⟨wr.heap.size, 0, none⟩) 1 1) [c] := by
    refine ⟨by simpa using hc, by simp, .inr ⟨wr.heap.size, 0, 1, rfl, by simp, by unfold maxLen; omega, fun i hi => ?_⟩⟩
    obtain rfl : i = 0 := by simpa using hi
    exact (cell_of (heap_alloc_new wr _) 0).trans rfl
  obtain ⟨v', w1, hr, hown', hgrow, _, hat⟩ := run_append_lets _ base v _ row [c] hownV hu (by simp; omega) (by rw [World.size_alloc]; omega)
  have hbx : ∀ {B : Nat} {t : TypeId} {u : Value}, Boxed wr B t u → t ≠ 51 → Boxed w1 B t u := fun {B t u} h ht => (h.alloc _).kept hgrow (h.not_row ht hown)
  have hbb : Boxed w1 Bb 51 (.int .u16 (below : Nat)) := by
    refine (hgrow.block _ (lt_of (kV.at hA.bb (by simp))) (fun e => (hpx _ e.symm).2 rfl)).trans (kV.at hA.bb (by simp))
  have hv1 := hbx hv (by decide)
  have hz := hgrow.size
  have hlow : ∀ g, v.ownBlock = some g → base ≤ g ∧ g < wr.heap.size := fun g e => own_lt hown e
  have hs4 : ∀ u, (w1.setCell ⟨Br, 0, none⟩ u).heap.size = w1.heap.size := fun u => by simp [World.setCell]
  have zV : (wr.alloc (.cells #[.int .u16 (c : Nat)] 51)).heap.size = wr.heap.size + 1 := by simp
  refine ⟨v', w1, hr, hv1.cell, hv1.frozen, ?_, ?_, fun k => X k ∨ (wr.heap.size ≤ k ∧ k < w1.heap.size), fun k h => .inl h, ?_, ?_, ?_, ?_⟩
  · obtain ⟨ad, cap, e⟩ := own_form hown'
    exact ⟨ad, cap, by rw [e, List.length_append]; rfl⟩
  · exact (hbx hA.self (by decide)).trans hA.self.symm
  · refine ⟨box_other (hbx hA.bp (by decide)) hB.rp, box_other (hbx hA.bs (by decide)) hB.rs, box_other hbb hB.rb, box_other (hbx hA.yld (by decide)) hB.ry, box_other (hbx hA.self (by decide)) hB.rg, ⟨_, hv1.set _, own_set hown' hv1 (by decide) _, ?_⟩, .inl hA.xp, .inl hA.xs, .inl hA.xb, .inl hA.xy, .inl hA.xg, .inl hA.xr⟩
    intro g e
    have := (own_lt hown' e).2
    have lbb := hA.bb.lt
    rcases hat with h | h
    · have q := hpx _ (by rw [← h]; exact e)
      exact ⟨.inl q.1, q.2⟩
    · rw [h, zV] at e
      cases e
      exact ⟨.inr ⟨by omega, this⟩, by omega⟩
  · refine (KpX.of_kept kV).trans ((KpX.grown hgrow (fun r e hr => ?_)).trans (KpX.setCell (fun hr => ?_) _))
    · have := hT r hr; have := (hlow r e).1; omega
    · have := hT Br hr; have := hB.low; omega
  · intro k h
    rw [hs4]
    rcases h with h | h
    · have := hXL k h; omega
    · exact h.2
  · intro J pre hJ hj
    have j1 : J (fun k => X k ∨ (wr.heap.size ≤ k ∧ k < w1.heap.size)) pre wr := hJ.more hj (fun k h => h.imp id (fun h => h.1))
    exact hJ.turn (hJ.turn (hJ.kept j1 kV) hgrow (fun r e => .inl (hpx r e).1)) (grownBy_setCell' w1 Br _) (fun r e => by cases e; exact .inl hA.xr)

/-- The row is one shorter again. -/
theorem row_cut {X : Nat → Prop} {row : List Nat} {c g cap : Nat} {W : World} (hA : GrowAt l Br Bp Bs By Bb Bg base stem places below X (row ++ [c]) W) (hv : Boxed W Br 45 (.slice (some ⟨g, 0, none⟩) (row.length + 1) cap)) (hown : W.ownsRow base 51 1 (.slice (some ⟨g, 0, none⟩) (row.length + 1) cap) (row ++ [c]).length (u16s (row ++ [c]))) (hpx : X g ∧ g ≠ Bb)
    (hT : ∀ k, T k → k < base) (hB : Apart Br Bp Bs By Bb Bg base) :
    GrowAt l Br Bp Bs By Bb Bg base stem places below X row (W.setCell ⟨Br, 0, none⟩ (.slice (some ⟨g, 0, none⟩) row.length cap)) ∧ KpX T W (W.setCell ⟨Br, 0, none⟩ (.slice (some ⟨g, 0, none⟩) row.length cap)) ∧
      (W.setCell ⟨Br, 0, none⟩ (.slice (some ⟨g, 0, none⟩) row.length cap)).heap.size = W.heap.size ∧
      ∀ (J : (Nat → Prop) → List Nw → World → Prop) (pre : List Nw), Abide J → J X pre W → J X pre (W.setCell ⟨Br, 0, none⟩ (.slice (some ⟨g, 0, none⟩) row.length cap)) := by
  have ho : W.ownsRow base 51 1 (.slice (some ⟨g, 0, none⟩) row.length cap) row.length (u16s row) := by
    rcases hown with ⟨e0, ⟨e, _⟩ | ⟨g', cap', cur, e, q1, q2, q3, q4, q5, q6⟩⟩
    · cases e
    · simp only [Value.slice.injEq, Option.some.injEq, Addr.mk.injEq, and_true] at e
      obtain ⟨rfl, _, rfl⟩ := e
      refine ⟨by simp [u16s], .inr ⟨g, cap, cur, rfl, q1, q2, by simp at q3; omega, q4, q5, ?_⟩⟩
      have := congrArg (List.take row.length) q6
      rw [List.take_take] at this
      rw [Nat.mul_one]
      have e2 : List.take row.length (u16s (row ++ [c])) = u16s row := by simp [u16s]
      rw [e2, Nat.min_eq_left (by simp)] at this
      exact this
  have hg' : ∀ g', (Value.slice (some ⟨g, 0, none⟩) row.length cap).ownBlock = some g' → X g' ∧ g' ≠ Bb := fun g' e => by
    obtain rfl : g = g' := by simpa [Value.ownBlock] using e
    exact hpx
  exact ⟨⟨box_other hA.bp hB.rp, box_other hA.bs hB.rs, box_other hA.bb hB.rb, box_other hA.yld hB.ry, box_other hA.self hB.rg, ⟨_, hv.set _, own_set ho hv (by decide) _, hg'⟩, hA.xp, hA.xs, hA.xb, hA.xy, hA.xg, hA.xr⟩,
    KpX.setCell (fun hr => by have := hT Br hr; have := hB.low; omega) _, by simp [World.setCell], fun J pre hJ hj => hJ.turn hj (grownBy_setCell' W Br _) (fun r e => by cases e; exact hA.xr)⟩
end Go.Proofs.YtamfnefnaelgfaaDoor
