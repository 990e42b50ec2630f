/- words.Same. -/
import Derived.Test.YtddgciilcghbaaaDoorWdPre
namespace Go.Proofs.YtddgciilcghbaaaDoor
open Go.RowKit
attribute [local go_sem ↓] Go.wp_at_zero Go.wp_at_succ

/-- Are they the same infinite word? -/
def sameB (a b : Wd) : Bool := decide (0 < a.loop.length) && decide (0 < b.loop.length) && (List.range (max a.stem.length b.stem.length + a.loop.length + b.loop.length)).all fun i => a.at i == b.at i
theorem sameB_iff {a b : Wd} (ha : 0 < a.loop.length) (hb : 0 < b.loop.length) : sameB a b = true ↔ ∀ i, a.at i = b.at i := by
  unfold sameB
  rw [decide_eq_true ha, decide_eq_true hb, Bool.true_and, Bool.true_and, List.all_eq_true]
  constructor
  · intro h
    exact Wd.agree ha hb (fun i hi => by simpa using h i (by simpa using hi))
  · intro h i _
    simpa using h i
theorem same_norm {a b ra rb : Wd} (ha : 0 < a.loop.length) (hb : 0 < b.loop.length) (h1 : NormOf a ra) (h2 : NormOf b rb) : sameB a b = true ↔ ra = rb := by
  obtain ⟨n1, e1⟩ := h1.2 (fun e => by rw [e] at ha; simp at ha)
  obtain ⟨n2, e2⟩ := h2.2 (fun e => by rw [e] at hb; simp at hb)
  rw [sameB_iff ha hb]
  constructor
  · intro h
    exact n1.unique n2 (fun i => by rw [e1, e2, h])
  · rintro rfl i
    rw [← e1, ← e2]

/-- A word that was made, and where. -/
def MadeAt (W : World) (q : Wd) (e : Ending) (W3 : World) : Prop := ∃ a3 n3 c3 a4 n4 c4 r, e = .returned (.agg #[.slice a3 n3 c3, .slice a4 n4 c4]) ∧ Kept [] W W3 ∧ NewW W.heap.size W3 (.slice a3 n3 c3) (.slice a4 n4 c4) r ∧ NormOf q r
theorem normal_at (sv lv : Value) (q : Wd) (w : World) (h : IsW w sv lv q) : Calls Tryd.prog 14 #[.agg #[sv, lv]] w (MadeAt w q) := by
  refine (normal_any sv lv q w h.st h.lp h.few).mono ?_
  rintro e W3 ⟨s3, l3, r, rfl, hn, ho, k3⟩
  obtain ⟨a3, c3, e3⟩ := own_form hn.own1
  obtain ⟨a4, c4, e4⟩ := own_form hn.own2
  subst e3 e4
  exact ⟨a3, _, c3, a4, _, c4, r, rfl, k3, hn, ho⟩
/-- The two words are stored over the two that came. -/
theorem same_mem {w w2 wb : World} {x1 x2 y1 y2 p q r s : Value} {ra rb : Wd} (hk : Kept [] w w2) (h1 : Wd2 w2 w.heap.size x1 x2) (h2 : Wd2 w2 (w.heap.size + 1) y1 y2) (kb : Kept [] w2 wb) (ha : NewW w2.heap.size wb p q ra) (hb : NewW w2.heap.size wb r s rb) :
    ∃ E, (((wb.setCell ⟨w.heap.size, 0, none⟩ p).setCell ⟨w.heap.size, 1, none⟩ q).setCell ⟨w.heap.size + 1, 0, none⟩ r).setCell ⟨w.heap.size + 1, 1, none⟩ s = E ∧ Wd2 E w.heap.size p q ∧ Wd2 E (w.heap.size + 1) r s ∧ NewW w2.heap.size E p q ra ∧ NewW w2.heap.size E r s rb ∧ Kept [] w E := by
  refine ⟨_, rfl, ?_, ?_, ?_, ?_, ?_⟩
  · have := (h1.kept kb).set p q
    exact this.keptF (F := [w.heap.size + 1]) (((Kept.refl _ _).setCell (.inl (by simp)) _).setCell (.inl (by simp)) _) (by simp)
  · have := (h2.kept kb).keptF (F := [w.heap.size]) (W' := (wb.setCell ⟨w.heap.size, 0, none⟩ p).setCell ⟨w.heap.size, 1, none⟩ q) (((Kept.refl _ _).setCell (.inl (by simp)) _).setCell (.inl (by simp)) _) (by simp)
    exact this.set r s
  · have l2 := lt_of h2
    exact ha.keptF (F := [w.heap.size, w.heap.size + 1]) (((((Kept.refl _ _).setCell (.inl (by simp)) _).setCell (.inl (by simp)) _).setCell (.inl (by simp)) _).setCell (.inl (by simp)) _) (by intro x hx; simp at hx; omega)
  · have l2 := lt_of h2
    exact hb.keptF (F := [w.heap.size, w.heap.size + 1]) (((((Kept.refl _ _).setCell (.inl (by simp)) _).setCell (.inl (by simp)) _).setCell (.inl (by simp)) _).setCell (.inl (by simp)) _) (by intro x hx; simp at hx; omega)
  · exact kept_set2 (kept_set2 (hk.trans kb (by simp) (by simp)) (Nat.le_refl _) _ _) (by simp) _ _
theorem quiet_kept {w W W' : World} (k : Kept [] w W) (q : Quiet W W') : Kept [] w W' := k.trans q.kept (by simp) (by simp)
end Go.Proofs.YtddgciilcghbaaaDoor
