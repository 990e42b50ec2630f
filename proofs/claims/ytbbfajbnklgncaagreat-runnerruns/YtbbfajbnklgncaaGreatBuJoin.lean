/- package buchi: field.put of a known spot, field.join. -/
import Derived.Test.YtbbfajbnklgncaaGreatBuPut
namespace Go.Proofs.YtbbfajbnklgncaaGreat
open Go.RowKit Go.Shelf

set_option maxRecDepth 10000 in
/-- append of one number to nothing. -/
theorem nil_one (W : World) (x : Int) : ∃ gr cap w2, (∀ ty, (Builtin.append_ #[88, 88] ty #[.slice none 0 0, .slice (some ⟨W.heap.size, 0, none⟩) 1 1]).run Tryz.prog (W.alloc (.cells #[.int .i64 x] 3)).drew = .ok (.slice (some ⟨gr, 0, none⟩) 1 cap) w2) ∧ Kept [] W w2 ∧ W.heap.size ≤ gr ∧ ∃ cur, w2.heap[gr]? = some (.cells cur 3 (0, 0)) ∧ cur[0]? = some (.int .i64 x) ∧ 1 ≤ cap := by
  have hbQ : (W.alloc (.cells #[.int .i64 x] 3)).drew.heap[W.heap.size]? = some (.cells #[.int .i64 x] 3 (0, 0)) := al0 W _
  have kQ : Kept [] W (W.alloc (.cells #[.int .i64 x] 3)).drew := ((Kept.refl [] W).alloc _).drew
  obtain ⟨gr, cap, w2, g1, g2, g3, g4, g5⟩ := run_append_lies (P := Tryz.prog) (W.alloc (.cells #[.int .i64 x] 3)).drew 88 0 (W.alloc (.cells #[.int .i64 x] 3)).drew.heap.size 3 _ (.int .i64 0) 1 8 Tryz.underlying88 rfl rfl rfl rfl rfl (by decide) (.slice none 0 0) 0 [] (World.ownsRow_nil _ _ _ _) ⟨W.heap.size, 0, none⟩ 1 1 [.int .i64 x] rfl (fun j u hu => by
      rw [show (Addr.add ⟨W.heap.size, 0, none⟩ j) = ⟨W.heap.size, j, none⟩ from by simp [Addr.add]; exact fun e => e.symm]
      rw [cell_of hbQ]
      simpa using hu) (by intro u hu; simp at hu; subst hu; rfl) (by decide) (by unfold maxLen; omega) (by omega) (Nat.le_refl _) _ rfl
  refine ⟨gr, cap, w2, fun ty => g1, kQ.grown g3 (fun k e => by cases e), ?_, ?_⟩
  · have := (bx_base g2 (g := gr) rfl).1
    have := kQ.size
    omega
  · rcases g2.2 with ⟨h1, _⟩ | ⟨g', cap', cur, h1, hb, hw, q1, q2, q3, q4⟩
    · cases h1
    · cases h1
      refine ⟨cur, hw, ?_⟩
      have : (cur.toList.take 1)[0]? = some (Value.int .i64 x) := by rw [show cur.toList.take 1 = [Value.int .i64 x] from q4]; rfl
      rw [List.getElem?_take] at this
      exact ⟨by simpa using this, q1⟩
theorem FBox.rowAt {w0 W : World} {F : Nat} {T : TypeId} {vs : List Value} {rs : List (Option Rw)} (h : FBox w0 W F T vs rs) {i : Nat} {r : Rw} {g n c : Nat} (hr : rs[i]? = some (some r)) (hv : vs[i]? = some (.slice (some ⟨g, 0, none⟩) n c)) {j : Nat} {x : Value} (hx : r.xs[j]? = some x) : W.cell? ⟨g, j, none⟩ = some x ∧ W.frozen? ⟨g, j, none⟩ = false := by
  have ho := h.own i r _ hr hv
  rcases ho.2 with ⟨q1, _⟩ | ⟨g', cap, cur, q1, hb, hw, h3, h4, h5, h6⟩
  · cases q1
  · cases q1
    refine ⟨?_, free_of hw j⟩
    rw [cell_of hw]
    rw [← h6, List.getElem?_take] at hx
    split at hx
    · rw [← Array.getElem?_toList]; exact hx
    · cases hx
theorem MBox.store {w0 W : World} {F M : Nat} {es : Array MapEntry} {ck : Nat} {T : TypeId} {vs : List Value} {rs : List (Option Rw)} (h : MBox w0 W F M es ck T vs rs) {i : Nat} {r : Rw} {g n c : Nat} (hr : rs[i]? = some (some r)) (hv : vs[i]? = some (.slice (some ⟨g, 0, none⟩) n c)) (j : Nat) (x : Value) : MBox w0 (W.setCell ⟨g, j, none⟩ x) F M es ck T vs (rs.set i (some ⟨r.e, r.sz, r.n, r.xs.set j x⟩)) := by
  refine ⟨h.f.put hr hv j x, ((Kept.refl [g] W).setCell (.inl (by simp)) x).at h.m (fun e => ?_), h.m0⟩
  simp at e
  subst e
  rcases (h.f.own i _ _ hr hv).2 with ⟨q1, _⟩ | ⟨g', cap', cur, q1, hb', hw, _⟩
  · cases q1
  · cases q1; rw [h.m] at hw; cases hw
end Go.Proofs.YtbbfajbnklgncaaGreat
