/- A struct in memory whose fields are slices with rows of their own: what append into one of them leaves. -/
import Derived.Test.YtbbfajbnklgncaaHD
import Derived.Deep.AppendLies
import Derived.Deep.RegionLaw
namespace Go.Proofs.Ytbbfajbnklgncaa
open Go.RowKit Go.Shelf

theorem bx_base {W : World} {base : Nat} {e : TypeId} {size : Nat} {v : Value} {n g : Nat} {xs : List Value} (h : W.ownsRow base e size v n xs) (hg : v.ownBlock = some g) : base ≤ g ∧ g < W.heap.size := by
  rcases h.2 with ⟨rfl, _⟩ | ⟨g', cap, cur, rfl, hb, hw, _⟩
  · cases hg
  · cases hg; exact ⟨hb, lt_of hw⟩
theorem bx_kept {F : List Nat} {W W' : World} {base : Nat} {e : TypeId} {size : Nat} {v : Value} {n : Nat} {xs : List Value} (h : W.ownsRow base e size v n xs) (k : Kept F W W') (hF : ∀ g, v.ownBlock = some g → g ∉ F) : W'.ownsRow base e size v n xs := by
  refine ⟨h.1, ?_⟩
  rcases h.2 with h2 | ⟨g, cap, cur, rfl, hb, hw, h3⟩
  · exact .inl h2
  · exact .inr ⟨g, cap, cur, rfl, hb, k.at hw (hF g rfl), h3⟩
theorem bx_set {w : World} {g i : Nat} {cs : Array Value} {T : TypeId} {fz : Nat × Nat} (h : w.heap[g]? = some (.cells cs T fz)) (v : Value) : (w.setCell ⟨g, i, none⟩ v).heap[g]? = some (.cells (cs.setIfInBounds i v) T fz) := by
  simp only [World.setCell, Array.getElem?_modify, if_true]
  rw [h]
  simp
theorem bx_append_run {P : Program} {ops : Array Oper} {o : Oper} {a : Act} {w : World} {K : Act → World → Prop} {Q : Exit → Act → World → Prop} {E : Prop}
    (hg : o.guard = none) (s x : Operand) (t : TypeId) (hop : o.op = Op.call { callee := Callee.builtin Builtin.append, args := #[s, x], argTypes := #[t, t] })
    (v u v' : Value) (w' : World) (hs : a.eval s = v) (hx : a.eval x = u) (hrun : (Builtin.append_ #[t, t] o.type #[v, u]).run P w = .ok v' w') (hK : K (a.put o.dst v') w') :
    if Region.wanted o (yielded ops a.tmps) = true then Oper.wp P o a w K Q else E := by
  have hw : Region.wanted o (yielded ops a.tmps) = true := by simp [Region.wanted, hg]
  rw [if_pos hw]
  unfold Oper.wp
  simp [execOp, hop, resolve, invoke, builtin, hs, hx, hrun, Result.andThen]
  exact hK
/-- A row of elements. -/
structure Rw where
  e : TypeId
  sz : Nat
  n : Nat
  xs : List Value
/-- The struct at F, its fields, and those among them that are rows of its own, above it. -/
structure FBox (w0 W : World) (F : Nat) (T : TypeId) (vs : List Value) (rs : List (Option Rw)) : Prop where
  base : w0.heap.size ≤ F
  kept : Kept [] w0 W
  box : W.heap[F]? = some (.cells vs.toArray T (0, 0))
  own : ∀ (i : Nat) (r : Rw) (v : Value), rs[i]? = some (some r) → vs[i]? = some v → W.ownsRow (F + 1) r.e r.sz v r.n r.xs
  apart : ∀ (i j : Nat) (r q : Rw) (v u : Value) (g : Nat), i ≠ j → rs[i]? = some (some r) → rs[j]? = some (some q) → vs[i]? = some v → vs[j]? = some u → v.ownBlock = some g → u.ownBlock ≠ some g
theorem FBox.go {w0 W W' : World} {F : Nat} {T : TypeId} {vs : List Value} {rs : List (Option Rw)} (h : FBox w0 W F T vs rs) (k : Kept [] W W') : FBox w0 W' F T vs rs :=
  ⟨h.base, keptB h.kept k, k.at h.box (by simp), fun i r v h1 h2 => bx_kept (h.own i r v h1 h2) k (by simp), h.apart⟩
theorem FBox.cell {w0 W : World} {F : Nat} {T : TypeId} {vs : List Value} {rs : List (Option Rw)} (h : FBox w0 W F T vs rs) {i : Nat} {v : Value} (hv : vs[i]? = some v) : W.cell? ⟨F, i, none⟩ = some v ∧ W.frozen? ⟨F, i, none⟩ = false :=
  ⟨by rw [cell_of h.box]; simpa using hv, free_of h.box i⟩
theorem FBox.app {w0 W : World} {F : Nat} {T : TypeId} {vs : List Value} {rs : List (Option Rw)} (h : FBox w0 W F T vs rs) {i : Nat} {r : Rw} {v : Value} (hr : rs[i]? = some (some r)) (hv : vs[i]? = some v)
    (t : TypeId) (inf : TypeInfo) (z : Value) (bytes : Nat) (h1 : Try.prog.underlying t = some (.slice r.e)) (h2 : Try.prog.info? r.e = some inf) (h3 : inf.zero = some z) (h4 : inf.size = r.sz) (h5 : inf.bytes = bytes) (h6 : z.cells.size = r.sz) (h7 : 0 < r.sz)
    (ad : Addr) (m c : Nat) (news : List Value) (hn : news.length = m * r.sz) (hc : ∀ j u, news[j]? = some u → W.cell? (ad.add j) = some u) (h1c : ∀ u ∈ news, u.oneCell' = true) (hm : 0 < m) (b1 : r.n + m ≤ maxLen) (b2 : (r.n + m) * bytes ≤ 140737488355328) :
    ∃ gr cap w2, (∀ ty, (Builtin.append_ #[t, t] ty #[v, .slice (some ad) m c]).run Try.prog W = .ok (.slice (some ⟨gr, 0, none⟩) (r.n + m) cap) w2) ∧ w2.heap[F]? = some (.cells vs.toArray T (0, 0)) ∧ FBox w0 (w2.setCell ⟨F, i, none⟩ (.slice (some ⟨gr, 0, none⟩) (r.n + m) cap)) F T (vs.set i (.slice (some ⟨gr, 0, none⟩) (r.n + m) cap)) (rs.set i (some ⟨r.e, r.sz, r.n + m, r.xs ++ news⟩)) ∧ (∀ b o, W.heap[b]? = some o → b ≠ F → v.ownBlock ≠ some b → ((w2.setCell ⟨F, i, none⟩ (.slice (some ⟨gr, 0, none⟩) (r.n + m) cap)).heap[b]? = some o)) ∧ (v.ownBlock = some gr ∨ W.heap.size ≤ gr) ∧ W.heap.size ≤ w2.heap.size := by
  have ho := h.own i r v hr hv
  have hlt := lt_of h.box
  obtain ⟨gr, cap, w2, g1, g2, g3, g4, g5⟩ := run_append_lies (P := Try.prog) W t 0 (F + 1) r.e inf z r.sz bytes h1 h2 h3 h4 h5 h6 h7 v r.n r.xs ho ad m c news hn hc h1c hm b1 b2 (by omega) _ rfl
  have hb2 : w2.heap[F]? = some (.cells vs.toArray T (0, 0)) := (g3.block _ hlt (fun e => by have := (bx_base ho e.symm).1; omega)).trans h.box
  have hset : ∀ u, Kept [F] w2 (w2.setCell ⟨F, i, none⟩ u) := fun u => (Kept.refl [F] w2).setCell (.inl (by simp)) u
  refine ⟨gr, cap, w2, fun ty => g1, hb2, ⟨h.base, ?_, ?_, ?_, ?_⟩, fun b o hb hF hv' => (hset _).at ((g3.block _ (lt_of hb) (fun e => hv' e.symm)).trans hb) (by simpa using hF), g4.imp id (fun e => Nat.le_of_eq e.symm), g3.size⟩
  · exact (h.kept.grown g3 (fun k e => .inr (by have := (bx_base ho e).1; have := h.base; omega))).setCell (.inr h.base) _
  · rw [bx_set hb2]; simp
  · intro j q u hq hu
    by_cases hij : i = j
    · subst hij
      rw [List.getElem?_set_self (by have := List.getElem?_eq_some_iff.1 hr; exact this.1)] at hq
      rw [List.getElem?_set_self (by have := List.getElem?_eq_some_iff.1 hv; exact this.1)] at hu
      cases hq; cases hu
      exact bx_kept g2 (hset _) (fun g e hg => by have := (bx_base g2 e).1; simp at hg; omega)
    · rw [List.getElem?_set_ne hij] at hq hu
      have hoj := h.own j q u hq hu
      refine bx_kept (hoj.kept g3 ?_) (hset _) (fun g e hg => by have := (bx_base hoj e).1; simp at hg; omega)
      cases hub : u.ownBlock with
      | none => exact .inl rfl
      | some g => exact .inr (fun e => h.apart i j r q v u g hij hr hq hv hu e.symm hub)
  · have hnew : ∀ (j : Nat) (q : Rw) (u : Value) (g : Nat), i ≠ j → rs[j]? = some (some q) → vs[j]? = some u → u.ownBlock = some g → g ≠ gr := by
      intro j q u g hij hq hu hg e
      subst e
      rcases g4 with g4 | g4
      · exact h.apart i j r q v u g hij hr hq hv hu g4 hg
      · have := (bx_base (h.own j q u hq hu) hg).2; omega
    intro a b p q x y g hab hp hq hx hy hg hg'
    by_cases ha : i = a
    · subst ha
      rw [List.getElem?_set_self (by have := List.getElem?_eq_some_iff.1 hv; exact this.1)] at hx
      cases hx
      cases hg
      rw [List.getElem?_set_ne hab] at hq hy
      exact hnew b q y _ hab hq hy hg' rfl
    · rw [List.getElem?_set_ne ha] at hp hx
      by_cases hb : i = b
      · subst hb
        rw [List.getElem?_set_self (by have := List.getElem?_eq_some_iff.1 hv; exact this.1)] at hy
        cases hy
        cases hg'
        exact hnew a p x _ ha hp hx hg rfl
      · rw [List.getElem?_set_ne hb] at hq hy
        exact h.apart a b p q x y g hab hp hq hx hy hg hg'
/-- A field that is a row: where it lies, and what it holds. -/
theorem FBox.row {w0 W : World} {F : Nat} {T : TypeId} {vs : List Value} {rs : List (Option Rw)} (h : FBox w0 W F T vs rs) {i : Nat} {r : Rw} {v : Value} (hr : rs[i]? = some (some r)) (hv : vs[i]? = some v) (h0 : 0 < r.n) : ∃ g c, v = .slice (some ⟨g, 0, none⟩) r.n c ∧ r.n ≤ c ∧ c ≤ maxLen ∧ g ≠ F ∧ w0.heap.size ≤ g ∧ ∀ j x, r.xs[j]? = some x → W.cell? ⟨g, j, none⟩ = some x ∧ W.frozen? ⟨g, j, none⟩ = false := by
  have ho := h.own i r v hr hv
  rcases ho.2 with ⟨_, hz⟩ | ⟨g, cap, cur, hve, hb, hw, h3, h4, h5, h6⟩
  · omega
  · refine ⟨g, cap, hve, h3, h4, by omega, by have := h.base; omega, fun j x hx => ⟨?_, free_of hw j⟩⟩
    rw [cell_of hw]
    rw [← h6] at hx
    rw [List.getElem?_take] at hx
    split at hx
    · rw [← Array.getElem?_toList]; exact hx
    · cases hx
/-- A store into a row. -/
theorem FBox.put {w0 W : World} {F : Nat} {T : TypeId} {vs : List Value} {rs : List (Option Rw)} (h : FBox w0 W F T vs rs) {i : Nat} {r : Rw} {g n c : Nat} (hr : rs[i]? = some (some r)) (hv : vs[i]? = some (.slice (some ⟨g, 0, none⟩) n c)) (j : Nat) (x : Value) : FBox w0 (W.setCell ⟨g, j, none⟩ x) F T vs (rs.set i (some ⟨r.e, r.sz, r.n, r.xs.set j x⟩)) := by
  have ho := h.own i r _ hr hv
  have hgb := (bx_base ho (g := g) rfl).1
  have hset : Kept [g] W (W.setCell ⟨g, j, none⟩ x) := (Kept.refl [g] W).setCell (.inl (by simp)) x
  refine ⟨h.base, h.kept.setCell (.inr (by show w0.heap.size ≤ g; have := h.base; omega)) x, hset.at h.box (by simp; omega), ?_, ?_⟩
  · intro k q u hq hu
    by_cases hik : i = k
    · subst hik
      rw [List.getElem?_set_self (by have := List.getElem?_eq_some_iff.1 hr; exact this.1)] at hq
      cases hq
      rw [hv] at hu
      cases hu
      refine ⟨by rw [List.length_set]; exact ho.1, ?_⟩
      rcases ho.2 with ⟨hz, _⟩ | ⟨g', cap, cur, hve, hb, hw, h3, h4, h5, h6⟩
      · cases hz
      · cases hve
        exact .inr ⟨g, _, cur.setIfInBounds j x, rfl, hb, bx_set hw x, h3, h4, by simpa using h5, by rw [Array.toList_setIfInBounds, List.take_set, h6]⟩
    · rw [List.getElem?_set_ne hik] at hq
      have hok := h.own k q u hq hu
      exact bx_kept hok hset (fun g' e hg => by simp at hg; subst hg; exact h.apart i k r q _ u g' hik hr hq hv hu rfl e)
  · intro a b p q y z g' hab hp hq hy hz hg hg'
    have hs : ∀ (k : Nat) (q : Rw), (rs.set i (some ⟨r.e, r.sz, r.n, r.xs.set j x⟩))[k]? = some (some q) → ∃ q', rs[k]? = some (some q') := by
      intro k q hq
      by_cases hik : i = k
      · subst hik; exact ⟨r, hr⟩
      · rw [List.getElem?_set_ne hik] at hq; exact ⟨q, hq⟩
    obtain ⟨p', hp'⟩ := hs a p hp
    obtain ⟨q', hq'⟩ := hs b q hq
    exact h.apart a b p' q' y z g' hab hp' hq' hy hz hg hg'
end Go.Proofs.Ytbbfajbnklgncaa
