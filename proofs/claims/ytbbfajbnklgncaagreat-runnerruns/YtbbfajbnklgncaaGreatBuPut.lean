/- package buchi: field.put. -/
import Derived.Test.YtbbfajbnklgncaaGreatBuNum
import Derived.Deep.RegionWith
namespace Go.Proofs.YtbbfajbnklgncaaGreat
open Go.RowKit Go.Shelf

theorem bx_append_list {P : Program} {ops : Array Oper} {rest : List Oper} {o : Oper} {a : Act} {w : World} {Q : Exit → Act → World → Prop}
    (hg : o.guard = none) (s x : Operand) (t : TypeId) (hop : o.op = Op.call { callee := Callee.builtin Builtin.append, args := #[s, x], argTypes := #[t, t] })
    (v u v' : Value) (w' : World) (hs : a.eval s = v) (hx : a.eval x = u) (hrun : (Builtin.append_ #[t, t] o.type #[v, u]).run P w = .ok v' w') (hK : wpList P ops Q rest (a.put o.dst v') w') : wpList P ops Q (o :: rest) a w :=
  wpList_plain hg fun K hk => by
    unfold Oper.wp
    simp [execOp, hop, resolve, invoke, builtin, hs, hx, hrun, Result.andThen]
    exact hk _ _ hK
/-- A struct with a map in it. -/
structure MBox (w0 W : World) (F M : Nat) (es : Array MapEntry) (ck : Nat) (T : TypeId) (vs : List Value) (rs : List (Option Rw)) : Prop where
  f : FBox w0 W F T vs rs
  m : W.heap[M]? = some (.map es ck)
  m0 : w0.heap.size ≤ M
theorem MBox.go {w0 W W' : World} {F M : Nat} {es : Array MapEntry} {ck : Nat} {T : TypeId} {vs : List Value} {rs : List (Option Rw)} (h : MBox w0 W F M es ck T vs rs) (k : Kept [] W W') : MBox w0 W' F M es ck T vs rs := ⟨h.f.go k, k.at h.m (by simp), h.m0⟩
/-- One more element in a row. -/
theorem MBox.one {w0 W : World} {F M : Nat} {es : Array MapEntry} {ck : Nat} {T : TypeId} {vs : List Value} {rs : List (Option Rw)} (h : MBox w0 W F M es ck T vs rs) (i : Nat) {e : TypeId} {n : Nat} {xs : List Value} {v : Value} (hr : rs[i]? = some (some ⟨e, 1, n, xs⟩)) (hv : vs[i]? = some v) (x : Value) (hx : x.oneCell' = true)
    (t : TypeId) (inf : TypeInfo) (z : Value) (bytes : Nat) (h1 : Tryz.prog.underlying t = some (.slice e)) (h2 : Tryz.prog.info? e = some inf) (h3 : inf.zero = some z) (h4 : inf.size = 1) (h5 : inf.bytes = bytes) (h6 : z.cells.size = 1) (hb : bytes ≤ 64) (hn : n ≤ 1000000) :
    ∃ gr cap w2, (∀ ty, (Builtin.append_ #[t, t] ty #[v, .slice (some ⟨W.heap.size, 0, none⟩) 1 1]).run Tryz.prog (W.alloc (.cells #[x] e)) = .ok (.slice (some ⟨gr, 0, none⟩) (n + 1) cap) w2) ∧ w2.cell? ⟨F, i, none⟩ = some v ∧ w2.frozen? ⟨F, i, none⟩ = false ∧ Hid (MBox w0 (w2.setCell ⟨F, i, none⟩ (.slice (some ⟨gr, 0, none⟩) (n + 1) cap)) F M es ck T (vs.set i (.slice (some ⟨gr, 0, none⟩) (n + 1) cap)) (rs.set i (some ⟨e, 1, n + 1, xs ++ [x]⟩))) ∧ Hid (∀ b o, W.heap[b]? = some o → b ≠ F → v.ownBlock ≠ some b → (w2.setCell ⟨F, i, none⟩ (.slice (some ⟨gr, 0, none⟩) (n + 1) cap)).heap[b]? = some o) ∧ Hid ((v.ownBlock = some gr ∨ W.heap.size ≤ gr) ∧ W.heap.size ≤ (w2.setCell ⟨F, i, none⟩ (.slice (some ⟨gr, 0, none⟩) (n + 1) cap)).heap.size) := by
  have kQ : Kept [] W (W.alloc (.cells #[x] e)) := (Kept.refl [] W).alloc _
  have hq := h.go kQ
  have hbQ : (W.alloc (.cells #[x] e)).heap[W.heap.size]? = some (.cells #[x] e (0, 0)) := al0 W _
  obtain ⟨gr, cap, w2, g1, g2, g3, g4, g5, g6⟩ := hq.f.app (i := i) (r := ⟨e, 1, n, xs⟩) hr hv t inf z bytes h1 h2 h3 h4 h5 h6 (by show 0 < 1; decide) ⟨W.heap.size, 0, none⟩ 1 1 [x] rfl (fun j u hu => by
      rw [show (Addr.add ⟨W.heap.size, 0, none⟩ j) = ⟨W.heap.size, j, none⟩ from by simp [Addr.add]; exact fun e => e.symm]
      rw [cell_of hbQ]
      simpa using hu) (by intro u hu; simp at hu; subst hu; exact hx) (by decide) (by show n + 1 ≤ maxLen; unfold maxLen; omega) (by
      show (n + 1) * bytes ≤ _
      have := Nat.mul_le_mul (show n + 1 ≤ 1000001 by omega) hb
      omega)
  refine ⟨gr, cap, w2, g1, ?_, free_of g2 i, ⟨g3, g4 M _ hq.m (fun e => by subst e; have := hq.f.box; rw [hq.m] at this; cases this) (fun e' => ?_), h.m0⟩, fun b o hb h1 h2 => g4 b o (kQ.at hb (by simp)) h1 h2, ⟨g5.imp id (fun q => Nat.le_trans kQ.size q), by have := kQ.size; simp [World.setCell]; omega⟩⟩
  · rw [cell_of g2]; simpa using hv
  · rcases (hq.f.own i _ v hr hv).2 with ⟨q1, _⟩ | ⟨g', cap', cur, q1, hb', hw, _⟩
    · rw [q1] at e'; cases e'
    · rw [q1] at e'; cases e'
      have := hq.m
      rw [hw] at this; cases this
def fldV (M : Nat) (kv av lv iv yv : Value) : List Value := [.map (some M), kv, av, lv, iv, yv]
theorem own_slice {W : World} {base : Nat} {e : TypeId} {size : Nat} {v : Value} {n : Nat} {xs : List Value} (h : W.ownsRow base e size v n xs) : ∃ ad c, v = .slice ad n c := by
  rcases h.2 with ⟨rfl, rfl⟩ | ⟨g, cap, cur, rfl, _⟩
  · exact ⟨_, _, rfl⟩
  · exact ⟨_, _, rfl⟩
end Go.Proofs.YtbbfajbnklgncaaGreat
