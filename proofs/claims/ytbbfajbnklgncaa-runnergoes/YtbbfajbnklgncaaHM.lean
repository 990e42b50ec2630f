/- package buchi: numbering.number at the spots (0, 0) and (0, 1). -/
import Derived.Test.YtbbfajbnklgncaaHE
import Derived.MapKept
import Derived.Deep.RegionWith
namespace Go.Proofs.Ytbbfajbnklgncaa
open Go.RowKit Go.Shelf

def spotV (p : Nat) : Value := .agg #[.int .i64 0, .int .i64 (p : Nat)]
def ents0 : Array MapEntry := #[]
def ents1 (c : Nat) : Array MapEntry := #[⟨spotV 0, .int .i64 0, c⟩]
def ents2 (c d : Nat) : Array MapEntry := #[⟨spotV 0, .int .i64 0, c⟩, ⟨spotV 1, .int .i64 1, d⟩]
def mapSet (W : World) (M : Nat) (o : Obj) : World := { W with heap := W.heap.setIfInBounds M o }
theorem mapSet_kept {W : World} {M : Nat} {o : Obj} : Kept [M] W (mapSet W M o) :=
  ⟨rfl, rfl, rfl, by simp [mapSet], fun k _ hn => by
    show (W.heap.setIfInBounds M o)[k]? = W.heap[k]?
    rw [Array.getElem?_setIfInBounds_ne (by simp at hn; omega)]⟩
theorem mapSet_at {W : World} {M : Nat} {o o' : Obj} (h : W.heap[M]? = some o') : (mapSet W M o).heap[M]? = some o := by
  show (W.heap.setIfInBounds M o)[M]? = some o
  rw [Array.getElem?_setIfInBounds_self_of_lt (lt_of h)]
theorem FBox.mapSet {w0 W : World} {F : Nat} {T : TypeId} {vs : List Value} {rs : List (Option Rw)} {M ck : Nat} {es : Array MapEntry} (h : FBox w0 W F T vs rs) (hM : W.heap[M]? = some (.map es ck)) (h0 : w0.heap.size ≤ M) (o : Obj) : FBox w0 (mapSet W M o) F T vs rs := by
  have k : Kept [M] W (Go.Proofs.Ytbbfajbnklgncaa.mapSet W M o) := mapSet_kept
  have hne : F ≠ M := fun e => by subst e; rw [h.box] at hM; cases hM
  refine ⟨h.base, h.kept.trans k (by simp) (by simpa using h0), k.at h.box (by simpa using hne), fun i r v h1 h2 => bx_kept (h.own i r v h1 h2) k (fun g e hg => ?_), h.apart⟩
  simp at hg
  subst hg
  rcases (h.own i r v h1 h2).2 with ⟨rfl, _⟩ | ⟨g', cap, cur, rfl, hb, hw, _⟩
  · cases e
  · cases e; rw [hw] at hM; cases hM
end Go.Proofs.Ytbbfajbnklgncaa

/- package buchi: field.put. -/
namespace Go.Proofs.Ytbbfajbnklgncaa
open Go.RowKit Go.Shelf

theorem bx_append_list {P : Program} {ops : Array Oper} {rest : List Oper} {o : Oper} {a : Act} {w : World} {Q : Exit → Act → World → Prop}
    (hg : o.guard = none) (s x : Operand) (t : TypeId) (hop : o.op = Op.call { callee := Callee.builtin Builtin.append, args := #[s, x], argTypes := #[t, t] })
    (v u v' : Value) (w' : World) (hs : a.eval s = v) (hx : a.eval x = u) (hrun : (Builtin.append_ #[t, t] o.type #[v, u]).run P w = .ok v' w') (hK : wpList P ops Q rest (a.put o.dst v') w') : wpList P ops Q (o :: rest) a w :=
  wpList_plain hg fun K hk => by
    unfold Oper.wp
    simp [execOp, hop, resolve, invoke, builtin, hs, hx, hrun, Result.andThen]
    exact hk _ _ hK
/-- A struct with a map in it. -/
structure MBox (w0 W : World) (F M : Nat) (es : Array MapEntry) (ck : Nat) (T : TypeId) (vs : List Value) (rs : List (Option Rw)) : Prop where
  f : FBox w0 W F T vs rs
  m : W.heap[M]? = some (.map es ck)
  m0 : w0.heap.size ≤ M
theorem MBox.go {w0 W W' : World} {F M : Nat} {es : Array MapEntry} {ck : Nat} {T : TypeId} {vs : List Value} {rs : List (Option Rw)} (h : MBox w0 W F M es ck T vs rs) (k : Kept [] W W') : MBox w0 W' F M es ck T vs rs := ⟨h.f.go k, k.at h.m (by simp), h.m0⟩
/-- One more element in a row. -/
theorem MBox.one {w0 W : World} {F M : Nat} {es : Array MapEntry} {ck : Nat} {T : TypeId} {vs : List Value} {rs : List (Option Rw)} (h : MBox w0 W F M es ck T vs rs) (i : Nat) {e : TypeId} {n : Nat} {xs : List Value} {v : Value} (hr : rs[i]? = some (some ⟨e, 1, n, xs⟩)) (hv : vs[i]? = some v) (x : Value) (hx : x.oneCell' = true)
    (t : TypeId) (inf : TypeInfo) (z : Value) (bytes : Nat) (h1 : Try.prog.underlying t = some (.slice e)) (h2 : Try.prog.info? e = some inf) (h3 : inf.zero = some z) (h4 : inf.size = 1) (h5 : inf.bytes = bytes) (h6 : z.cells.size = 1) (hb : bytes ≤ 64) (hn : n ≤ 1000000) :
    ∃ gr cap w2, (∀ ty, (Builtin.append_ #[t, t] ty #[v, .slice (some ⟨W.heap.size, 0, none⟩) 1 1]).run Try.prog (W.alloc (.cells #[x] e)) = .ok (.slice (some ⟨gr, 0, none⟩) (n + 1) cap) w2) ∧ w2.cell? ⟨F, i, none⟩ = some v ∧ w2.frozen? ⟨F, i, none⟩ = false ∧ Hid (MBox w0 (w2.setCell ⟨F, i, none⟩ (.slice (some ⟨gr, 0, none⟩) (n + 1) cap)) F M es ck T (vs.set i (.slice (some ⟨gr, 0, none⟩) (n + 1) cap)) (rs.set i (some ⟨e, 1, n + 1, xs ++ [x]⟩))) ∧ Hid (∀ b o, W.heap[b]? = some o → b ≠ F → v.ownBlock ≠ some b → (w2.setCell ⟨F, i, none⟩ (.slice (some ⟨gr, 0, none⟩) (n + 1) cap)).heap[b]? = some o) ∧ Hid ((v.ownBlock = some gr ∨ W.heap.size ≤ gr) ∧ W.heap.size ≤ (w2.setCell ⟨F, i, none⟩ (.slice (some ⟨gr, 0, none⟩) (n + 1) cap)).heap.size) := by
  have kQ : Kept [] W (W.alloc (.cells #[x] e)) := (Kept.refl [] W).alloc _
  have hq := h.go kQ
  have hbQ : (W.alloc (.cells #[x] e)).heap[W.heap.size]? = some (.cells #[x] e (0, 0)) := al0 W _
  obtain ⟨gr, cap, w2, g1, g2, g3, g4, g5, g6⟩ := hq.f.app (i := i) (r := ⟨e, 1, n, xs⟩) hr hv t inf z bytes h1 h2 h3 h4 h5 h6 (by show 0 < 1; decide) ⟨W.heap.size, 0, none⟩ 1 1 [x] rfl (fun j u hu => by
      rw [show (Addr.add ⟨W.heap.size, 0, none⟩ j) = ⟨W.heap.size, j, none⟩ from by simp [Addr.add]; exact fun e => e.symm]
      rw [cell_of hbQ]
      simpa using hu) (by intro u hu; simp at hu; subst hu; exact hx) (by decide) (by show n + 1 ≤ maxLen; unfold maxLen; omega) (by
      show (n + 1) * bytes ≤ _
      have := Nat.mul_le_mul (show n + 1 ≤ 1000001 by omega) hb
      omega)
  refine ⟨gr, cap, w2, g1, ?_, free_of g2 i, ⟨g3, g4 M _ hq.m (fun e => by subst e; have := hq.f.box; rw [hq.m] at this; cases this) (fun e' => ?_), h.m0⟩, fun b o hb h1 h2 => g4 b o (kQ.at hb (by simp)) h1 h2, ⟨g5.imp id (fun q => Nat.le_trans kQ.size q), by have := kQ.size; simp [World.setCell]; omega⟩⟩
  · rw [cell_of g2]; simpa using hv
  · rcases (hq.f.own i _ v hr hv).2 with ⟨q1, _⟩ | ⟨g', cap', cur, q1, hb', hw, _⟩
    · rw [q1] at e'; cases e'
    · rw [q1] at e'; cases e'
      have := hq.m
      rw [hw] at this; cases this
def fldV (M : Nat) (kv av lv iv yv : Value) : List Value := [.map (some M), kv, av, lv, iv, yv]
theorem own_slice {W : World} {base : Nat} {e : TypeId} {size : Nat} {v : Value} {n : Nat} {xs : List Value} (h : W.ownsRow base e size v n xs) : ∃ ad c, v = .slice ad n c := by
  rcases h.2 with ⟨rfl, rfl⟩ | ⟨g, cap, cur, rfl, _⟩
  · exact ⟨_, _, rfl⟩
  · exact ⟨_, _, rfl⟩
end Go.Proofs.Ytbbfajbnklgncaa

/- package buchi: field.put of a known spot, field.join. -/
namespace Go.Proofs.Ytbbfajbnklgncaa
open Go.RowKit Go.Shelf

set_option maxRecDepth 10000 in
/-- append of one number to nothing. -/
theorem nil_one (W : World) (x : Int) : ∃ gr cap w2, (∀ ty, (Builtin.append_ #[83, 83] ty #[.slice none 0 0, .slice (some ⟨W.heap.size, 0, none⟩) 1 1]).run Try.prog (W.alloc (.cells #[.int .i64 x] 3)).drew = .ok (.slice (some ⟨gr, 0, none⟩) 1 cap) w2) ∧ Kept [] W w2 ∧ W.heap.size ≤ gr ∧ ∃ cur, w2.heap[gr]? = some (.cells cur 3 (0, 0)) ∧ cur[0]? = some (.int .i64 x) ∧ 1 ≤ cap := by
  have hbQ : (W.alloc (.cells #[.int .i64 x] 3)).drew.heap[W.heap.size]? = some (.cells #[.int .i64 x] 3 (0, 0)) := al0 W _
  have kQ : Kept [] W (W.alloc (.cells #[.int .i64 x] 3)).drew := ((Kept.refl [] W).alloc _).drew
  obtain ⟨gr, cap, w2, g1, g2, g3, g4, g5⟩ := run_append_lies (P := Try.prog) (W.alloc (.cells #[.int .i64 x] 3)).drew 83 0 (W.alloc (.cells #[.int .i64 x] 3)).drew.heap.size 3 _ (.int .i64 0) 1 8 Try.underlying83 rfl rfl rfl rfl rfl (by decide) (.slice none 0 0) 0 [] (World.ownsRow_nil _ _ _ _) ⟨W.heap.size, 0, none⟩ 1 1 [.int .i64 x] rfl (fun j u hu => by
      rw [show (Addr.add ⟨W.heap.size, 0, none⟩ j) = ⟨W.heap.size, j, none⟩ from by simp [Addr.add]; exact fun e => e.symm]
      rw [cell_of hbQ]
      simpa using hu) (by intro u hu; simp at hu; subst hu; rfl) (by decide) (by unfold maxLen; omega) (by omega) (Nat.le_refl _) _ rfl
  refine ⟨gr, cap, w2, fun ty => g1, kQ.grown g3 (fun k e => by cases e), ?_, ?_⟩
  · have := (bx_base g2 (g := gr) rfl).1
    have := kQ.size
    omega
  · rcases g2.2 with ⟨h1, _⟩ | ⟨g', cap', cur, h1, hb, hw, q1, q2, q3, q4⟩
    · cases h1
    · cases h1
      refine ⟨cur, hw, ?_⟩
      have : (cur.toList.take 1)[0]? = some (Value.int .i64 x) := by rw [show cur.toList.take 1 = [Value.int .i64 x] from q4]; rfl
      rw [List.getElem?_take] at this
      exact ⟨by simpa using this, q1⟩
theorem FBox.rowAt {w0 W : World} {F : Nat} {T : TypeId} {vs : List Value} {rs : List (Option Rw)} (h : FBox w0 W F T vs rs) {i : Nat} {r : Rw} {g n c : Nat} (hr : rs[i]? = some (some r)) (hv : vs[i]? = some (.slice (some ⟨g, 0, none⟩) n c)) {j : Nat} {x : Value} (hx : r.xs[j]? = some x) : W.cell? ⟨g, j, none⟩ = some x ∧ W.frozen? ⟨g, j, none⟩ = false := by
  have ho := h.own i r _ hr hv
  rcases ho.2 with ⟨q1, _⟩ | ⟨g', cap, cur, q1, hb, hw, h3, h4, h5, h6⟩
  · cases q1
  · cases q1
    refine ⟨?_, free_of hw j⟩
    rw [cell_of hw]
    rw [← h6, List.getElem?_take] at hx
    split at hx
    · rw [← Array.getElem?_toList]; exact hx
    · cases hx
theorem MBox.store {w0 W : World} {F M : Nat} {es : Array MapEntry} {ck : Nat} {T : TypeId} {vs : List Value} {rs : List (Option Rw)} (h : MBox w0 W F M es ck T vs rs) {i : Nat} {r : Rw} {g n c : Nat} (hr : rs[i]? = some (some r)) (hv : vs[i]? = some (.slice (some ⟨g, 0, none⟩) n c)) (j : Nat) (x : Value) : MBox w0 (W.setCell ⟨g, j, none⟩ x) F M es ck T vs (rs.set i (some ⟨r.e, r.sz, r.n, r.xs.set j x⟩)) := by
  refine ⟨h.f.put hr hv j x, ((Kept.refl [g] W).setCell (.inl (by simp)) x).at h.m (fun e => ?_), h.m0⟩
  simp at e
  subst e
  rcases (h.f.own i _ _ hr hv).2 with ⟨q1, _⟩ | ⟨g', cap', cur, q1, hb', hw, _⟩
  · cases q1
  · cases q1; rw [h.m] at hw; cases hw
end Go.Proofs.Ytbbfajbnklgncaa

/- package buchi: DeleteFunc where nothing is out; drop of nothing. -/
namespace Go.Proofs.Ytbbfajbnklgncaa
open Go.RowKit Go.Shelf

theorem FBox.same {w0 W : World} {F : Nat} {T : TypeId} {vs : List Value} {rs : List (Option Rw)} (h : FBox w0 W F T vs rs) {i : Nat} {v : Value} (hv : vs[i]? = some v) : FBox w0 (W.setCell ⟨F, i, none⟩ v) F T vs rs := by
  have hset : Kept [F] W (W.setCell ⟨F, i, none⟩ v) := (Kept.refl [F] W).setCell (.inl (by simp)) v
  refine ⟨h.base, h.kept.setCell (.inr h.base) v, ?_, fun j r u h1 h2 => bx_kept (h.own j r u h1 h2) hset (fun g e hg => by have := (bx_base (h.own j r u h1 h2) e).1; simp at hg; omega), h.apart⟩
  rw [bx_set h.box]
  congr 2
  obtain ⟨hi, rfl⟩ := List.getElem?_eq_some_iff.1 hv
  simp
theorem MBox.same {w0 W : World} {F M : Nat} {es : Array MapEntry} {ck : Nat} {T : TypeId} {vs : List Value} {rs : List (Option Rw)} (h : MBox w0 W F M es ck T vs rs) {i : Nat} {v : Value} (hv : vs[i]? = some v) : MBox w0 (W.setCell ⟨F, i, none⟩ v) F M es ck T vs rs :=
  ⟨h.f.same hv, ((Kept.refl [F] W).setCell (.inl (by simp)) v).at h.m (fun e => by simp at e; subst e; have := h.f.box; rw [h.m] at this; cases this), h.m0⟩
/-- The rows as lists. -/
theorem ints_row {W : World} {base : Nat} {v : Value} {xs : List Int} (h : W.ownsRow base 3 1 v xs.length (xs.map (Value.int .i64))) (hl : xs.length ≤ 1000000) (hx : ∀ x ∈ xs, -9223372036854775808 ≤ x ∧ x ≤ 9223372036854775807) : Ints W v xs := by
  refine ⟨by omega, hx, ?_⟩
  rcases h.2 with ⟨h1, h2⟩ | ⟨g, cap, cur, h1, hb, hw, h3, h4, h5, h6⟩
  · exact .inl ⟨⟨none, 0, h1, by unfold maxLen; omega, fun _ => rfl⟩, List.length_eq_zero_iff.1 h2⟩
  · refine .inr ⟨g, 0, cap, h1, h3, h4, fun i hi => ?_⟩
    rw [cell_of hw]
    have e : (cur.toList.take (xs.length * 1))[i]? = some (Value.int .i64 xs[i]) := by rw [h6]; simp [hi]
    rw [List.getElem?_take] at e
    split at e
    · rw [← Array.getElem?_toList, Nat.zero_add]; exact e
    · cases e
theorem bools_row {W : World} {base : Nat} {v : Value} {xs : List Bool} (h : W.ownsRow base 4 1 v xs.length (xs.map Value.bool)) (hl : xs.length ≤ 1000000) : Bools W v xs := by
  refine ⟨by omega, ?_⟩
  rcases h.2 with ⟨h1, h2⟩ | ⟨g, cap, cur, h1, hb, hw, h3, h4, h5, h6⟩
  · exact .inl ⟨h1, List.length_eq_zero_iff.1 h2⟩
  · refine .inr ⟨g, 0, cap, h1, h3, h4, fun i hi => ?_⟩
    rw [cell_of hw]
    have e : (cur.toList.take (xs.length * 1))[i]? = some (Value.bool xs[i]) := by rw [h6]; simp [hi]
    rw [List.getElem?_take] at e
    split at e
    · rw [← Array.getElem?_toList, Nat.zero_add]; exact e
    · cases e
end Go.Proofs.Ytbbfajbnklgncaa
