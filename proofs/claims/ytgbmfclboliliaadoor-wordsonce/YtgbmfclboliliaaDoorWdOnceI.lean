/- WordsOnce: what its loop carries. -/
import Derived.Test.YtgbmfclboliliaaDoorWdOnceB
import Derived.Test.YtgbmfclboliliaaDoorWdWorksX
import Derived.Test.YtgbmfclboliliaaDoorWdRefs
import Derived.Test.YtgbmfclboliliaaDoorWdMade
namespace Go.Proofs.YtgbmfclboliliaaDoor
open Go.RowKit Go.Shelf

theorem row_at {W : World} {base : Nat} {e : TypeId} {v : Value} {n g : Nat} {xs : List Value} (h : W.ownsRow base e 1 v n xs) (hg : v.ownBlock = some g) : ∃ cur, W.heap[g]? = some (.cells cur e (0, 0)) := by
  rcases h.2 with ⟨rfl, _⟩ | ⟨b, cap, cur, rfl, _, hb, _⟩
  · cases hg
  · have e : b = g := by simpa [Value.ownBlock] using hg
    subst e
    exact ⟨cur, hb⟩
/-- Is a word among these? -/
def inB (r : Wd) (l : List Wd) : Bool := l.any fun q => eqW q r
theorem inB_iff {r : Wd} {l : List Wd} : inB r l = true ↔ r ∈ l := by
  unfold inB
  rw [List.any_eq_true]
  constructor
  · rintro ⟨q, hq, he⟩
    rw [← eqW_iff.1 he]; exact hq
  · exact fun h => ⟨r, h, eqW_iff.2 rfl⟩
/-- A word's rows, none of them in X. -/
structure RowX (X : Nat → Prop) (W : World) (v1 v2 : Value) (q : Wd) : Prop where
  new : ∃ n₀, NewW n₀ W v1 v2 q
  off1 : ∀ g, v1.ownBlock = some g → ¬ X g
  off2 : ∀ g, v2.ownBlock = some g → ¬ X g
theorem RowX.more {X X' : Nat → Prop} {W : World} {v1 v2 : Value} {q : Wd} (h : RowX X W v1 v2 q) (hX : ∀ k, X' k → X k ∨ W.heap.size ≤ k) : RowX X' W v1 v2 q := by
  obtain ⟨n, hn⟩ := h.new
  refine ⟨h.new, fun g hg hx => ?_, fun g hg hx => ?_⟩
  · rcases hX g hx with q | q
    · exact h.off1 g hg q
    · have := owns_lt hn.own1 hg; omega
  · rcases hX g hx with q | q
    · exact h.off2 g hg q
    · have := owns_lt hn.own2 hg; omega
theorem RowX.turn {X : Nat → Prop} {W W' : World} {row : Option Nat} {v1 v2 : Value} {q : Wd} (h : RowX X W v1 v2 q) (hg : W.grownBy W' row) (hr : ∀ r, row = some r → X r) : RowX X W' v1 v2 q := by
  obtain ⟨n, hn⟩ := h.new
  have key : ∀ v : Value, (∀ g, v.ownBlock = some g → ¬ X g) → v.ownBlock = none ∨ v.ownBlock ≠ row := fun v hv => by
    cases e : v.ownBlock with
    | none => exact .inl rfl
    | some g => exact .inr (fun e2 => hv g e (hr g e2.symm))
  exact ⟨⟨n, hn.own1.kept hg (key v1 h.off1), hn.own2.kept hg (key v2 h.off2), hn.apart, hn.small1, hn.small2, hn.few1, hn.few2⟩, h.off1, h.off2⟩
theorem RowX.kept {X : Nat → Prop} {W W' : World} {v1 v2 : Value} {q : Wd} (h : RowX X W v1 v2 q) (k : Kept [] W W') : RowX X W' v1 v2 q := h.turn (grownBy_of_kept k) (fun r e => by cases e)
theorem RowX.set {X : Nat → Prop} {W : World} {v1 v2 : Value} {q : Wd} {B o : Nat} {cs : Array Value} {t : TypeId} {fz : Nat × Nat} (h : RowX X W v1 v2 q) (hB : W.heap[B]? = some (.cells cs t fz)) (ht : t ≠ 54) (v : Value) : RowX X (W.setCell ⟨B, o, none⟩ v) v1 v2 q := by
  obtain ⟨n, hn⟩ := h.new
  have k : Kept [B] W (W.setCell ⟨B, o, none⟩ v) := (Kept.refl _ W).setCell (.inl (by simp)) _
  have key : ∀ {u : Value} {m : Nat} {ys : List Value}, W.ownsRow n 54 1 u m ys → ∀ g, u.ownBlock = some g → g ∉ [B] := fun ho g hg hm => by
    obtain rfl : g = B := by simpa using hm
    obtain ⟨cur, e⟩ := row_at ho hg
    rw [hB] at e
    cases e
    exact ht rfl
  exact ⟨⟨n, owns_keptF hn.own1 k (key hn.own1), owns_keptF hn.own2 k (key hn.own2), hn.apart, hn.small1, hn.small2, hn.few1, hn.few2⟩, h.off1, h.off2⟩
theorem RowX.isW {X : Nat → Prop} {W : World} {v1 v2 : Value} {q : Wd} (h : RowX X W v1 v2 q) (hf : q.stem.length + q.loop.length ≤ 70368744177664) : IsW W v1 v2 q := by
  obtain ⟨n, hn⟩ := h.new
  exact ⟨hn.lets1, hn.lets2, hf⟩
theorem RowX.lets {X : Nat → Prop} {W : World} {v1 v2 : Value} {q : Wd} (h : RowX X W v1 v2 q) : Lets W v1 q.stem ∧ Lets W v2 q.loop := by
  obtain ⟨n, hn⟩ := h.new
  exact ⟨hn.lets1, hn.lets2⟩
/-- The word before. -/
def LastX (L : List Wd) (l1 l2 : Value) (X : Nat → Prop) (pre : List Nw) (W : World) : Prop :=
  (pre = [] ∧ l1 = .slice none 0 0 ∧ l2 = .slice none 0 0) ∨ ∃ p y, pre = p ++ [y] ∧ l1 = .slice y.a1 y.q.stem.length y.c1 ∧ l2 = .slice y.a2 y.q.loop.length y.c2 ∧ RowX X W l1 l2 y.q ∧ y.q ∈ L
/-- What the loop carries. -/
structure OnS (w : World) (L : List Wd) (Br Bk Bn Bm Bf Bl k n : Nat) (m1 m2 : Value) (r : Wd) (X : Nat → Prop) (pre : List Nw) (W : World) : Prop where
  res : Bx1 Br 4 (.bool false) X W
  bk : Bx1 Bk 3 (.int .i64 (k : Nat)) X W
  bn : Bx1 Bn 3 (.int .i64 (n : Nat)) X W
  bm : Blk Bm #[m1, m2] 24 X W
  rm : RowX X W m1 m2 r
  bf : Bx1 Bf 4 (.bool (inB r (pre.map Nw.q))) X W
  last : ∃ l1 l2, Blk Bl #[l1, l2] 24 X W ∧ LastX L l1 l2 X pre W
  low : Bw w.heap.size w X W
theorem onS_abide {w : World} {L : List Wd} {Br Bk Bn Bm Bf Bl k n : Nat} {m1 m2 : Value} {r : Wd} : Abide (OnS w L Br Bk Bn Bm Bf Bl k n m1 m2 r) := by
  refine ⟨fun {X X' pre W} h hX => ?_, fun {X pre W W' row} h hg hr => ?_⟩
  · obtain ⟨l1, l2, hb, hl⟩ := h.last
    refine ⟨h.res.more hX, h.bk.more hX, h.bn.more hX, h.bm.more hX, h.rm.more hX, h.bf.more hX, ⟨l1, l2, hb.more hX, ?_⟩, h.low.more hX⟩
    rcases hl with hl | ⟨p, y, e, e1, e2, hrow, hm⟩
    · exact .inl hl
    · exact .inr ⟨p, y, e, e1, e2, hrow.more hX, hm⟩
  · obtain ⟨l1, l2, hb, hl⟩ := h.last
    refine ⟨h.res.turn hg hr, h.bk.turn hg hr, h.bn.turn hg hr, h.bm.turn hg hr, h.rm.turn hg hr, h.bf.turn hg hr, ⟨l1, l2, hb.turn hg hr, ?_⟩, h.low.turn hg hr⟩
    rcases hl with hl | ⟨p, y, e, e1, e2, hrow, hm⟩
    · exact .inl hl
    · exact .inr ⟨p, y, e, e1, e2, hrow.turn hg hr, hm⟩
/-- The boxes that a round reads. -/
structure OnC (W : World) (Br Bx Bl Bm Bf Bk Bn k n : Nat) (x1 x2 l1 l2 m1 m2 : Value) (fd : Bool) : Prop where
  x : Wd2 W Bx x1 x2
  l : Wd2 W Bl l1 l2
  m : Wd2 W Bm m1 m2
  f : Boxed W Bf 4 (.bool fd)
  k : Boxed W Bk 3 (.int .i64 (k : Nat))
  n : Boxed W Bn 3 (.int .i64 (n : Nat))
  r : Boxed W Br 4 (.bool false)
theorem OnC.kept {W W' : World} {Br Bx Bl Bm Bf Bk Bn k n : Nat} {x1 x2 l1 l2 m1 m2 : Value} {fd : Bool} (h : OnC W Br Bx Bl Bm Bf Bk Bn k n x1 x2 l1 l2 m1 m2 fd) (q : Kept [] W W') : OnC W' Br Bx Bl Bm Bf Bk Bn k n x1 x2 l1 l2 m1 m2 fd :=
  ⟨h.x.kept q, h.l.kept q, h.m.kept q, q.at h.f (by simp), q.at h.k (by simp), q.at h.n (by simp), q.at h.r (by simp)⟩
theorem OnC.cells {W : World} {Br Bx Bl Bm Bf Bk Bn k n : Nat} {x1 x2 l1 l2 m1 m2 : Value} {fd : Bool} (h : OnC W Br Bx Bl Bm Bf Bk Bn k n x1 x2 l1 l2 m1 m2 fd) :
    (W.cell? ⟨Bx, 0, none⟩ = some x1 ∧ W.cell? ⟨Bx, 1, none⟩ = some x2) ∧ (W.cell? ⟨Bl, 0, none⟩ = some l1 ∧ W.cell? ⟨Bl, 1, none⟩ = some l2) ∧ (W.cell? ⟨Bm, 0, none⟩ = some m1 ∧ W.cell? ⟨Bm, 1, none⟩ = some m2) ∧ W.cell? ⟨Bf, 0, none⟩ = some (.bool fd) ∧ W.cell? ⟨Bk, 0, none⟩ = some (.int .i64 (k : Nat)) ∧ W.cell? ⟨Bn, 0, none⟩ = some (.int .i64 (n : Nat)) ∧ W.cell? ⟨Br, 0, none⟩ = some (.bool false) :=
  ⟨⟨h.x.cells.1, h.x.cells.2.1⟩, ⟨h.l.cells.1, h.l.cells.2.1⟩, ⟨h.m.cells.1, h.m.cells.2.1⟩, h.f.cell, h.k.cell, h.n.cell, h.r.cell⟩
theorem OnC.frees {W : World} {Br Bx Bl Bm Bf Bk Bn k n : Nat} {x1 x2 l1 l2 m1 m2 : Value} {fd : Bool} (h : OnC W Br Bx Bl Bm Bf Bk Bn k n x1 x2 l1 l2 m1 m2 fd) :
    W.frozen? ⟨Bl, 0, none⟩ = false ∧ W.frozen? ⟨Bl, 1, none⟩ = false ∧ W.frozen? ⟨Bf, 0, none⟩ = false ∧ W.frozen? ⟨Br, 0, none⟩ = false :=
  ⟨h.l.cells.2.2.1, h.l.cells.2.2.2, h.f.frozen, h.r.frozen⟩
theorem mem_snoc {r : Wd} {pre : List Nw} {x : Nw} : inB r ((pre ++ [x]).map Nw.q) = (inB r (pre.map Nw.q) || eqW x.q r) := by
  unfold inB
  rw [List.map_append, List.any_append]
  simp
/-- Which boxes are which. -/
structure OnD (w : World) (T : Nat → Prop) (Br Bk Bn Bm Bf Bl : Nat) : Prop where
  fr : Bf ≠ Br
  fk : Bf ≠ Bk
  fn : Bf ≠ Bn
  fm : Bf ≠ Bm
  fl : Bf ≠ Bl
  lr : Bl ≠ Br
  lk : Bl ≠ Bk
  ln : Bl ≠ Bn
  lm : Bl ≠ Bm
  tf : ¬ T Bf
  tl : ¬ T Bl
  wf : w.heap.size ≤ Bf
  wl : w.heap.size ≤ Bl
/-- A round's end: what was found, the word before. -/
theorem on_step {w : World} {L : List Wd} {T X : Nat → Prop} {Br Bk Bn Bm Bf Bl k n : Nat} {m1 m2 : Value} {r : Wd} {pre : List Nw} {x : Nw} {W W2 : World} {fd' : Bool} (h : OnS w L Br Bk Bn Bm Bf Bl k n m1 m2 r X pre W) (hd : OnD w T Br Bk Bn Bm Bf Bl) (hat : NwAt L X x W) (q : Kept [] W W2) (hfd : fd' = inB r ((pre ++ [x]).map Nw.q)) :
    KpX (orT T X) W (((W2.setCell ⟨Bf, 0, none⟩ (.bool fd')).setCell ⟨Bl, 0, none⟩ (.slice x.a1 x.q.stem.length x.c1)).setCell ⟨Bl, 1, none⟩ (.slice x.a2 x.q.loop.length x.c2)) ∧
    OnS w L Br Bk Bn Bm Bf Bl k n m1 m2 r X (pre ++ [x]) (((W2.setCell ⟨Bf, 0, none⟩ (.bool fd')).setCell ⟨Bl, 0, none⟩ (.slice x.a1 x.q.stem.length x.c1)).setCell ⟨Bl, 1, none⟩ (.slice x.a2 x.q.loop.length x.c2)) := by
  obtain ⟨l1, l2, hb, _⟩ := h.last
  have hbl2 : W2.heap[Bl]? = some (.cells #[l1, l2] 24 (0, 0)) := q.at hb.1 (by simp)
  have hbf2 : W2.heap[Bf]? = some (.cells #[.bool (inB r (pre.map Nw.q))] 4 (0, 0)) := q.at h.bf.1 (by simp)
  have hbl3 : (W2.setCell ⟨Bf, 0, none⟩ (.bool fd')).heap[Bl]? = some (.cells #[l1, l2] 24 (0, 0)) := (Below.heap_setCell _ _ _ _ (fun e => hd.fl e.symm)).trans hbl2
  have hbl4 : ((W2.setCell ⟨Bf, 0, none⟩ (.bool fd')).setCell ⟨Bl, 0, none⟩ (.slice x.a1 x.q.stem.length x.c1)).heap[Bl]? = some (.cells #[.slice x.a1 x.q.stem.length x.c1, l2] 24 (0, 0)) := by rw [row_set hbl3]; rfl
  have nXf : ¬ orT T X Bf := fun h' => h'.elim h.bf.2 hd.tf
  have nXl : ¬ orT T X Bl := fun h' => h'.elim hb.2 hd.tl
  have row3 : ∀ {v1 v2 : Value} {z : Wd}, RowX X W v1 v2 z → RowX X (((W2.setCell ⟨Bf, 0, none⟩ (.bool fd')).setCell ⟨Bl, 0, none⟩ (.slice x.a1 x.q.stem.length x.c1)).setCell ⟨Bl, 1, none⟩ (.slice x.a2 x.q.loop.length x.c2)) v1 v2 z := fun hr => (((hr.kept q).set hbf2 (by decide) _).set hbl3 (by decide) _).set hbl4 (by decide) _
  refine ⟨(KpX.of_kept q).trans (((KpX.setCell (p := ⟨Bf, 0, none⟩) nXf _).trans (KpX.setCell (p := ⟨Bl, 0, none⟩) nXl _)).trans (KpX.setCell (p := ⟨Bl, 1, none⟩) nXl _)), ?_⟩
  refine ⟨(((h.res.kept0 q).other hd.fr.symm).other hd.lr.symm).other hd.lr.symm, (((h.bk.kept0 q).other hd.fk.symm).other hd.lk.symm).other hd.lk.symm, (((h.bn.kept0 q).other hd.fn.symm).other hd.ln.symm).other hd.ln.symm, (((h.bm.kept0 q).other hd.fm.symm).other hd.lm.symm).other hd.lm.symm, row3 h.rm, ?_, ?_, (((h.low.kept0 q).set hd.wf _).set hd.wl _).set hd.wl _⟩
  · rw [← hfd]
    exact (((h.bf.kept0 q).set _).other hd.fl).other hd.fl
  · refine ⟨_, _, ⟨?_, hb.2⟩, .inr ⟨pre, x, rfl, rfl, rfl, row3 ⟨hat.new, hat.off1, hat.off2⟩, hat.mem⟩⟩
    rw [row_set hbl4]; rfl
end Go.Proofs.YtgbmfclboliliaaDoor
