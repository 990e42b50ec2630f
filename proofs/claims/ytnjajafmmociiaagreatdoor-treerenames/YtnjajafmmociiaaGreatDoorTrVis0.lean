/- unlike: what it tells, and what its walk carries. No walk here. -/
import Derived.Test.YtnjajafmmociiaaGreatDoorTrNumb
namespace Go.Proofs.YtnjajafmmociiaaGreatDoor
open Go.RowKit Go.Shelf Go.Maps

/-- The rows that have a number, the trees that have come. -/
def USt : Type := List Rw × List (Nat × Tr)
def kidStep (acc : Nat × Nat × USt) (f : USt → Nat × Nat × USt) : Nat × Nat × USt :=
  ((numRow (f acc.2.2).2.2.1 ⟨0, ⟨#[]⟩, acc.1, (f acc.2.2).1⟩).1, acc.2.1 + (f acc.2.2).2.1, ((numRow (f acc.2.2).2.2.1 ⟨0, ⟨#[]⟩, acc.1, (f acc.2.2).1⟩).2.2, (f acc.2.2).2.2.2))
def headStep (t : Tr) (st : USt) : Nat × Nat × USt := ((numRow st.1 ⟨t.op, t.name, 0, 0⟩).1, 1, ((numRow st.1 ⟨t.op, t.name, 0, 0⟩).2.2, st.2))
def lastStep (t : Tr) (b : Nat × Nat × USt) : Nat × Nat × USt :=
  ((numRow b.2.2.1 ⟨0, ⟨#[]⟩, b.1, 0⟩).1, b.2.1, ((numRow b.2.2.1 ⟨0, ⟨#[]⟩, b.1, 0⟩).2.2, if (numRow b.2.2.1 ⟨0, ⟨#[]⟩, b.1, 0⟩).2.1 then b.2.2.2 ++ [(b.2.1, t)] else b.2.2.2))
def visitP : Tr → USt → Nat × Nat × USt := Tr.para fun t rs st => lastStep t (rs.foldl kidStep (headStep t st))
/-- Behind the first i kids. -/
def kidsP (t : Tr) (i : Nat) (st : USt) : Nat × Nat × USt := ((t.kids.take i).map visitP).foldl kidStep (headStep t st)
theorem visitP_eq (t : Tr) (st : USt) : visitP t st = lastStep t (kidsP t t.kids.length st) := by
  unfold kidsP
  rw [List.take_length]
  exact congrFun (Tr.para_eq _ t) st
theorem kidsP_zero (t : Tr) (st : USt) : kidsP t 0 st = headStep t st := rfl
theorem kidsP_succ (t : Tr) (i : Nat) (h : i < t.kids.length) (st : USt) : kidsP t (i + 1) st = kidStep (kidsP t i st) (visitP t.kids[i]) := by
  unfold kidsP
  rw [List.take_succ_eq_append_getElem h, List.map_append, List.foldl_append]
  rfl
/-- What a walk behind m trees may have made of it (d: the tree itself is still to come). -/
structure Bnd (st : USt) (s m d : Nat) (v : Nat × Nat × USt) : Prop where
  num : v.1 ≤ v.2.2.1.length
  rows : v.2.2.1.length ≤ st.1.length + s
  list : v.2.2.2.length + d ≤ st.2.length + m
  size : v.2.1 = m
theorem numRow_le (rows : List Rw) (r : Rw) : (numRow rows r).1 ≤ (numRow rows r).2.2.length := by
  cases h : rows.findIdx? (fun s => r.same s) with
  | some i =>
    rw [numRow_some h]
    have := (List.findIdx?_eq_some_iff_getElem.1 h).1
    simp; omega
  | none => rw [numRow_none h]; simp
theorem bnd_head (t : Tr) (st : USt) : Bnd st 1 1 1 (headStep t st) :=
  ⟨numRow_le _ _, (numRow_len _ _).2.1, by simp [headStep], rfl⟩
theorem bnd_kid {st : USt} {s m s' m' : Nat} {a : Nat × Nat × USt} {f : USt → Nat × Nat × USt} (h : Bnd st s m 1 a) (hf : Bnd a.2.2 s' m' 0 (f a.2.2)) : Bnd st (s + (s' + 1)) (m + m') 1 (kidStep a f) := by
  refine ⟨numRow_le _ _, ?_, ?_, ?_⟩
  · have h1 := (numRow_len (f a.2.2).2.2.1 ⟨0, ⟨#[]⟩, a.1, (f a.2.2).1⟩).2.1
    have h2 := hf.rows
    have h3 := h.rows
    show (numRow _ _).2.2.length ≤ _
    omega
  · have h2 := hf.list
    have h3 := h.list
    show (f a.2.2).2.2.2.length + 1 ≤ _
    omega
  · show a.2.1 + (f a.2.2).2.1 = _
    rw [h.size, hf.size]
theorem bnd_last {t : Tr} {st : USt} {s m : Nat} {b : Nat × Nat × USt} (h : Bnd st s m 1 b) : Bnd st (s + 1) m 0 (lastStep t b) := by
  refine ⟨numRow_le _ _, ?_, ?_, h.size⟩
  · have h1 := (numRow_len b.2.2.1 ⟨0, ⟨#[]⟩, b.1, 0⟩).2.1
    have h3 := h.rows
    show (numRow _ _).2.2.length ≤ _
    omega
  · have h3 := h.list
    show (if (numRow b.2.2.1 ⟨0, ⟨#[]⟩, b.1, 0⟩).2.1 then b.2.2.2 ++ [(b.2.1, t)] else b.2.2.2).length + 0 ≤ _
    split
    · rw [List.length_append]; simp; omega
    · omega
def sizes (t : Tr) (i : Nat) : Nat := ((t.kids.take i).map Tr.size).sum
theorem sizes_succ (t : Tr) (i : Nat) (h : i < t.kids.length) : sizes t (i + 1) = sizes t i + t.kids[i].size := by
  unfold sizes
  rw [List.take_succ_eq_append_getElem h, List.map_append, List.sum_append]; simp
theorem sizes_all (t : Tr) : t.size = 1 + sizes t t.kids.length := by unfold sizes; rw [List.take_length, Tr.size_eq]
theorem sizes_le (t : Tr) : ∀ i, i ≤ t.kids.length → sizes t i ≤ sizes t t.kids.length := by
  intro i hi
  obtain ⟨d, hd⟩ : ∃ d, t.kids.length = i + d := ⟨t.kids.length - i, by omega⟩
  rw [hd]
  clear hi
  have key : ∀ d, i + d ≤ t.kids.length → sizes t i ≤ sizes t (i + d) := by
    intro d
    induction d with
    | zero => intro _; exact Nat.le_refl _
    | succ d ih =>
      intro h
      have := ih (by omega)
      rw [← Nat.add_assoc, sizes_succ t (i + d) (by omega)]
      omega
  exact key d (by omega)
theorem bnd_kids (t : Tr) (hk : ∀ k ∈ t.kids, ∀ st, Bnd st (3 * k.size - 1) k.size 0 (visitP k st)) (st : USt) : ∀ i, i ≤ t.kids.length → Bnd st (1 + 3 * sizes t i) (1 + sizes t i) 1 (kidsP t i st) := by
  intro i
  induction i with
  | zero => intro _; exact bnd_head t st
  | succ i ih =>
    intro h
    have hi : i < t.kids.length := by omega
    rw [kidsP_succ t i hi, sizes_succ t i hi]
    have hb := bnd_kid (ih (by omega)) (hk t.kids[i] (List.getElem_mem hi) _)
    have hp := Tr.size_pos t.kids[i]
    rw [show 1 + 3 * sizes t i + (3 * t.kids[i].size - 1 + 1) = 1 + 3 * (sizes t i + t.kids[i].size) by omega, Nat.add_assoc] at hb
    exact hb
theorem bnd_visit (t : Tr) : ∀ st, Bnd st (3 * t.size - 1) t.size 0 (visitP t st) := by
  induction t using Tr.ind with
  | h t ih =>
    intro st
    rw [visitP_eq]
    have hb := bnd_last (t := t) (bnd_kids t ih st t.kids.length (Nat.le_refl _))
    rw [← sizes_all, show 1 + 3 * sizes t t.kids.length + 1 = 3 * t.size - 1 by rw [sizes_all t]; omega] at hb
    exact hb

/-- A tree that has come: its size, and where its kids lie. -/
structure En where
  size : Nat
  t : Tr
  kad : Option Addr
  kcap : Nat
def En.cells (x : En) : List Value := [.int .i64 (x.size : Nat), .int .u8 (x.t.op : Nat), .string x.t.name, .slice x.kad x.t.kids.length x.kcap]
def En.key (x : En) : Nat × Tr := (x.size, x.t)
def ents (l : List En) : List Value := l.flatMap En.cells
theorem ents_snoc (l : List En) (x : En) : ents (l ++ [x]) = ents l ++ x.cells := by simp [ents]
/-- All blocks that hold a Formula stay. -/
structure KeepF (W W' : World) : Prop where
  size : W.heap.size ≤ W'.heap.size
  stay : ∀ (k : Nat) (cs : Array Value) (fr : Nat × Nat), W.heap[k]? = some (.cells cs 25 fr) → W'.heap[k]? = some (.cells cs 25 fr)
theorem KeepF.refl (W : World) : KeepF W W := ⟨Nat.le_refl _, fun _ _ _ h => h⟩
theorem KeepF.trans {A B C : World} (h : KeepF A B) (k : KeepF B C) : KeepF A C := ⟨Nat.le_trans h.size k.size, fun i cs fr hi => k.stay i cs fr (h.stay i cs fr hi)⟩
theorem KeepF.kept {W W' : World} (h : Kept [] W W') : KeepF W W' := ⟨h.size, fun _ _ _ hk => h.at hk (by simp)⟩
theorem KeepF.for3 {W W' : World} {B : Nat} {a b c : Value} (k : KeepF W W') (h : For3 W B a b c) : For3 W' B a b c := k.stay _ _ _ h
/-- What unlike's walk carries. -/
structure UnAt (w : World) (Bl Bm Mb Bn Bv : Nat) (rows : List Rw) (l : List En) (W : World) : Prop where
  coll : ∃ v, Boxed W Bl 97 v ∧ W.ownsRow w.heap.size 101 4 v l.length (ents l)
  mapb : Boxed W Bm 153 (.map (some Mb))
  map : ∃ D, W.ownsMap Tryz.prog 155 (plainElem Tryz.prog 3) Mb rows.length D ∧ NumsOf rows D
  nb : Boxed W Bn 156 (.func (.func 91) #[] #[.pointer (some ⟨Bm, 0, none⟩)])
  vb : Boxed W Bv 157 (.func (.func 92) #[] #[.pointer (some ⟨Bn, 0, none⟩), .pointer (some ⟨Bv, 0, none⟩), .pointer (some ⟨Bl, 0, none⟩)])
  lows : w.heap.size ≤ Bl ∧ w.heap.size ≤ Mb
  low : w.heap.size ≤ W.heap.size
  ents : ∀ x ∈ l, IsF w x.t (.slice x.kad x.t.kids.length x.kcap)
  below : Below w.heap.size w W
theorem UnAt.keep0 {w W W' : World} {Bl Bm Mb Bn Bv : Nat} {rows : List Rw} {l : List En} (h : UnAt w Bl Bm Mb Bn Bv rows l W) (k : Kept [] W W') : UnAt w Bl Bm Mb Bn Bv rows l W' := by
  obtain ⟨v, c1, c2⟩ := h.coll
  obtain ⟨D, m1, m2⟩ := h.map
  have hg := grownBy_of_kept k
  exact ⟨⟨v, k.at c1 (by simp), row_turn c2 hg (fun g _ q => by cases q)⟩, k.at h.mapb (by simp), ⟨D, m1.kept hg (by simp), m2⟩, k.at h.nb (by simp), k.at h.vb (by simp), h.lows, Nat.le_trans h.low k.size, h.ents, h.below.grown hg h.low (fun _ e => by cases e)⟩
theorem UnAt.num {w W W' : World} {Bl Bm Mb Bn Bv : Nat} {rows rows' : List Rw} {l : List En} {D : DataW Unit} (h : UnAt w Bl Bm Mb Bn Bv rows l W) (k : Kept [Mb] W W') (hb : Boxed W' Bm 153 (.map (some Mb))) (hm : W'.ownsMap Tryz.prog 155 (plainElem Tryz.prog 3) Mb rows'.length D) (hn : NumsOf rows' D) : UnAt w Bl Bm Mb Bn Bv rows' l W' ∧ KeepF W W' := by
  obtain ⟨v, c1, c2⟩ := h.coll
  obtain ⟨D0, m1, m2⟩ := h.map
  have hmap : ∃ es cl, W.heap[Mb]? = some (.map es cl) := by obtain ⟨es, cl, q, _⟩ := m1; exact ⟨es, cl, q⟩
  obtain ⟨es, cl, hM⟩ := hmap
  have hne : ∀ {b : Nat} {cs : Array Value} {t : TypeId} {fr : Nat × Nat}, W.heap[b]? = some (.cells cs t fr) → b ∉ [Mb] := by
    intro b cs t fr hx hmem
    obtain rfl : b = Mb := by simpa using hmem
    rw [hx] at hM; cases hM
  have hg : W.grownBy W' (some Mb) := ⟨k.os, k.tape, k.output, k.size, fun i hi hn => k.block i hi (fun q => hn (by rw [List.mem_singleton.1 q]))⟩
  refine ⟨⟨⟨v, k.at c1 (hne c1), row_turn c2 hg (row_not_map c2 m1)⟩, hb, ⟨D, hm, hn⟩, k.at h.nb (hne h.nb), k.at h.vb (hne h.vb), h.lows, Nat.le_trans h.low k.size, h.ents, h.below.grown hg h.low (fun _ e => by cases e; exact h.lows.2)⟩, k.size, fun i cs fr hi => k.at hi (hne hi)⟩
theorem KeepF.grown {W W' : World} {row : Option Nat} (hg : W.grownBy W' row) (hr : ∀ r cs fr, row = some r → W.heap[r]? ≠ some (.cells cs 25 fr)) : KeepF W W' :=
  ⟨hg.size, fun k cs fr hk => (hg.block k (lt_of hk) (fun e => hr k cs fr e.symm hk)).trans hk⟩
theorem own_type {W : World} {n₀ : Nat} {e : TypeId} {size : Nat} {v : Value} {n : Nat} {xs : List Value} (h : W.ownsRow n₀ e size v n xs) {g : Nat} (hg : v.ownBlock = some g) : ∃ cs fr, W.heap[g]? = some (.cells cs e fr) := by
  rcases h.2 with ⟨rfl, _⟩ | ⟨g', cap', cur, rfl, _, hgb, _⟩
  · cases hg
  · cases hg; exact ⟨_, _, hgb⟩
theorem UnAt.add {w W w1 : World} {Bl Bm Mb Bn Bv : Nat} {rows : List Rw} {l : List En} {v v' : Value} {x : En} {tmp : Obj} (h : UnAt w Bl Bm Mb Bn Bv rows l W) (hb : Boxed W Bl 97 v) (hrow : W.ownsRow w.heap.size 101 4 v l.length (Go.Proofs.YtnjajafmmociiaaGreatDoor.ents l))
    (hx : IsF w x.t (.slice x.kad x.t.kids.length x.kcap)) (hr : w1.ownsRow w.heap.size 101 4 v' (l.length + 1) (Go.Proofs.YtnjajafmmociiaaGreatDoor.ents l ++ x.cells)) (hg : (W.alloc tmp).grownBy w1 v.ownBlock) :
    Boxed w1 Bl 97 v ∧ UnAt w Bl Bm Mb Bn Bv rows (l ++ [x]) (w1.setCell ⟨Bl, 0, none⟩ v') ∧ KeepF W (w1.setCell ⟨Bl, 0, none⟩ v') := by
  obtain ⟨D, m1, m2⟩ := h.map
  have hb1 : Boxed w1 Bl 97 v := (hb.alloc tmp).kept hg (hb.not_row (by decide) hrow)
  have hmb : Boxed w1 Bm _ _ := (h.mapb.alloc tmp).kept hg (h.mapb.not_row (by decide) hrow)
  have hnb : Boxed w1 Bn _ _ := (h.nb.alloc tmp).kept hg (h.nb.not_row (by decide) hrow)
  have hvb : Boxed w1 Bv _ _ := (h.vb.alloc tmp).kept hg (h.vb.not_row (by decide) hrow)
  have ne : ∀ {b : Nat} {t : TypeId} {u : Value}, Boxed W b t u → t ≠ 97 → b ≠ Bl := by
    intro b t u hbt ht e
    subst e
    have q : some (Obj.cells #[u] t (0, 0)) = some (Obj.cells #[v] 97 (0, 0)) := (show W.heap[b]? = _ from hbt).symm.trans (show W.heap[b]? = _ from hb)
    injection q with q
    injection q with _ q
    exact ht q
  have hmn : Mb ≠ Bl := by
    rintro rfl
    obtain ⟨es, cl, q, _⟩ := m1
    rw [show W.heap[Mb]? = _ from hb] at q; cases q
  have z1 := hg.size
  have za : (W.alloc tmp).heap.size = W.heap.size + 1 := by simp
  have hlow := h.low
  refine ⟨hb1, ⟨⟨_, hb1.set _, ?_⟩, box_other hmb (ne h.mapb (by decide)), ⟨D, ((m1.alloc tmp).kept hg (fun e => row_not_map hrow m1 Mb e.symm rfl)).setCell (a := ⟨Bl, 0, none⟩) hmn _, m2⟩, box_other hnb (ne h.nb (by decide)), box_other hvb (ne h.vb (by decide)), h.lows, by simp [World.setCell]; omega, ?_, ?_⟩, ?_⟩
  · rw [List.length_append, ents_snoc]
    exact own_set hr hb1 (by decide) _
  · intro y hy
    rcases List.mem_append.1 hy with q | q
    · exact h.ents y q
    · rw [List.mem_singleton.1 q]; exact hx
  · exact ((h.below.alloc h.low tmp).grown hg (by omega) (fun k e => (own_lt hrow e).1)).setCell (p := ⟨Bl, 0, none⟩) h.lows.1 _
  · refine (KeepF.kept ((Kept.refl [] W).alloc tmp)).trans ((KeepF.grown hg (fun r cs fr e q => ?_)).trans ⟨by simp [World.setCell], fun k cs fr hk => (Below.heap_setCell _ _ _ _ (fun e => ?_)).trans hk⟩)
    · obtain ⟨cs', fr', q'⟩ := own_type hrow e
      rw [alUp q' tmp] at q
      cases q
    · have e' : k = Bl := e
      subst e'
      rw [show w1.heap[k]? = _ from hb1] at hk
      cases hk
end Go.Proofs.YtnjajafmmociiaaGreatDoor
