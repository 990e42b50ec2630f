/- tree.parts: what stands in a tree, gone through by a closure that calls itself. -/
import Derived.Test.YtnjajafmmociiaaGreatDoorBx
import Derived.Test.YtnjajafmmociiaaGreatDoorTr
import Derived.Shelf.AbstractIn
namespace Go.Proofs.YtnjajafmmociiaaGreatDoor
open Go.RowKit Go.Shelf

/-- What comes: a place (a slice of numbers), and what stands there. -/
structure Part where
  ad : Option Addr
  cap : Nat
  path : List Nat
  t : Tr
  kad : Option Addr
  kcap : Nat
def Part.key (x : Part) : List Nat × Tr := (x.path, x.t)
def partV (x : Part) : Array Value := #[.slice x.ad x.path.length x.cap, .agg #[.int .u8 (x.t.op : Nat), .string x.t.name, .slice x.kad x.t.kids.length x.kcap]]
def ints (p : List Nat) : List Value := p.map fun i => .int .i64 (i : Nat)
theorem ints_len (p : List Nat) : (ints p).length = p.length := by simp [ints]

theorem cell_turn {W : World} {l : Nat} {ob ob' : Obj} (hl : W.heap[l]? = some ob) (hc : ob.isCells = false) {b o : Nat} {v : Value} (h : W.cell? ⟨b, o, none⟩ = some v) : (W.putObj l ob').cell? ⟨b, o, none⟩ = some v := by
  have hne : b ≠ l := by
    rintro rfl
    simp only [World.cell?, hl] at h
    cases ob <;> first | (simp at h; done) | (cases hc; done)
  exact (World.cell?_of_block (w := W) (a := ⟨b, o, none⟩) (World.putObj_heap_other hne)).trans h
theorem cell_own {X : Nat → Prop} {W W' : World} (k : KpX X W W') {b o : Nat} {v : Value} (hb : X b) (h : W.cell? ⟨b, o, none⟩ = some v) : W'.cell? ⟨b, o, none⟩ = some v := by
  obtain ⟨ob, hob⟩ : ∃ ob, W.heap[b]? = some ob := ⟨_, Array.getElem?_eq_getElem (World.block_lt_of_cell? W _ h)⟩
  exact (World.cell?_of_block (w := W) (a := ⟨b, o, none⟩) ((k.own b ob hb hob).trans hob.symm)).trans h

theorem YieldAt.anyDepth {F : Fence} (hd : F.depth = none) {m : Nat} (m' : Nat) {P : Program} {l : Nat} {args : Array Value} {W : World} {R : Ending → World → Prop} (h : YieldAt F m P l args W R) : YieldAt F m' P l args W R := by
  obtain ⟨fn, tmps, assign, body, hy, h1, h2⟩ := h
  exact ⟨fn, tmps, assign, body, hy, h1, fun c cs _ => h2 c cs (fun d h => by rw [hd] at h; cases h)⟩
/-- What is so of it where it is handed over. -/
structure PartAt (T : Nat → Prop) (t₀ : Tr) (x : Part) (W : World) : Prop where
  row : ∀ i (h : i < x.path.length), ∃ b, x.ad = some ⟨b, 0, none⟩ ∧ W.cell? ⟨b, i, none⟩ = some (.int .i64 (x.path[i] : Nat))
  tree : IsT T W x.t (.slice x.kad x.t.kids.length x.kcap)
  mem : x.key ∈ t₀.parts []
theorem partAt_kept (T : Nat → Prop) (t₀ : Tr) : AtKept (PartAt T t₀) :=
  ⟨fun k h => ⟨fun i hi => by obtain ⟨b, e, c⟩ := h.row i hi; exact ⟨b, e, cell_kept0 k c⟩, h.tree.cells (fun _ h => h) (fun _ _ _ _ c => cell_kept0 k c), h.mem⟩,
   fun hl hc h => ⟨fun i hi => by obtain ⟨b, e, c⟩ := h.row i hi; exact ⟨b, e, cell_turn hl hc c⟩, h.tree.cells (fun _ h => h) (fun _ _ _ _ c => cell_turn hl hc c), h.mem⟩⟩

/-- The closure's own: yield, the place, itself. -/
structure WalkAt (l By Bp Bw base : Nat) (X : Nat → Prop) (p : List Nat) (W : World) : Prop where
  yld : Boxed W By 167 (.func (.yield l) #[] #[])
  self : Boxed W Bw 66 (.func (.func 101) #[] #[.pointer (some ⟨By, 0, none⟩), .pointer (some ⟨Bp, 0, none⟩), .pointer (some ⟨Bw, 0, none⟩)])
  place : ∃ v, Boxed W Bp 109 v ∧ W.ownsRow base 3 1 v p.length (ints p) ∧ ∀ g, v.ownBlock = some g → X g
  xy : X By
  xp : X Bp
  xw : X Bw
theorem WalkAt.kpx {l By Bp Bw base : Nat} {X : Nat → Prop} {p : List Nat} {W W' : World} (h : WalkAt l By Bp Bw base X p W) (k : KpX X W W') : WalkAt l By Bp Bw base X p W' := by
  obtain ⟨v, h1, h2, h3⟩ := h.place
  refine ⟨k.own _ _ h.xy h.yld, k.own _ _ h.xw h.self, ⟨v, k.own _ _ h.xp h1, ?_, h3⟩, h.xy, h.xp, h.xw⟩
  rcases h2 with ⟨e, ⟨rfl, h0⟩ | ⟨g, cap, cur, rfl, q1, q2, q3⟩⟩
  · exact ⟨e, .inl ⟨rfl, h0⟩⟩
  · exact ⟨e, .inr ⟨g, cap, cur, rfl, q1, k.own _ _ (h3 g rfl) q2, q3⟩⟩
theorem WalkAt.kept {l By Bp Bw base : Nat} {X : Nat → Prop} {p : List Nat} {W W' : World} (h : WalkAt l By Bp Bw base X p W) (k : Kept [] W W') : WalkAt l By Bp Bw base X p W' := h.kpx (KpX.of_kept k)
theorem WalkAt.more {l By Bp Bw base : Nat} {X Y : Nat → Prop} {p : List Nat} {W : World} (h : WalkAt l By Bp Bw base X p W) (hY : ∀ k, X k → Y k) : WalkAt l By Bp Bw base Y p W := by
  obtain ⟨v, h1, h2, h3⟩ := h.place
  exact ⟨h.yld, h.self, ⟨v, h1, h2, fun g e => hY g (h3 g e)⟩, hY _ h.xy, hY _ h.xp, hY _ h.xw⟩

theorem Tryz.infoInt : (Tryz.prog.info? 3).map (fun i => (i.zero, i.size, i.bytes)) = some (some (.int .i64 0), 1, 8) := by kernel_rfl
theorem row_slice {W : World} {base : Nat} {v : Value} {p : List Nat} (h : W.ownsRow base 3 1 v p.length (ints p)) : ∃ ad cap, v = .slice ad p.length cap := by
  rcases h.2 with ⟨rfl, h0⟩ | ⟨g, cap, cur, rfl, _⟩
  · exact ⟨none, 0, by rw [h0]⟩
  · exact ⟨_, _, rfl⟩
theorem row_kept0 {W W' : World} {base : Nat} {e : TypeId} {size : Nat} {v : Value} {n : Nat} {xs : List Value} (h : W.ownsRow base e size v n xs) (k : Kept [] W W') : W'.ownsRow base e size v n xs := by
  refine h.kept (grownBy_of_kept k) ?_
  rcases h.2 with ⟨rfl, _⟩ | ⟨g, cap, cur, rfl, _⟩
  · exact .inl rfl
  · exact .inr (by simp [Value.ownBlock])
/-- The place is one longer: an append, and its store. -/
theorem place_grown {l By Bp Bw base gr cap i : Nat} {X T : Nat → Prop} {p : List Nat} {wr w1 : World} {A B : Obj} {v : Value} (hA : WalkAt l By Bp Bw base X p wr) (hv : Boxed wr Bp 109 v) (hown : wr.ownsRow base 3 1 v p.length (ints p)) (hpx : ∀ g, v.ownBlock = some g → X g)
    (hXL : ∀ k, X k → k < wr.heap.size) (hT : ∀ k, T k → k < base) (hb2 : base ≤ Bp) (hn1 : By ≠ Bp) (hn3 : Bp ≠ Bw)
    (hown' : w1.ownsRow base 3 1 (.slice (some ⟨gr, 0, none⟩) (p.length + 1) cap) (p.length + 1) (ints p ++ [.int .i64 (i : Nat)])) (hgrow : ((wr.alloc A).alloc B).grownBy w1 v.ownBlock) (hat : v.ownBlock = some gr ∨ gr = ((wr.alloc A).alloc B).heap.size) :
    Boxed w1 Bp 109 v ∧ w1.heap[Bw]? = wr.heap[Bw]? ∧ w1.heap[wr.heap.size]? = some A ∧ ∃ X' : Nat → Prop, (∀ k, X k → X' k) ∧ WalkAt l By Bp Bw base X' (p ++ [i]) (w1.setCell ⟨Bp, 0, none⟩ (.slice (some ⟨gr, 0, none⟩) (p.length + 1) cap)) ∧ KpX T wr (w1.setCell ⟨Bp, 0, none⟩ (.slice (some ⟨gr, 0, none⟩) (p.length + 1) cap)) ∧
      (∀ k, X' k → k < (w1.setCell ⟨Bp, 0, none⟩ (.slice (some ⟨gr, 0, none⟩) (p.length + 1) cap)).heap.size) ∧
      ∀ (J : (Nat → Prop) → List Part → World → Prop) (pre : List Part), Abide J → J X pre wr → J X' pre (w1.setCell ⟨Bp, 0, none⟩ (.slice (some ⟨gr, 0, none⟩) (p.length + 1) cap)) := by
  have kV : Kept [] wr ((wr.alloc A).alloc B) := ((Kept.refl [] wr).alloc _).alloc _
  have zV : ((wr.alloc A).alloc B).heap.size = wr.heap.size + 2 := by simp
  have hAV : ((wr.alloc A).alloc B).heap[wr.heap.size]? = some A := by rw [Below.heap_alloc _ _ _ (by simp)]; exact heap_alloc_new wr _
  have hv1 : Boxed w1 Bp 109 v := ((hv.alloc A).alloc B).kept hgrow (hv.not_row (by decide) hown)
  have hy1 : Boxed w1 By _ _ := ((hA.yld.alloc A).alloc B).kept hgrow (hA.yld.not_row (by decide) hown)
  have hw1 : Boxed w1 Bw _ _ := ((hA.self.alloc A).alloc B).kept hgrow (hA.self.not_row (by decide) hown)
  have hz := hgrow.size
  have hs4 : ∀ u, (w1.setCell ⟨Bp, 0, none⟩ u).heap.size = w1.heap.size := fun u => by simp [World.setCell]
  have hlow : ∀ g, v.ownBlock = some g → base ≤ g ∧ g < wr.heap.size := fun g e => own_lt hown e
  have lp := hv.lt
  have hkb : w1.heap[wr.heap.size]? = some A := by
    rw [hgrow.block _ (by omega) (fun e => ?_)]
    · exact hAV
    · have := (hlow _ e.symm).2; omega
  refine ⟨hv1, hw1.trans hA.self.symm, hkb, fun k => X k ∨ (wr.heap.size ≤ k ∧ k < w1.heap.size), fun k h => .inl h, ⟨box_other hy1 hn1, box_other hw1 hn3.symm, ⟨_, hv1.set _, ?_, ?_⟩, .inl hA.xy, .inl hA.xp, .inl hA.xw⟩, ?_, ?_, ?_⟩
  · have := own_set hown' hv1 (by decide) (.slice (some ⟨gr, 0, none⟩) (p.length + 1) cap)
    rw [List.length_append, show ints (p ++ [i]) = ints p ++ [.int .i64 (i : Nat)] from by simp [ints]]
    exact this
  · intro g e
    obtain rfl : gr = g := by simpa [Value.ownBlock] using e
    have := (own_lt hown' rfl).2
    rcases hat with h | h
    · exact .inl (hpx _ h)
    · exact .inr ⟨by omega, this⟩
  · refine (KpX.of_kept kV).trans ((KpX.grown hgrow (fun r e hr => ?_)).trans (KpX.setCell (fun hr => ?_) _))
    · have := hT r hr; have := (hlow r e).1; omega
    · have := hT Bp hr; omega
  · intro k h
    rw [hs4]
    rcases h with h | h
    · have := hXL k h; omega
    · exact h.2
  · intro J pre hJ hj
    have j1 : J (fun k => X k ∨ (wr.heap.size ≤ k ∧ k < w1.heap.size)) pre wr := hJ.more hj (fun k h => h.imp id (fun h => h.1))
    exact hJ.turn (hJ.turn (hJ.kept j1 kV) hgrow (fun r e => .inl (hpx r e))) (grownBy_setCell' w1 Bp _) (fun r e => by cases e; exact .inl hA.xp)
/-- The place is one shorter again. -/
theorem place_cut {l By Bp Bw base g cap i : Nat} {X T : Nat → Prop} {p : List Nat} {W : World} (hA : WalkAt l By Bp Bw base X (p ++ [i]) W) (hv : Boxed W Bp 109 (.slice (some ⟨g, 0, none⟩) (p.length + 1) cap)) (hown : W.ownsRow base 3 1 (.slice (some ⟨g, 0, none⟩) (p.length + 1) cap) (p ++ [i]).length (ints (p ++ [i]))) (hpx : X g)
    (hT : ∀ k, T k → k < base) (hb2 : base ≤ Bp) (hn1 : By ≠ Bp) (hn3 : Bp ≠ Bw) :
    WalkAt l By Bp Bw base X p (W.setCell ⟨Bp, 0, none⟩ (.slice (some ⟨g, 0, none⟩) p.length cap)) ∧ KpX T W (W.setCell ⟨Bp, 0, none⟩ (.slice (some ⟨g, 0, none⟩) p.length cap)) ∧
      (W.setCell ⟨Bp, 0, none⟩ (.slice (some ⟨g, 0, none⟩) p.length cap)).heap.size = W.heap.size ∧
      ∀ (J : (Nat → Prop) → List Part → World → Prop) (pre : List Part), Abide J → J X pre W → J X pre (W.setCell ⟨Bp, 0, none⟩ (.slice (some ⟨g, 0, none⟩) p.length cap)) := by
  have ho : W.ownsRow base 3 1 (.slice (some ⟨g, 0, none⟩) p.length cap) p.length (ints p) := by
    rcases hown with ⟨e0, ⟨e, _⟩ | ⟨g', cap', cur, e, q1, q2, q3, q4, q5, q6⟩⟩
    · cases e
    · simp only [Value.slice.injEq, Option.some.injEq, Addr.mk.injEq, and_true] at e
      obtain ⟨rfl, _, rfl⟩ := e
      refine ⟨by simp [ints], .inr ⟨g, cap, cur, rfl, q1, q2, by simp at q3; omega, q4, q5, ?_⟩⟩
      have := congrArg (List.take p.length) q6
      rw [List.take_take] at this
      rw [Nat.mul_one]
      have e2 : List.take p.length (ints (p ++ [i])) = ints p := by simp [ints]
      rw [e2, Nat.min_eq_left (by simp)] at this
      exact this
  have hg' : ∀ g', (Value.slice (some ⟨g, 0, none⟩) p.length cap).ownBlock = some g' → X g' := fun g' e => by
    obtain rfl : g = g' := by simpa [Value.ownBlock] using e
    exact hpx
  exact ⟨⟨box_other hA.yld hn1, box_other hA.self hn3.symm, ⟨_, hv.set _, own_set ho hv (by decide) _, hg'⟩, hA.xy, hA.xp, hA.xw⟩,
    KpX.setCell (fun hr => by have := hT Bp hr; omega) _, by simp [World.setCell], fun J pre hJ hj => hJ.turn hj (grownBy_setCell' W Bp _) (fun r e => by cases e; exact hA.xp)⟩
theorem parts_step {t : Tr} {p : List Nat} {i : Nat} (h : i < t.kids.length) : (p, t) :: kidsParts p (t.kids.take i) ++ t.kids[i].parts (p ++ [i]) <+: t.parts p := by
  rw [Tr.parts_eq t p, List.cons_append, ← kidsParts_take p t.kids i h, List.cons_prefix_cons]
  exact ⟨rfl, kidsParts_prefix p t.kids (i + 1)⟩

/-- What a walk through t owes. -/
def WalkEnds (l By Bp Bw base : Nat) (T : Nat → Prop) (J Jx : (Nat → Prop) → List Part → World → Prop) (t : Tr) (p : List Nat) (pre : List Part) (X : Nat → Prop) (W : World) (e : Ending) (W' : World) : Prop :=
  (e = .returned (.bool true) ∧ ∃ X' xs, (∀ k, X k → X' k) ∧ WalkAt l By Bp Bw base X' p W' ∧ KpX T W W' ∧ J X' (pre ++ xs) W' ∧ (∀ k, X' k → k < W'.heap.size) ∧ xs.map Part.key = t.parts p) ∨
  (e = .returned (.bool false) ∧ ∃ X' xs, Jx X' (pre ++ xs) W' ∧ xs.map Part.key <+: t.parts p)

set_option maxHeartbeats 1000000 in
set_option maxRecDepth 20000 in
theorem walk_in (l By Bp Bw base N : Nat) (T : Nat → Prop) (t₀ : Tr) (J Jx : (Nat → Prop) → List Part → World → Prop) (hJ : Abide J)
    (hY : ∀ m X pre x W1, J X pre W1 → PartAt T t₀ x W1 → (∀ k, X k → k < W1.heap.size) → pre.length < N → YieldAt Fence.wide m Tryz.prog l (partV x) W1 fun e W' =>
      (e = .returned (.bool true) ∧ J X (pre ++ [x]) W' ∧ KpX (orT T X) W1 W') ∨ (e = .returned (.bool false) ∧ Jx X (pre ++ [x]) W' ∧ KpX (orT T X) W1 W'))
    (hT : ∀ k, T k → k < base) (hb2 : base ≤ Bp) (hn1 : By ≠ Bp) (hn3 : Bp ≠ Bw) (t : Tr) :
    ∀ (m : Nat) (p : List Nat) (kv : Value) (X : Nat → Prop) (pre : List Part) (W : World), WalkAt l By Bp Bw base X p W → IsT T W t kv → J X pre W → (∀ k, X k → k < W.heap.size) → base ≤ W.heap.size →
      pre.length + t.size ≤ N → p.length + t.size ≤ 1099511627776 → (∀ y ∈ t.parts p, y ∈ t₀.parts []) →
      CallsIn Fence.wide m Tryz.prog 101 #[.agg #[.int .u8 (t.op : Nat), .string t.name, kv], .pointer (some ⟨By, 0, none⟩), .pointer (some ⟨Bp, 0, none⟩), .pointer (some ⟨Bw, 0, none⟩)] W
        (WalkEnds l By Bp Bw base T J Jx t p pre X W) := by
  have HY : Hid _ := hY
  have HJ : Hid (Abide J) := hJ
  have HT : Hid _ := hT
  clear hY hJ hT
  induction t using Tr.ind with
  | h t ih =>
    intro m p kv X pre W hA hI hj hX hbase hN hp hm
    have HIH : Hid _ := ih
    have HM : Hid _ := hm
    clear ih hm
    obtain ⟨kad, kcap, rfl⟩ := hI.slice
    obtain ⟨pv, hpl, hown, hpx⟩ := hA.place
    obtain ⟨pad, pcap, rfl⟩ : ∃ ad cap, pv = .slice ad p.length cap := by
      rcases hown.2 with ⟨rfl, h0⟩ | ⟨g, cap, cur, rfl, _⟩
      · exact ⟨none, 0, by rw [h0]⟩
      · exact ⟨_, _, rfl⟩
    refine callsIn_of_wp Tryz.func101 rfl trivial ?_ rfl
    simp only [Tryz.ntmps101, List.size_toArray, List.length_cons, List.length_nil, Nat.reduceAdd, Nat.reduceSub, Array.replicate_succ, Array.replicate_zero, List.push_toArray, List.append_toArray, List.nil_append, List.cons_append]
    have HA : Hid (WalkAt l By Bp Bw base X p W) := hA
    have HI : Hid (IsT T W t (.slice kad t.kids.length kcap)) := hI
    have HX : Hid _ := hX
    have cy := hA.yld.cell
    have cw := hA.self.cell
    have cp := hpl.cell
    have ly := hA.yld.lt
    have lw := hA.self.lt
    have lp := hpl.lt
    have ny1 : ¬ By = W.heap.size := by omega
    have ny2 : ¬ W.heap.size = By := by omega
    have nw1 : ¬ Bw = W.heap.size := by omega
    have nw2 : ¬ W.heap.size = Bw := by omega
    have np1 : ¬ Bp = W.heap.size := by omega
    have np2 : ¬ W.heap.size = Bp := by omega
    obtain ⟨W1, hW1⟩ : ∃ W1, W.alloc (.cells #[.int .u8 (t.op : Nat), .string t.name, .slice kad t.kids.length kcap] 25) = W1 := ⟨_, rfl⟩
    have k1 : Kept [] W W1 := by rw [← hW1]; exact (Kept.refl [] W).alloc _
    have z1 : W1.heap.size = W.heap.size + 1 := by rw [← hW1]; simp
    have hat : PartAt T t₀ ⟨pad, pcap, p, t, kad, kcap⟩ W1 := by
      refine ⟨fun i hi => ?_, HI.out.cells (fun _ h => h) (fun _ _ _ _ c => cell_kept0 k1 c), HM.out _ (by rw [Tr.parts_eq]; exact List.mem_cons_self ..)⟩
      rcases hown.2 with ⟨e, h0⟩ | ⟨g, cap, cur, e, q1, q2, q3, q4, q5, q6⟩
      · exact absurd hi (by rw [h0]; omega)
      · cases e
        refine ⟨g, rfl, cell_kept0 k1 ?_⟩
        rw [hown.cellAt i (by have : i < p.length := hi; omega)]
        have hi' : i < p.length := hi
        simp [ints, hi']
    obtain ⟨X1, hX1⟩ : ∃ X1 : Nat → Prop, (fun k => X k ∨ Between W W1 k) = X1 := ⟨_, rfl⟩
    have x1 : ∀ k, X k → X1 k := fun k h => by rw [← hX1]; exact .inl h
    have x1f : X1 W.heap.size := by rw [← hX1]; exact .inr ⟨Nat.le_refl _, by omega⟩
    have x1l : ∀ k, X1 k → k < W1.heap.size := fun k h => by
      rw [← hX1] at h
      rcases h with h | h
      · have := HX.out k h; omega
      · exact h.2
    have hj1 : J X1 pre W1 := by rw [← hX1]; exact HJ.out.lay hj k1
    obtain ⟨fn, tmps, assign, body, hy, hR⟩ := HY.out (m - 1) X1 pre ⟨pad, pcap, p, t, kad, kcap⟩ W1 hj1 hat x1l (by have := t.size_pos; omega)
    dsimp only [partV] at hy
    have bf : W1.heap[W.heap.size]? = some (.cells #[.int .u8 (t.op : Nat), .string t.name, .slice kad t.kids.length kcap] 25 (0, 0)) := by rw [← hW1]; exact heap_alloc_new W _
    have HA1 : Hid (WalkAt l By Bp Bw base X1 p W1) := (hA.more x1).kept k1
    have HI1 : Hid (IsT T W1 t (.slice kad t.kids.length kcap)) := hI.cells (fun _ h => h) (fun _ _ _ _ c => cell_kept0 k1 c)
    have HBF : Hid _ := bf
    have HX1 : Hid (∀ k, X k → X1 k) := x1
    have HX1L : Hid (∀ k, X1 k → k < W1.heap.size) := x1l
    have HK1 : Hid (Kept [] W W1) := k1
    have HZ1 : Hid (W1.heap.size = W.heap.size + 1) := z1
    clear hA hI hj hX hown hat hpl hpx hX1 hj1 bf x1 x1l k1 z1
    subst hW1
    gi_wp2
    refine ⟨fun h => by simp [Fence.wide] at h, hR.mono ?_⟩
    clear hR hy
    rintro e W2 (⟨rfl, hJ2, hk2⟩ | ⟨rfl, hJx2, hk2⟩)
    · have HK2 : Hid _ := hk2
      have HJ2 : Hid _ := hJ2
      have hf := HK2.out.own _ _ (.inl x1f) HBF.out
      have cf2 : W2.cell? ⟨W.heap.size, 2, none⟩ = some (.slice kad t.kids.length kcap) := (cell_of hf 2).trans rfl
      have hlen : t.kids.length ≤ 1099511627776 := by have := t.kids_size; omega
      clear hk2 hJ2 hf
      gi_wp2
      gi_loopw [16] (fun v wr => ∃ i : Nat, v = .int .i64 (i : Nat) ∧ i ≤ t.kids.length ∧ Hid (∃ X' xs, (∀ k, X1 k → X' k) ∧ WalkAt l By Bp Bw base X' p wr ∧ KpX T W wr ∧ J X' (pre ++ xs) wr ∧ (∀ k, X' k → k < wr.heap.size) ∧ base ≤ wr.heap.size ∧ xs.map Part.key = (p, t) :: kidsParts p (t.kids.take i)) ∧ Hid (IsT T wr t (.slice kad t.kids.length kcap))) (fun v _ => t.kids.length - (intOf v).toNat)
      case atStart =>
        have kT : KpX T W W2 := (KpX.of_kept HK1.out).trans (HK2.out.mono (fun _ h => .inr h))
        refine ⟨0, rfl, Nat.zero_le _, ⟨X1, [⟨pad, pcap, p, t, kad, kcap⟩], fun _ h => h, HA1.out.kpx (HK2.out.mono (fun _ h => .inl h)), kT, HJ2.out, fun k h => Nat.lt_of_lt_of_le (HX1L.out k h) HK2.out.size, ?_, rfl⟩, HI1.out.cells (fun _ h => h) (fun _ _ _ h c => cell_own HK2.out (.inr h) c)⟩
        have := HK2.out.size
        have := HZ1.out
        omega
      case round =>
        obtain ⟨i, rfl, hi, HR, HIr⟩ := hrel
        clear cf2 cy cw cp HA HI HA1 HI1 HBF HX1L HK1 HZ1 HK2 HJ2 HX ly lw lp ny1 ny2 nw1 nw2 np1 np2
        by_cases hlt : i < t.kids.length
        · obtain ⟨kb, koff, rfl, hTb, hkid⟩ := HIr.out.kid (by omega)
          obtain ⟨kv, c0, c1, c2, hIk⟩ := hkid i hlt
          obtain ⟨ckad, ckcap, rfl⟩ := hIk.slice
          obtain ⟨X2, xs, hX2, hA2, hT2, hJ2, hXL2, hb2', hxs⟩ := HR.out
          obtain ⟨k, hk⟩ : ∃ k, t.kids[i] = k := ⟨_, rfl⟩
          rw [hk] at c0 c1 c2 hIk
          have HIK : Hid (IsT T wr k (.slice ckad k.kids.length ckcap)) := hIk
          have HA2 : Hid _ := hA2
          obtain ⟨pv, hpl, hown, hpx⟩ := hA2.place
          have cy := hA2.yld.cell
          have cw := hA2.self.cell
          have cp := hpl.cell
          have ly := hA2.yld.lt
          have lw := hA2.self.lt
          have lp := hpl.lt
          have lk : kb < wr.heap.size := World.block_lt_of_cell? wr _ c0
          have ny1 : ¬ By = wr.heap.size := by omega
          have ny2 : ¬ wr.heap.size = By := by omega
          have nw1 : ¬ Bw = wr.heap.size := by omega
          have nw2 : ¬ wr.heap.size = Bw := by omega
          have np1 : ¬ Bp = wr.heap.size := by omega
          have np2 : ¬ wr.heap.size = Bp := by omega
          have nk1 : ¬ kb = wr.heap.size := by omega
          have nk2 : ¬ wr.heap.size = kb := by omega
          obtain ⟨pad', pcap', rfl⟩ : ∃ ad cap, pv = .slice ad p.length cap := by
            rcases hown.2 with ⟨rfl, h0⟩ | ⟨g, cap, cur, rfl, _⟩
            · exact ⟨none, 0, by rw [h0]⟩
            · exact ⟨_, _, rfl⟩
          have HHK : Hid _ := hk
          have HO : Hid _ := hown
          have HXS : Hid _ := hxs
          have HX2' : Hid _ := hX2
          have HXL2 : Hid _ := hXL2
          have HJ2' : Hid _ := hJ2
          have HT2 : Hid _ := hT2
          have HPX : Hid _ := hpx
          have HPL : Hid _ := hpl
          have hii : (i : Int) < (t.kids.length : Int) := by omega
          have hps := parts_step (p := p) hlt
          rw [hk] at hps
          have HPS : Hid ((p, t) :: kidsParts p (t.kids.take i) ++ k.parts (p ++ [i]) <+: t.parts p) := hps
          have hks : k.size < t.size := Tr.kid_size (by rw [← hk]; exact List.getElem_mem _)
          have hkm : k ∈ t.kids := by rw [← hk]; exact List.getElem_mem _
          have hxl : xs.length + k.size ≤ t.size := by
            have h1 := hps.length_le
            rw [List.length_append, ← hxs, List.length_map, Tr.parts_length, Tr.parts_length] at h1
            exact h1
          obtain ⟨V, hV⟩ : ∃ V, (wr.alloc (.cells #[.int .u8 (k.op : Nat), .string k.name, .slice ckad k.kids.length ckcap] 25)).alloc (.cells #[.int .i64 (i : Nat)] 3) = V := ⟨_, rfl⟩
          have kV : Kept [] wr V := by rw [← hV]; exact ((Kept.refl [] wr).alloc _).alloc _
          have zV : V.heap.size = wr.heap.size + 2 := by rw [← hV]; simp
          have bV : V.heap[wr.heap.size + 1]? = some (.cells #[.int .i64 (i : Nat)] 3 (0, 0)) := by rw [← hV]; have := heap_alloc_new (wr.alloc (.cells #[.int .u8 (k.op : Nat), .string k.name, .slice ckad k.kids.length ckcap] 25)) (.cells #[.int .i64 (i : Nat)] 3); rwa [World.size_alloc] at this
          have HOV : Hid (V.ownsRow base 3 1 (.slice pad' p.length pcap') p.length (ints p)) := row_kept0 hown kV
          have HBV : Hid _ := bV
          have HZV : Hid _ := zV
          have HV : Hid _ := hV
          obtain ⟨i0, hi0, hz0, hz1, hz2⟩ := info_parts Tryz.infoInt
          have HI0 : Hid _ := hi0
          have HIN : Hid _ := hz0
          have HIS : Hid _ := hz1
          have HIB : Hid _ := hz2
          clear hkid hIk hA2 hk hown hxs hX2 hXL2 hJ2 hT2 hpx hpl hps kV zV bV hV hi0 hz0 hz1 hz2
          gi_wp2_with (gi_at_builtin; rw [HV.out]; refine append_in _ rfl _ _ 109 rfl base 3 i0 _ 1 8 Tryz.underlying109 HI0.out HIN.out HIS.out HIB.out rfl (by decide) _ _ _ rfl HOV.out ⟨wr.heap.size + 1, 0, none⟩ 1 1 [.int .i64 (i : Nat)] rfl rfl (World.news_of_block (cs := #[.int .i64 (i : Nat)]) (t := 3) (fr := (0, 0)) HBV.out) (by simp [Value.oneCell']) (by omega) (by unfold maxLen; omega) (by omega) (by rw [HZV.out]; omega) ?_; intro gr cap w1 hown' hgrow hat; have hg := place_grown (A := .cells #[.int .u8 (k.op : Nat), .string k.name, .slice ckad k.kids.length ckcap] 25) (B := .cells #[.int .i64 (i : Nat)] 3) HA2.out HPL.out HO.out HPX.out HXL2.out HT.out hb2 hn1 hn3 hown' (by rw [HV.out]; exact hgrow) (by rw [HV.out]; exact hat); obtain ⟨hv1, hwq, hkq, X4, hX4, hA4, hT4, hXL4, hJ4⟩ := hg; have cp1 := hv1.cell; have fp1 := hv1.frozen; have cw1 : w1.cell? ⟨Bw, 0, none⟩ = _ := Boxed.cell (hwq.trans HA2.out.self); have d0 : w1.cell? ⟨wr.heap.size, 0, none⟩ = some (.int .u8 (k.op : Nat)) := (cell_of hkq 0).trans rfl; have d1 : w1.cell? ⟨wr.heap.size, 1, none⟩ = some (.string k.name) := (cell_of hkq 1).trans rfl; have d2 : w1.cell? ⟨wr.heap.size, 2, none⟩ = some (.slice ckad k.kids.length ckcap) := (cell_of hkq 2).trans rfl; have HX4 : Hid _ := hX4; have HA4 : Hid _ := hA4; have HT4 : Hid _ := hT4; have HXL4 : Hid _ := hXL4; have HJ4 : Hid _ := hJ4; clear hown' hgrow hat hv1 hX4 hA4 hT4 hXL4 hJ4 hwq hkq)
          refine ⟨trivial, fun h => by simp [Fence.wide] at h, ?_⟩
          refine (HIH.out k hkm (m - 1) (p ++ [i]) (.slice ckad k.kids.length ckcap) X4 (pre ++ xs) _ HA4.out (HIK.out.keep (fun _ h => h) (fun _ _ h ho => HT4.out.own _ _ h ho)) (HJ4.out J _ HJ.out HJ2'.out) HXL4.out (Nat.le_trans hb2' HT4.out.size) (by rw [List.length_append]; omega) (by rw [List.length_append, List.length_singleton]; omega) (fun y hy => HM.out y (HPS.out.subset (List.mem_append_right _ hy)))).mono ?_
          rintro e W5 (⟨rfl, X5, ys, hX5, hA5, hT5, hJ5, hXL5, hys⟩ | ⟨rfl, X5, ys, hJx5, hys⟩)
          · obtain ⟨v5, hv5, hown5, hpx5⟩ := hA5.place
            obtain ⟨g5, cap5, rfl⟩ : ∃ g cap, v5 = .slice (some ⟨g, 0, none⟩) (p.length + 1) cap := by
              obtain ⟨g, cap, e⟩ := ownsRow_succ (show W5.ownsRow base 3 1 v5 (p.length + 1) _ from by rw [List.length_append] at hown5; exact hown5)
              exact ⟨g, cap, e⟩
            have hc5 := place_cut hA5 hv5 hown5 (hpx5 _ rfl) HT.out hb2 hn1 hn3
            have cp5 := hv5.cell
            have fp5 := hv5.frozen
            have HC5 : Hid _ := hc5
            have HX5 : Hid _ := hX5
            have HT5 : Hid _ := hT5
            have HJ5 : Hid _ := hJ5
            have HXL5 : Hid _ := hXL5
            have HYS : Hid _ := hys
            have hle5 : p.length + 1 ≤ cap5 := by
              rcases hown5.2 with ⟨e, _⟩ | ⟨g, cap, cur, e, _, _, q, _⟩
              · cases e
              · simp only [Value.slice.injEq] at e
                obtain ⟨_, _, rfl⟩ := e
                simpa using q
            clear hA5 hX5 hT5 hJ5 hXL5 hys hv5 hown5 hpx5 hc5 cy cw cp c0 c1 c2 d0 d1 d2 cp1 fp1 cw1
            gi_wp2
            obtain ⟨hA6, hT6, hz6, hJ6⟩ := HC5.out
            have hTr := (HT4.out.trans HT5.out).trans hT6
            refine ⟨⟨i + 1, by go_num, by omega, ⟨X5, xs ++ ys, fun k h => HX5.out k (HX4.out k (HX2'.out k h)), hA6, HT2.out.trans hTr, by rw [← List.append_assoc]; exact hJ6 J _ HJ.out HJ5.out, fun k h => by rw [hz6]; exact HXL5.out k h, Nat.le_trans hb2' hTr.size, ?_⟩, HIr.out.keep (fun _ h => h) (fun _ _ h ho => hTr.own _ _ h ho)⟩, ?_⟩
            · rw [List.map_append, HXS.out, HYS.out, kidsParts_take p t.kids i hlt, HHK.out, List.cons_append]
            · simp [intOf]; omega
          · gi_wp2
            go_ret
            refine .inr ⟨rfl, X5, xs ++ ys, by rw [← List.append_assoc]; exact hJx5, ?_⟩
            refine List.IsPrefix.trans ?_ HPS.out
            rw [List.map_append, HXS.out, List.prefix_append_right_inj]
            exact hys
        · obtain rfl : i = t.kids.length := by omega
          gi_wp2
          go_ret
          obtain ⟨X2, xs, q1, q2, q3, q4, q5, _, q6⟩ := HR.out
          exact .inl ⟨rfl, X2, xs, fun k h => q1 k (HX1.out k h), q2, q3, q4, q5, by rw [q6, List.take_length, Tr.parts_eq]⟩
    · gi_wp2
      go_ret
      exact .inr ⟨rfl, X1, [_], hJx2, by rw [Tr.parts_eq]; exact ⟨_, rfl⟩⟩

/-- What parts' function value leans on: its tree. -/
structure PartsAt (Bf : Nat) (T : Nat → Prop) (t : Tr) (kad : Option Addr) (kcap : Nat) (W : World) : Prop where
  box : W.heap[Bf]? = some (.cells #[.int .u8 (t.op : Nat), .string t.name, .slice kad t.kids.length kcap] 25 (0, 0))
  tree : IsT T W t (.slice kad t.kids.length kcap)
  low : ∀ k, T k → k < W.heap.size

set_option maxHeartbeats 1000000 in
set_option maxRecDepth 20000 in
theorem parts_goes (m : Nat) (Bf : Nat) (T : Nat → Prop) (t : Tr) (kad : Option Addr) (kcap : Nat) (w : World) (hP : PartsAt Bf T t kad kcap w) (hs : t.size ≤ 1099511627776) :
    GoesAt Fence.wide m Tryz.prog 100 #[.pointer (some ⟨Bf, 0, none⟩)] partV (PartAt T t) T (fun k => k = Bf) (fun ys => ys.map Part.key = t.parts []) (fun pre => pre.map Part.key <+: t.parts []) t.size w := by
  intro l J Jx X W hW hJ hJx hY h0 hX0 hX
  have hTw := hP.low
  have hbx : W.heap[Bf]? = _ := (hW.block _ (lt_of hP.box)).trans hP.box
  have hI : IsT T W t (.slice kad t.kids.length kcap) := hP.tree.keep (fun _ h => h) (fun k o hk ho => (hW.block k (hTw k hk)).trans ho)
  have b0 : W.cell? ⟨Bf, 0, none⟩ = some (.int .u8 (t.op : Nat)) := (cell_of hbx 0).trans rfl
  have b1 : W.cell? ⟨Bf, 1, none⟩ = some (.string t.name) := (cell_of hbx 1).trans rfl
  have b2 : W.cell? ⟨Bf, 2, none⟩ = some (.slice kad t.kids.length kcap) := (cell_of hbx 2).trans rfl
  have lb := lt_of hbx
  have HY : Hid _ := hY
  have HJ : Hid (Abide J) := hJ
  have HI : Hid (IsT T W t (.slice kad t.kids.length kcap)) := hI
  have HT : Hid (∀ k, T k → k < W.heap.size) := fun k hk => Nat.lt_of_lt_of_le (hTw k hk) hW.size
  have HX : Hid _ := hX
  have HJ0 : Hid _ := h0
  clear hY hJ hJx hI hW hP hTw hX h0 hbx hX0
  refine callsIn_of_wp Tryz.func100 rfl trivial ?_ rfl
  simp only [Tryz.ntmps100, List.size_toArray, List.length_cons, List.length_nil, Nat.reduceAdd, Nat.reduceSub, Array.replicate_succ, Array.replicate_zero, List.push_toArray, List.append_toArray, List.nil_append, List.cons_append]
  have hn1 : ¬ Bf = W.heap.size := by omega
  have hn2 : ¬ W.heap.size = Bf := by omega
  have hn3 : ¬ Bf = W.heap.size + 1 := by omega
  have hn4 : ¬ W.heap.size + 1 = Bf := by omega
  have hn5 : ¬ Bf = W.heap.size + 1 + 1 := by omega
  have hn6 : ¬ W.heap.size + 1 + 1 = Bf := by omega
  have hcf : ∀ A B C : Obj, (((W.alloc A).alloc B).alloc C).cell? ⟨Bf, 0, none⟩ = some (.int .u8 (t.op : Nat)) ∧ (((W.alloc A).alloc B).alloc C).cell? ⟨Bf, 1, none⟩ = some (.string t.name) ∧ (((W.alloc A).alloc B).alloc C).cell? ⟨Bf, 2, none⟩ = some (.slice kad t.kids.length kcap) := fun A B C =>
    have kk := (((Kept.refl [] W).alloc A).alloc B).alloc C
    ⟨cell_kept0 kk b0, cell_kept0 kk b1, cell_kept0 kk b2⟩
  have e0 := fun A B C => (hcf A B C).1
  have e1 := fun A B C => (hcf A B C).2.1
  have e2 := fun A B C => (hcf A B C).2.2
  clear hcf
  gi_wp2
  clear e0 e1 e2
  obtain ⟨V, hV⟩ : ∃ V, ((W.alloc (.cells #[.func (.yield l) #[] #[]] 167)).alloc (.cells #[.slice none 0 0] 109)).alloc (.cells #[.func (.func 101) #[] #[.pointer (some ⟨W.heap.size, 0, none⟩), .pointer (some ⟨W.heap.size + 1, 0, none⟩), .pointer (some ⟨W.heap.size + 1 + 1, 0, none⟩)]] 66) = V := ⟨_, rfl⟩
  have kV : Kept [] W V := by rw [← hV]; exact (((Kept.refl [] W).alloc _).alloc _).alloc _
  have zV : V.heap.size = W.heap.size + 3 := by rw [← hV]; simp
  have v1 : Boxed V W.heap.size 167 (.func (.yield l) #[] #[]) := by rw [← hV]; exact ((Boxed.new W _ _).alloc _).alloc _
  have v2 : Boxed V (W.heap.size + 1) 109 (.slice none 0 0) := by
    rw [← hV]; refine Boxed.alloc ?_ _
    have := Boxed.new (W.alloc (.cells #[.func (.yield l) #[] #[]] 167)) 109 (.slice none 0 0)
    rwa [World.size_alloc] at this
  have v3 : Boxed V (W.heap.size + 1 + 1) 66 (.func (.func 101) #[] #[.pointer (some ⟨W.heap.size, 0, none⟩), .pointer (some ⟨W.heap.size + 1, 0, none⟩), .pointer (some ⟨W.heap.size + 1 + 1, 0, none⟩)]) := by
    rw [← hV]
    have := Boxed.new ((W.alloc (.cells #[.func (.yield l) #[] #[]] 167)).alloc (.cells #[.slice none 0 0] 109)) 66 (.func (.func 101) #[] #[.pointer (some ⟨W.heap.size, 0, none⟩), .pointer (some ⟨W.heap.size + 1, 0, none⟩), .pointer (some ⟨W.heap.size + 1 + 1, 0, none⟩)])
    rwa [World.size_alloc, World.size_alloc] at this
  rw [hV]
  clear hV
  refine ⟨trivial, fun h => by simp [Fence.wide] at h, ?_⟩
  refine (walk_in l W.heap.size (W.heap.size + 1) (W.heap.size + 1 + 1) W.heap.size t.size T t J Jx HJ.out (fun m' X pre x W1 a b c d => YieldAt.anyDepth rfl m' (HY.out X pre x W1 a b c d)) HT.out (by omega) (by omega) (by omega) t (m - 1) [] (.slice kad t.kids.length kcap) (fun k => X k ∨ Between W V k) [] V
    ⟨v1, v3, ⟨_, v2, World.ownsRow_nil _ _ _ _, fun g e => by cases e⟩, .inr ⟨by omega, by omega⟩, .inr ⟨by omega, by omega⟩, .inr ⟨by omega, by omega⟩⟩ (HI.out.cells (fun _ h => h) (fun _ _ _ _ c => cell_kept0 kV c)) (HJ.out.lay HJ0.out kV) (fun k h => ?_) (by omega) (by simp) (by simpa using hs) (fun y h => h)).mono ?_
  · rcases h with h | h
    · have := HX.out k h; omega
    · exact h.2
  rintro e W2 (⟨rfl, X2, xs, _, _, _, hJ2, _, hxs⟩ | ⟨rfl, X2, xs, hJx2, hxs⟩)
  · gi_wp2
    go_end0
    exact ⟨⟨_, rfl⟩, .inl ⟨xs, X2, hxs, hJ2⟩⟩
  · gi_wp2
    go_end0
    exact ⟨⟨_, rfl⟩, .inr ⟨xs, X2, hxs, hJx2⟩⟩

set_option maxHeartbeats 1000000 in
theorem parts_any (t : Tr) (kv : Value) (w : World) :
    Calls Tryz.prog 73 #[.agg #[.int .u8 (t.op : Nat), .string t.name, kv]] w fun e w' => e = .returned (.func (.func 100) #[] #[.pointer (some ⟨w.heap.size, 0, none⟩)]) ∧ w' = w.alloc (.cells #[.int .u8 (t.op : Nat), .string t.name, kv] 25) := by
  go_enter Tryz.func73, Tryz.ntmps73
  go_wp2
  go_ret
  exact ⟨rfl, rfl⟩
end Go.Proofs.YtnjajafmmociiaaGreatDoor
