/- Regions that draw, in a plain body: what only reads is taken first. -/
import Derived.Test.YtnjajafmmociiaaGreatDoorKeeps
import Derived.OrdersHeld
import Derived.Test.YtnjajafmmociiaaGreatDoorOwnFA
import Derived.Deep.CutRange
import Derived.Deep.RegionHeld3
import Derived.Lib.AppendZeros
import Derived.Laws.ResultCell
namespace Go.Proofs.YtnjajafmmociiaaGreatDoor
open Go.RowKit

/-- The post that knows the plain end alone. -/
def Q1Hp (J : Act → World → Prop) : Exit → Act → World → Prop
  | .normal, a, w => J a w
  | _, _, _ => False
theorem wp_regionHp {P : Program} {ops : Array Oper} {id : Nat} {a : Act} {w : World} {Q : Exit → Act → World → Prop} (S : World → Prop) (hm : P.follows .mixedOrders = true)
    (h : wpAnyH P .any ops (Q1Hp (Q .normal)) S ops.size (Array.replicate ops.size false) a w.drew) : (Code.region id ops true).wp P Q a w :=
  Code.wp_mono (fun e a' w' q => by cases e <;> first | exact q | exact q.elim) (wp_region_held hm h)
section
variable {P : Program} {ops : Array Oper} {md : Region.Mode} {J : Act → World → Prop} {S : World → Prop}
theorem wantedDHp {o : Oper} {a : Act} (hg : o.guard = none) : Region.wanted o (yielded ops a.tmps) = true := by simp [Region.wanted, hg]
theorem heldTakeHp (i : Nat) (d : Option Tmp) (v : Value) {o : Oper} {fuel : Nat} {L : Array Bool} {a : Act} {w : World} (hi : ops[i]? = some o) (hg : o.guard = none) (hdd : o.dst = d)
    (hs : Region.noSelect ops = true) (hf : Region.free md ops L i = true) (hr : (Region.ready md ops L).contains i = true) (hy : ∀ w, S w → (execOp a.eval o).run P w = .ok (.value v) w) (hS : S w)
    (h : wpAnyH P md ops (Q1Hp J) S fuel (L.setIfInBounds i true) (a.put d v) w) : wpAnyH P md ops (Q1Hp J) S (fuel + 1) L a w :=
  wpAnyH_take hi hs hf hr (fun _ _ _ h => h) (.inl ⟨wantedDHp hg, hy⟩) hS (by rw [hdd]; exact h)
theorem heldOneHp (i : Nat) {fuel : Nat} {L : Array Bool} {a : Act} {w : World} (hr : Region.ready md ops L = [i]) (h : wpOp P ops (Q1Hp J) i (fun a' w' => S w' ∧ wpAnyH P md ops (Q1Hp J) S fuel (L.setIfInBounds i true) a' w') a w) : wpAnyH P md ops (Q1Hp J) S (fuel + 1) L a w :=
  wpAnyH_all hr (by simp) (fun k hk => by rw [List.mem_singleton.1 hk]; exact h)
theorem heldTwoHp (i j : Nat) {fuel : Nat} {L : Array Bool} {a : Act} {w : World} (hr : Region.ready md ops L = [i, j]) (h1 : wpOp P ops (Q1Hp J) i (fun a' w' => S w' ∧ wpAnyH P md ops (Q1Hp J) S fuel (L.setIfInBounds i true) a' w') a w)
    (h2 : wpOp P ops (Q1Hp J) j (fun a' w' => S w' ∧ wpAnyH P md ops (Q1Hp J) S fuel (L.setIfInBounds j true) a' w') a w) : wpAnyH P md ops (Q1Hp J) S (fuel + 1) L a w :=
  wpAnyH_all hr (by simp) (fun k hk => by
    rcases List.mem_cons.1 hk with e | hk
    · rw [e]; exact h1
    · rw [List.mem_singleton.1 hk]; exact h2)
theorem opValueHp (d : Option Tmp) (v : Value) (w' : World) {i : Nat} {o : Oper} {K : Act → World → Prop} {a : Act} {w : World} (hi : ops[i]? = some o) (hg : o.guard = none) (hdd : o.dst = d) (hx : (execOp a.eval o).run P w = .ok (.value v) w') (h : K (a.put d v) w') : wpOp P ops (Q1Hp J) i K a w := by
  unfold wpOp
  simp only [hi]
  rw [if_pos (wantedDHp hg)]
  refine .inl ?_
  unfold Oper.wp
  rw [hx]
  subst hdd
  exact h
theorem opSkipHp (w' : World) {i : Nat} {o : Oper} {K : Act → World → Prop} {a : Act} {w : World} (hi : ops[i]? = some o) (hg : o.guard = none) (hdd : o.dst = none) (hx : (execOp a.eval o).run P w = .ok .skip w') (h : K a w') : wpOp P ops (Q1Hp J) i K a w := by
  unfold wpOp
  simp only [hi]
  rw [if_pos (wantedDHp hg)]
  refine .inl ?_
  unfold Oper.wp
  rw [hx]
  show K (a.put o.dst undef) w'
  rw [hdd]
  exact h
theorem opCallHp (d : Option Tmp) (g : Nat) (vs : Array Value) {i : Nat} {o : Oper} {K : Act → World → Prop} {a : Act} {w : World} (hi : ops[i]? = some o) (hg : o.guard = none) (hdd : o.dst = d) (hx : (execOp a.eval o).run P w = .ok (.enter g vs) w)
    (h : Calls P g vs w fun e w' => ∃ v, e = .returned v ∧ K (a.put d v) w') : wpOp P ops (Q1Hp J) i K a w := by
  unfold wpOp
  simp only [hi]
  rw [if_pos (wantedDHp hg)]
  refine .inl ?_
  unfold Oper.wp
  rw [hx]
  simp only [Oper.upon]
  refine h.mono fun e w' ⟨v, he, hk⟩ => ?_
  subst he
  subst hdd
  exact hk
end
end Go.Proofs.YtnjajafmmociiaaGreatDoor

/- A list of trees that grows: the document's Copy and put. -/
namespace Go.Proofs.YtnjajafmmociiaaGreatDoor
open Go.RowKit Go.Shelf

theorem IsT.in {X : Nat → Prop} {W : World} {t : Tr} : ∀ {kv : Value}, IsT X W t kv → IsT (fun k => X k ∧ k < W.heap.size) W t kv := by
  induction t using Tr.ind with
  | h t ih =>
    intro kv h
    obtain ⟨ad, cap, e, h⟩ := (isT_eq t kv).1 h
    refine (isT_eq t kv).2 ⟨ad, cap, e, ?_⟩
    rcases h with h | ⟨b, off, e1, hb, hk⟩
    · exact .inl h
    · rcases Nat.eq_zero_or_pos t.kids.length with h0 | h0
      · exact .inl h0
      · obtain ⟨_, c0, _⟩ := hk 0 h0
        refine .inr ⟨b, off, e1, ⟨hb, World.block_lt_of_cell? W _ c0⟩, fun i hi => ?_⟩
        obtain ⟨kv', c0, c1, c2, hr⟩ := hk i hi
        exact ⟨kv', c0, c1, c2, ih _ (List.getElem_mem _) hr⟩
theorem IsT.at {X Y : Nat → Prop} {W W' : World} {t : Tr} {kv : Value} (h : IsT X W t kv) (hX : ∀ k, X k → k < W.heap.size → Y k) (hb : ∀ k, X k → k < W.heap.size → W'.heap[k]? = W.heap[k]?) : IsT Y W' t kv :=
  h.in.cells (fun k q => hX k q.1 q.2) (fun b o v q c => by
    rw [World.cell?_of_block (w := W) (a := ⟨b, o, none⟩) (hb b q.1 q.2)]
    exact c)
/-- The list has these trees, in blocks that are not its own. -/
def GrowK (W : World) (n0 : Nat) (kv : Value) (us : List Tr) : Prop := ∃ xs : List T3, xs.length = us.length ∧ W.ownsRow n0 25 3 kv us.length (f3s xs) ∧ ∀ j (h : j < us.length) (h' : j < xs.length), ∃ kvj, xs[j] = (.int .u8 (us[j].op : Nat), .string us[j].name, kvj) ∧ IsT (fun k => n0 ≤ k ∧ kv.ownBlock ≠ some k) W us[j] kvj
theorem GrowK.nil (W : World) (n0 : Nat) : GrowK W n0 (.slice none 0 0) [] := ⟨[], rfl, World.ownsRow_nil _ _ _ _, fun j h => by simp at h⟩
theorem GrowK.keptF {F : List Nat} {W W' : World} {n0 : Nat} {kv : Value} {us : List Tr} (h : GrowK W n0 kv us) (k : Kept F W W') (hF : ∀ x ∈ F, x < n0) : GrowK W' n0 kv us := by
  obtain ⟨xs, h1, h2, h3⟩ := h
  refine ⟨xs, h1, owns_keptFF h2 k (fun g hg hx => by have := hF g hx; have := own_baseF h2 hg; omega), fun j hj hj' => ?_⟩
  obtain ⟨kvj, e, hI⟩ := h3 j hj hj'
  exact ⟨kvj, e, hI.at (fun _ q _ => q) (fun b q hl => k.block b hl (fun hx => by have := hF b hx; omega))⟩
theorem GrowK.form {W : World} {n0 : Nat} {kv : Value} {us : List Tr} (h : GrowK W n0 kv us) : ∃ ad cap, kv = .slice ad us.length cap := by
  obtain ⟨xs, _, h2, _⟩ := h
  exact own_formF h2
theorem GrowK.isT {W : World} {n0 : Nat} {kv : Value} {us : List Tr} (h : GrowK W n0 kv us) (o : Nat) (nm : ByteArray) : IsT (fun k => n0 ≤ k) W ⟨o, nm, us⟩ kv := by
  obtain ⟨xs, h1, h2, h3⟩ := h
  rcases Nat.eq_zero_or_pos us.length with h0 | h0
  · obtain ⟨ad, cap, rfl⟩ := own_formF h2
    exact (isT_eq _ _).2 ⟨ad, cap, rfl, .inl h0⟩
  · obtain ⟨g, cap, rfl, _, _⟩ := h2.form h0
    refine (isT_eq _ _).2 ⟨_, cap, rfl, .inr ⟨g, 0, rfl, own_baseF h2 rfl, fun i hi => ?_⟩⟩
    have hi' : i < us.length := hi
    obtain ⟨kvj, e, hI⟩ := h3 i hi' (by omega)
    obtain ⟨c0, c1, c2⟩ := owns_atF (l := i) (x := xs[i]'(by omega)) h2 (List.getElem?_eq_getElem (by omega))
    rw [e] at c0 c1 c2
    exact ⟨kvj, by rw [Nat.zero_add]; exact c0, by rw [Nat.zero_add]; exact c1, by rw [Nat.zero_add]; exact c2, hI.mono (fun k q => q.1)⟩
/-- One tree more. -/
theorem GrowK.put {W W5 : World} {n0 : Nat} {kv : Value} {us : List Tr} {u : Tr} {ku : Value} (h : GrowK W n0 kv us) (hn0 : n0 ≤ W.heap.size) (hk : Kept [] W W5) (hu : IsT (fun k => W.heap.size ≤ k) W5 u ku) (hus : us.length ≤ 1099511627776) :
    ∃ g cap w', (∀ ty, (Builtin.append_ #[23, 23] ty #[kv, .slice (some ⟨W5.heap.size, 0, none⟩) 1 1]).run Tryz.prog (W5.alloc (.cells #[.int .u8 (u.op : Nat), .string u.name, ku] 25)) = .ok (.slice (some ⟨g, 0, none⟩) (us.length + 1) cap) w') ∧ GrowK w' n0 (.slice (some ⟨g, 0, none⟩) (us.length + 1) cap) (us ++ [u]) ∧ (∀ w0, w0.heap.size ≤ n0 → Kept [] w0 W → Kept [] w0 w') ∧ (∀ b, b < n0 → w'.heap[b]? = W.heap[b]?) ∧ W.heap.size ≤ w'.heap.size := by
  obtain ⟨xs, h1, h2, h3⟩ := h
  obtain ⟨inf, hi, hz0, hz1, hz2⟩ := info_parts Tryz.infoFor
  have k1 : Kept [] W (W5.alloc (.cells #[.int .u8 (u.op : Nat), .string u.name, ku] 25)) := hk.alloc _
  have hs5 := hk.size
  have hrow := owns_keptFF h2 k1 (by simp)
  obtain ⟨kad, kcap, rfl⟩ := hu.slice
  obtain ⟨g, cap, w', hr, r2, r3, r4, r5⟩ := run_append_keepF (P := Tryz.prog) (W5.alloc (.cells #[.int .u8 (u.op : Nat), .string u.name, .slice kad u.kids.length kcap] 25)) 23 23 n0 25 inf _ 3 48 Tryz.underlying23 hi hz0 hz1 hz2 rfl (by decide) kv us.length _ hrow ⟨W5.heap.size, 0, none⟩ 1 1 [.int .u8 (u.op : Nat), .string u.name, .slice kad u.kids.length kcap] rfl (World.news_of_block (cs := #[.int .u8 (u.op : Nat), .string u.name, .slice kad u.kids.length kcap]) (t := 25) (fr := (0, 0)) (heap_alloc_new W5 _)) (by simp [Value.oneCell']) (by decide) (by unfold maxLen; omega) (by omega) (by rw [World.size_alloc]; omega)
  have hown : ∀ b, kv.ownBlock = some b → n0 ≤ b ∧ b < W.heap.size := fun b hb => ⟨own_baseF h2 hb, owns_ltF h2 hb⟩
  have hz := r3.size
  rw [World.size_alloc] at hz
  have same : ∀ b, b < W5.heap.size → kv.ownBlock ≠ some b → w'.heap[b]? = W5.heap[b]? := fun b hb hne => (r3.block b (by rw [World.size_alloc]; omega) (fun e => hne e.symm)).trans (Below.heap_alloc _ _ _ hb)
  have hg : kv.ownBlock = some g ∨ W5.heap.size < g := by
    rcases r4 with q | ⟨q, _⟩
    · exact .inl q
    · right; rw [q, World.size_alloc]; omega
  refine ⟨g, cap, w', fun ty => hr, ⟨xs ++ [(.int .u8 (u.op : Nat), .string u.name, .slice kad u.kids.length kcap)], by simp [h1], ?_, fun j hj hj' => ?_⟩, fun w0 hw0 k0 => ?_, fun b hb => ?_, by omega⟩
  · rw [List.length_append, f3s_app]
    exact r2
  · rcases Nat.lt_or_ge j us.length with hjl | hjl
    · obtain ⟨kvj, e, hI⟩ := h3 j hjl (by omega)
      refine ⟨kvj, by rw [List.getElem_append_left (by omega), List.getElem_append_left hjl]; exact e, ?_⟩
      rw [List.getElem_append_left hjl]
      refine hI.at (fun k q hl => ⟨q.1, fun e => ?_⟩) (fun b q hl => (same b (by omega) q.2).trans (hk.block b hl (by simp)))
      have e' : g = k := by simpa [Value.ownBlock] using e
      subst e'
      rcases hg with r | r
      · exact q.2 r
      · omega
    · obtain rfl : j = us.length := by
        rw [List.length_append, List.length_singleton] at hj
        omega
      refine ⟨.slice kad u.kids.length kcap, ?_, ?_⟩
      · rw [List.getElem_append_right (by omega), List.getElem_append_right (Nat.le_refl _)]
        simp [h1]
      · rw [List.getElem_append_right (Nat.le_refl _)]
        simp only [Nat.sub_self, List.getElem_singleton]
        refine hu.at (fun k q hl => ⟨by omega, fun e => ?_⟩) (fun b q hl => same b hl (fun e => by have := hown b e; omega))
        have e' : g = k := by simpa [Value.ownBlock] using e
        subst e'
        rcases hg with r | r
        · have := hown g r; omega
        · omega
  · have kk : Kept [] w0 (W5.alloc (.cells #[.int .u8 (u.op : Nat), .string u.name, .slice kad u.kids.length kcap] 25)) := k0.trans k1 (by simp) (by simp)
    exact kk.grown r3 (fun b hb => .inr (by have := hown b hb; omega))
  · exact (same b (by omega) (fun e => by have := hown b e; omega)).trans (hk.block b (by omega) (by simp))
end Go.Proofs.YtnjajafmmociiaaGreatDoor

/- augurref03.Copy: the document's copy of a tree. -/
namespace Go.Proofs.YtnjajafmmociiaaGreatDoor
open Go.RowKit Go.Shelf

theorem opWpHp {P : Program} {ops : Array Oper} {J : Act → World → Prop} {i : Nat} {o : Oper} {K : Act → World → Prop} {a : Act} {w : World} (hi : ops[i]? = some o) (hg : o.guard = none) (h : o.wp P a w K (Q1Hp J)) : wpOp P ops (Q1Hp J) i K a w := by
  unfold wpOp
  simp only [hi]
  rw [if_pos (wantedDHp hg)]
  exact .inl h
theorem opAppHp (d : Option Tmp) (v' : Value) (w' : World) {P : Program} {ops : Array Oper} {J : Act → World → Prop} {i : Nat} {o : Oper} {K : Act → World → Prop} {a : Act} {w : World} {s x : Operand} {t tn : TypeId} {vs vx : Value} (hi : ops[i]? = some o) (hg : o.guard = none) (hdd : o.dst = d) (ho : o.op = .call { callee := .builtin .append, args := #[s, x], argTypes := #[t, tn] }) (hs : a.eval s = vs) (hx : a.eval x = vx) (hr : ∀ ty, (Builtin.append_ #[t, tn] ty #[vs, vx]).run P w = .ok v' w') (h : K (a.put d v') w') : wpOp P ops (Q1Hp J) i K a w :=
  opWpHp hi hg (Lib.wp_append_run w s x t tn ho vs vx hs hx v' w' (hr _) (by rw [hdd]; exact h))
/-- What stands between two rounds: the boxes, and the kids that came so far. -/
structure KAt (w : World) (A G n0 : Nat) (a b c : Value) (o : Nat) (nm : ByteArray) (ks : List Tr) (i : Nat) (wr : World) : Prop where
  src : For3 wr A a b c
  res : For3 wr (A + 1) (.int .u8 0) (.string ⟨#[]⟩) (.slice none 0 0)
  box : ∃ kad cap, For3 wr G (.int .u8 (o : Nat)) (.string nm) (.slice kad i cap) ∧ GrowK wr n0 (.slice kad i cap) (ks.take i)
  kept : Kept [] w wr
  big : n0 ≤ wr.heap.size
/-- One kid more. -/
theorem KAt.next {w wr W5 : World} {A G n0 : Nat} {a b c : Value} {o : Nat} {nm : ByteArray} {ks : List Tr} {i : Nat} {kad : Option Addr} {gcap : Nat} (hA : w.heap.size ≤ A) (hG : A + 1 < G) (hn : G < n0) (hsrc : For3 wr A a b c) (hres : For3 wr (A + 1) (.int .u8 0) (.string ⟨#[]⟩) (.slice none 0 0)) (hbox : For3 wr G (.int .u8 (o : Nat)) (.string nm) (.slice kad i gcap)) (hgr : GrowK wr n0 (.slice kad i gcap) (ks.take i)) (hkp : Kept [] w wr) (hbig : n0 ≤ wr.heap.size)
    (hk : Kept [] wr W5) (hi : i < ks.length) (hks : ks.length ≤ 1099511627776) {uad : Option Addr} {ucap : Nat} (hu : IsT (fun k => wr.heap.size ≤ k) W5 ks[i] (.slice uad ks[i].kids.length ucap)) :
    ∃ g cap w', (∀ ty, (Builtin.append_ #[23, 23] ty #[.slice kad i gcap, .slice (some ⟨W5.heap.size, 0, none⟩) 1 1]).run Tryz.prog (W5.alloc (.cells #[.int .u8 (ks[i].op : Nat), .string ks[i].name, .slice uad ks[i].kids.length ucap] 25)) = .ok (.slice (some ⟨g, 0, none⟩) (i + 1) cap) w') ∧ (∀ b, b < n0 → w'.heap[b]? = wr.heap[b]?) ∧ (w'.cell? ⟨G, 2, none⟩ = some (.slice kad i gcap) ∧ w'.frozen? ⟨G, 2, none⟩ = false) ∧ (∀ b, b < n0 → b ≠ G → (w'.setCell ⟨G, 2, none⟩ (.slice (some ⟨g, 0, none⟩) (i + 1) cap)).heap[b]? = wr.heap[b]?) ∧ KAt w A G n0 a b c o nm ks (i + 1) (w'.setCell ⟨G, 2, none⟩ (.slice (some ⟨g, 0, none⟩) (i + 1) cap)) := by
  have hlen : (ks.take i).length = i := by rw [List.length_take]; omega
  obtain ⟨g, cap, w', r1, r2, r3, r4, r5⟩ := hgr.put hbig hk hu (by rw [hlen]; omega)
  rw [hlen] at r1 r2
  have hb2 : For3 w' G (.int .u8 (o : Nat)) (.string nm) (.slice kad i gcap) := (r4 G (by omega)).trans hbox
  have off : ∀ b, b < n0 → b ≠ G → (w'.setCell ⟨G, 2, none⟩ (.slice (some ⟨g, 0, none⟩) (i + 1) cap)).heap[b]? = wr.heap[b]? := fun b hb hne => (Below.heap_setCell _ _ _ _ (by show b ≠ G; exact hne)).trans (r4 b hb)
  refine ⟨g, cap, w', r1, r4, ⟨(cell_of hb2 2).trans rfl, free_of hb2 2⟩, off, ⟨(off A (by omega) (by omega)).trans hsrc, (off (A + 1) (by omega) (by omega)).trans hres, ⟨some ⟨g, 0, none⟩, cap, ?_, ?_⟩, (r3 w (by omega) hkp).setCell (p := ⟨G, 2, none⟩) (.inr (by show w.heap.size ≤ G; omega)) _, ?_⟩⟩
  · exact (row_set hb2 (.slice (some ⟨g, 0, none⟩) (i + 1) cap)).trans rfl
  · rw [List.take_succ_eq_append_getElem hi]
    exact r2.keptF ((Kept.refl [G] w').setCell (p := ⟨G, 2, none⟩) (.inl (by simp)) _) (by simp; omega)
  · simp only [World.size_setCell]
    omega
/-- What is so of the four worlds of a round. -/
def TT (A G kb koff i n kcap ko : Nat) (kn : ByteArray) (ckad : Option Addr) (kl ckcap : Nat) (kad : Option Addr) (gcap : Nat) (W5 W6 Wp We : World) : Prop :=
  (W5.cell? ⟨A, 2, none⟩ = some (.slice (some ⟨kb, koff, none⟩) n kcap) ∧ W5.cell? ⟨kb, koff + i * 3, none⟩ = some (.int .u8 (ko : Nat)) ∧ W5.cell? ⟨kb, koff + i * 3 + 1, none⟩ = some (.string kn) ∧ W5.cell? ⟨kb, koff + i * 3 + 2, none⟩ = some (.slice ckad kl ckcap)) ∧
  W5.cell? ⟨G, 2, none⟩ = some (.slice kad i gcap) ∧
  (W6.cell? ⟨A, 2, none⟩ = some (.slice (some ⟨kb, koff, none⟩) n kcap) ∧ W6.cell? ⟨kb, koff + i * 3, none⟩ = some (.int .u8 (ko : Nat)) ∧ W6.cell? ⟨kb, koff + i * 3 + 1, none⟩ = some (.string kn) ∧ W6.cell? ⟨kb, koff + i * 3 + 2, none⟩ = some (.slice ckad kl ckcap)) ∧
  W6.cell? ⟨G, 2, none⟩ = some (.slice kad i gcap) ∧
  (Wp.cell? ⟨A, 2, none⟩ = some (.slice (some ⟨kb, koff, none⟩) n kcap) ∧ Wp.cell? ⟨kb, koff + i * 3, none⟩ = some (.int .u8 (ko : Nat)) ∧ Wp.cell? ⟨kb, koff + i * 3 + 1, none⟩ = some (.string kn) ∧ Wp.cell? ⟨kb, koff + i * 3 + 2, none⟩ = some (.slice ckad kl ckcap)) ∧
  (We.cell? ⟨A, 2, none⟩ = some (.slice (some ⟨kb, koff, none⟩) n kcap) ∧ We.cell? ⟨kb, koff + i * 3, none⟩ = some (.int .u8 (ko : Nat)) ∧ We.cell? ⟨kb, koff + i * 3 + 1, none⟩ = some (.string kn) ∧ We.cell? ⟨kb, koff + i * 3 + 2, none⟩ = some (.slice ckad kl ckcap)) ∧
  Wp.cell? ⟨G, 2, none⟩ = some (.slice kad i gcap) ∧ Wp.frozen? ⟨G, 2, none⟩ = false
def CopyDoes (t : Tr) : Prop := ∀ (kv : Value) (w : World), IsF w t kv → t.size ≤ 1099511627776 →
  Calls Tryz.prog 83 #[.agg #[.int .u8 (t.op : Nat), .string t.name, kv]] w fun e w' => ∃ kad kcap, e = .returned (.agg #[.int .u8 (t.op : Nat), .string t.name, .slice kad t.kids.length kcap]) ∧ IsT (fun k => w.heap.size ≤ k) w' t (.slice kad t.kids.length kcap) ∧ Kept [] w w'
set_option maxHeartbeats 2000000 in
set_option maxRecDepth 20000 in
theorem refCopy_any (t : Tr) : CopyDoes t := by
  induction t using Tr.ind with
  | h t ih =>
    intro kv w hI hs
    obtain ⟨fad, kcap, rfl⟩ := hI.slice
    have HIH : Hid (∀ k ∈ t.kids, CopyDoes k) := ih
    have HI : Hid (IsT (fun k => k < w.heap.size) w t (.slice fad t.kids.length kcap)) := hI
    have HSZ : Hid (t.size ≤ 1099511627776) := hs
    obtain ⟨A, hA⟩ : ∃ A, w.heap.size = A := ⟨_, rfl⟩
    obtain ⟨V, hV⟩ : ∃ V, ((w.alloc (.cells #[.int .u8 (t.op : Nat), .string t.name, .slice fad t.kids.length kcap] 25)).alloc (.cells #[.int .u8 0, .string ⟨#[]⟩, .slice none 0 0] 25)).alloc (.cells #[.int .u8 (t.op : Nat), .string t.name, .slice none 0 0] 25) = V := ⟨_, rfl⟩
    obtain ⟨U, hU⟩ : ∃ U, (w.alloc (.cells #[.int .u8 (t.op : Nat), .string t.name, .slice fad t.kids.length kcap] 25)).alloc (.cells #[.int .u8 0, .string ⟨#[]⟩, .slice none 0 0] 25) = U := ⟨_, rfl⟩
    obtain ⟨G, hG⟩ : ∃ G, A + 1 + 1 = G := ⟨_, rfl⟩
    have hz : V.heap.size = G + 1 := by rw [← hV, ← hG, ← hA]; simp
    have hzu : U.heap.size = G := by rw [← hU, ← hG, ← hA]; simp
    have HGE : Hid (A + 1 + 1 = G) := hG
    have hu0 : For3 U A (.int .u8 (t.op : Nat)) (.string t.name) (.slice fad t.kids.length kcap) := by rw [← hU, ← hA]; exact alUp (al0 _ _) _
    obtain ⟨c0, c1, c2, _⟩ := hu0.cells
    have HST : Hid (KAt w A (G) (G + 1) (.int .u8 (t.op : Nat)) (.string t.name) (.slice fad t.kids.length kcap) t.op t.name t.kids 0 V) := by
      refine ⟨?_, ?_, ⟨none, 0, ?_, by rw [List.take_zero]; exact GrowK.nil _ _⟩, by rw [← hV]; exact (((Kept.refl [] w).alloc _).alloc _).alloc _, by omega⟩
      · rw [← hV, ← hA]; exact alUp (alUp (al0 _ _) _) _
      · rw [← hV, ← hA]; exact alUp (al1 _ _ _) _
      · rw [← hV, ← hG, ← hA]; exact al2 _ _ _ _
    obtain ⟨n, hn⟩ : ∃ n, t.kids.length = n := ⟨_, rfl⟩
    have HN : Hid (t.kids.length = n) := hn
    have HA : Hid (w.heap.size = A) := hA
    have HUU : Hid (_ = U) := hU
    have HVV : Hid (_ = V) := hV
    rw [hn] at HI HST HUU HVV c2 ⊢
    have hn8 : n ≤ 1099511627776 := by have := t.kids_size; omega
    clear hI hs ih hn hV hU hu0
    go_enter Tryz.func83, Tryz.ntmps83
    go_upto_region 1 with fail
    rw [HUU.out]
    go_upto_region 2 with fail
    have HVW : Hid (U.alloc (.cells #[.int .u8 (t.op : Nat), .string t.name, .slice none 0 0] 25) = V) := by show _ = _; rw [← HUU.out]; exact HVV.out
    rw [HVW.out]
    clear c0 c1 c2 HUU
    go_wp2_with fail
    go_loopw [4] (fun v wr => ∃ i : Nat, v = .int .i64 (i : Nat) ∧ i ≤ n ∧ Hid (KAt w A (G) (G + 1) (.int .u8 (t.op : Nat)) (.string t.name) (.slice fad n kcap) t.op t.name t.kids i wr)) (fun v _ => n - (intOf v).toNat)
    case atStart => exact ⟨0, rfl, Nat.zero_le _, HST.out⟩
    case round =>
      obtain ⟨i, rfl, hi, HR⟩ := hrel
      obtain ⟨s0, s1, s2, _⟩ := HR.out.src.cells
      by_cases hlt : i < n
      · have z0 : (i : Int) < (n : Int) := by omega
        have z00 : (0 : Int) ≤ (i : Int) := by omega
        have hik : i < t.kids.length := by rw [HN.out]; exact hlt
        obtain ⟨kad, gcap, hbx, hgr⟩ := HR.out.box
        obtain ⟨kb, koff, rfl, hkbl, hkid⟩ := (show IsT (fun k => k < w.heap.size) w t (.slice fad t.kids.length kcap) from by rw [HN.out]; exact HI.out).kid (by omega)
        obtain ⟨kvi, a0, a1, a2, hIk⟩ := hkid i hik
        obtain ⟨ckad, ckcap, rfl⟩ := hIk.slice
        have hkb : kb < A := by rw [← HA.out]; exact hkbl
        have kw : Kept [] w wr := HR.out.kept
        have hsize := Tr.kid_size (List.getElem_mem hik)
        have HREC : Hid (∀ W, Kept [] wr W → Calls Tryz.prog 83 #[.agg #[.int .u8 (t.kids[i].op : Nat), .string t.kids[i].name, .slice ckad t.kids[i].kids.length ckcap]] W fun e w' => ∃ kad kcap, e = .returned (.agg #[.int .u8 (t.kids[i].op : Nat), .string t.kids[i].name, .slice kad t.kids[i].kids.length kcap]) ∧ IsT (fun k => W.heap.size ≤ k) w' t.kids[i] (.slice kad t.kids[i].kids.length kcap) ∧ Kept [] W w') := fun W k => HIH.out _ (List.getElem_mem hik) _ W (IsF.kept (IsF.kept hIk kw) k) (by have := HSZ.out; omega)
        have HNX : Hid (∀ W5, Kept [] wr W5 → ∀ uad ucap, IsT (fun k => wr.heap.size ≤ k) W5 t.kids[i] (.slice uad t.kids[i].kids.length ucap) → _) := fun W5 k5 uad ucap hu => KAt.next (w := w) (A := A) (G := G) (n0 := G + 1) (by rw [HA.out]; exact Nat.le_refl _) (by have := HGE.out; omega) (by omega) HR.out.src HR.out.res hbx hgr HR.out.kept HR.out.big k5 hik (by rw [HN.out]; omega) hu
        have HSS : Hid (∀ Y : World, Y.heap[A]? = wr.heap[A]? → Y.heap[kb]? = wr.heap[kb]? → Y.cell? ⟨A, 2, none⟩ = some (.slice (some ⟨kb, koff, none⟩) n kcap) ∧ Y.cell? ⟨kb, koff + i * 3, none⟩ = some (.int .u8 (t.kids[i].op : Nat)) ∧ Y.cell? ⟨kb, koff + i * 3 + 1, none⟩ = some (.string t.kids[i].name) ∧ Y.cell? ⟨kb, koff + i * 3 + 2, none⟩ = some (.slice ckad t.kids[i].kids.length ckcap)) := fun Y h1 h2 => by
          refine ⟨?_, ?_, ?_, ?_⟩
          · rw [World.cell?_of_block (w := wr) (a := ⟨A, 2, none⟩) h1]; exact s2
          · rw [World.cell?_of_block (w := wr) (a := ⟨kb, koff + i * 3, none⟩) h2]; exact cell_kept0 kw a0
          · rw [World.cell?_of_block (w := wr) (a := ⟨kb, koff + i * 3 + 1, none⟩) h2]; exact cell_kept0 kw a1
          · rw [World.cell?_of_block (w := wr) (a := ⟨kb, koff + i * 3 + 2, none⟩) h2]; exact cell_kept0 kw a2
        have HBX : Hid (∀ W, Kept [] wr W → W.cell? ⟨G, 2, none⟩ = some (.slice kad i gcap)) := fun W k => (hbx.kept k).cells.2.2.1
        have hAl : A < wr.heap.size := lt_of HR.out.src
        obtain ⟨V6, hV6⟩ : ∃ V6, wr.drew = V6 := ⟨_, rfl⟩
        have k6 : Kept [] wr V6 := by rw [← hV6]; exact (Kept.refl [] wr).drew
        have HV6 : Hid (wr.drew = V6) := hV6
        have HK6 : Hid (Kept [] wr V6) := k6
        have HS6 := HSS.out V6 (k6.block A hAl (by simp)) (k6.block kb (by omega) (by simp))
        have HS6 : Hid _ := HS6
        have HG6 : Hid (V6.cell? ⟨G, 2, none⟩ = some (.slice kad i gcap)) := HBX.out V6 k6
        obtain ⟨ko, hko⟩ : ∃ x, t.kids[i].op = x := ⟨_, rfl⟩
        obtain ⟨kn, hkn⟩ : ∃ x, t.kids[i].name = x := ⟨_, rfl⟩
        obtain ⟨kl, hkl⟩ : ∃ x, t.kids[i].kids.length = x := ⟨_, rfl⟩
        have HCALL : Hid (Calls Tryz.prog 83 #[.agg #[.int .u8 (ko : Nat), .string kn, .slice ckad kl ckcap]] V6 fun e W5 => ∃ uad ucap g cap Wp, e = .returned (.agg #[.int .u8 (ko : Nat), .string kn, .slice uad kl ucap]) ∧ (∀ ty, (Builtin.append_ #[23, 23] ty #[.slice kad i gcap, .slice (some ⟨W5.heap.size, 0, none⟩) 1 1]).run Tryz.prog (W5.alloc (.cells #[.int .u8 (ko : Nat), .string kn, .slice uad kl ucap] 25)) = .ok (.slice (some ⟨g, 0, none⟩) (i + 1) cap) Wp) ∧ TT A (G) kb koff i n kcap ko kn ckad kl ckcap kad gcap W5 (W5.alloc (.cells #[.int .u8 (ko : Nat), .string kn, .slice uad kl ucap] 25)) Wp (Wp.setCell ⟨G, 2, none⟩ (.slice (some ⟨g, 0, none⟩) (i + 1) cap)) ∧ KAt w A (G) (G + 1) (.int .u8 (t.op : Nat)) (.string t.name) (.slice (some ⟨kb, koff, none⟩) n kcap) t.op t.name t.kids (i + 1) (Wp.setCell ⟨G, 2, none⟩ (.slice (some ⟨g, 0, none⟩) (i + 1) cap))) := by
          rw [← hko, ← hkn, ← hkl]
          refine Calls.mono (HREC.out V6 k6) ?_
          rintro e W5 ⟨uad, ucap, rfl, hI5, hk5⟩
          have k5 : Kept [] wr W5 := k6.trans hk5 (by simp) (by simp)
          have hI6 := hI5.mono (Y := fun k => wr.heap.size ≤ k) (fun k q => Nat.le_trans k6.size q)
          obtain ⟨g, cap, Wp, r1, r2, r3, r4, r5⟩ := HNX.out W5 k5 uad ucap hI6
          refine ⟨uad, ucap, g, cap, Wp, rfl, r1, ⟨HSS.out W5 (k5.block A hAl (by simp)) (k5.block kb (by omega) (by simp)), HBX.out W5 k5, HSS.out _ ((k5.alloc _).block A hAl (by simp)) ((k5.alloc _).block kb (by omega) (by simp)), HBX.out _ (k5.alloc _), HSS.out _ (r2 A (by have := HGE.out; omega)) (r2 kb (by have := HGE.out; omega)), HSS.out _ (r4 A (by have := HGE.out; omega) (by have := HGE.out; omega)) (r4 kb (by have := HGE.out; omega) (by have := HGE.out; omega)), r3⟩, r5⟩
        rw [hko, hkn, hkl] at HS6
        have HI1 : Hid (i + 1 = i + 1) := rfl
        obtain ⟨i1, hi1⟩ : ∃ i1, i + 1 = i1 := ⟨_, rfl⟩
        clear hbx hgr hkid a0 a1 a2 hIk kw hsize hV6 k6 hko hkn hkl HNX HSS HREC HBX hAl hkbl
        go_wp2_with fail
        refine wp_regionHp (fun Y => Y.cell? ⟨A, 2, none⟩ = some (.slice (some ⟨kb, koff, none⟩) n kcap) ∧ Y.cell? ⟨kb, koff + i * 3, none⟩ = some (.int .u8 (ko : Nat)) ∧ Y.cell? ⟨kb, koff + i * 3 + 1, none⟩ = some (.string kn) ∧ Y.cell? ⟨kb, koff + i * 3 + 2, none⟩ = some (.slice ckad kl ckcap)) (by kernel_rfl) ?_
        rw [HV6.out]
        refine heldTakeHp 0 (some 17) (.pointer (some ⟨G, 2, none⟩)) rfl rfl rfl (by kernel_rfl) (by kernel_rfl) (by kernel_rfl) (fun Y hY => ?_) HS6.out ?_
        · obtain ⟨y0, y1, y2, y3⟩ := hY
          go_simp
        simp only [Act.put, List.setIfInBounds_toArray, List.set_cons_zero, List.set_cons_succ]
        refine heldTakeHp 2 (some 19) (.pointer (some ⟨A, 2, none⟩)) rfl rfl rfl (by kernel_rfl) (by kernel_rfl) (by kernel_rfl) (fun Y hY => ?_) HS6.out ?_
        · obtain ⟨y0, y1, y2, y3⟩ := hY
          go_simp
        simp only [Act.put, List.setIfInBounds_toArray, List.set_cons_zero, List.set_cons_succ]
        refine heldTakeHp 3 (some 20) (.slice (some ⟨kb, koff, none⟩) n kcap) rfl rfl rfl (by kernel_rfl) (by kernel_rfl) (by kernel_rfl) (fun Y hY => ?_) HS6.out ?_
        · obtain ⟨y0, y1, y2, y3⟩ := hY
          go_simp
        simp only [Act.put, List.setIfInBounds_toArray, List.set_cons_zero, List.set_cons_succ]
        refine heldTakeHp 4 (some 21) (.int .i64 (i : Nat)) rfl rfl rfl (by kernel_rfl) (by kernel_rfl) (by kernel_rfl) (fun Y hY => ?_) HS6.out ?_
        · obtain ⟨y0, y1, y2, y3⟩ := hY
          go_simp
        simp only [Act.put, List.setIfInBounds_toArray, List.set_cons_zero, List.set_cons_succ]
        refine heldTakeHp 5 (some 22) (.pointer (some ⟨kb, koff + i * 3, none⟩)) rfl rfl rfl (by kernel_rfl) (by kernel_rfl) (by kernel_rfl) (fun Y hY => ?_) HS6.out ?_
        · obtain ⟨y0, y1, y2, y3⟩ := hY
          go_simp
        simp only [Act.put, List.setIfInBounds_toArray, List.set_cons_zero, List.set_cons_succ]
        refine heldTakeHp 6 (some 23) (.agg #[.int .u8 (ko : Nat), .string kn, .slice ckad kl ckcap]) rfl rfl rfl (by kernel_rfl) (by kernel_rfl) (by kernel_rfl) (fun Y hY => ?_) HS6.out ?_
        · obtain ⟨y0, y1, y2, y3⟩ := hY
          go_simp
        simp only [Act.put, List.setIfInBounds_toArray, List.set_cons_zero, List.set_cons_succ]
        refine heldTwoHp 1 7 (by kernel_rfl) ?_ ?_
        · skip
          refine opValueHp (some 18) (.slice kad i gcap) V6 rfl rfl rfl ?_ ⟨HS6.out, ?_⟩
          · have y0 := HG6.out
            go_simp
          simp only [Act.put, List.setIfInBounds_toArray, List.set_cons_zero, List.set_cons_succ]
          refine heldOneHp 7 (by kernel_rfl) ?_
          refine opCallHp (some 24) 83 #[.agg #[.int .u8 (ko : Nat), .string kn, .slice ckad kl ckcap]] rfl rfl rfl ?_ ?_
          · go_simp
          refine HCALL.out.mono ?_
          rintro e W5 ⟨uad, ucap, g, cap, Wp, rfl, hrun, hT, hK⟩
          rw [hi1] at hrun hT hK
          have HRUN : Hid (∀ ty, (Builtin.append_ #[23, 23] ty #[.slice kad i gcap, .slice (some ⟨W5.heap.size, 0, none⟩) 1 1]).run Tryz.prog (W5.alloc (.cells #[.int .u8 (ko : Nat), .string kn, .slice uad kl ucap] 25)) = .ok (.slice (some ⟨g, 0, none⟩) i1 cap) Wp) := hrun
          have HT : Hid (TT (A) (G) kb koff i n kcap ko kn ckad kl ckcap kad gcap W5 (W5.alloc (.cells #[.int .u8 (ko : Nat), .string kn, .slice uad kl ucap] 25)) Wp (Wp.setCell ⟨G, 2, none⟩ (.slice (some ⟨g, 0, none⟩) i1 cap))) := hT
          have HK : Hid (KAt w A (G) (G + 1) (.int .u8 (t.op : Nat)) (.string t.name) (.slice (some ⟨kb, koff, none⟩) n kcap) t.op t.name t.kids (i + 1) (Wp.setCell ⟨G, 2, none⟩ (.slice (some ⟨g, 0, none⟩) i1 cap))) := by show KAt _ _ _ _ _ _ _ _ _ _ _ _; rw [hi1]; exact hK
          clear hrun hT hK
          refine ⟨_, rfl, HT.out.1, ?_⟩
          simp only [Act.put, List.setIfInBounds_toArray, List.set_cons_zero, List.set_cons_succ]
          refine heldOneHp 8 (by kernel_rfl) ?_
          refine opValueHp (some 25) (.slice (some ⟨W5.heap.size, 0, none⟩) 1 1) (W5.alloc (.cells #[.int .u8 (ko : Nat), .string kn, .slice uad kl ucap] 25)) rfl rfl rfl ?_ ⟨HT.out.2.2.1, ?_⟩
          · go_simp
          simp only [Act.put, List.setIfInBounds_toArray, List.set_cons_zero, List.set_cons_succ]
          refine heldOneHp 9 (by kernel_rfl) ?_
          refine opAppHp (some 26) (.slice (some ⟨g, 0, none⟩) i1 cap) Wp rfl rfl rfl rfl rfl rfl HRUN.out ⟨HT.out.2.2.2.2.1, ?_⟩
          simp only [Act.put, List.setIfInBounds_toArray, List.set_cons_zero, List.set_cons_succ]
          refine heldTakeHp 10 (some 27) (.pointer (some ⟨G, 2, none⟩)) rfl rfl rfl (by kernel_rfl) (by kernel_rfl) (by kernel_rfl) (fun Y hY => ?_) HT.out.2.2.2.2.1 ?_
          · obtain ⟨y0, y1, y2, y3⟩ := hY
            go_simp
          simp only [Act.put, List.setIfInBounds_toArray, List.set_cons_zero, List.set_cons_succ]
          refine heldOneHp 11 (by kernel_rfl) ?_
          refine opSkipHp (Wp.setCell ⟨G, 2, none⟩ (.slice (some ⟨g, 0, none⟩) i1 cap)) rfl rfl rfl ?_ ⟨HT.out.2.2.2.2.2.1, ?_⟩
          · have y0 := HT.out.2.2.2.2.2.2.1
            have y1 := HT.out.2.2.2.2.2.2.2
            go_simp
          refine wpAnyH_done (by kernel_rfl) ?_ _
          simp only [Q1Hp]
          go_wp2
          go_roundw
          case rel => exact ⟨i + 1, by go_num, by omega, HK.out⟩
          case measure => simp [intOf]; omega
        · skip
          refine opCallHp (some 24) 83 #[.agg #[.int .u8 (ko : Nat), .string kn, .slice ckad kl ckcap]] rfl rfl rfl ?_ ?_
          · go_simp
          refine HCALL.out.mono ?_
          rintro e W5 ⟨uad, ucap, g, cap, Wp, rfl, hrun, hT, hK⟩
          rw [hi1] at hrun hT hK
          have HRUN : Hid (∀ ty, (Builtin.append_ #[23, 23] ty #[.slice kad i gcap, .slice (some ⟨W5.heap.size, 0, none⟩) 1 1]).run Tryz.prog (W5.alloc (.cells #[.int .u8 (ko : Nat), .string kn, .slice uad kl ucap] 25)) = .ok (.slice (some ⟨g, 0, none⟩) i1 cap) Wp) := hrun
          have HT : Hid (TT (A) (G) kb koff i n kcap ko kn ckad kl ckcap kad gcap W5 (W5.alloc (.cells #[.int .u8 (ko : Nat), .string kn, .slice uad kl ucap] 25)) Wp (Wp.setCell ⟨G, 2, none⟩ (.slice (some ⟨g, 0, none⟩) i1 cap))) := hT
          have HK : Hid (KAt w A (G) (G + 1) (.int .u8 (t.op : Nat)) (.string t.name) (.slice (some ⟨kb, koff, none⟩) n kcap) t.op t.name t.kids (i + 1) (Wp.setCell ⟨G, 2, none⟩ (.slice (some ⟨g, 0, none⟩) i1 cap))) := by show KAt _ _ _ _ _ _ _ _ _ _ _ _; rw [hi1]; exact hK
          clear hrun hT hK
          refine ⟨_, rfl, HT.out.1, ?_⟩
          simp only [Act.put, List.setIfInBounds_toArray, List.set_cons_zero, List.set_cons_succ]
          refine heldTwoHp 1 8 (by kernel_rfl) ?_ ?_
          · skip
            refine opValueHp (some 18) (.slice kad i gcap) W5 rfl rfl rfl ?_ ⟨HT.out.1, ?_⟩
            · have y0 := HT.out.2.1
              go_simp
            simp only [Act.put, List.setIfInBounds_toArray, List.set_cons_zero, List.set_cons_succ]
            refine heldOneHp 8 (by kernel_rfl) ?_
            refine opValueHp (some 25) (.slice (some ⟨W5.heap.size, 0, none⟩) 1 1) (W5.alloc (.cells #[.int .u8 (ko : Nat), .string kn, .slice uad kl ucap] 25)) rfl rfl rfl ?_ ⟨HT.out.2.2.1, ?_⟩
            · go_simp
            simp only [Act.put, List.setIfInBounds_toArray, List.set_cons_zero, List.set_cons_succ]
            refine heldOneHp 9 (by kernel_rfl) ?_
            refine opAppHp (some 26) (.slice (some ⟨g, 0, none⟩) i1 cap) Wp rfl rfl rfl rfl rfl rfl HRUN.out ⟨HT.out.2.2.2.2.1, ?_⟩
            simp only [Act.put, List.setIfInBounds_toArray, List.set_cons_zero, List.set_cons_succ]
            refine heldTakeHp 10 (some 27) (.pointer (some ⟨G, 2, none⟩)) rfl rfl rfl (by kernel_rfl) (by kernel_rfl) (by kernel_rfl) (fun Y hY => ?_) HT.out.2.2.2.2.1 ?_
            · obtain ⟨y0, y1, y2, y3⟩ := hY
              go_simp
            simp only [Act.put, List.setIfInBounds_toArray, List.set_cons_zero, List.set_cons_succ]
            refine heldOneHp 11 (by kernel_rfl) ?_
            refine opSkipHp (Wp.setCell ⟨G, 2, none⟩ (.slice (some ⟨g, 0, none⟩) i1 cap)) rfl rfl rfl ?_ ⟨HT.out.2.2.2.2.2.1, ?_⟩
            · have y0 := HT.out.2.2.2.2.2.2.1
              have y1 := HT.out.2.2.2.2.2.2.2
              go_simp
            refine wpAnyH_done (by kernel_rfl) ?_ _
            simp only [Q1Hp]
            go_wp2
            go_roundw
            case rel => exact ⟨i + 1, by go_num, by omega, HK.out⟩
            case measure => simp [intOf]; omega
          · skip
            refine opValueHp (some 25) (.slice (some ⟨W5.heap.size, 0, none⟩) 1 1) (W5.alloc (.cells #[.int .u8 (ko : Nat), .string kn, .slice uad kl ucap] 25)) rfl rfl rfl ?_ ⟨HT.out.2.2.1, ?_⟩
            · go_simp
            simp only [Act.put, List.setIfInBounds_toArray, List.set_cons_zero, List.set_cons_succ]
            refine heldOneHp 1 (by kernel_rfl) ?_
            refine opValueHp (some 18) (.slice kad i gcap) (W5.alloc (.cells #[.int .u8 (ko : Nat), .string kn, .slice uad kl ucap] 25)) rfl rfl rfl ?_ ⟨HT.out.2.2.1, ?_⟩
            · have y0 := HT.out.2.2.2.1
              go_simp
            simp only [Act.put, List.setIfInBounds_toArray, List.set_cons_zero, List.set_cons_succ]
            refine heldOneHp 9 (by kernel_rfl) ?_
            refine opAppHp (some 26) (.slice (some ⟨g, 0, none⟩) i1 cap) Wp rfl rfl rfl rfl rfl rfl HRUN.out ⟨HT.out.2.2.2.2.1, ?_⟩
            simp only [Act.put, List.setIfInBounds_toArray, List.set_cons_zero, List.set_cons_succ]
            refine heldTakeHp 10 (some 27) (.pointer (some ⟨G, 2, none⟩)) rfl rfl rfl (by kernel_rfl) (by kernel_rfl) (by kernel_rfl) (fun Y hY => ?_) HT.out.2.2.2.2.1 ?_
            · obtain ⟨y0, y1, y2, y3⟩ := hY
              go_simp
            simp only [Act.put, List.setIfInBounds_toArray, List.set_cons_zero, List.set_cons_succ]
            refine heldOneHp 11 (by kernel_rfl) ?_
            refine opSkipHp (Wp.setCell ⟨G, 2, none⟩ (.slice (some ⟨g, 0, none⟩) i1 cap)) rfl rfl rfl ?_ ⟨HT.out.2.2.2.2.2.1, ?_⟩
            · have y0 := HT.out.2.2.2.2.2.2.1
              have y1 := HT.out.2.2.2.2.2.2.2
              go_simp
            refine wpAnyH_done (by kernel_rfl) ?_ _
            simp only [Q1Hp]
            go_wp2
            go_roundw
            case rel => exact ⟨i + 1, by go_num, by omega, HK.out⟩
            case measure => simp [intOf]; omega
      · obtain rfl : i = n := by omega
        have z0 : ¬ ((i : Int) < (i : Int)) := by omega
        obtain ⟨kad, gcap, hbx, hgr⟩ := HR.out.box
        obtain ⟨e0, e1, e2, _⟩ := hbx.cells
        obtain ⟨r0, r1, r2, rf⟩ := HR.out.res.cells
        have HGR : Hid (GrowK wr (G + 1) (.slice kad i gcap) (t.kids.take i)) := hgr
        clear hbx hgr hlt
        go_wp2
        refine ret_for rfl rfl rfl (HR.out.res.set _ _ _) ⟨kad, gcap, rfl, ?_, kept_set3 HR.out.kept (by omega) _ _ _⟩
        have hn' : ¬ (G + 1 ≤ A + 1) := by have := HGE.out; omega
        have hI2 := HGR.out.isT t.op t.name
        rw [List.take_of_length_le (by rw [HN.out]; exact Nat.le_refl _)] at hI2
        have he : (⟨t.op, t.name, t.kids⟩ : Tr) = t := by cases t; rfl
        rw [he] at hI2
        have hI3 : IsT (fun k => G + 1 ≤ k) wr t (.slice kad i gcap) := hI2
        have hI4 := ((hI3.other hn' 0 (.int .u8 (t.op : Nat))).other hn' 1 (.string t.name)).other hn' 2 (.slice kad i gcap)
        exact hI4.mono (fun k q => by have := HGE.out; omega)
end Go.Proofs.YtnjajafmmociiaaGreatDoor
