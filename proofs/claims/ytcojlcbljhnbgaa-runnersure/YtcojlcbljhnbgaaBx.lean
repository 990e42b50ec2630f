/- Boxes, rows that grow, rounds: what the walks over loops lean on. No walk here. -/
import Derived.Test.YtcojlcbljhnbgaaRgAt
import Derived.RangeFuncBox
import Derived.Laws.EntriesVeiled
import Derived.Maps.AppendAt
import Derived.Deep.Onto
import Derived.Deep.AppendLies
namespace Go.Proofs.Ytcojlcbljhnbgaa
open Go.RowKit Go.Shelf

theorem own_lt {W : World} {base : Nat} {e : TypeId} {size : Nat} {v : Value} {n g : Nat} {xs : List Value} (h : W.ownsRow base e size v n xs) (hg : v.ownBlock = some g) : base ≤ g ∧ g < W.heap.size := by
  rcases h.2 with ⟨rfl, _⟩ | ⟨g', cap, cur, rfl, hb, hc, _⟩
  · cases hg
  · cases hg; exact ⟨hb, lt_of hc⟩
/-- An append in a fence, that tells where the row lies. -/
theorem append_in {F : Fence} {n : Nat} {P : Program} (w : World) {ops : Array Oper} {rest : List Oper} {o : Oper} {a : Act} {Q : Exit → Act → World → Prop}
    (hg : o.guard = none) (s x : Operand) (t : TypeId) (hop : o.op = Op.call { callee := Callee.builtin Builtin.append, args := #[s, x], argTypes := #[t, t] })
    (base : Nat) (e : TypeId) (i : TypeInfo) (z : Value) (size bytes : Nat) (h1 : P.underlying t = some (.slice e)) (h2 : P.info? e = some i) (h3 : i.zero = some z) (h4 : i.size = size) (h5 : i.bytes = bytes) (h6 : z.cells.size = size) (h7 : 0 < size)
    (v : Value) (k : Nat) (xs : List Value) (hs : a.eval s = v) (hown : w.ownsRow base e size v k xs) (ad : Addr) (m c : Nat) (news : List Value) (hx : a.eval x = .slice (some ad) m c) (hn : news.length = m * size)
    (hc : ∀ j u, news[j]? = some u → w.cell? (ad.add j) = some u) (h1c : ∀ u ∈ news, u.oneCell' = true) (hm : 0 < m) (b1 : k + m ≤ maxLen) (b2 : (k + m) * bytes ≤ 140737488355328) (b3 : base ≤ w.heap.size)
    (hK : ∀ gr cap w', w'.ownsRow base e size (.slice (some ⟨gr, 0, none⟩) (k + m) cap) (k + m) (xs ++ news) → w.grownBy w' v.ownBlock → (v.ownBlock = some gr ∨ gr = w.heap.size) → wpListIn F n P ops Q rest (a.put o.dst (.slice (some ⟨gr, 0, none⟩) (k + m) cap)) w') :
    wpListIn F n P ops Q (o :: rest) a w := by
  obtain ⟨gr, cap, w', run, q1, q2, q3, _⟩ := run_append_lies (P := P) w t o.type base e i z size bytes h1 h2 h3 h4 h5 h6 h7 v k xs hown ad m c news hn hc h1c hm b1 b2 b3 _ rfl
  refine wpListIn_plain hg fun K hk => ⟨by simp [Oper.about, hop, resolve, Target.leads, Sem.run_pure], ?_⟩
  rw [Oper.semAt_plain F _ _ (by rw [hop]; intro c hc'; cases hc')]
  simp [execOp, hop, resolve, invoke, builtin, hs, hx, run, Result.andThen]
  exact hk _ _ (hK gr cap w' q1 q2 q3)

/-- A box of the caller's. -/
def Bx1 (B : Nat) (t : TypeId) (v : Value) (X : Nat → Prop) (W : World) : Prop := Boxed W B t v ∧ ¬ X B
theorem Bx1.more {B : Nat} {t : TypeId} {v : Value} {X X' : Nat → Prop} {W : World} (h : Bx1 B t v X W) (hX : ∀ k, X' k → X k ∨ W.heap.size ≤ k) : Bx1 B t v X' W := by
  have := h.1.lt
  exact ⟨h.1, fun hk => (hX _ hk).elim h.2 (by omega)⟩
theorem Bx1.turn {B : Nat} {t : TypeId} {v : Value} {X : Nat → Prop} {W W' : World} {row : Option Nat} (h : Bx1 B t v X W) (hg : W.grownBy W' row) (hr : ∀ r, row = some r → X r) : Bx1 B t v X W' :=
  ⟨h.1.kept hg (fun e => h.2 (hr _ e.symm)), h.2⟩
/-- All that lay below n₀ lies as it lay; nothing of X is below. -/
def Bw (n₀ : Nat) (w : World) (X : Nat → Prop) (W : World) : Prop := Below n₀ w W ∧ n₀ ≤ W.heap.size ∧ ∀ k, X k → n₀ ≤ k
theorem Bw.more {n₀ : Nat} {w W : World} {X X' : Nat → Prop} (h : Bw n₀ w X W) (hX : ∀ k, X' k → X k ∨ W.heap.size ≤ k) : Bw n₀ w X' W :=
  ⟨h.1, h.2.1, fun k hk => (hX k hk).elim (h.2.2 k) (fun q => Nat.le_trans h.2.1 q)⟩
theorem Bw.turn {n₀ : Nat} {w W W' : World} {X : Nat → Prop} {row : Option Nat} (h : Bw n₀ w X W) (hg : W.grownBy W' row) (hr : ∀ r, row = some r → X r) : Bw n₀ w X W' :=
  ⟨h.1.grown hg h.2.1 (fun k e => h.2.2 k (hr k e)), Nat.le_trans h.2.1 hg.size, h.2.2⟩

theorem own_set {W : World} {base : Nat} {e : TypeId} {size k B : Nat} {t : TypeId} {v u : Value} {xs : List Value} (h : W.ownsRow base e size v k xs) (b : Boxed W B t u) (ht : t ≠ e) (u' : Value) : (W.setCell ⟨B, 0, none⟩ u').ownsRow base e size v k xs :=
  h.kept (grownBy_setCell' W B u') (.inr (b.not_row ht h).symm)
theorem box_other {W : World} {B C : Nat} {t : TypeId} {v u : Value} (h : Boxed W B t v) (hne : B ≠ C) : Boxed (W.setCell ⟨C, 0, none⟩ u) B t v := (Below.heap_setCell _ _ _ _ hne).trans h
theorem box_shut {W : World} {B D : Nat} {t : TypeId} {v : Value} {o : Obj} (h : Boxed W B t v) (hD : W.heap[D]? = some (.deferred (some []))) : Boxed (W.putObj D o) B t v :=
  (World.putObj_heap_other (fun e => by subst e; rw [show W.heap[B]? = _ from h] at hD; cases hD)).trans h
theorem row_set {w : World} {g i : Nat} {cs : Array Value} {T : TypeId} {fz : Nat × Nat} (h : w.heap[g]? = some (.cells cs T fz)) (v : Value) : (w.setCell ⟨g, i, none⟩ v).heap[g]? = some (.cells (cs.setIfInBounds i v) T fz) := by
  simp only [World.setCell, Array.getElem?_modify, if_true]
  rw [h]
  simp
theorem Bx1.kept0 {B : Nat} {t : TypeId} {v : Value} {X : Nat → Prop} {W W' : World} (h : Bx1 B t v X W) (k : Kept [] W W') : Bx1 B t v X W' := ⟨k.at h.1 (by simp), h.2⟩
theorem Bw.kept0 {n₀ : Nat} {w W W' : World} {X : Nat → Prop} (h : Bw n₀ w X W) (k : Kept [] W W') : Bw n₀ w X W' := h.turn (grownBy_of_kept k) (fun r e => by cases e)
theorem Bw.set {n₀ : Nat} {w W : World} {X : Nat → Prop} (h : Bw n₀ w X W) {b o : Nat} (hb : n₀ ≤ b) (v : Value) : Bw n₀ w X (W.setCell ⟨b, o, none⟩ v) :=
  ⟨h.1.setCell (p := ⟨b, o, none⟩) hb v, by have := h.2.1; simp [World.setCell]; exact this, h.2.2⟩
theorem Bx1.set {B : Nat} {t : TypeId} {v : Value} {X : Nat → Prop} {W : World} (h : Bx1 B t v X W) (v' : Value) : Bx1 B t v' X (W.setCell ⟨B, 0, none⟩ v') := ⟨Boxed.set _ h.1, h.2⟩
theorem Bx1.other {B C o : Nat} {t : TypeId} {v u : Value} {X : Nat → Prop} {W : World} (h : Bx1 B t v X W) (hne : B ≠ C) : Bx1 B t v X (W.setCell ⟨C, o, none⟩ u) := ⟨(Below.heap_setCell _ _ _ _ hne).trans h.1, h.2⟩
theorem abide_and {α : Type} {I J : (Nat → Prop) → List α → World → Prop} (h : Abide I) (k : Abide J) : Abide (fun X p W => I X p W ∧ J X p W) :=
  ⟨fun q hX => ⟨h.more q.1 hX, k.more q.2 hX⟩, fun q hg hr => ⟨h.turn q.1 hg hr, k.turn q.2 hg hr⟩⟩
theorem abide_pure {α : Type} (p : List α → Prop) : Abide (fun (_ : Nat → Prop) (l : List α) (_ : World) => p l) := ⟨fun q _ => q, fun q _ _ => q⟩
theorem abide_bx {α : Type} (B : Nat) (t : TypeId) (v : List α → Value) : Abide (fun X l W => Bx1 B t (v l) X W) := ⟨fun q hX => q.more hX, fun q hg hr => q.turn hg hr⟩
theorem abide_bw {α : Type} (n₀ : Nat) (w : World) : Abide (fun X (_ : List α) W => Bw n₀ w X W) := ⟨fun q hX => q.more hX, fun q hg hr => q.turn hg hr⟩
theorem alUp {W : World} {k : Nat} {o : Obj} (h : W.heap[k]? = some o) (o' : Obj) : (W.alloc o').heap[k]? = some o := (Below.heap_alloc _ _ _ (lt_of h)).trans h
theorem al0 (w : World) (a : Obj) : (w.alloc a).heap[w.heap.size]? = some a := heap_alloc_new w a
theorem al1 (w : World) (a b : Obj) : ((w.alloc a).alloc b).heap[w.heap.size + 1]? = some b := by have := heap_alloc_new (w.alloc a) b; rwa [World.size_alloc] at this
theorem al2 (w : World) (a b c : Obj) : (((w.alloc a).alloc b).alloc c).heap[w.heap.size + 1 + 1]? = some c := by have := al1 (w.alloc a) b c; rwa [World.size_alloc] at this
theorem al3 (w : World) (a b c d : Obj) : ((((w.alloc a).alloc b).alloc c).alloc d).heap[w.heap.size + 1 + 1 + 1]? = some d := by have := al2 (w.alloc a) b c d; rwa [World.size_alloc] at this
theorem al4 (w : World) (a b c d e : Obj) : (((((w.alloc a).alloc b).alloc c).alloc d).alloc e).heap[w.heap.size + 1 + 1 + 1 + 1]? = some e := by have := al3 (w.alloc a) b c d e; rwa [World.size_alloc] at this
theorem al5 (w : World) (a b c d e f : Obj) : ((((((w.alloc a).alloc b).alloc c).alloc d).alloc e).alloc f).heap[w.heap.size + 1 + 1 + 1 + 1 + 1]? = some f := by have := al4 (w.alloc a) b c d e f; rwa [World.size_alloc] at this
/-- A block of the caller's, of whatever cells. -/
def Blk (B : Nat) (cs : Array Value) (t : TypeId) (X : Nat → Prop) (W : World) : Prop := W.heap[B]? = some (.cells cs t (0, 0)) ∧ ¬ X B
theorem Blk.more {B : Nat} {cs : Array Value} {t : TypeId} {X X' : Nat → Prop} {W : World} (h : Blk B cs t X W) (hX : ∀ k, X' k → X k ∨ W.heap.size ≤ k) : Blk B cs t X' W := by
  have := lt_of h.1
  exact ⟨h.1, fun hk => (hX _ hk).elim h.2 (by omega)⟩
theorem Blk.turn {B : Nat} {cs : Array Value} {t : TypeId} {X : Nat → Prop} {W W' : World} {row : Option Nat} (h : Blk B cs t X W) (hg : W.grownBy W' row) (hr : ∀ r, row = some r → X r) : Blk B cs t X W' :=
  ⟨(hg.block B (lt_of h.1) (fun e => h.2 (hr _ e.symm))).trans h.1, h.2⟩
theorem Blk.kept0 {B : Nat} {cs : Array Value} {t : TypeId} {X : Nat → Prop} {W W' : World} (h : Blk B cs t X W) (k : Kept [] W W') : Blk B cs t X W' := ⟨k.at h.1 (by simp), h.2⟩
theorem Blk.other {B C o : Nat} {cs : Array Value} {t : TypeId} {u : Value} {X : Nat → Prop} {W : World} (h : Blk B cs t X W) (hne : B ≠ C) : Blk B cs t X (W.setCell ⟨C, o, none⟩ u) := ⟨(Below.heap_setCell _ _ _ _ hne).trans h.1, h.2⟩
theorem abide_blk {α : Type} (B : Nat) (cs : List α → Array Value) (t : TypeId) : Abide (fun X l W => Blk B (cs l) t X W) := ⟨fun q hX => q.more hX, fun q hg hr => q.turn hg hr⟩
theorem KpX.of_keptF {Y : Nat → Prop} {F : List Nat} {W W' : World} (h : Kept F W W') (hF : ∀ x ∈ F, ¬ Y x) : KpX Y W W' := ⟨h.size, fun _ _ hk ho => h.at ho (fun hf => hF _ hf hk)⟩
theorem Bx1.keptF {F : List Nat} {B : Nat} {t : TypeId} {v : Value} {X : Nat → Prop} {W W' : World} (h : Bx1 B t v X W) (k : Kept F W W') (hB : B ∉ F) : Bx1 B t v X W' := ⟨k.at h.1 hB, h.2⟩
theorem Bw.keptF {F : List Nat} {n₀ : Nat} {w W W' : World} {X : Nat → Prop} (h : Bw n₀ w X W) (k : Kept F W W') (hF : ∀ x ∈ F, n₀ ≤ x) : Bw n₀ w X W' :=
  ⟨⟨k.os.trans h.1.os, k.tape.trans h.1.tape, k.output.trans h.1.output, Nat.le_trans h.1.size k.size, fun i hi => (k.block i (Nat.lt_of_lt_of_le hi h.2.1) (fun hf => by have := hF i hf; omega)).trans (h.1.block i hi)⟩, Nat.le_trans h.2.1 k.size, h.2.2⟩
section
variable {P : Program}
/-- A round of another loop can be had from within a round. -/
theorem yield_in {m : Nat} (m' : Nat) {l l' : Nat} {args : Array Value} {W : World} {R : Ending → World → Prop} (h : YieldAt Fence.wide m P l args W R) : YieldAt (Fence.wide.inRound l') m' P l args W R := by
  obtain ⟨fn, tmps, assign, body, h1, h2⟩ := h
  exact ⟨fn, tmps, assign, body, h1, h2.1, fun c cs _ => h2.2 c cs (by simp [Fence.room, Fence.wide])⟩
end
theorem cell_kept0 {W W' : World} (k : Kept [] W W') {b o : Nat} {v : Value} (h : W.cell? ⟨b, o, none⟩ = some v) : W'.cell? ⟨b, o, none⟩ = some v :=
  (World.cell?_of_block (w := W) (a := ⟨b, o, none⟩) (k.block b (World.block_lt_of_cell? W _ h) (by simp))).trans h
end Go.Proofs.Ytcojlcbljhnbgaa
