/- The chapter's examples: the calls, and the loop over words. -/
import Derived.Test.YtgbmfclboliliaaDoorWdExX
namespace Go.Proofs.YtgbmfclboliliaaDoor
open Go.RowKit Go.Shelf Go.Lib
attribute [local go_sem] Oper.semAt_some

theorem isW_lit (w : World) (xs ys : List Nat) (hx : ∀ x ∈ xs, x < 65536) (hy : ∀ x ∈ ys, x < 65536) (lx : xs.length ≤ 100) (ly : ys.length ≤ 100) : IsW ((w.alloc (.cells (u16s xs).toArray 54)).alloc (.cells (u16s ys).toArray 54)) (.slice (some ⟨w.heap.size, 0, none⟩) xs.length xs.length) (.slice (some ⟨w.heap.size + 1, 0, none⟩) ys.length ys.length) ⟨xs, ys⟩ :=
  ⟨lets_lit (alUp (al0 w _) _) hx lx, lets_lit (al1 w _ _) hy ly, by show xs.length + ys.length ≤ _; omega⟩
theorem tab_below {w W : World} (h : PowTab w) (hB : Below w.heap.size w W) : PowTab W := Go.Joins.tab_stays Tryd.globPow h hB (Nat.le_refl _)
def c12 (w : World) : World := (w.alloc (.cells #[.int .u16 1, .int .u16 2] 54)).alloc (.cells #[.int .u16 3, .int .u16 2, .int .u16 3, .int .u16 2] 54)
theorem wk_normal (w W : World) (k : Kept [] (c12 w) W) : Calls Tryd.prog 10 #[.agg #[.slice (some ⟨w.heap.size, 0, none⟩) 2 2, .slice (some ⟨w.heap.size + 1, 0, none⟩) 4 4]] W fun e w1 => ∃ a1 c1 a2 c2, e = .returned (.agg #[.slice a1 1 c1, .slice a2 2 c2]) ∧ Hid (IsW w1 (.slice a1 1 c1) (.slice a2 2 c2) ⟨[1], [2, 3]⟩) ∧ Hid (Kept [] W w1) := by
  have h : IsW W (.slice (some ⟨w.heap.size, 0, none⟩) 2 2) (.slice (some ⟨w.heap.size + 1, 0, none⟩) 4 4) ⟨[1, 2], [3, 2, 3, 2]⟩ := (isW_lit w [1, 2] [3, 2, 3, 2] (by decide) (by decide) (by decide) (by decide)).kept k
  exact (gives_of (c := ⟨[1], [2, 3]⟩) (normal_any _ _ ⟨[1, 2], [3, 2, 3, 2]⟩ W h.st h.lp h.few) (by decide) (by decide) (by decide) (by decide) (by decide)).mono fun e w1 h => h
theorem wk_show1 {w1 : World} {a1 a2 : Option Addr} {c1 c2 : Nat} (h : IsW w1 (.slice a1 1 c1) (.slice a2 2 c2) ⟨[1], [2, 3]⟩) (W : World) (k : Kept [] w1 W) (ht : PowTab W) : Calls Tryd.prog 28 #[.agg #[.slice a1 1 c1, .slice a2 2 c2]] W fun e W' => e = .returned (.string ⟨#[49, 32, 40, 50, 32, 51, 41]⟩) ∧ Hid (Kept [] W W') := by
  have := show_any _ _ _ W (h.kept k) (by decide) ht
  rw [showB_1] at this
  exact this
theorem wk_show2 {w1 : World} {a1 a2 : Option Addr} {c1 c2 : Nat} (h : IsW w1 (.slice a1 0 c1) (.slice a2 2 c2) ⟨[], [4, 3]⟩) (W : World) (k : Kept [] w1 W) (ht : PowTab W) : Calls Tryd.prog 28 #[.agg #[.slice a1 0 c1, .slice a2 2 c2]] W fun e W' => e = .returned (.string ⟨#[40, 52, 32, 51, 41]⟩) ∧ Hid (Kept [] W W') := by
  have := show_any _ _ _ W (h.kept k) (by decide) ht
  rw [showB_2] at this
  exact this
def c34 (w : World) : World := (w.alloc (.cells #[.int .u16 1, .int .u16 2] 54)).alloc (.cells #[.int .u16 3, .int .u16 4] 54)
theorem wk_suffix (w W : World) (k : Kept [] (c34 w) W) : Calls Tryd.prog 11 #[.agg #[.slice (some ⟨w.heap.size, 0, none⟩) 2 2, .slice (some ⟨w.heap.size + 1, 0, none⟩) 2 2], .int .i64 3] W fun e w1 => ∃ a1 c1 a2 c2, e = .returned (.agg #[.slice a1 0 c1, .slice a2 2 c2]) ∧ Hid (IsW w1 (.slice a1 0 c1) (.slice a2 2 c2) ⟨[], [4, 3]⟩) ∧ Hid (Kept [] W w1) := by
  have h : IsW W (.slice (some ⟨w.heap.size, 0, none⟩) 2 2) (.slice (some ⟨w.heap.size + 1, 0, none⟩) 2 2) ⟨[1, 2], [3, 4]⟩ := (isW_lit w [1, 2] [3, 4] (by decide) (by decide) (by decide) (by decide)).kept k
  exact (gives_of (c := ⟨[], [4, 3]⟩) (suffix_any _ _ ⟨[1, 2], [3, 4]⟩ 3 W h (by decide)) (by decide) (by decide) (by decide) (by decide) (by decide)).mono fun e w1 h => h
/-- The word that is read, in memory. -/
structure CAt (W : World) (B : Nat) (x y : Value) : Prop where
  box : Wd2 W B x y
  isw : IsW W x y ⟨[1, 2], [3, 4]⟩
theorem CAt.kept {W W' : World} {B : Nat} {x y : Value} (h : CAt W B x y) (k : Kept [] W W') : CAt W' B x y := ⟨h.box.kept k, h.isw.kept k⟩
theorem CAt.new {W : World} {x y : Value} (h : IsW W x y ⟨[1, 2], [3, 4]⟩) : CAt (W.alloc (.cells #[x, y] 24)) W.heap.size x y := ⟨heap_alloc_new W _, h.kept ((Kept.refl [] W).alloc _)⟩
theorem wk_read1 (W : World) : Calls Tryd.prog 41 #[.string ⟨#[32, 49, 32, 50, 40, 51, 32, 32, 52, 32, 41, 32]⟩] W fun e w1 => ∃ a1 c1 a2 c2, e = .returned (.tuple #[.agg #[.slice a1 2 c1, .slice a2 2 c2], .int .i64 0, .int .i64 0]) ∧ Hid (IsW w1 (.slice a1 2 c1) (.slice a2 2 c2) ⟨[1, 2], [3, 4]⟩) ∧ Hid (Kept [] W w1) := by
  refine (read_any _ W).mono ?_
  rintro e w1 ⟨a1, n1, c1, a2, n2, c2, rfl, hk, hn⟩
  have e1 : readF (⟨#[32, 49, 32, 50, 40, 51, 32, 32, 52, 32, 41, 32]⟩ : ByteArray).data.toList = (some ⟨[1, 2], [3, 4]⟩, 0) := readF_1
  rw [e1] at hn ⊢
  obtain ⟨b1, d1, q1⟩ := own_form hn.own1
  obtain ⟨b2, d2, q2⟩ := own_form hn.own2
  cases q1
  cases q2
  exact ⟨_, _, _, _, rfl, ⟨hn.lets1, hn.lets2, by decide⟩, hk⟩
theorem wk_read2 (W : World) : Calls Tryd.prog 41 #[.string ⟨#[40, 48, 49, 41]⟩] W fun e w1 => ∃ a1 n1 c1 a2 n2 c2, e = .returned (.tuple #[.agg #[.slice a1 n1 c1, .slice a2 n2 c2], .int .i64 51, .int .i64 2]) ∧ Hid (Kept [] W w1) := by
  refine (read_any _ W).mono ?_
  rintro e w1 ⟨a1, n1, c1, a2, n2, c2, rfl, hk, hn⟩
  have e1 : readF (⟨#[40, 48, 49, 41]⟩ : ByteArray).data.toList = (none, 2) := readF_2
  rw [e1]
  exact ⟨a1, n1, c1, a2, n2, c2, rfl, hk⟩
theorem wk_behind {W : World} {B : Nat} {x y : Value} (h : CAt W B x y) : Calls Tryd.prog 24 #[.agg #[x, y], .int .i64 3] W fun e w1 => e = .returned (.int .i64 2) ∧ Hid (Kept [] W w1) := by
  have := behind_any x y ⟨[1, 2], [3, 4]⟩ 3 W h.isw
  rw [show behindI ⟨[1, 2], [3, 4]⟩ 3 = 2 by rfl] at this
  exact this
theorem wk_check1 {W : World} {B : Nat} {x y : Value} (h : CAt W B x y) : Calls Tryd.prog 20 #[.agg #[x, y], .int .i64 3] W fun e w1 => e = .returned (.int .i64 0) ∧ Hid (Kept [] W w1) := by
  have := check_good x y ⟨[1, 2], [3, 4]⟩ 3 W h.isw (by decide)
  rw [show checkE ⟨[1, 2], [3, 4]⟩ (3 : Nat) = 0 by decide] at this
  exact this
theorem wk_check2 {W : World} {B : Nat} {x y : Value} (h : CAt W B x y) : Calls Tryd.prog 20 #[.agg #[x, y], .int .i64 2] W fun e w1 => e = .returned (.int .i64 50) ∧ Hid (Kept [] W w1) := by
  have := check_good x y ⟨[1, 2], [3, 4]⟩ 2 W h.isw (by decide)
  rw [show checkE ⟨[1, 2], [3, 4]⟩ (2 : Nat) = 50 by decide] at this
  exact this
theorem wk_places {W : World} {B : Nat} {x y : Value} (h : CAt W B x y) : Calls Tryd.prog 22 #[.agg #[x, y]] W fun e w1 => e = .returned (.int .i64 4) ∧ Hid (Kept [] W w1) := by
  have := places_any x y ⟨[1, 2], [3, 4]⟩ W h.isw
  rw [show placesN ⟨[1, 2], [3, 4]⟩ = 4 by rfl] at this
  exact this
theorem wk_at {W : World} {B : Nat} {x y : Value} (h : CAt W B x y) : Calls Tryd.prog 26 #[.agg #[x, y], .int .i64 5] W fun e w1 => e = .returned (.int .u16 4) ∧ Hid (Kept [] W w1) := by
  have := at_any x y ⟨[1, 2], [3, 4]⟩ 5 W h.isw (by decide)
  rw [show atI ⟨[1, 2], [3, 4]⟩ 5 = 4 by rfl] at this
  exact this
def c43 (w : World) : World := (w.alloc (.cells #[.int .u16 1, .int .u16 2, .int .u16 3] 54)).alloc (.cells #[.int .u16 4, .int .u16 3] 54)
theorem wk_same {w : World} {B : Nat} {x y : Value} (h : CAt w B x y) (W : World) (k : Kept [] (c43 w) W) : Calls Tryd.prog 42 #[.agg #[x, y], .agg #[.slice (some ⟨w.heap.size, 0, none⟩) 3 3, .slice (some ⟨w.heap.size + 1, 0, none⟩) 2 2]] W fun e w1 => e = .returned (.bool true) ∧ Hid (Kept [] W w1) := by
  have h2 : IsW W (.slice (some ⟨w.heap.size, 0, none⟩) 3 3) (.slice (some ⟨w.heap.size + 1, 0, none⟩) 2 2) ⟨[1, 2, 3], [4, 3]⟩ := (isW_lit w [1, 2, 3] [4, 3] (by decide) (by decide) (by decide) (by decide)).kept k
  have := same_any x y _ _ ⟨[1, 2], [3, 4]⟩ ⟨[1, 2, 3], [4, 3]⟩ W ((h.isw.kept (((Kept.refl [] w).alloc _).alloc _)).kept k) h2
  rw [show sameB ⟨[1, 2], [3, 4]⟩ ⟨[1, 2, 3], [4, 3]⟩ = true by decide] at this
  exact this
def c4 (w : World) : World := (w.alloc (.cells #[.int .u16 4] 54)).alloc (.cells #[.int .u16 3, .int .u16 4] 54)
theorem wk_join (w W : World) (k : Kept [] (c4 w) W) : Calls Tryd.prog 12 #[.slice (some ⟨w.heap.size, 0, none⟩) 1 1, .agg #[.slice none 0 0, .slice (some ⟨w.heap.size + 1, 0, none⟩) 2 2]] W fun e w1 => ∃ a1 c1 a2 c2, e = .returned (.agg #[.slice a1 0 c1, .slice a2 2 c2]) ∧ Hid (IsW w1 (.slice a1 0 c1) (.slice a2 2 c2) ⟨[], [4, 3]⟩) ∧ Hid (Kept [] W w1) := by
  have h : IsW W (.slice (some ⟨w.heap.size, 0, none⟩) 1 1) (.slice (some ⟨w.heap.size + 1, 0, none⟩) 2 2) ⟨[4], [3, 4]⟩ := (isW_lit w [4] [3, 4] (by decide) (by decide) (by decide) (by decide)).kept k
  have h0 : IsW W (.slice none 0 0) (.slice (some ⟨w.heap.size + 1, 0, none⟩) 2 2) ⟨[], [3, 4]⟩ := ⟨(new_zero 0 W).lets1, h.lp, by decide⟩
  exact (gives_of (c := ⟨[], [4, 3]⟩) (join_any _ _ _ [4] ⟨[], [3, 4]⟩ W h.st h0 (by decide)) (by decide) (by decide) (by decide) (by decide) (by decide)).mono fun e w1 h => h
theorem wk_prefix {W : World} {B : Nat} {x y : Value} (h : CAt W B x y) : Calls Tryd.prog 13 #[.agg #[x, y], .int .i64 3] W fun e w1 => ∃ g cur, e = .returned (.slice (some ⟨g, 0, none⟩) 3 3) ∧ Hid (w1.heap[g]? = some (.cells cur 54 (0, 0)) ∧ cur[2]? = some (.int .u16 3)) ∧ Hid (Kept [] W w1) := by
  refine (prefix_some x y ⟨[1, 2], [3, 4]⟩ 3 W h.isw (by decide) (by decide)).mono ?_
  rintro e w1 ⟨g, rfl, ho, hk⟩
  rcases ho.2 with ⟨hh, _⟩ | ⟨g', cap, cur, hh, _, hc, _, _, _, ht⟩
  · cases hh
  · cases hh
    refine ⟨g, cur, rfl, ⟨hc, ?_⟩, hk⟩
    have : (cur.toList.take (3 * 1))[2]? = some (.int .u16 3) := by
      have e3 : (prefN ⟨[1, 2], [3, 4]⟩ 3) = [1, 2, 3] := by decide
      rw [e3] at ht
      have ht' : cur.toList.take (3 * 1) = u16s [1, 2, 3] := ht
      rw [ht']; rfl
    rw [List.getElem?_take, if_pos (by decide), Array.getElem?_toList] at this
    exact this

def nwC (x : Nw) : Array Value := #[.slice x.a1 x.q.stem.length x.c1, .slice x.a2 x.q.loop.length x.c2]
section
variable {F : Fence} {n : Nat} {P : Program}
theorem rangeWord {g : Operand} {ps : Array Tmp} {assign body : Code} {Q : Exit → Act → World → Prop} {a : Act} {w : World}
    (hro : F.round = none) (h1 : 1 ≤ n) {gf : Nat} {lb : Array Value} (hg : a.eval g = .func (.func gf) #[] lb) (hFg : F.fn gf) (eg : ∀ args w, (callFunc gf args).run P w = .ok (.enter gf args) w)
    {encs : Nw → Array Value} {At : (Nat → Prop) → Nw → World → Prop} {T X₀ : Nat → Prop} {S Sp : List Nw → Prop} {N : Nat} (hseq : GoesAtX F (n - 1) P gf lb encs At T X₀ S Sp N w) (hAt : AtKeptX At) (hT : ∀ k, T k → k < w.heap.size) (hX₀ : ∀ k, X₀ k → k < w.heap.size) (hps : ∀ x, (encs x).size = ps.size)
    (I : (Nat → Prop) → List Nw → World → Prop) (Ix : Code → (Nat → Prop) → List Nw → World → Prop) (hI : Abide I) (hIx : ∀ c, Abide (Ix c)) (h0 : I X₀ [] w) (a₁ : Nw → Nat → Act)
    (hassign : ∀ (l : Nat) (x : Nw) (W : World) (Bx : Nat) (K : Act → World → Prop), W.heap.size = Bx → K (a₁ x Bx) (W.alloc (.cells (nwC x) 24)) →
      assign.wpIn (F.inRound l) (n - 1 - 1) P (Exit.then K (fun _ _ _ => False)) { tmps := (ps.zip (encs x)).foldl (fun t (p, v) => t.setIfInBounds p v) a.tmps, defers := [] } W)
    (hbody : ∀ (l : Nat) (X : Nat → Prop) (pre : List Nw) (x : Nw) (Bx : Nat) (W : World), (∃ r, W.heap[l]? = some (.loop r)) → X l → (∀ k, X k → k < W.heap.size) → I X pre W → w.heap.size ≤ Bx → W.heap[Bx]? = some (.cells (nwC x) 24 (0, 0)) → At X x W → pre.length < N →
      body.wpIn (F.inRound l) (n - 1 - 1) P (bodyOwesT T X I Ix (pre ++ [x]) W) (a₁ x Bx) W)
    (hdone : ∀ (D : Nat) (X : Nat → Prop) (xs : List Nw) (W : World), w.heap.size ≤ D → X D → S xs → I X xs W → W.heap[D]? = some (.deferred (some [])) → Q .normal { a with defers := { target := .collected D, args := #[] } :: a.defers } W)
    (hstop : ∀ (D : Nat) (X : Nat → Prop) (c : Code) (pre : List Nw) (W : World), w.heap.size ≤ D → X D → Sp pre → Ix c X pre W → W.heap[D]? = some (.deferred (some [])) → c.wpIn F n P Q { a with defers := { target := .collected D, args := #[] } :: a.defers } W) :
    (Code.rangeFunc g ps assign body).wpIn F n P Q a w :=
  rangeAtX hro h1 hg hFg eg hseq hAt hT hX₀ hps I Ix hI hIx h0 (fun x a' W => ∃ Bx, w.heap.size ≤ Bx ∧ W.heap[Bx]? = some (.cells (nwC x) 24 (0, 0)) ∧ a' = a₁ x Bx)
    (fun x a' W l o o' hl hc ⟨Bx, q1, q2, q3⟩ => ⟨Bx, q1, (World.putObj_heap_other (fun e => by subst e; rw [q2] at hl; cases hl; cases hc)).trans q2, q3⟩)
    (fun l X pre x W K hi _ hw hK => hassign l x W _ K rfl (hK _ _ ((Kept.refl [] W).alloc _) ⟨W.heap.size, hw, heap_alloc_new W _, rfl⟩))
    (fun l X pre x a' W hr hl hX hi hx hat hN => by obtain ⟨Bx, q1, q2, q3⟩ := hx; subst q3; exact hbody l X pre x Bx W hr hl hX hi q1 q2 hat hN) hdone hstop
end
theorem eql_nil (fn : Fn) (f c : Array Value) (w : World) : (binOp .eql 64 (.func fn f c) .nilFunc).run Tryd.prog w = .ok (.bool false) w := by
  have h : ∀ d, (Op.equalIn (d + 1) 64 (.func fn f c) .nilFunc).run Tryd.prog w = .ok false w := fun d => by simp [Op.equalIn, run_underlying Tryd.underlying64]
  simp only [binOp]
  simp [Op.equal, Op.maxDepth, h 9999]
/-- What is written so far. -/
def texts (l : List Wd) : List UInt8 := (l.map showB).flatten
theorem all12 : allW 1 2 = [⟨[], [0]⟩, ⟨[], [1]⟩, ⟨[], [0, 1]⟩, ⟨[], [1, 0]⟩, ⟨[0], [1]⟩, ⟨[1], [0]⟩] := by kernel_rfl
theorem texts12 : texts (allW 1 2) = [40, 48, 41, 40, 49, 41, 40, 48, 32, 49, 41, 40, 49, 32, 48, 41, 48, 32, 40, 49, 41, 49, 32, 40, 48, 41] := by
  rw [all12]
  simp [texts, showB, stemB, loopB, sepB, decDigits_one, List.range_succ]
theorem texts_snoc (l : List Wd) (q : Wd) : texts (l ++ [q]) = texts l ++ showB q := by simp [texts]
end Go.Proofs.YtgbmfclboliliaaDoor
