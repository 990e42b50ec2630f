/- A loop over a function whose iterator may itself loop over a function. X: the blocks that are the iterator's own; a round leaves them as they are. -/
import Derived.RangeFuncNested
import Derived.RangeFuncBound
import Derived.RangeFuncCalls
import Derived.RangeFuncLeaves
import Derived.Shelf.Abstract
import Derived.OwnWalkIn
import Derived.TacticsInMore
import Derived.LoopNIn
import Derived.LoopIn
import Derived.Laws.Rows
import Derived.Test.YtcojlcbljhnbgaaKeeps
namespace Go.Proofs.Ytcojlcbljhnbgaa
open Go.RowKit Go.Shelf

/-- What a round keeps: what is not its own. -/
structure KpX (X : Nat → Prop) (W W' : World) : Prop where
  size : W.heap.size ≤ W'.heap.size
  own : ∀ (k : Nat) (o : Obj), X k → W.heap[k]? = some o → W'.heap[k]? = some o
theorem KpX.refl (X : Nat → Prop) (W : World) : KpX X W W := ⟨Nat.le_refl _, fun _ _ _ h => h⟩
theorem KpX.trans {X : Nat → Prop} {A B C : World} (h : KpX X A B) (k : KpX X B C) : KpX X A C :=
  ⟨Nat.le_trans h.size k.size, fun i o hi ho => k.own i o hi (h.own i o hi ho)⟩
theorem KpX.of_kept {X : Nat → Prop} {W W' : World} (h : Kept [] W W') : KpX X W W' := ⟨h.size, fun _ _ _ ho => h.at ho (by simp)⟩
theorem KpX.grown {X : Nat → Prop} {W W' : World} {row : Option Nat} (h : W.grownBy W' row) (hr : ∀ r, row = some r → ¬ X r) : KpX X W W' :=
  ⟨h.size, fun k _ hk ho => (h.block k (lt_of ho) (fun e => hr k e.symm hk)).trans ho⟩
theorem KpX.setCell {X : Nat → Prop} {W : World} {p : Addr} (h2 : ¬ X p.block) (v : Value) : KpX X W (W.setCell p v) :=
  ⟨by simp [World.setCell], fun _ _ hk ho => (Below.heap_setCell _ _ _ _ (fun e => h2 (e ▸ hk))).trans ho⟩
theorem KpX.putObj {X : Nat → Prop} (W : World) {l : Nat} (o' : Obj) (h1 : ¬ X l) : KpX X W (W.putObj l o') :=
  KpX.grown (grownBy_putObj' W l o') (fun r e => by cases e; exact h1)
theorem KpX.mono {X Y : Nat → Prop} {W W' : World} (h : KpX X W W') (hX : ∀ k, Y k → X k) : KpX Y W W' :=
  ⟨h.size, fun k o hk ho => h.own k o (hX k hk) ho⟩
theorem grownBy_of_kept {W W' : World} (h : Kept [] W W') : W.grownBy W' none :=
  ⟨h.os, h.tape, h.output, h.size, fun i hi _ => h.block i hi (by simp)⟩

/-- What abides an iterator's own steps: new blocks, which are its own; turns of its own blocks. -/
structure Abide {α : Type} (J : (Nat → Prop) → List α → World → Prop) : Prop where
  more : ∀ {X X' : Nat → Prop} {pre : List α} {W : World}, J X pre W → (∀ k, X' k → X k ∨ W.heap.size ≤ k) → J X' pre W
  turn : ∀ {X : Nat → Prop} {pre : List α} {W W' : World} {row : Option Nat}, J X pre W → W.grownBy W' row → (∀ r, row = some r → X r) → J X pre W'
theorem Abide.kept {α : Type} {J : (Nat → Prop) → List α → World → Prop} (h : Abide J) {X : Nat → Prop} {pre : List α} {W W' : World} (hj : J X pre W) (k : Kept [] W W') : J X pre W' :=
  h.turn hj (grownBy_of_kept k) (fun r e => by cases e)
/-- The blocks laid between two worlds. -/
def Between (W W' : World) (k : Nat) : Prop := W.heap.size ≤ k ∧ k < W'.heap.size
theorem Abide.lay {α : Type} {J : (Nat → Prop) → List α → World → Prop} (h : Abide J) {X : Nat → Prop} {pre : List α} {W W' : World} (hj : J X pre W) (k : Kept [] W W') : J (fun i => X i ∨ Between W W' i) pre W' :=
  h.kept (h.more hj (fun _ hi => hi.imp id (fun h => h.1))) k

/-- An iterator goes through xs: to the end (S), or till a round has said 'no more' (Sp). -/
def Goes {α : Type} (F : Fence) (n : Nat) (P : Program) (g : Nat) (lb : Array Value) (encs : α → Array Value) (X₀ : Nat → Prop) (S Sp : List α → Prop) (N : Nat) (w : World) : Prop :=
  ∀ (l : Nat) (J Jx : (Nat → Prop) → List α → World → Prop) (X : Nat → Prop) (W : World), Below w.heap.size w W → Abide J → Abide Jx →
    (∀ X pre x W1, J X pre W1 → (∀ k, X k → k < W1.heap.size) → pre.length < N → YieldAt F (n - 1) P l (encs x) W1 fun e W' =>
      (e = .returned (.bool true) ∧ J X (pre ++ [x]) W' ∧ KpX X W1 W') ∨ (e = .returned (.bool false) ∧ Jx X (pre ++ [x]) W' ∧ KpX X W1 W')) →
    J X [] W → (∀ k, X₀ k → X k) → (∀ k, X k → k < W.heap.size) →
    CallsIn F n P g (#[.func (.yield l) #[] #[]] ++ lb) W fun e W' => (∃ v, e = .returned v) ∧ ((∃ xs X', S xs ∧ J X' xs W') ∨ (∃ pre X', Sp pre ∧ Jx X' pre W'))

variable {F : Fence} {n : Nat} {P : Program}

/-- How a round's body is left, as its loop's record takes it. -/
def leftAs (l : Nat) (r : Loop) (R : Ending → World → Prop) (e : Exit) (W3 : World) : Prop :=
  W3.heap[l]? = some (.loop { r with state := .busy }) ∧
  match e with
  | .normal => R (.returned (.bool true)) (W3.putObj l (.loop r))
  | .ret => R (.returned (.bool false)) (W3.putObj l (.loop { r with state := .done, pending := some .ret }))
  | .exit id => R (.returned (.bool false)) (W3.putObj l (.loop { r with state := .done, pending := some (.exit id) }))
  | .goto t => R (.returned (.bool false)) (W3.putObj l (.loop { r with state := .done, pending := some (.goto t) }))
  | _ => False
/-- One round. -/
theorem one_round {l : Nat} {args : Array Value} {W : World} {R : Ending → World → Prop} {r : Loop} {assign body : Code} {ps : Array Tmp} {tmps : Array Value} (hl : W.heap[l]? = some (.loop r)) (hst : r.state = .ready) (hpe : r.pending = none) (hfn : F.fn r.fn) (e1 : r.params = ps) (e2 : r.assign = assign) (e3 : r.body = body) (e4 : r.tmps = tmps) (hsz : args.size = ps.size)
    (h : assign.wpIn (F.inRound l) n P (Exit.then (fun a₁ W₁ => W₁.heap[l]? = some (.loop r) ∧ body.wpIn (F.inRound l) n P (fun e _ W₃ => leftAs l r R e W₃) a₁ (W₁.putObj l (.loop { r with state := .busy }))) (fun _ _ _ => False))
      { tmps := (ps.zip args).foldl (fun t (p, v) => t.setIfInBounds p v) tmps, defers := [] } W) :
    YieldAt F n P l args W R := by
  subst e1 e2 e3 e4
  refine ⟨_, _, _, _, run_yield hl hsz, roundIn_of_wpIn hfn (wpIn_mono h ?_)⟩
  intro e a₁ W₁ hq
  cases e with
  | normal =>
    obtain ⟨h1, h2⟩ := hq
    refine ⟨_, run_beginRound h1 hst, wpIn_mono h2 ?_⟩
    rintro e a₃ W₃ ⟨h3, h4⟩
    cases e with
    | normal =>
      have := run_endRound (P := P) none h3
      refine ⟨_, _, this, ?_⟩
      have e2 : ({ r with state := .ready, pending := none } : Loop) = r := by rw [← hst, ← hpe]
      simpa [e2] using h4
    | ret => exact ⟨_, _, run_endRound (P := P) (some .ret) h3, h4⟩
    | exit id => exact ⟨_, _, run_endRound (P := P) (some (.exit id)) h3, h4⟩
    | goto t => exact ⟨_, _, run_endRound (P := P) (some (.goto t)) h3, h4⟩
    | panic c => exact h4.elim
    | outgrown => exact h4.elim
  | _ => exact hq.elim

/-- What a round's body owes, by the way it is left. -/
def bodyOwes {α : Type} (X : Nat → Prop) (I : (Nat → Prop) → List α → World → Prop) (Ix : Code → (Nat → Prop) → List α → World → Prop) (xs : List α) (W : World) : Exit → Act → World → Prop
  | .normal, _, W' => KpX X W W' ∧ I X xs W'
  | .ret, _, W' => KpX X W W' ∧ Ix .ret X xs W'
  | .exit id, _, W' => KpX X W W' ∧ Ix (.exit id) X xs W'
  | .goto t, _, W' => KpX X W W' ∧ Ix (.goto t) X xs W'
  | .panic _, _, _ => False
  | .outgrown, _, _ => False

/-- The caller's law, at an outermost loop: I between two rounds, Ix behind one that has left; Ax what the loop's variables are. -/
theorem rangeGoes {α : Type} {g : Operand} {ps : Array Tmp} {assign body : Code} {Q : Exit → Act → World → Prop} {a : Act} {w : World}
    (hro : F.round = none) (h1 : 1 ≤ n) {gf : Nat} {lb : Array Value} (hg : a.eval g = .func (.func gf) #[] lb) (hFg : F.fn gf) (eg : ∀ args w, (callFunc gf args).run P w = .ok (.enter gf args) w)
    {encs : α → Array Value} {X₀ : Nat → Prop} {S Sp : List α → Prop} {N : Nat} (hseq : Goes F (n - 1) P gf lb encs X₀ S Sp N w) (hX₀ : ∀ k, X₀ k → k < w.heap.size) (hps : ∀ x, (encs x).size = ps.size)
    (I : (Nat → Prop) → List α → World → Prop) (Ix : Code → (Nat → Prop) → List α → World → Prop) (hI : Abide I) (hIx : ∀ c, Abide (Ix c)) (h0 : I X₀ [] w)
    (Ax : α → Act → World → Prop) (hAx : ∀ x a' W l o o', W.heap[l]? = some o → o.isCells = false → Ax x a' W → Ax x a' (W.putObj l o'))
    (hassign : ∀ (l : Nat) (X : Nat → Prop) (pre : List α) (x : α) (W : World) (K : Act → World → Prop), I X pre W → w.heap.size ≤ W.heap.size → (∀ a' W', Kept [] W W' → Ax x a' W' → K a' W') →
      assign.wpIn (F.inRound l) (n - 1 - 1) P (Exit.then K (fun _ _ _ => False)) { tmps := (ps.zip (encs x)).foldl (fun t (p, v) => t.setIfInBounds p v) a.tmps, defers := [] } W)
    (hbody : ∀ (l : Nat) (X : Nat → Prop) (pre : List α) (x : α) (a' : Act) (W : World), (∃ r, W.heap[l]? = some (.loop r)) → X l → (∀ k, X k → k < W.heap.size) → I X pre W → Ax x a' W → pre.length < N → body.wpIn (F.inRound l) (n - 1 - 1) P (bodyOwes X I Ix (pre ++ [x]) W) a' W)
    (hdone : ∀ (D : Nat) (X : Nat → Prop) (xs : List α) (W : World), w.heap.size ≤ D → X D → S xs → I X xs W → W.heap[D]? = some (.deferred (some [])) → Q .normal { a with defers := { target := .collected D, args := #[] } :: a.defers } W)
    (hstop : ∀ (D : Nat) (X : Nat → Prop) (c : Code) (pre : List α) (W : World), w.heap.size ≤ D → X D → Sp pre → Ix c X pre W → W.heap[D]? = some (.deferred (some [])) → c.wpIn F n P Q { a with defers := { target := .collected D, args := #[] } :: a.defers } W) :
    (Code.rangeFunc g ps assign body).wpIn F n P Q a w := by
  refine wpIn_rangeFunc fun fn hfn => ?_
  rw [hro]
  -- the two blocks of the loop's own: the rounds' deferred calls, and its record
  have L0 : w.heap.size < (w.alloc (.deferred (some []))).heap.size := by simp
  generalize hr : ({ state := .ready, pending := none, fn := fn, tmps := a.tmps, params := ps, assign := assign, body := body, defers := w.heap.size } : Loop) = r
  have r1 : r.state = .ready := by rw [← hr]
  have r2 : r.pending = none := by rw [← hr]
  have r3 : r.fn = fn := by rw [← hr]
  have r4 : r.params = ps := by rw [← hr]
  have r5 : r.assign = assign := by rw [← hr]
  have r6 : r.body = body := by rw [← hr]
  have r7 : r.tmps = a.tmps := by rw [← hr]
  have hent := run_enterLoop_outer (P := P) (w := w) fn a.tmps ps assign body
  rw [hr] at hent
  generalize hV : (w.alloc (.deferred (some []))).alloc (.loop r) = V at hent
  have kV : Kept [] w V := by rw [← hV]; exact ((Kept.refl [] w).alloc _).alloc _
  have zV : V.heap.size = w.heap.size + 2 := by rw [← hV]; simp
  have hL : V.heap[w.heap.size + 1]? = some (.loop r) := by rw [← hV]; exact heap_alloc2_new w _ _
  have hD : V.heap[w.heap.size]? = some (.deferred (some [])) := by rw [← hV, Below.heap_alloc _ _ _ L0]; exact heap_alloc_new w _
  clear hV hr
  refine ⟨w.heap.size + 1, _, V, { target := .fn (.func gf) lb, args := #[.func (.yield (w.heap.size + 1)) #[] #[]] }, V, gf, #[.func (.yield (w.heap.size + 1)) #[] #[]] ++ lb, V, hent, ?_, ?_, ?_, fun _ => h1, ?_⟩
  · simp only [resolve, hg]
    simp [go_sem]
  · intro f' hf'
    simp [Target.leads] at hf'
    subst hf'
    exact hFg
  · simp [invoke, go_sem, eg]
  -- the loop's two blocks, beside the iterator's own
  let U : (Nat → Prop) → Nat → Prop := fun X k => X k ∨ k = w.heap.size ∨ k = w.heap.size + 1
  have uL : ∀ X, U X (w.heap.size + 1) := fun X => .inr (.inr rfl)
  have uD : ∀ X, U X w.heap.size := fun X => .inr (.inl rfl)
  refine (hseq (w.heap.size + 1)
    (fun X pre W => I (U X) pre W ∧ W.heap[w.heap.size + 1]? = some (.loop r) ∧ W.heap[w.heap.size]? = some (.deferred (some [])) ∧ ∀ k, X k → X₀ k ∨ V.heap.size ≤ k)
    (fun X pre W => ∃ c, Ix c (U X) pre W ∧ W.heap[w.heap.size + 1]? = some (.loop { r with state := .done, pending := some c }) ∧ W.heap[w.heap.size]? = some (.deferred (some [])) ∧ ∀ k, X k → X₀ k ∨ V.heap.size ≤ k)
    X₀ V kV.below ⟨?m1, ?t1⟩ ⟨?m2, ?t2⟩ ?rounds ⟨?first, hL, hD, fun k h => .inl h⟩ (fun k h => h) (fun k h => Nat.lt_of_lt_of_le (hX₀ k h) kV.size)).mono ?behind
  case m1 =>
    rintro X X' pre W ⟨i1, i2, i3, i4⟩ hX
    have hz := lt_of i2
    refine ⟨hI.more i1 (fun k hk => ?_), i2, i3, fun k hk => ?_⟩
    · rcases hk with hk | hk
      · exact (hX k hk).imp .inl id
      · exact .inl (.inr hk)
    · rcases hX k hk with h | h
      · exact i4 k h
      · right; omega
  case t1 =>
    rintro X pre W W' row ⟨i1, i2, i3, i4⟩ hgr hrow
    refine ⟨hI.turn i1 hgr (fun q e => .inl (hrow q e)), (hgr.block _ (lt_of i2) (fun e => ?_)).trans i2, (hgr.block _ (lt_of i3) (fun e => ?_)).trans i3, i4⟩
    · rcases i4 _ (hrow _ e.symm) with h | h
      · have := hX₀ _ h; omega
      · omega
    · rcases i4 _ (hrow _ e.symm) with h | h
      · have := hX₀ _ h; omega
      · omega
  case m2 =>
    rintro X X' pre W ⟨c, i1, i2, i3, i4⟩ hX
    have hz := lt_of i2
    refine ⟨c, (hIx c).more i1 (fun k hk => ?_), i2, i3, fun k hk => ?_⟩
    · rcases hk with hk | hk
      · exact (hX k hk).imp .inl id
      · exact .inl (.inr hk)
    · rcases hX k hk with h | h
      · exact i4 k h
      · right; omega
  case t2 =>
    rintro X pre W W' row ⟨c, i1, i2, i3, i4⟩ hgr hrow
    refine ⟨c, (hIx c).turn i1 hgr (fun q e => .inl (hrow q e)), (hgr.block _ (lt_of i2) (fun e => ?_)).trans i2, (hgr.block _ (lt_of i3) (fun e => ?_)).trans i3, i4⟩
    · rcases i4 _ (hrow _ e.symm) with h | h
      · have := hX₀ _ h; omega
      · omega
    · rcases i4 _ (hrow _ e.symm) with h | h
      · have := hX₀ _ h; omega
      · omega
  case first =>
    refine hI.kept (hI.more h0 (fun k hk => ?_)) kV
    rcases hk with hk | hk | hk
    · exact .inl hk
    · right; omega
    · right; omega
  case rounds =>
    rintro X pre x W ⟨i1, i2, i3, i4⟩ hXW hN
    have hz := lt_of i2
    refine one_round i2 r1 r2 (by rw [r3]; exact hfn) r4 r5 r6 r7 (hps x) ?_
    refine hassign _ _ pre x W _ i1 (by omega) fun a' Wa ka hx => ⟨ka.at i2 (by simp), ?_⟩
    have j1 := hI.kept i1 ka
    have j2 := ka.at i2 (by simp)
    have j3 := ka.at i3 (by simp)
    have hz' := lt_of j2
    have hlow : ¬ X (w.heap.size + 1) := fun h => by
      rcases i4 _ h with h | h
      · have := hX₀ _ h; omega
      · omega
    have b2 : (Wa.putObj (w.heap.size + 1) (.loop { r with state := .busy })).heap[w.heap.size + 1]? = some (.loop { r with state := .busy }) := World.putObj_heap_same hz'
    have b3 : (Wa.putObj (w.heap.size + 1) (.loop { r with state := .busy })).heap[w.heap.size]? = some (.deferred (some [])) := (World.putObj_heap_other (by omega)).trans j3
    refine wpIn_mono (hbody _ (U X) pre x a' _ ⟨_, b2⟩ (uL X) (fun k hk => ?_) (hI.turn j1 (grownBy_putObj' _ _ _) (fun q e => by cases e; exact uL X)) (hAx _ _ _ _ _ _ j2 rfl hx) hN) ?_
    · have hb : Wa.heap.size = (Wa.putObj (w.heap.size + 1) (.loop { r with state := .busy })).heap.size := by simp [World.putObj]
      have := ka.size
      rcases hk with hk | hk | hk
      · have h1 := hXW k hk
        omega
      · omega
      · omega
    have pre1 : KpX X W (Wa.putObj (w.heap.size + 1) (.loop { r with state := .busy })) := (KpX.of_kept ka).trans (KpX.putObj _ _ hlow)
    have back : ∀ W3, KpX (U X) (Wa.putObj (w.heap.size + 1) (.loop { r with state := .busy })) W3 → W3.heap[w.heap.size + 1]? = some (.loop { r with state := .busy }) ∧ W3.heap[w.heap.size]? = some (.deferred (some [])) := fun W3 k3 =>
      ⟨k3.own _ _ (uL X) b2, k3.own _ _ (uD X) b3⟩
    have shut : ∀ W3 o, KpX (U X) (Wa.putObj (w.heap.size + 1) (.loop { r with state := .busy })) W3 → KpX X W (W3.putObj (w.heap.size + 1) o) := fun W3 o k3 =>
      pre1.trans ((k3.mono (fun _ h => .inl h)).trans (KpX.putObj _ _ hlow))
    rintro e a3 W3 hp
    cases e with
    | normal =>
      obtain ⟨k3, q3⟩ := hp
      obtain ⟨c2, c3⟩ := back W3 k3
      exact ⟨c2, .inl ⟨rfl, ⟨hI.turn q3 (grownBy_putObj' _ _ _) (fun q e => by cases e; exact uL X), World.putObj_heap_same (lt_of c2), (World.putObj_heap_other (by omega)).trans c3, i4⟩, shut _ _ k3⟩⟩
    | ret =>
      obtain ⟨k3, q3⟩ := hp
      obtain ⟨c2, c3⟩ := back W3 k3
      exact ⟨c2, .inr ⟨rfl, ⟨.ret, (hIx _).turn q3 (grownBy_putObj' _ _ _) (fun q e => by cases e; exact uL X), World.putObj_heap_same (lt_of c2), (World.putObj_heap_other (by omega)).trans c3, i4⟩, shut _ _ k3⟩⟩
    | exit id =>
      obtain ⟨k3, q3⟩ := hp
      obtain ⟨c2, c3⟩ := back W3 k3
      exact ⟨c2, .inr ⟨rfl, ⟨.exit id, (hIx _).turn q3 (grownBy_putObj' _ _ _) (fun q e => by cases e; exact uL X), World.putObj_heap_same (lt_of c2), (World.putObj_heap_other (by omega)).trans c3, i4⟩, shut _ _ k3⟩⟩
    | goto t =>
      obtain ⟨k3, q3⟩ := hp
      obtain ⟨c2, c3⟩ := back W3 k3
      exact ⟨c2, .inr ⟨rfl, ⟨.goto t, (hIx _).turn q3 (grownBy_putObj' _ _ _) (fun q e => by cases e; exact uL X), World.putObj_heap_same (lt_of c2), (World.putObj_heap_other (by omega)).trans c3, i4⟩, shut _ _ k3⟩⟩
    | panic ch => exact hp.elim
    | outgrown => exact hp.elim
  case behind =>
    rintro e W2 ⟨⟨v, rfl⟩, (⟨xs, X, q0, q1, q2, q3, _⟩ | ⟨pre, X, q0, c, q1, q2, q3, _⟩)⟩
    · have hend := run_endLoop (P := P) q2 (by rw [r1]; simp)
      rw [r2] at hend
      exact ⟨none, _, hend, hdone _ (U X) xs _ (Nat.le_refl _) (uD X) q0 (hI.turn q1 (grownBy_putObj' _ _ _) (fun q e => by cases e; exact uL X)) ((World.putObj_heap_other (by omega)).trans q3)⟩
    · have hend := run_endLoop (P := P) q2 (by simp)
      exact ⟨some c, _, hend, hstop _ (U X) c pre _ (Nat.le_refl _) (uD X) q0 ((hIx c).turn q1 (grownBy_putObj' _ _ _) (fun q e => by cases e; exact uL X)) ((World.putObj_heap_other (by omega)).trans q3)⟩
end Go.Proofs.Ytcojlcbljhnbgaa
