/- What the walks lean on: what a call keeps of memory. No walk here. -/
import Derived.Test.YtbbfajbnklgncaaRows
import Derived.WalkKit
import Derived.WalkSpells
import Derived.Laws.Bits64b
import Derived.Deep.Draws
import Derived.RangeFuncNested
import Derived.RangeFuncBound
import Derived.RangeFuncCalls
import Derived.RangeFuncLeaves
import Derived.Shelf.Abstract
import Derived.OwnWalkIn
import Derived.TacticsInMore
import Derived.LoopNIn
import Derived.LoopIn
import Derived.Laws.Rows
import Derived.RangeFuncBox
import Derived.Laws.EntriesVeiled
import Derived.Maps.AppendAt
import Derived.Deep.Onto
import Derived.Deep.AppendLies
namespace Go.Proofs.Ytbbfajbnklgncaa
open Go.RowKit

theorem cell_of {w : World} {b : Nat} {arr : Array Value} {T : TypeId} {fz : Nat × Nat} (h : w.heap[b]? = some (.cells arr T fz)) (i : Nat) : w.cell? ⟨b, i, none⟩ = arr[i]? := by
  simp [World.cell?, h]

theorem free_of {w : World} {b : Nat} {arr : Array Value} {T : TypeId} (h : w.heap[b]? = some (.cells arr T (0, 0))) (i : Nat) : w.frozen? ⟨b, i, none⟩ = false := by
  simp [World.frozen?, h]

theorem lt_of {w : World} {b : Nat} {o : Obj} (h : w.heap[b]? = some o) : b < w.heap.size := by
  rcases Nat.lt_or_ge b w.heap.size with h' | h'
  · exact h'
  · rw [Array.getElem?_eq_none h'] at h; cases h

theorem ret_bool {a b : Bool} (h : a = b) : Ending.returned (.bool a) = .returned (.bool b) := by rw [h]
theorem ret_int {k : IntKind} {a b : Int} (h : a = b) : Ending.returned (.int k a) = .returned (.int k b) := by rw [h]

/-- What a call leaves as it was: the streams, and every block that was there but those of F. -/
structure Kept (F : List Nat) (w w' : World) : Prop where
  os : w'.os = w.os
  tape : w'.tape = w.tape
  output : w'.output = w.output
  size : w.heap.size ≤ w'.heap.size
  block : ∀ k, k < w.heap.size → k ∉ F → w'.heap[k]? = w.heap[k]?

theorem Kept.refl (F : List Nat) (w : World) : Kept F w w := ⟨rfl, rfl, rfl, Nat.le_refl _, fun _ _ _ => rfl⟩

theorem Kept.trans {F G H : List Nat} {a b c : World} (h : Kept F a b) (k : Kept G b c) (hF : ∀ x, x ∈ F → x ∈ H) (hG : ∀ x, x ∈ G → x ∈ H ∨ a.heap.size ≤ x) : Kept H a c :=
  ⟨k.os.trans h.os, k.tape.trans h.tape, k.output.trans h.output, Nat.le_trans h.size k.size, fun i hi hn => (k.block i (Nat.lt_of_lt_of_le hi h.size) (fun hg => by rcases hG i hg with h1 | h1 <;> first | exact hn h1 | omega)).trans (h.block i hi (fun hf => hn (hF i hf)))⟩

theorem Kept.mono {F G : List Nat} {a b : World} (h : Kept F a b) (hF : ∀ x, x ∈ F → x ∈ G) : Kept G a b :=
  ⟨h.os, h.tape, h.output, h.size, fun i hi hn => h.block i hi (fun hf => hn (hF i hf))⟩

theorem Kept.drew {F : List Nat} {a w : World} (h : Kept F a w) : Kept F a w.drew := ⟨h.os, h.tape, h.output, h.size, h.block⟩
theorem Kept.drewN {F : List Nat} {a w : World} (h : Kept F a w) (n : Nat) : Kept F a (w.drewN n) := ⟨h.os, h.tape, h.output, h.size, h.block⟩

theorem Kept.alloc {F : List Nat} {a w : World} (h : Kept F a w) (o : Obj) : Kept F a (w.alloc o) :=
  h.trans (G := []) (H := F) ⟨rfl, rfl, rfl, by simp, fun k hk _ => Below.heap_alloc _ _ _ hk⟩ (fun _ h => h) (by simp)

theorem Kept.setCell {F : List Nat} {a w : World} (h : Kept F a w) {p : Addr} (hp : p.block ∈ F ∨ a.heap.size ≤ p.block) (u : Value) : Kept F a (w.setCell p u) :=
  h.trans (G := [p.block]) (H := F) ⟨rfl, rfl, rfl, by simp [World.setCell], fun k _ hn => Below.heap_setCell _ _ _ _ (by simpa using hn)⟩ (fun _ h => h) (by simpa using hp)

theorem Kept.grown {F : List Nat} {a w w' : World} {row : Option Nat} (h : Kept F a w) (hg : w.grownBy w' row) (hr : ∀ k, row = some k → k ∈ F ∨ a.heap.size ≤ k) : Kept F a w' :=
  h.trans (G := row.toList) (H := F) ⟨hg.os, hg.tape, hg.output, hg.size, fun k hk hn => hg.block k hk (fun e => hn (by rw [← e]; simp))⟩ (fun _ h => h) (fun x hx => hr x (by simpa using hx))

theorem Kept.below {w w' : World} (h : Kept [] w w') : Below w.heap.size w w' := ⟨h.os, h.tape, h.output, h.size, fun k hk => h.block k hk (by simp)⟩

theorem Kept.at {F : List Nat} {w w' : World} (h : Kept F w w') {b : Nat} {o : Obj} (hb : w.heap[b]? = some o) (hn : b ∉ F) : w'.heap[b]? = some o := by
  rw [h.block b (lt_of hb) hn]; exact hb

end Go.Proofs.Ytbbfajbnklgncaa

/- A loop over a function whose iterator may itself loop over a function. X: the blocks that are the iterator's own; a round leaves them as they are. -/
namespace Go.Proofs.Ytbbfajbnklgncaa
open Go.RowKit Go.Shelf

/-- What a round keeps: what is not its own. -/
structure KpX (X : Nat → Prop) (W W' : World) : Prop where
  size : W.heap.size ≤ W'.heap.size
  own : ∀ (k : Nat) (o : Obj), X k → W.heap[k]? = some o → W'.heap[k]? = some o
theorem KpX.refl (X : Nat → Prop) (W : World) : KpX X W W := ⟨Nat.le_refl _, fun _ _ _ h => h⟩
theorem KpX.trans {X : Nat → Prop} {A B C : World} (h : KpX X A B) (k : KpX X B C) : KpX X A C :=
  ⟨Nat.le_trans h.size k.size, fun i o hi ho => k.own i o hi (h.own i o hi ho)⟩
theorem KpX.of_kept {X : Nat → Prop} {W W' : World} (h : Kept [] W W') : KpX X W W' := ⟨h.size, fun _ _ _ ho => h.at ho (by simp)⟩
theorem KpX.grown {X : Nat → Prop} {W W' : World} {row : Option Nat} (h : W.grownBy W' row) (hr : ∀ r, row = some r → ¬ X r) : KpX X W W' :=
  ⟨h.size, fun k _ hk ho => (h.block k (lt_of ho) (fun e => hr k e.symm hk)).trans ho⟩
theorem KpX.setCell {X : Nat → Prop} {W : World} {p : Addr} (h2 : ¬ X p.block) (v : Value) : KpX X W (W.setCell p v) :=
  ⟨by simp [World.setCell], fun _ _ hk ho => (Below.heap_setCell _ _ _ _ (fun e => h2 (e ▸ hk))).trans ho⟩
theorem KpX.putObj {X : Nat → Prop} (W : World) {l : Nat} (o' : Obj) (h1 : ¬ X l) : KpX X W (W.putObj l o') :=
  KpX.grown (grownBy_putObj' W l o') (fun r e => by cases e; exact h1)
theorem KpX.mono {X Y : Nat → Prop} {W W' : World} (h : KpX X W W') (hX : ∀ k, Y k → X k) : KpX Y W W' :=
  ⟨h.size, fun k o hk ho => h.own k o (hX k hk) ho⟩
theorem grownBy_of_kept {W W' : World} (h : Kept [] W W') : W.grownBy W' none :=
  ⟨h.os, h.tape, h.output, h.size, fun i hi _ => h.block i hi (by simp)⟩

/-- What abides an iterator's own steps: new blocks, which are its own; turns of its own blocks. -/
structure Abide {α : Type} (J : (Nat → Prop) → List α → World → Prop) : Prop where
  more : ∀ {X X' : Nat → Prop} {pre : List α} {W : World}, J X pre W → (∀ k, X' k → X k ∨ W.heap.size ≤ k) → J X' pre W
  turn : ∀ {X : Nat → Prop} {pre : List α} {W W' : World} {row : Option Nat}, J X pre W → W.grownBy W' row → (∀ r, row = some r → X r) → J X pre W'
theorem Abide.kept {α : Type} {J : (Nat → Prop) → List α → World → Prop} (h : Abide J) {X : Nat → Prop} {pre : List α} {W W' : World} (hj : J X pre W) (k : Kept [] W W') : J X pre W' :=
  h.turn hj (grownBy_of_kept k) (fun r e => by cases e)
/-- The blocks laid between two worlds. -/
def Between (W W' : World) (k : Nat) : Prop := W.heap.size ≤ k ∧ k < W'.heap.size
theorem Abide.lay {α : Type} {J : (Nat → Prop) → List α → World → Prop} (h : Abide J) {X : Nat → Prop} {pre : List α} {W W' : World} (hj : J X pre W) (k : Kept [] W W') : J (fun i => X i ∨ Between W W' i) pre W' :=
  h.kept (h.more hj (fun _ hi => hi.imp id (fun h => h.1))) k

/-- An iterator goes through xs: to the end (S), or till a round has said 'no more' (Sp). -/
def Goes {α : Type} (F : Fence) (n : Nat) (P : Program) (g : Nat) (lb : Array Value) (encs : α → Array Value) (X₀ : Nat → Prop) (S Sp : List α → Prop) (N : Nat) (w : World) : Prop :=
  ∀ (l : Nat) (J Jx : (Nat → Prop) → List α → World → Prop) (X : Nat → Prop) (W : World), Below w.heap.size w W → Abide J → Abide Jx →
    (∀ X pre x W1, J X pre W1 → (∀ k, X k → k < W1.heap.size) → pre.length < N → YieldAt F (n - 1) P l (encs x) W1 fun e W' =>
      (e = .returned (.bool true) ∧ J X (pre ++ [x]) W' ∧ KpX X W1 W') ∨ (e = .returned (.bool false) ∧ Jx X (pre ++ [x]) W' ∧ KpX X W1 W')) →
    J X [] W → (∀ k, X₀ k → X k) → (∀ k, X k → k < W.heap.size) →
    CallsIn F n P g (#[.func (.yield l) #[] #[]] ++ lb) W fun e W' => (∃ v, e = .returned v) ∧ ((∃ xs X', S xs ∧ J X' xs W') ∨ (∃ pre X', Sp pre ∧ Jx X' pre W'))

variable {F : Fence} {n : Nat} {P : Program}

/-- How a round's body is left, as its loop's record takes it. -/
def leftAs (l : Nat) (r : Loop) (R : Ending → World → Prop) (e : Exit) (W3 : World) : Prop :=
  W3.heap[l]? = some (.loop { r with state := .busy }) ∧
  match e with
  | .normal => R (.returned (.bool true)) (W3.putObj l (.loop r))
  | .ret => R (.returned (.bool false)) (W3.putObj l (.loop { r with state := .done, pending := some .ret }))
  | .exit id => R (.returned (.bool false)) (W3.putObj l (.loop { r with state := .done, pending := some (.exit id) }))
  | .goto t => R (.returned (.bool false)) (W3.putObj l (.loop { r with state := .done, pending := some (.goto t) }))
  | _ => False
/-- One round. -/
theorem one_round {l : Nat} {args : Array Value} {W : World} {R : Ending → World → Prop} {r : Loop} {assign body : Code} {ps : Array Tmp} {tmps : Array Value} (hl : W.heap[l]? = some (.loop r)) (hst : r.state = .ready) (hpe : r.pending = none) (hfn : F.fn r.fn) (e1 : r.params = ps) (e2 : r.assign = assign) (e3 : r.body = body) (e4 : r.tmps = tmps) (hsz : args.size = ps.size)
    (h : assign.wpIn (F.inRound l) n P (Exit.then (fun a₁ W₁ => W₁.heap[l]? = some (.loop r) ∧ body.wpIn (F.inRound l) n P (fun e _ W₃ => leftAs l r R e W₃) a₁ (W₁.putObj l (.loop { r with state := .busy }))) (fun _ _ _ => False))
      { tmps := (ps.zip args).foldl (fun t (p, v) => t.setIfInBounds p v) tmps, defers := [] } W) :
    YieldAt F n P l args W R := by
  subst e1 e2 e3 e4
  refine ⟨_, _, _, _, run_yield hl hsz, roundIn_of_wpIn hfn (wpIn_mono h ?_)⟩
  intro e a₁ W₁ hq
  cases e with
  | normal =>
    obtain ⟨h1, h2⟩ := hq
    refine ⟨_, run_beginRound h1 hst, wpIn_mono h2 ?_⟩
    rintro e a₃ W₃ ⟨h3, h4⟩
    cases e with
    | normal =>
      have := run_endRound (P := P) none h3
      refine ⟨_, _, this, ?_⟩
      have e2 : ({ r with state := .ready, pending := none } : Loop) = r := by rw [← hst, ← hpe]
      simpa [e2] using h4
    | ret => exact ⟨_, _, run_endRound (P := P) (some .ret) h3, h4⟩
    | exit id => exact ⟨_, _, run_endRound (P := P) (some (.exit id)) h3, h4⟩
    | goto t => exact ⟨_, _, run_endRound (P := P) (some (.goto t)) h3, h4⟩
    | panic c => exact h4.elim
    | outgrown => exact h4.elim
  | _ => exact hq.elim

/-- What a round's body owes, by the way it is left. -/
def bodyOwes {α : Type} (X : Nat → Prop) (I : (Nat → Prop) → List α → World → Prop) (Ix : Code → (Nat → Prop) → List α → World → Prop) (xs : List α) (W : World) : Exit → Act → World → Prop
  | .normal, _, W' => KpX X W W' ∧ I X xs W'
  | .ret, _, W' => KpX X W W' ∧ Ix .ret X xs W'
  | .exit id, _, W' => KpX X W W' ∧ Ix (.exit id) X xs W'
  | .goto t, _, W' => KpX X W W' ∧ Ix (.goto t) X xs W'
  | .panic _, _, _ => False
  | .outgrown, _, _ => False

/-- The caller's law, at an outermost loop: I between two rounds, Ix behind one that has left; Ax what the loop's variables are. -/
theorem rangeGoes {α : Type} {g : Operand} {ps : Array Tmp} {assign body : Code} {Q : Exit → Act → World → Prop} {a : Act} {w : World}
    (hro : F.round = none) (h1 : 1 ≤ n) {gf : Nat} {lb : Array Value} (hg : a.eval g = .func (.func gf) #[] lb) (hFg : F.fn gf) (eg : ∀ args w, (callFunc gf args).run P w = .ok (.enter gf args) w)
    {encs : α → Array Value} {X₀ : Nat → Prop} {S Sp : List α → Prop} {N : Nat} (hseq : Goes F (n - 1) P gf lb encs X₀ S Sp N w) (hX₀ : ∀ k, X₀ k → k < w.heap.size) (hps : ∀ x, (encs x).size = ps.size)
    (I : (Nat → Prop) → List α → World → Prop) (Ix : Code → (Nat → Prop) → List α → World → Prop) (hI : Abide I) (hIx : ∀ c, Abide (Ix c)) (h0 : I X₀ [] w)
    (Ax : α → Act → World → Prop) (hAx : ∀ x a' W l o o', W.heap[l]? = some o → o.isCells = false → Ax x a' W → Ax x a' (W.putObj l o'))
    (hassign : ∀ (l : Nat) (X : Nat → Prop) (pre : List α) (x : α) (W : World) (K : Act → World → Prop), I X pre W → w.heap.size ≤ W.heap.size → (∀ a' W', Kept [] W W' → Ax x a' W' → K a' W') →
      assign.wpIn (F.inRound l) (n - 1 - 1) P (Exit.then K (fun _ _ _ => False)) { tmps := (ps.zip (encs x)).foldl (fun t (p, v) => t.setIfInBounds p v) a.tmps, defers := [] } W)
    (hbody : ∀ (l : Nat) (X : Nat → Prop) (pre : List α) (x : α) (a' : Act) (W : World), (∃ r, W.heap[l]? = some (.loop r)) → X l → (∀ k, X k → k < W.heap.size) → I X pre W → Ax x a' W → pre.length < N → body.wpIn (F.inRound l) (n - 1 - 1) P (bodyOwes X I Ix (pre ++ [x]) W) a' W)
    (hdone : ∀ (D : Nat) (X : Nat → Prop) (xs : List α) (W : World), w.heap.size ≤ D → X D → S xs → I X xs W → W.heap[D]? = some (.deferred (some [])) → Q .normal { a with defers := { target := .collected D, args := #[] } :: a.defers } W)
    (hstop : ∀ (D : Nat) (X : Nat → Prop) (c : Code) (pre : List α) (W : World), w.heap.size ≤ D → X D → Sp pre → Ix c X pre W → W.heap[D]? = some (.deferred (some [])) → c.wpIn F n P Q { a with defers := { target := .collected D, args := #[] } :: a.defers } W) :
    (Code.rangeFunc g ps assign body).wpIn F n P Q a w := by
  refine wpIn_rangeFunc fun fn hfn => ?_
  rw [hro]
  -- the two blocks of the loop's own: the rounds' deferred calls, and its record
  have L0 : w.heap.size < (w.alloc (.deferred (some []))).heap.size := by simp
  generalize hr : ({ state := .ready, pending := none, fn := fn, tmps := a.tmps, params := ps, assign := assign, body := body, defers := w.heap.size } : Loop) = r
  have r1 : r.state = .ready := by rw [← hr]
  have r2 : r.pending = none := by rw [← hr]
  have r3 : r.fn = fn := by rw [← hr]
  have r4 : r.params = ps := by rw [← hr]
  have r5 : r.assign = assign := by rw [← hr]
  have r6 : r.body = body := by rw [← hr]
  have r7 : r.tmps = a.tmps := by rw [← hr]
  have hent := run_enterLoop_outer (P := P) (w := w) fn a.tmps ps assign body
  rw [hr] at hent
  generalize hV : (w.alloc (.deferred (some []))).alloc (.loop r) = V at hent
  have kV : Kept [] w V := by rw [← hV]; exact ((Kept.refl [] w).alloc _).alloc _
  have zV : V.heap.size = w.heap.size + 2 := by rw [← hV]; simp
  have hL : V.heap[w.heap.size + 1]? = some (.loop r) := by rw [← hV]; exact heap_alloc2_new w _ _
  have hD : V.heap[w.heap.size]? = some (.deferred (some [])) := by rw [← hV, Below.heap_alloc _ _ _ L0]; exact heap_alloc_new w _
  clear hV hr
  refine ⟨w.heap.size + 1, _, V, { target := .fn (.func gf) lb, args := #[.func (.yield (w.heap.size + 1)) #[] #[]] }, V, gf, #[.func (.yield (w.heap.size + 1)) #[] #[]] ++ lb, V, hent, ?_, ?_, ?_, fun _ => h1, ?_⟩
  · simp only [resolve, hg]
    simp [go_sem]
  · intro f' hf'
    simp [Target.leads] at hf'
    subst hf'
    exact hFg
  · simp [invoke, go_sem, eg]
  -- the loop's two blocks, beside the iterator's own
  let U : (Nat → Prop) → Nat → Prop := fun X k => X k ∨ k = w.heap.size ∨ k = w.heap.size + 1
  have uL : ∀ X, U X (w.heap.size + 1) := fun X => .inr (.inr rfl)
  have uD : ∀ X, U X w.heap.size := fun X => .inr (.inl rfl)
  refine (hseq (w.heap.size + 1)
    (fun X pre W => I (U X) pre W ∧ W.heap[w.heap.size + 1]? = some (.loop r) ∧ W.heap[w.heap.size]? = some (.deferred (some [])) ∧ ∀ k, X k → X₀ k ∨ V.heap.size ≤ k)
    (fun X pre W => ∃ c, Ix c (U X) pre W ∧ W.heap[w.heap.size + 1]? = some (.loop { r with state := .done, pending := some c }) ∧ W.heap[w.heap.size]? = some (.deferred (some [])) ∧ ∀ k, X k → X₀ k ∨ V.heap.size ≤ k)
    X₀ V kV.below ⟨?m1, ?t1⟩ ⟨?m2, ?t2⟩ ?rounds ⟨?first, hL, hD, fun k h => .inl h⟩ (fun k h => h) (fun k h => Nat.lt_of_lt_of_le (hX₀ k h) kV.size)).mono ?behind
  case m1 =>
    rintro X X' pre W ⟨i1, i2, i3, i4⟩ hX
    have hz := lt_of i2
    refine ⟨hI.more i1 (fun k hk => ?_), i2, i3, fun k hk => ?_⟩
    · rcases hk with hk | hk
      · exact (hX k hk).imp .inl id
      · exact .inl (.inr hk)
    · rcases hX k hk with h | h
      · exact i4 k h
      · right; omega
  case t1 =>
    rintro X pre W W' row ⟨i1, i2, i3, i4⟩ hgr hrow
    refine ⟨hI.turn i1 hgr (fun q e => .inl (hrow q e)), (hgr.block _ (lt_of i2) (fun e => ?_)).trans i2, (hgr.block _ (lt_of i3) (fun e => ?_)).trans i3, i4⟩
    · rcases i4 _ (hrow _ e.symm) with h | h
      · have := hX₀ _ h; omega
      · omega
    · rcases i4 _ (hrow _ e.symm) with h | h
      · have := hX₀ _ h; omega
      · omega
  case m2 =>
    rintro X X' pre W ⟨c, i1, i2, i3, i4⟩ hX
    have hz := lt_of i2
    refine ⟨c, (hIx c).more i1 (fun k hk => ?_), i2, i3, fun k hk => ?_⟩
    · rcases hk with hk | hk
      · exact (hX k hk).imp .inl id
      · exact .inl (.inr hk)
    · rcases hX k hk with h | h
      · exact i4 k h
      · right; omega
  case t2 =>
    rintro X pre W W' row ⟨c, i1, i2, i3, i4⟩ hgr hrow
    refine ⟨c, (hIx c).turn i1 hgr (fun q e => .inl (hrow q e)), (hgr.block _ (lt_of i2) (fun e => ?_)).trans i2, (hgr.block _ (lt_of i3) (fun e => ?_)).trans i3, i4⟩
    · rcases i4 _ (hrow _ e.symm) with h | h
      · have := hX₀ _ h; omega
      · omega
    · rcases i4 _ (hrow _ e.symm) with h | h
      · have := hX₀ _ h; omega
      · omega
  case first =>
    refine hI.kept (hI.more h0 (fun k hk => ?_)) kV
    rcases hk with hk | hk | hk
    · exact .inl hk
    · right; omega
    · right; omega
  case rounds =>
    rintro X pre x W ⟨i1, i2, i3, i4⟩ hXW hN
    have hz := lt_of i2
    refine one_round i2 r1 r2 (by rw [r3]; exact hfn) r4 r5 r6 r7 (hps x) ?_
    refine hassign _ _ pre x W _ i1 (by omega) fun a' Wa ka hx => ⟨ka.at i2 (by simp), ?_⟩
    have j1 := hI.kept i1 ka
    have j2 := ka.at i2 (by simp)
    have j3 := ka.at i3 (by simp)
    have hz' := lt_of j2
    have hlow : ¬ X (w.heap.size + 1) := fun h => by
      rcases i4 _ h with h | h
      · have := hX₀ _ h; omega
      · omega
    have b2 : (Wa.putObj (w.heap.size + 1) (.loop { r with state := .busy })).heap[w.heap.size + 1]? = some (.loop { r with state := .busy }) := World.putObj_heap_same hz'
    have b3 : (Wa.putObj (w.heap.size + 1) (.loop { r with state := .busy })).heap[w.heap.size]? = some (.deferred (some [])) := (World.putObj_heap_other (by omega)).trans j3
    refine wpIn_mono (hbody _ (U X) pre x a' _ ⟨_, b2⟩ (uL X) (fun k hk => ?_) (hI.turn j1 (grownBy_putObj' _ _ _) (fun q e => by cases e; exact uL X)) (hAx _ _ _ _ _ _ j2 rfl hx) hN) ?_
    · have hb : Wa.heap.size = (Wa.putObj (w.heap.size + 1) (.loop { r with state := .busy })).heap.size := by simp [World.putObj]
      have := ka.size
      rcases hk with hk | hk | hk
      · have h1 := hXW k hk
        omega
      · omega
      · omega
    have pre1 : KpX X W (Wa.putObj (w.heap.size + 1) (.loop { r with state := .busy })) := (KpX.of_kept ka).trans (KpX.putObj _ _ hlow)
    have back : ∀ W3, KpX (U X) (Wa.putObj (w.heap.size + 1) (.loop { r with state := .busy })) W3 → W3.heap[w.heap.size + 1]? = some (.loop { r with state := .busy }) ∧ W3.heap[w.heap.size]? = some (.deferred (some [])) := fun W3 k3 =>
      ⟨k3.own _ _ (uL X) b2, k3.own _ _ (uD X) b3⟩
    have shut : ∀ W3 o, KpX (U X) (Wa.putObj (w.heap.size + 1) (.loop { r with state := .busy })) W3 → KpX X W (W3.putObj (w.heap.size + 1) o) := fun W3 o k3 =>
      pre1.trans ((k3.mono (fun _ h => .inl h)).trans (KpX.putObj _ _ hlow))
    rintro e a3 W3 hp
    cases e with
    | normal =>
      obtain ⟨k3, q3⟩ := hp
      obtain ⟨c2, c3⟩ := back W3 k3
      exact ⟨c2, .inl ⟨rfl, ⟨hI.turn q3 (grownBy_putObj' _ _ _) (fun q e => by cases e; exact uL X), World.putObj_heap_same (lt_of c2), (World.putObj_heap_other (by omega)).trans c3, i4⟩, shut _ _ k3⟩⟩
    | ret =>
      obtain ⟨k3, q3⟩ := hp
      obtain ⟨c2, c3⟩ := back W3 k3
      exact ⟨c2, .inr ⟨rfl, ⟨.ret, (hIx _).turn q3 (grownBy_putObj' _ _ _) (fun q e => by cases e; exact uL X), World.putObj_heap_same (lt_of c2), (World.putObj_heap_other (by omega)).trans c3, i4⟩, shut _ _ k3⟩⟩
    | exit id =>
      obtain ⟨k3, q3⟩ := hp
      obtain ⟨c2, c3⟩ := back W3 k3
      exact ⟨c2, .inr ⟨rfl, ⟨.exit id, (hIx _).turn q3 (grownBy_putObj' _ _ _) (fun q e => by cases e; exact uL X), World.putObj_heap_same (lt_of c2), (World.putObj_heap_other (by omega)).trans c3, i4⟩, shut _ _ k3⟩⟩
    | goto t =>
      obtain ⟨k3, q3⟩ := hp
      obtain ⟨c2, c3⟩ := back W3 k3
      exact ⟨c2, .inr ⟨rfl, ⟨.goto t, (hIx _).turn q3 (grownBy_putObj' _ _ _) (fun q e => by cases e; exact uL X), World.putObj_heap_same (lt_of c2), (World.putObj_heap_other (by omega)).trans c3, i4⟩, shut _ _ k3⟩⟩
    | panic ch => exact hp.elim
    | outgrown => exact hp.elim
  case behind =>
    rintro e W2 ⟨⟨v, rfl⟩, (⟨xs, X, q0, q1, q2, q3, _⟩ | ⟨pre, X, q0, c, q1, q2, q3, _⟩)⟩
    · have hend := run_endLoop (P := P) q2 (by rw [r1]; simp)
      rw [r2] at hend
      exact ⟨none, _, hend, hdone _ (U X) xs _ (Nat.le_refl _) (uD X) q0 (hI.turn q1 (grownBy_putObj' _ _ _) (fun q e => by cases e; exact uL X)) ((World.putObj_heap_other (by omega)).trans q3)⟩
    · have hend := run_endLoop (P := P) q2 (by simp)
      exact ⟨some c, _, hend, hstop _ (U X) c pre _ (Nat.le_refl _) (uD X) q0 ((hIx c).turn q1 (grownBy_putObj' _ _ _) (fun q e => by cases e; exact uL X)) ((World.putObj_heap_other (by omega)).trans q3)⟩
end Go.Proofs.Ytbbfajbnklgncaa

/- A loop over a function that hands over more than plain values: At x W says what is so of x where it is handed over. -/
namespace Go.Proofs.Ytbbfajbnklgncaa
open Go.RowKit Go.Shelf

/-- What is handed over abides new blocks, and turns of what is no cells. -/
structure AtKept {α : Type} (At : α → World → Prop) : Prop where
  kept : ∀ {x : α} {W W' : World}, Kept [] W W' → At x W → At x W'
  turn : ∀ {x : α} {W : World} {l : Nat} {o o' : Obj}, W.heap[l]? = some o → o.isCells = false → At x W → At x (W.putObj l o')
theorem atKept_true {α : Type} : AtKept (fun (_ : α) (_ : World) => True) := ⟨fun _ h => h, fun _ _ h => h⟩

/-- What a round leaves as it is: the iterator's own blocks (X), and those that it only reads (T). -/
def orT (T X : Nat → Prop) (k : Nat) : Prop := X k ∨ T k
/-- What a round's body owes, by the way it is left. -/
def bodyOwesT {α : Type} (T X : Nat → Prop) (I : (Nat → Prop) → List α → World → Prop) (Ix : Code → (Nat → Prop) → List α → World → Prop) (xs : List α) (W : World) : Exit → Act → World → Prop
  | .normal, _, W' => KpX (orT T X) W W' ∧ I X xs W'
  | .ret, _, W' => KpX (orT T X) W W' ∧ Ix .ret X xs W'
  | .exit id, _, W' => KpX (orT T X) W W' ∧ Ix (.exit id) X xs W'
  | .goto t, _, W' => KpX (orT T X) W W' ∧ Ix (.goto t) X xs W'
  | .panic _, _, _ => False
  | .outgrown, _, _ => False
/-- An iterator goes through xs, each with what is so of it. -/
def GoesAt {α : Type} (F : Fence) (n : Nat) (P : Program) (g : Nat) (lb : Array Value) (encs : α → Array Value) (At : α → World → Prop) (T X₀ : Nat → Prop) (S Sp : List α → Prop) (N : Nat) (w : World) : Prop :=
  ∀ (l : Nat) (J Jx : (Nat → Prop) → List α → World → Prop) (X : Nat → Prop) (W : World), Below w.heap.size w W → Abide J → Abide Jx →
    (∀ X pre x W1, J X pre W1 → At x W1 → (∀ k, X k → k < W1.heap.size) → pre.length < N → YieldAt F (n - 1) P l (encs x) W1 fun e W' =>
      (e = .returned (.bool true) ∧ J X (pre ++ [x]) W' ∧ KpX (orT T X) W1 W') ∨ (e = .returned (.bool false) ∧ Jx X (pre ++ [x]) W' ∧ KpX (orT T X) W1 W')) →
    J X [] W → (∀ k, X₀ k → X k) → (∀ k, X k → k < W.heap.size) →
    CallsIn F n P g (#[.func (.yield l) #[] #[]] ++ lb) W fun e W' => (∃ v, e = .returned v) ∧ ((∃ xs X', S xs ∧ J X' xs W') ∨ (∃ pre X', Sp pre ∧ Jx X' pre W'))

variable {F : Fence} {n : Nat} {P : Program}

/-- The caller's law, at an outermost loop: as rangeGoes, and At x W: what is so of x where it is handed over. -/
theorem rangeAt {α : Type} {g : Operand} {ps : Array Tmp} {assign body : Code} {Q : Exit → Act → World → Prop} {a : Act} {w : World}
    (hro : F.round = none) (h1 : 1 ≤ n) {gf : Nat} {lb : Array Value} (hg : a.eval g = .func (.func gf) #[] lb) (hFg : F.fn gf) (eg : ∀ args w, (callFunc gf args).run P w = .ok (.enter gf args) w)
    {encs : α → Array Value} {At : α → World → Prop} {T X₀ : Nat → Prop} {S Sp : List α → Prop} {N : Nat} (hseq : GoesAt F (n - 1) P gf lb encs At T X₀ S Sp N w) (hAt : AtKept At) (hT : ∀ k, T k → k < w.heap.size) (hX₀ : ∀ k, X₀ k → k < w.heap.size) (hps : ∀ x, (encs x).size = ps.size)
    (I : (Nat → Prop) → List α → World → Prop) (Ix : Code → (Nat → Prop) → List α → World → Prop) (hI : Abide I) (hIx : ∀ c, Abide (Ix c)) (h0 : I X₀ [] w)
    (Ax : α → Act → World → Prop) (hAx : ∀ x a' W l o o', W.heap[l]? = some o → o.isCells = false → Ax x a' W → Ax x a' (W.putObj l o'))
    (hassign : ∀ (l : Nat) (X : Nat → Prop) (pre : List α) (x : α) (W : World) (K : Act → World → Prop), I X pre W → At x W → w.heap.size ≤ W.heap.size → (∀ a' W', Kept [] W W' → Ax x a' W' → K a' W') →
      assign.wpIn (F.inRound l) (n - 1 - 1) P (Exit.then K (fun _ _ _ => False)) { tmps := (ps.zip (encs x)).foldl (fun t (p, v) => t.setIfInBounds p v) a.tmps, defers := [] } W)
    (hbody : ∀ (l : Nat) (X : Nat → Prop) (pre : List α) (x : α) (a' : Act) (W : World), (∃ r, W.heap[l]? = some (.loop r)) → X l → (∀ k, X k → k < W.heap.size) → I X pre W → Ax x a' W → At x W → pre.length < N → body.wpIn (F.inRound l) (n - 1 - 1) P (bodyOwesT T X I Ix (pre ++ [x]) W) a' W)
    (hdone : ∀ (D : Nat) (X : Nat → Prop) (xs : List α) (W : World), w.heap.size ≤ D → X D → S xs → I X xs W → W.heap[D]? = some (.deferred (some [])) → Q .normal { a with defers := { target := .collected D, args := #[] } :: a.defers } W)
    (hstop : ∀ (D : Nat) (X : Nat → Prop) (c : Code) (pre : List α) (W : World), w.heap.size ≤ D → X D → Sp pre → Ix c X pre W → W.heap[D]? = some (.deferred (some [])) → c.wpIn F n P Q { a with defers := { target := .collected D, args := #[] } :: a.defers } W) :
    (Code.rangeFunc g ps assign body).wpIn F n P Q a w := by
  refine wpIn_rangeFunc fun fn hfn => ?_
  rw [hro]
  -- the two blocks of the loop's own: the rounds' deferred calls, and its record
  have L0 : w.heap.size < (w.alloc (.deferred (some []))).heap.size := by simp
  generalize hr : ({ state := .ready, pending := none, fn := fn, tmps := a.tmps, params := ps, assign := assign, body := body, defers := w.heap.size } : Loop) = r
  have r1 : r.state = .ready := by rw [← hr]
  have r2 : r.pending = none := by rw [← hr]
  have r3 : r.fn = fn := by rw [← hr]
  have r4 : r.params = ps := by rw [← hr]
  have r5 : r.assign = assign := by rw [← hr]
  have r6 : r.body = body := by rw [← hr]
  have r7 : r.tmps = a.tmps := by rw [← hr]
  have hent := run_enterLoop_outer (P := P) (w := w) fn a.tmps ps assign body
  rw [hr] at hent
  generalize hV : (w.alloc (.deferred (some []))).alloc (.loop r) = V at hent
  have kV : Kept [] w V := by rw [← hV]; exact ((Kept.refl [] w).alloc _).alloc _
  have zV : V.heap.size = w.heap.size + 2 := by rw [← hV]; simp
  have hL : V.heap[w.heap.size + 1]? = some (.loop r) := by rw [← hV]; exact heap_alloc2_new w _ _
  have hD : V.heap[w.heap.size]? = some (.deferred (some [])) := by rw [← hV, Below.heap_alloc _ _ _ L0]; exact heap_alloc_new w _
  clear hV hr
  refine ⟨w.heap.size + 1, _, V, { target := .fn (.func gf) lb, args := #[.func (.yield (w.heap.size + 1)) #[] #[]] }, V, gf, #[.func (.yield (w.heap.size + 1)) #[] #[]] ++ lb, V, hent, ?_, ?_, ?_, fun _ => h1, ?_⟩
  · simp only [resolve, hg]
    simp [go_sem]
  · intro f' hf'
    simp [Target.leads] at hf'
    subst hf'
    exact hFg
  · simp [invoke, go_sem, eg]
  -- the loop's two blocks, beside the iterator's own
  let U : (Nat → Prop) → Nat → Prop := fun X k => X k ∨ k = w.heap.size ∨ k = w.heap.size + 1
  have uL : ∀ X, U X (w.heap.size + 1) := fun X => .inr (.inr rfl)
  have uD : ∀ X, U X w.heap.size := fun X => .inr (.inl rfl)
  refine (hseq (w.heap.size + 1)
    (fun X pre W => I (U X) pre W ∧ W.heap[w.heap.size + 1]? = some (.loop r) ∧ W.heap[w.heap.size]? = some (.deferred (some [])) ∧ ∀ k, X k → X₀ k ∨ V.heap.size ≤ k)
    (fun X pre W => ∃ c, Ix c (U X) pre W ∧ W.heap[w.heap.size + 1]? = some (.loop { r with state := .done, pending := some c }) ∧ W.heap[w.heap.size]? = some (.deferred (some [])) ∧ ∀ k, X k → X₀ k ∨ V.heap.size ≤ k)
    X₀ V kV.below ⟨?m1, ?t1⟩ ⟨?m2, ?t2⟩ ?rounds ⟨?first, hL, hD, fun k h => .inl h⟩ (fun k h => h) (fun k h => Nat.lt_of_lt_of_le (hX₀ k h) kV.size)).mono ?behind
  case m1 =>
    rintro X X' pre W ⟨i1, i2, i3, i4⟩ hX
    have hz := lt_of i2
    refine ⟨hI.more i1 (fun k hk => ?_), i2, i3, fun k hk => ?_⟩
    · rcases hk with hk | hk
      · exact (hX k hk).imp .inl id
      · exact .inl (.inr hk)
    · rcases hX k hk with h | h
      · exact i4 k h
      · right; omega
  case t1 =>
    rintro X pre W W' row ⟨i1, i2, i3, i4⟩ hgr hrow
    refine ⟨hI.turn i1 hgr (fun q e => .inl (hrow q e)), (hgr.block _ (lt_of i2) (fun e => ?_)).trans i2, (hgr.block _ (lt_of i3) (fun e => ?_)).trans i3, i4⟩
    · rcases i4 _ (hrow _ e.symm) with h | h
      · have := hX₀ _ h; omega
      · omega
    · rcases i4 _ (hrow _ e.symm) with h | h
      · have := hX₀ _ h; omega
      · omega
  case m2 =>
    rintro X X' pre W ⟨c, i1, i2, i3, i4⟩ hX
    have hz := lt_of i2
    refine ⟨c, (hIx c).more i1 (fun k hk => ?_), i2, i3, fun k hk => ?_⟩
    · rcases hk with hk | hk
      · exact (hX k hk).imp .inl id
      · exact .inl (.inr hk)
    · rcases hX k hk with h | h
      · exact i4 k h
      · right; omega
  case t2 =>
    rintro X pre W W' row ⟨c, i1, i2, i3, i4⟩ hgr hrow
    refine ⟨c, (hIx c).turn i1 hgr (fun q e => .inl (hrow q e)), (hgr.block _ (lt_of i2) (fun e => ?_)).trans i2, (hgr.block _ (lt_of i3) (fun e => ?_)).trans i3, i4⟩
    · rcases i4 _ (hrow _ e.symm) with h | h
      · have := hX₀ _ h; omega
      · omega
    · rcases i4 _ (hrow _ e.symm) with h | h
      · have := hX₀ _ h; omega
      · omega
  case first =>
    refine hI.kept (hI.more h0 (fun k hk => ?_)) kV
    rcases hk with hk | hk | hk
    · exact .inl hk
    · right; omega
    · right; omega
  case rounds =>
    rintro X pre x W ⟨i1, i2, i3, i4⟩ hat hXW hN
    have hz := lt_of i2
    refine one_round i2 r1 r2 (by rw [r3]; exact hfn) r4 r5 r6 r7 (hps x) ?_
    refine hassign _ _ pre x W _ i1 hat (by omega) fun a' Wa ka hx => ⟨ka.at i2 (by simp), ?_⟩
    have j1 := hI.kept i1 ka
    have j2 := ka.at i2 (by simp)
    have j3 := ka.at i3 (by simp)
    have hz' := lt_of j2
    have hlow : ¬ orT T X (w.heap.size + 1) := fun h => by
      rcases h with h | h
      · rcases i4 _ h with h | h
        · have := hX₀ _ h; omega
        · omega
      · have := hT _ h; omega
    have b2 : (Wa.putObj (w.heap.size + 1) (.loop { r with state := .busy })).heap[w.heap.size + 1]? = some (.loop { r with state := .busy }) := World.putObj_heap_same hz'
    have b3 : (Wa.putObj (w.heap.size + 1) (.loop { r with state := .busy })).heap[w.heap.size]? = some (.deferred (some [])) := (World.putObj_heap_other (by omega)).trans j3
    refine wpIn_mono (hbody _ (U X) pre x a' _ ⟨_, b2⟩ (uL X) (fun k hk => ?_) (hI.turn j1 (grownBy_putObj' _ _ _) (fun q e => by cases e; exact uL X)) (hAx _ _ _ _ _ _ j2 rfl hx) (hAt.turn j2 rfl (hAt.kept ka hat)) hN) ?_
    · have hb : Wa.heap.size = (Wa.putObj (w.heap.size + 1) (.loop { r with state := .busy })).heap.size := by simp [World.putObj]
      have := ka.size
      rcases hk with hk | hk | hk
      · have h1 := hXW k hk
        omega
      · omega
      · omega
    have pre1 : KpX (orT T X) W (Wa.putObj (w.heap.size + 1) (.loop { r with state := .busy })) := (KpX.of_kept ka).trans (KpX.putObj _ _ hlow)
    have back : ∀ W3, KpX (orT T (U X)) (Wa.putObj (w.heap.size + 1) (.loop { r with state := .busy })) W3 → W3.heap[w.heap.size + 1]? = some (.loop { r with state := .busy }) ∧ W3.heap[w.heap.size]? = some (.deferred (some [])) := fun W3 k3 =>
      ⟨k3.own _ _ (.inl (uL X)) b2, k3.own _ _ (.inl (uD X)) b3⟩
    have shut : ∀ W3 o, KpX (orT T (U X)) (Wa.putObj (w.heap.size + 1) (.loop { r with state := .busy })) W3 → KpX (orT T X) W (W3.putObj (w.heap.size + 1) o) := fun W3 o k3 =>
      pre1.trans ((k3.mono (fun _ h => h.elim (fun h => .inl (.inl h)) .inr)).trans (KpX.putObj _ _ hlow))
    rintro e a3 W3 hp
    cases e with
    | normal =>
      obtain ⟨k3, q3⟩ := hp
      obtain ⟨c2, c3⟩ := back W3 k3
      exact ⟨c2, .inl ⟨rfl, ⟨hI.turn q3 (grownBy_putObj' _ _ _) (fun q e => by cases e; exact uL X), World.putObj_heap_same (lt_of c2), (World.putObj_heap_other (by omega)).trans c3, i4⟩, shut _ _ k3⟩⟩
    | ret =>
      obtain ⟨k3, q3⟩ := hp
      obtain ⟨c2, c3⟩ := back W3 k3
      exact ⟨c2, .inr ⟨rfl, ⟨.ret, (hIx _).turn q3 (grownBy_putObj' _ _ _) (fun q e => by cases e; exact uL X), World.putObj_heap_same (lt_of c2), (World.putObj_heap_other (by omega)).trans c3, i4⟩, shut _ _ k3⟩⟩
    | exit id =>
      obtain ⟨k3, q3⟩ := hp
      obtain ⟨c2, c3⟩ := back W3 k3
      exact ⟨c2, .inr ⟨rfl, ⟨.exit id, (hIx _).turn q3 (grownBy_putObj' _ _ _) (fun q e => by cases e; exact uL X), World.putObj_heap_same (lt_of c2), (World.putObj_heap_other (by omega)).trans c3, i4⟩, shut _ _ k3⟩⟩
    | goto t =>
      obtain ⟨k3, q3⟩ := hp
      obtain ⟨c2, c3⟩ := back W3 k3
      exact ⟨c2, .inr ⟨rfl, ⟨.goto t, (hIx _).turn q3 (grownBy_putObj' _ _ _) (fun q e => by cases e; exact uL X), World.putObj_heap_same (lt_of c2), (World.putObj_heap_other (by omega)).trans c3, i4⟩, shut _ _ k3⟩⟩
    | panic ch => exact hp.elim
    | outgrown => exact hp.elim
  case behind =>
    rintro e W2 ⟨⟨v, rfl⟩, (⟨xs, X, q0, q1, q2, q3, _⟩ | ⟨pre, X, q0, c, q1, q2, q3, _⟩)⟩
    · have hend := run_endLoop (P := P) q2 (by rw [r1]; simp)
      rw [r2] at hend
      exact ⟨none, _, hend, hdone _ (U X) xs _ (Nat.le_refl _) (uD X) q0 (hI.turn q1 (grownBy_putObj' _ _ _) (fun q e => by cases e; exact uL X)) ((World.putObj_heap_other (by omega)).trans q3)⟩
    · have hend := run_endLoop (P := P) q2 (by simp)
      exact ⟨some c, _, hend, hstop _ (U X) c pre _ (Nat.le_refl _) (uD X) q0 ((hIx c).turn q1 (grownBy_putObj' _ _ _) (fun q e => by cases e; exact uL X)) ((World.putObj_heap_other (by omega)).trans q3)⟩
/-- The law, where the loop's variables are plain slots. -/
theorem rangeAt1 {α : Type} {g : Operand} {ps : Array Tmp} {assign body : Code} {Q : Exit → Act → World → Prop} {a : Act} {w : World}
    (hro : F.round = none) (h1 : 1 ≤ n) {gf : Nat} {lb : Array Value} (hg : a.eval g = .func (.func gf) #[] lb) (hFg : F.fn gf) (eg : ∀ args w, (callFunc gf args).run P w = .ok (.enter gf args) w)
    {encs : α → Array Value} {At : α → World → Prop} {T X₀ : Nat → Prop} {S Sp : List α → Prop} {N : Nat} (hseq : GoesAt F (n - 1) P gf lb encs At T X₀ S Sp N w) (hAt : AtKept At) (hT : ∀ k, T k → k < w.heap.size) (hX₀ : ∀ k, X₀ k → k < w.heap.size) (hps : ∀ x, (encs x).size = ps.size)
    (I : (Nat → Prop) → List α → World → Prop) (Ix : Code → (Nat → Prop) → List α → World → Prop) (hI : Abide I) (hIx : ∀ c, Abide (Ix c)) (h0 : I X₀ [] w) (a₁ : α → Act)
    (hassign : ∀ (l : Nat) (x : α) (W : World) (K : Act → World → Prop), K (a₁ x) W →
      assign.wpIn (F.inRound l) (n - 1 - 1) P (Exit.then K (fun _ _ _ => False)) { tmps := (ps.zip (encs x)).foldl (fun t (p, v) => t.setIfInBounds p v) a.tmps, defers := [] } W)
    (hbody : ∀ (l : Nat) (X : Nat → Prop) (pre : List α) (x : α) (W : World), (∃ r, W.heap[l]? = some (.loop r)) → X l → (∀ k, X k → k < W.heap.size) → I X pre W → At x W → pre.length < N → body.wpIn (F.inRound l) (n - 1 - 1) P (bodyOwesT T X I Ix (pre ++ [x]) W) (a₁ x) W)
    (hdone : ∀ (D : Nat) (X : Nat → Prop) (xs : List α) (W : World), w.heap.size ≤ D → X D → S xs → I X xs W → W.heap[D]? = some (.deferred (some [])) → Q .normal { a with defers := { target := .collected D, args := #[] } :: a.defers } W)
    (hstop : ∀ (D : Nat) (X : Nat → Prop) (c : Code) (pre : List α) (W : World), w.heap.size ≤ D → X D → Sp pre → Ix c X pre W → W.heap[D]? = some (.deferred (some [])) → c.wpIn F n P Q { a with defers := { target := .collected D, args := #[] } :: a.defers } W) :
    (Code.rangeFunc g ps assign body).wpIn F n P Q a w :=
  rangeAt hro h1 hg hFg eg hseq hAt hT hX₀ hps I Ix hI hIx h0 (fun x a' _ => a' = a₁ x) (fun _ _ _ _ _ _ _ _ h => h)
    (fun l _ _ x W K _ _ _ hK => hassign l x W K (hK _ _ (Kept.refl [] W) rfl))
    (fun l X pre x a' W hr hl hX hi hx hat hN => by subst hx; exact hbody l X pre x W hr hl hX hi hat hN) hdone hstop
end Go.Proofs.Ytbbfajbnklgncaa

/- Boxes, rows that grow, rounds: what the walks over loops lean on. No walk here. -/
namespace Go.Proofs.Ytbbfajbnklgncaa
open Go.RowKit Go.Shelf

theorem own_lt {W : World} {base : Nat} {e : TypeId} {size : Nat} {v : Value} {n g : Nat} {xs : List Value} (h : W.ownsRow base e size v n xs) (hg : v.ownBlock = some g) : base ≤ g ∧ g < W.heap.size := by
  rcases h.2 with ⟨rfl, _⟩ | ⟨g', cap, cur, rfl, hb, hc, _⟩
  · cases hg
  · cases hg; exact ⟨hb, lt_of hc⟩
/-- An append in a fence, that tells where the row lies. -/
theorem append_in {F : Fence} {n : Nat} {P : Program} (w : World) {ops : Array Oper} {rest : List Oper} {o : Oper} {a : Act} {Q : Exit → Act → World → Prop}
    (hg : o.guard = none) (s x : Operand) (t : TypeId) (hop : o.op = Op.call { callee := Callee.builtin Builtin.append, args := #[s, x], argTypes := #[t, t] })
    (base : Nat) (e : TypeId) (i : TypeInfo) (z : Value) (size bytes : Nat) (h1 : P.underlying t = some (.slice e)) (h2 : P.info? e = some i) (h3 : i.zero = some z) (h4 : i.size = size) (h5 : i.bytes = bytes) (h6 : z.cells.size = size) (h7 : 0 < size)
    (v : Value) (k : Nat) (xs : List Value) (hs : a.eval s = v) (hown : w.ownsRow base e size v k xs) (ad : Addr) (m c : Nat) (news : List Value) (hx : a.eval x = .slice (some ad) m c) (hn : news.length = m * size)
    (hc : ∀ j u, news[j]? = some u → w.cell? (ad.add j) = some u) (h1c : ∀ u ∈ news, u.oneCell' = true) (hm : 0 < m) (b1 : k + m ≤ maxLen) (b2 : (k + m) * bytes ≤ 140737488355328) (b3 : base ≤ w.heap.size)
    (hK : ∀ gr cap w', w'.ownsRow base e size (.slice (some ⟨gr, 0, none⟩) (k + m) cap) (k + m) (xs ++ news) → w.grownBy w' v.ownBlock → (v.ownBlock = some gr ∨ gr = w.heap.size) → wpListIn F n P ops Q rest (a.put o.dst (.slice (some ⟨gr, 0, none⟩) (k + m) cap)) w') :
    wpListIn F n P ops Q (o :: rest) a w := by
  obtain ⟨gr, cap, w', run, q1, q2, q3, _⟩ := run_append_lies (P := P) w t o.type base e i z size bytes h1 h2 h3 h4 h5 h6 h7 v k xs hown ad m c news hn hc h1c hm b1 b2 b3 _ rfl
  refine wpListIn_plain hg fun K hk => ⟨by simp [Oper.about, hop, resolve, Target.leads, Sem.run_pure], ?_⟩
  rw [Oper.semAt_plain F _ _ (by rw [hop]; intro c hc'; cases hc')]
  simp [execOp, hop, resolve, invoke, builtin, hs, hx, run, Result.andThen]
  exact hk _ _ (hK gr cap w' q1 q2 q3)

/-- A box of the caller's. -/
def Bx1 (B : Nat) (t : TypeId) (v : Value) (X : Nat → Prop) (W : World) : Prop := Boxed W B t v ∧ ¬ X B
theorem Bx1.more {B : Nat} {t : TypeId} {v : Value} {X X' : Nat → Prop} {W : World} (h : Bx1 B t v X W) (hX : ∀ k, X' k → X k ∨ W.heap.size ≤ k) : Bx1 B t v X' W := by
  have := h.1.lt
  exact ⟨h.1, fun hk => (hX _ hk).elim h.2 (by omega)⟩
theorem Bx1.turn {B : Nat} {t : TypeId} {v : Value} {X : Nat → Prop} {W W' : World} {row : Option Nat} (h : Bx1 B t v X W) (hg : W.grownBy W' row) (hr : ∀ r, row = some r → X r) : Bx1 B t v X W' :=
  ⟨h.1.kept hg (fun e => h.2 (hr _ e.symm)), h.2⟩
/-- All that lay below n₀ lies as it lay; nothing of X is below. -/
def Bw (n₀ : Nat) (w : World) (X : Nat → Prop) (W : World) : Prop := Below n₀ w W ∧ n₀ ≤ W.heap.size ∧ ∀ k, X k → n₀ ≤ k
theorem Bw.more {n₀ : Nat} {w W : World} {X X' : Nat → Prop} (h : Bw n₀ w X W) (hX : ∀ k, X' k → X k ∨ W.heap.size ≤ k) : Bw n₀ w X' W :=
  ⟨h.1, h.2.1, fun k hk => (hX k hk).elim (h.2.2 k) (fun q => Nat.le_trans h.2.1 q)⟩
theorem Bw.turn {n₀ : Nat} {w W W' : World} {X : Nat → Prop} {row : Option Nat} (h : Bw n₀ w X W) (hg : W.grownBy W' row) (hr : ∀ r, row = some r → X r) : Bw n₀ w X W' :=
  ⟨h.1.grown hg h.2.1 (fun k e => h.2.2 k (hr k e)), Nat.le_trans h.2.1 hg.size, h.2.2⟩

theorem own_set {W : World} {base : Nat} {e : TypeId} {size k B : Nat} {t : TypeId} {v u : Value} {xs : List Value} (h : W.ownsRow base e size v k xs) (b : Boxed W B t u) (ht : t ≠ e) (u' : Value) : (W.setCell ⟨B, 0, none⟩ u').ownsRow base e size v k xs :=
  h.kept (grownBy_setCell' W B u') (.inr (b.not_row ht h).symm)
theorem box_other {W : World} {B C : Nat} {t : TypeId} {v u : Value} (h : Boxed W B t v) (hne : B ≠ C) : Boxed (W.setCell ⟨C, 0, none⟩ u) B t v := (Below.heap_setCell _ _ _ _ hne).trans h
theorem box_shut {W : World} {B D : Nat} {t : TypeId} {v : Value} {o : Obj} (h : Boxed W B t v) (hD : W.heap[D]? = some (.deferred (some []))) : Boxed (W.putObj D o) B t v :=
  (World.putObj_heap_other (fun e => by subst e; rw [show W.heap[B]? = _ from h] at hD; cases hD)).trans h
theorem row_set {w : World} {g i : Nat} {cs : Array Value} {T : TypeId} {fz : Nat × Nat} (h : w.heap[g]? = some (.cells cs T fz)) (v : Value) : (w.setCell ⟨g, i, none⟩ v).heap[g]? = some (.cells (cs.setIfInBounds i v) T fz) := by
  simp only [World.setCell, Array.getElem?_modify, if_true]
  rw [h]
  simp
theorem Bx1.kept0 {B : Nat} {t : TypeId} {v : Value} {X : Nat → Prop} {W W' : World} (h : Bx1 B t v X W) (k : Kept [] W W') : Bx1 B t v X W' := ⟨k.at h.1 (by simp), h.2⟩
theorem Bw.kept0 {n₀ : Nat} {w W W' : World} {X : Nat → Prop} (h : Bw n₀ w X W) (k : Kept [] W W') : Bw n₀ w X W' := h.turn (grownBy_of_kept k) (fun r e => by cases e)
theorem Bw.set {n₀ : Nat} {w W : World} {X : Nat → Prop} (h : Bw n₀ w X W) {b o : Nat} (hb : n₀ ≤ b) (v : Value) : Bw n₀ w X (W.setCell ⟨b, o, none⟩ v) :=
  ⟨h.1.setCell (p := ⟨b, o, none⟩) hb v, by have := h.2.1; simp [World.setCell]; exact this, h.2.2⟩
theorem Bx1.set {B : Nat} {t : TypeId} {v : Value} {X : Nat → Prop} {W : World} (h : Bx1 B t v X W) (v' : Value) : Bx1 B t v' X (W.setCell ⟨B, 0, none⟩ v') := ⟨Boxed.set _ h.1, h.2⟩
theorem Bx1.other {B C o : Nat} {t : TypeId} {v u : Value} {X : Nat → Prop} {W : World} (h : Bx1 B t v X W) (hne : B ≠ C) : Bx1 B t v X (W.setCell ⟨C, o, none⟩ u) := ⟨(Below.heap_setCell _ _ _ _ hne).trans h.1, h.2⟩
theorem abide_and {α : Type} {I J : (Nat → Prop) → List α → World → Prop} (h : Abide I) (k : Abide J) : Abide (fun X p W => I X p W ∧ J X p W) :=
  ⟨fun q hX => ⟨h.more q.1 hX, k.more q.2 hX⟩, fun q hg hr => ⟨h.turn q.1 hg hr, k.turn q.2 hg hr⟩⟩
theorem abide_pure {α : Type} (p : List α → Prop) : Abide (fun (_ : Nat → Prop) (l : List α) (_ : World) => p l) := ⟨fun q _ => q, fun q _ _ => q⟩
theorem abide_bx {α : Type} (B : Nat) (t : TypeId) (v : List α → Value) : Abide (fun X l W => Bx1 B t (v l) X W) := ⟨fun q hX => q.more hX, fun q hg hr => q.turn hg hr⟩
theorem abide_bw {α : Type} (n₀ : Nat) (w : World) : Abide (fun X (_ : List α) W => Bw n₀ w X W) := ⟨fun q hX => q.more hX, fun q hg hr => q.turn hg hr⟩
theorem alUp {W : World} {k : Nat} {o : Obj} (h : W.heap[k]? = some o) (o' : Obj) : (W.alloc o').heap[k]? = some o := (Below.heap_alloc _ _ _ (lt_of h)).trans h
theorem al0 (w : World) (a : Obj) : (w.alloc a).heap[w.heap.size]? = some a := heap_alloc_new w a
theorem al1 (w : World) (a b : Obj) : ((w.alloc a).alloc b).heap[w.heap.size + 1]? = some b := by have := heap_alloc_new (w.alloc a) b; rwa [World.size_alloc] at this
theorem al2 (w : World) (a b c : Obj) : (((w.alloc a).alloc b).alloc c).heap[w.heap.size + 1 + 1]? = some c := by have := al1 (w.alloc a) b c; rwa [World.size_alloc] at this
theorem al3 (w : World) (a b c d : Obj) : ((((w.alloc a).alloc b).alloc c).alloc d).heap[w.heap.size + 1 + 1 + 1]? = some d := by have := al2 (w.alloc a) b c d; rwa [World.size_alloc] at this
theorem al4 (w : World) (a b c d e : Obj) : (((((w.alloc a).alloc b).alloc c).alloc d).alloc e).heap[w.heap.size + 1 + 1 + 1 + 1]? = some e := by have := al3 (w.alloc a) b c d e; rwa [World.size_alloc] at this
theorem al5 (w : World) (a b c d e f : Obj) : ((((((w.alloc a).alloc b).alloc c).alloc d).alloc e).alloc f).heap[w.heap.size + 1 + 1 + 1 + 1 + 1]? = some f := by have := al4 (w.alloc a) b c d e f; rwa [World.size_alloc] at this
/-- A block of the caller's, of whatever cells. -/
def Blk (B : Nat) (cs : Array Value) (t : TypeId) (X : Nat → Prop) (W : World) : Prop := W.heap[B]? = some (.cells cs t (0, 0)) ∧ ¬ X B
theorem Blk.more {B : Nat} {cs : Array Value} {t : TypeId} {X X' : Nat → Prop} {W : World} (h : Blk B cs t X W) (hX : ∀ k, X' k → X k ∨ W.heap.size ≤ k) : Blk B cs t X' W := by
  have := lt_of h.1
  exact ⟨h.1, fun hk => (hX _ hk).elim h.2 (by omega)⟩
theorem Blk.turn {B : Nat} {cs : Array Value} {t : TypeId} {X : Nat → Prop} {W W' : World} {row : Option Nat} (h : Blk B cs t X W) (hg : W.grownBy W' row) (hr : ∀ r, row = some r → X r) : Blk B cs t X W' :=
  ⟨(hg.block B (lt_of h.1) (fun e => h.2 (hr _ e.symm))).trans h.1, h.2⟩
theorem Blk.kept0 {B : Nat} {cs : Array Value} {t : TypeId} {X : Nat → Prop} {W W' : World} (h : Blk B cs t X W) (k : Kept [] W W') : Blk B cs t X W' := ⟨k.at h.1 (by simp), h.2⟩
theorem Blk.other {B C o : Nat} {cs : Array Value} {t : TypeId} {u : Value} {X : Nat → Prop} {W : World} (h : Blk B cs t X W) (hne : B ≠ C) : Blk B cs t X (W.setCell ⟨C, o, none⟩ u) := ⟨(Below.heap_setCell _ _ _ _ hne).trans h.1, h.2⟩
theorem abide_blk {α : Type} (B : Nat) (cs : List α → Array Value) (t : TypeId) : Abide (fun X l W => Blk B (cs l) t X W) := ⟨fun q hX => q.more hX, fun q hg hr => q.turn hg hr⟩
theorem KpX.of_keptF {Y : Nat → Prop} {F : List Nat} {W W' : World} (h : Kept F W W') (hF : ∀ x ∈ F, ¬ Y x) : KpX Y W W' := ⟨h.size, fun _ _ hk ho => h.at ho (fun hf => hF _ hf hk)⟩
theorem Bx1.keptF {F : List Nat} {B : Nat} {t : TypeId} {v : Value} {X : Nat → Prop} {W W' : World} (h : Bx1 B t v X W) (k : Kept F W W') (hB : B ∉ F) : Bx1 B t v X W' := ⟨k.at h.1 hB, h.2⟩
theorem Bw.keptF {F : List Nat} {n₀ : Nat} {w W W' : World} {X : Nat → Prop} (h : Bw n₀ w X W) (k : Kept F W W') (hF : ∀ x ∈ F, n₀ ≤ x) : Bw n₀ w X W' :=
  ⟨⟨k.os.trans h.1.os, k.tape.trans h.1.tape, k.output.trans h.1.output, Nat.le_trans h.1.size k.size, fun i hi => (k.block i (Nat.lt_of_lt_of_le hi h.2.1) (fun hf => by have := hF i hf; omega)).trans (h.1.block i hi)⟩, Nat.le_trans h.2.1 k.size, h.2.2⟩
section
variable {P : Program}
/-- A round of another loop can be had from within a round. -/
theorem yield_in {m : Nat} (m' : Nat) {l l' : Nat} {args : Array Value} {W : World} {R : Ending → World → Prop} (h : YieldAt Fence.wide m P l args W R) : YieldAt (Fence.wide.inRound l') m' P l args W R := by
  obtain ⟨fn, tmps, assign, body, h1, h2⟩ := h
  exact ⟨fn, tmps, assign, body, h1, h2.1, fun c cs _ => h2.2 c cs (by simp [Fence.room, Fence.wide])⟩
end
theorem cell_kept0 {W W' : World} (k : Kept [] W W') {b o : Nat} {v : Value} (h : W.cell? ⟨b, o, none⟩ = some v) : W'.cell? ⟨b, o, none⟩ = some v :=
  (World.cell?_of_block (w := W) (a := ⟨b, o, none⟩) (k.block b (World.block_lt_of_cell? W _ h) (by simp))).trans h
end Go.Proofs.Ytbbfajbnklgncaa
