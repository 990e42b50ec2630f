/- A loop over a function that hands over one thing behind another in a known row: Pf: which one comes; En: what is so at its end. (Written by wip/rgatp.py off RgAt.) -/
import Derived.Test.YtbbfajbnklgncaaHA
namespace Go.Proofs.Ytbbfajbnklgncaa
open Go.RowKit Go.Shelf

/-- How such an iterator ends. -/
def GoEnds {α : Type} (S Sp : List α → Prop) (J Jx : (Nat → Prop) → List α → World → Prop) (En : List α → World → Prop) (e : Ending) (W' : World) : Prop := (∃ v, e = .returned v) ∧ ((∃ xs X', S xs ∧ J X' xs W' ∧ En xs W') ∨ (∃ pre X', Sp pre ∧ Jx X' pre W' ∧ En pre W'))
/-- An iterator goes through xs, each with what is so of it. -/
def GoesAtP {α : Type} (F : Fence) (n : Nat) (P : Program) (g : Nat) (lb : Array Value) (encs : α → Array Value) (At : α → World → Prop) (T X₀ : Nat → Prop) (S Sp : List α → Prop) (N : Nat) (Pf : List α → α → Prop) (En : List α → World → Prop) (w : World) : Prop :=
  ∀ (l : Nat) (J Jx : (Nat → Prop) → List α → World → Prop) (X : Nat → Prop) (W : World), Below w.heap.size w W → Abide J → Abide Jx →
    (∀ X pre x W1, J X pre W1 → At x W1 → (∀ k, X k → k < W1.heap.size) → pre.length < N → Pf pre x → YieldAt F (n - 1) P l (encs x) W1 fun e W' =>
      (e = .returned (.bool true) ∧ J X (pre ++ [x]) W' ∧ KpX (orT T X) W1 W') ∨ (e = .returned (.bool false) ∧ Jx X (pre ++ [x]) W' ∧ KpX (orT T X) W1 W')) →
    J X [] W → (∀ k, X₀ k → X k) → (∀ k, X k → k < W.heap.size) →
    CallsIn F n P g (#[.func (.yield l) #[] #[]] ++ lb) W (GoEnds S Sp J Jx En)

variable {F : Fence} {n : Nat} {P : Program}

/-- The caller's law, at an outermost loop: as rangeGoes, and At x W: what is so of x where it is handed over. -/
theorem rangeAtP {α : Type} {g : Operand} {ps : Array Tmp} {assign body : Code} {Q : Exit → Act → World → Prop} {a : Act} {w : World}
    (hro : F.round = none) (h1 : 1 ≤ n) {gf : Nat} {lb : Array Value} (hg : a.eval g = .func (.func gf) #[] lb) (hFg : F.fn gf) (eg : ∀ args w, (callFunc gf args).run P w = .ok (.enter gf args) w)
    {encs : α → Array Value} {At : α → World → Prop} {T X₀ : Nat → Prop} {S Sp : List α → Prop} {N : Nat} {Pf : List α → α → Prop} {En : List α → World → Prop} (hseq : GoesAtP F (n - 1) P gf lb encs At T X₀ S Sp N Pf En w) (hEn : ∀ (xs : List α) (W : World) (l : Nat) (o o' : Obj), W.heap[l]? = some o → o.isCells = false → En xs W → En xs (W.putObj l o')) (hAt : AtKept At) (hT : ∀ k, T k → k < w.heap.size) (hX₀ : ∀ k, X₀ k → k < w.heap.size) (hps : ∀ x, (encs x).size = ps.size)
    (I : (Nat → Prop) → List α → World → Prop) (Ix : Code → (Nat → Prop) → List α → World → Prop) (hI : Abide I) (hIx : ∀ c, Abide (Ix c)) (h0 : I X₀ [] w)
    (Ax : α → Act → World → Prop) (hAx : ∀ x a' W l o o', W.heap[l]? = some o → o.isCells = false → Ax x a' W → Ax x a' (W.putObj l o'))
    (hassign : ∀ (l : Nat) (X : Nat → Prop) (pre : List α) (x : α) (W : World) (K : Act → World → Prop), I X pre W → At x W → w.heap.size ≤ W.heap.size → (∀ a' W', Kept [] W W' → Ax x a' W' → K a' W') →
      assign.wpIn (F.inRound l) (n - 1 - 1) P (Exit.then K (fun _ _ _ => False)) { tmps := (ps.zip (encs x)).foldl (fun t (p, v) => t.setIfInBounds p v) a.tmps, defers := [] } W)
    (hbody : ∀ (l : Nat) (X : Nat → Prop) (pre : List α) (x : α) (a' : Act) (W : World), (∃ r, W.heap[l]? = some (.loop r)) → X l → (∀ k, X k → k < W.heap.size) → I X pre W → Ax x a' W → At x W → pre.length < N → Pf pre x → body.wpIn (F.inRound l) (n - 1 - 1) P (bodyOwesT T X I Ix (pre ++ [x]) W) a' W)
    (hdone : ∀ (D : Nat) (X : Nat → Prop) (xs : List α) (W : World), w.heap.size ≤ D → X D → S xs → I X xs W → En xs W → W.heap[D]? = some (.deferred (some [])) → Q .normal { a with defers := { target := .collected D, args := #[] } :: a.defers } W)
    (hstop : ∀ (D : Nat) (X : Nat → Prop) (c : Code) (pre : List α) (W : World), w.heap.size ≤ D → X D → Sp pre → Ix c X pre W → En pre W → W.heap[D]? = some (.deferred (some [])) → c.wpIn F n P Q { a with defers := { target := .collected D, args := #[] } :: a.defers } W) :
    (Code.rangeFunc g ps assign body).wpIn F n P Q a w := by
  refine wpIn_rangeFunc fun fn hfn => ?_
  rw [hro]
  -- the two blocks of the loop's own: the rounds' deferred calls, and its record
  have L0 : w.heap.size < (w.alloc (.deferred (some []))).heap.size := by simp
  generalize hr : ({ state := .ready, pending := none, fn := fn, tmps := a.tmps, params := ps, assign := assign, body := body, defers := w.heap.size } : Loop) = r
  have r1 : r.state = .ready := by rw [← hr]
  have r2 : r.pending = none := by rw [← hr]
  have r3 : r.fn = fn := by rw [← hr]
  have r4 : r.params = ps := by rw [← hr]
  have r5 : r.assign = assign := by rw [← hr]
  have r6 : r.body = body := by rw [← hr]
  have r7 : r.tmps = a.tmps := by rw [← hr]
  have hent := run_enterLoop_outer (P := P) (w := w) fn a.tmps ps assign body
  rw [hr] at hent
  generalize hV : (w.alloc (.deferred (some []))).alloc (.loop r) = V at hent
  have kV : Kept [] w V := by rw [← hV]; exact ((Kept.refl [] w).alloc _).alloc _
  have zV : V.heap.size = w.heap.size + 2 := by rw [← hV]; simp
  have hL : V.heap[w.heap.size + 1]? = some (.loop r) := by rw [← hV]; exact heap_alloc2_new w _ _
  have hD : V.heap[w.heap.size]? = some (.deferred (some [])) := by rw [← hV, Below.heap_alloc _ _ _ L0]; exact heap_alloc_new w _
  clear hV hr
  refine ⟨w.heap.size + 1, _, V, { target := .fn (.func gf) lb, args := #[.func (.yield (w.heap.size + 1)) #[] #[]] }, V, gf, #[.func (.yield (w.heap.size + 1)) #[] #[]] ++ lb, V, hent, ?_, ?_, ?_, fun _ => h1, ?_⟩
  · simp only [resolve, hg]
    simp [go_sem]
  · intro f' hf'
    simp [Target.leads] at hf'
    subst hf'
    exact hFg
  · simp [invoke, go_sem, eg]
  -- the loop's two blocks, beside the iterator's own
  let U : (Nat → Prop) → Nat → Prop := fun X k => X k ∨ k = w.heap.size ∨ k = w.heap.size + 1
  have uL : ∀ X, U X (w.heap.size + 1) := fun X => .inr (.inr rfl)
  have uD : ∀ X, U X w.heap.size := fun X => .inr (.inl rfl)
  refine (hseq (w.heap.size + 1)
    (fun X pre W => I (U X) pre W ∧ W.heap[w.heap.size + 1]? = some (.loop r) ∧ W.heap[w.heap.size]? = some (.deferred (some [])) ∧ ∀ k, X k → X₀ k ∨ V.heap.size ≤ k)
    (fun X pre W => ∃ c, Ix c (U X) pre W ∧ W.heap[w.heap.size + 1]? = some (.loop { r with state := .done, pending := some c }) ∧ W.heap[w.heap.size]? = some (.deferred (some [])) ∧ ∀ k, X k → X₀ k ∨ V.heap.size ≤ k)
    X₀ V kV.below ⟨?m1, ?t1⟩ ⟨?m2, ?t2⟩ ?rounds ⟨?first, hL, hD, fun k h => .inl h⟩ (fun k h => h) (fun k h => Nat.lt_of_lt_of_le (hX₀ k h) kV.size)).mono ?behind
  case m1 =>
    rintro X X' pre W ⟨i1, i2, i3, i4⟩ hX
    have hz := lt_of i2
    refine ⟨hI.more i1 (fun k hk => ?_), i2, i3, fun k hk => ?_⟩
    · rcases hk with hk | hk
      · exact (hX k hk).imp .inl id
      · exact .inl (.inr hk)
    · rcases hX k hk with h | h
      · exact i4 k h
      · right; omega
  case t1 =>
    rintro X pre W W' row ⟨i1, i2, i3, i4⟩ hgr hrow
    refine ⟨hI.turn i1 hgr (fun q e => .inl (hrow q e)), (hgr.block _ (lt_of i2) (fun e => ?_)).trans i2, (hgr.block _ (lt_of i3) (fun e => ?_)).trans i3, i4⟩
    · rcases i4 _ (hrow _ e.symm) with h | h
      · have := hX₀ _ h; omega
      · omega
    · rcases i4 _ (hrow _ e.symm) with h | h
      · have := hX₀ _ h; omega
      · omega
  case m2 =>
    rintro X X' pre W ⟨c, i1, i2, i3, i4⟩ hX
    have hz := lt_of i2
    refine ⟨c, (hIx c).more i1 (fun k hk => ?_), i2, i3, fun k hk => ?_⟩
    · rcases hk with hk | hk
      · exact (hX k hk).imp .inl id
      · exact .inl (.inr hk)
    · rcases hX k hk with h | h
      · exact i4 k h
      · right; omega
  case t2 =>
    rintro X pre W W' row ⟨c, i1, i2, i3, i4⟩ hgr hrow
    refine ⟨c, (hIx c).turn i1 hgr (fun q e => .inl (hrow q e)), (hgr.block _ (lt_of i2) (fun e => ?_)).trans i2, (hgr.block _ (lt_of i3) (fun e => ?_)).trans i3, i4⟩
    · rcases i4 _ (hrow _ e.symm) with h | h
      · have := hX₀ _ h; omega
      · omega
    · rcases i4 _ (hrow _ e.symm) with h | h
      · have := hX₀ _ h; omega
      · omega
  case first =>
    refine hI.kept (hI.more h0 (fun k hk => ?_)) kV
    rcases hk with hk | hk | hk
    · exact .inl hk
    · right; omega
    · right; omega
  case rounds =>
    rintro X pre x W ⟨i1, i2, i3, i4⟩ hat hXW hN hPf
    have hz := lt_of i2
    refine one_round i2 r1 r2 (by rw [r3]; exact hfn) r4 r5 r6 r7 (hps x) ?_
    refine hassign _ _ pre x W _ i1 hat (by omega) fun a' Wa ka hx => ⟨ka.at i2 (by simp), ?_⟩
    have j1 := hI.kept i1 ka
    have j2 := ka.at i2 (by simp)
    have j3 := ka.at i3 (by simp)
    have hz' := lt_of j2
    have hlow : ¬ orT T X (w.heap.size + 1) := fun h => by
      rcases h with h | h
      · rcases i4 _ h with h | h
        · have := hX₀ _ h; omega
        · omega
      · have := hT _ h; omega
    have b2 : (Wa.putObj (w.heap.size + 1) (.loop { r with state := .busy })).heap[w.heap.size + 1]? = some (.loop { r with state := .busy }) := World.putObj_heap_same hz'
    have b3 : (Wa.putObj (w.heap.size + 1) (.loop { r with state := .busy })).heap[w.heap.size]? = some (.deferred (some [])) := (World.putObj_heap_other (by omega)).trans j3
    refine wpIn_mono (hbody _ (U X) pre x a' _ ⟨_, b2⟩ (uL X) (fun k hk => ?_) (hI.turn j1 (grownBy_putObj' _ _ _) (fun q e => by cases e; exact uL X)) (hAx _ _ _ _ _ _ j2 rfl hx) (hAt.turn j2 rfl (hAt.kept ka hat)) hN hPf) ?_
    · have hb : Wa.heap.size = (Wa.putObj (w.heap.size + 1) (.loop { r with state := .busy })).heap.size := by simp [World.putObj]
      have := ka.size
      rcases hk with hk | hk | hk
      · have h1 := hXW k hk
        omega
      · omega
      · omega
    have pre1 : KpX (orT T X) W (Wa.putObj (w.heap.size + 1) (.loop { r with state := .busy })) := (KpX.of_kept ka).trans (KpX.putObj _ _ hlow)
    have back : ∀ W3, KpX (orT T (U X)) (Wa.putObj (w.heap.size + 1) (.loop { r with state := .busy })) W3 → W3.heap[w.heap.size + 1]? = some (.loop { r with state := .busy }) ∧ W3.heap[w.heap.size]? = some (.deferred (some [])) := fun W3 k3 =>
      ⟨k3.own _ _ (.inl (uL X)) b2, k3.own _ _ (.inl (uD X)) b3⟩
    have shut : ∀ W3 o, KpX (orT T (U X)) (Wa.putObj (w.heap.size + 1) (.loop { r with state := .busy })) W3 → KpX (orT T X) W (W3.putObj (w.heap.size + 1) o) := fun W3 o k3 =>
      pre1.trans ((k3.mono (fun _ h => h.elim (fun h => .inl (.inl h)) .inr)).trans (KpX.putObj _ _ hlow))
    rintro e a3 W3 hp
    cases e with
    | normal =>
      obtain ⟨k3, q3⟩ := hp
      obtain ⟨c2, c3⟩ := back W3 k3
      exact ⟨c2, .inl ⟨rfl, ⟨hI.turn q3 (grownBy_putObj' _ _ _) (fun q e => by cases e; exact uL X), World.putObj_heap_same (lt_of c2), (World.putObj_heap_other (by omega)).trans c3, i4⟩, shut _ _ k3⟩⟩
    | ret =>
      obtain ⟨k3, q3⟩ := hp
      obtain ⟨c2, c3⟩ := back W3 k3
      exact ⟨c2, .inr ⟨rfl, ⟨.ret, (hIx _).turn q3 (grownBy_putObj' _ _ _) (fun q e => by cases e; exact uL X), World.putObj_heap_same (lt_of c2), (World.putObj_heap_other (by omega)).trans c3, i4⟩, shut _ _ k3⟩⟩
    | exit id =>
      obtain ⟨k3, q3⟩ := hp
      obtain ⟨c2, c3⟩ := back W3 k3
      exact ⟨c2, .inr ⟨rfl, ⟨.exit id, (hIx _).turn q3 (grownBy_putObj' _ _ _) (fun q e => by cases e; exact uL X), World.putObj_heap_same (lt_of c2), (World.putObj_heap_other (by omega)).trans c3, i4⟩, shut _ _ k3⟩⟩
    | goto t =>
      obtain ⟨k3, q3⟩ := hp
      obtain ⟨c2, c3⟩ := back W3 k3
      exact ⟨c2, .inr ⟨rfl, ⟨.goto t, (hIx _).turn q3 (grownBy_putObj' _ _ _) (fun q e => by cases e; exact uL X), World.putObj_heap_same (lt_of c2), (World.putObj_heap_other (by omega)).trans c3, i4⟩, shut _ _ k3⟩⟩
    | panic ch => exact hp.elim
    | outgrown => exact hp.elim
  case behind =>
    rintro e W2 ⟨⟨v, rfl⟩, (⟨xs, X, q0, ⟨q1, q2, q3, _⟩, qe⟩ | ⟨pre, X, q0, ⟨c, q1, q2, q3, _⟩, qe⟩)⟩
    · have hend := run_endLoop (P := P) q2 (by rw [r1]; simp)
      rw [r2] at hend
      exact ⟨none, _, hend, hdone _ (U X) xs _ (Nat.le_refl _) (uD X) q0 (hI.turn q1 (grownBy_putObj' _ _ _) (fun q e => by cases e; exact uL X)) (hEn _ _ _ _ _ q2 rfl qe) ((World.putObj_heap_other (by omega)).trans q3)⟩
    · have hend := run_endLoop (P := P) q2 (by simp)
      exact ⟨some c, _, hend, hstop _ (U X) c pre _ (Nat.le_refl _) (uD X) q0 ((hIx c).turn q1 (grownBy_putObj' _ _ _) (fun q e => by cases e; exact uL X)) (hEn _ _ _ _ _ q2 rfl qe) ((World.putObj_heap_other (by omega)).trans q3)⟩
/-- The law, where the loop's variables are plain slots. -/
theorem rangeAtP1 {α : Type} {g : Operand} {ps : Array Tmp} {assign body : Code} {Q : Exit → Act → World → Prop} {a : Act} {w : World}
    (hro : F.round = none) (h1 : 1 ≤ n) {gf : Nat} {lb : Array Value} (hg : a.eval g = .func (.func gf) #[] lb) (hFg : F.fn gf) (eg : ∀ args w, (callFunc gf args).run P w = .ok (.enter gf args) w)
    {encs : α → Array Value} {At : α → World → Prop} {T X₀ : Nat → Prop} {S Sp : List α → Prop} {N : Nat} {Pf : List α → α → Prop} {En : List α → World → Prop} (hseq : GoesAtP F (n - 1) P gf lb encs At T X₀ S Sp N Pf En w) (hEn : ∀ (xs : List α) (W : World) (l : Nat) (o o' : Obj), W.heap[l]? = some o → o.isCells = false → En xs W → En xs (W.putObj l o')) (hAt : AtKept At) (hT : ∀ k, T k → k < w.heap.size) (hX₀ : ∀ k, X₀ k → k < w.heap.size) (hps : ∀ x, (encs x).size = ps.size)
    (I : (Nat → Prop) → List α → World → Prop) (Ix : Code → (Nat → Prop) → List α → World → Prop) (hI : Abide I) (hIx : ∀ c, Abide (Ix c)) (h0 : I X₀ [] w) (a₁ : α → Act)
    (hassign : ∀ (l : Nat) (x : α) (W : World) (K : Act → World → Prop), K (a₁ x) W →
      assign.wpIn (F.inRound l) (n - 1 - 1) P (Exit.then K (fun _ _ _ => False)) { tmps := (ps.zip (encs x)).foldl (fun t (p, v) => t.setIfInBounds p v) a.tmps, defers := [] } W)
    (hbody : ∀ (l : Nat) (X : Nat → Prop) (pre : List α) (x : α) (W : World), (∃ r, W.heap[l]? = some (.loop r)) → X l → (∀ k, X k → k < W.heap.size) → I X pre W → At x W → pre.length < N → Pf pre x → body.wpIn (F.inRound l) (n - 1 - 1) P (bodyOwesT T X I Ix (pre ++ [x]) W) (a₁ x) W)
    (hdone : ∀ (D : Nat) (X : Nat → Prop) (xs : List α) (W : World), w.heap.size ≤ D → X D → S xs → I X xs W → En xs W → W.heap[D]? = some (.deferred (some [])) → Q .normal { a with defers := { target := .collected D, args := #[] } :: a.defers } W)
    (hstop : ∀ (D : Nat) (X : Nat → Prop) (c : Code) (pre : List α) (W : World), w.heap.size ≤ D → X D → Sp pre → Ix c X pre W → En pre W → W.heap[D]? = some (.deferred (some [])) → c.wpIn F n P Q { a with defers := { target := .collected D, args := #[] } :: a.defers } W) :
    (Code.rangeFunc g ps assign body).wpIn F n P Q a w :=
  rangeAtP hro h1 hg hFg eg hseq hEn hAt hT hX₀ hps I Ix hI hIx h0 (fun x a' _ => a' = a₁ x) (fun _ _ _ _ _ _ _ _ h => h)
    (fun l _ _ x W K _ _ _ hK => hassign l x W K (hK _ _ (Kept.refl [] W) rfl))
    (fun l X pre x a' W hr hl hX hi hx hat hN hp => by subst hx; exact hbody l X pre x W hr hl hX hi hat hN hp) hdone hstop
end Go.Proofs.Ytbbfajbnklgncaa
