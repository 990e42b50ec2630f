/- words.All: the closure that grows rows. -/
import Derived.Test.YtamfnefnaelgfaaDoorWdIs
import Derived.Test.YtamfnefnaelgfaaDoorRgAtX
import Derived.Shelf.AbstractIn
import Derived.Stop.RegionWithIn
namespace Go.Proofs.YtamfnefnaelgfaaDoor
open Go.RowKit Go.Shelf

/-- All normal words that a row grows into. -/
def wdOf (stem : Nat) (row : List Nat) : Wd := ⟨row.take stem, row.drop stem⟩
def ext (below stem : Nat) : Nat → List Nat → List Wd
  | 0, row => if normB (wdOf stem row) = true then [wdOf stem row] else []
  | k + 1, row => (List.range below).flatMap fun c => ext below stem k (row ++ [c])
theorem ext_take (below stem k : Nat) (row : List Nat) (c : Nat) : (List.range (c + 1)).flatMap (fun c => ext below stem k (row ++ [c])) = (List.range c).flatMap (fun c => ext below stem k (row ++ [c])) ++ ext below stem k (row ++ [c]) := by
  rw [List.range_succ, List.flatMap_append]; simp
theorem ext_prefix (below stem k : Nat) (row : List Nat) (c : Nat) (h : c ≤ below) : (List.range c).flatMap (fun c => ext below stem k (row ++ [c])) <+: ext below stem (k + 1) row := by
  show _ <+: (List.range below).flatMap _
  obtain ⟨m, rfl⟩ : ∃ m, below = c + m := ⟨below - c, by omega⟩
  rw [List.range_add, List.flatMap_append]
  exact List.prefix_append _ _
/-- What comes: a word in new memory. -/
structure Nw where
  a1 : Option Addr
  c1 : Nat
  a2 : Option Addr
  c2 : Nat
  q : Wd
def nwV (x : Nw) : Array Value := #[.agg #[.slice x.a1 x.q.stem.length x.c1, .slice x.a2 x.q.loop.length x.c2]]
/-- What is so of it where it is handed over: its blocks are none of X. -/
structure NwAt (L : List Wd) (X : Nat → Prop) (x : Nw) (W : World) : Prop where
  new : ∃ n₀, NewW n₀ W (.slice x.a1 x.q.stem.length x.c1) (.slice x.a2 x.q.loop.length x.c2) x.q
  mem : x.q ∈ L
  off1 : ∀ g, (Value.slice x.a1 x.q.stem.length x.c1).ownBlock = some g → ¬ X g
  off2 : ∀ g, (Value.slice x.a2 x.q.loop.length x.c2).ownBlock = some g → ¬ X g
/-- Its rows lie from n on, and are short. -/
def FrNw (n : Nat) (x : Nw) : Prop := (∀ g, (Value.slice x.a1 x.q.stem.length x.c1).ownBlock = some g → n ≤ g) ∧ (∀ g, (Value.slice x.a2 x.q.loop.length x.c2).ownBlock = some g → n ≤ g) ∧ x.q.stem.length ≤ 1000 ∧ x.q.loop.length ≤ 1000
theorem owns_turn {W : World} {base : Nat} {e : TypeId} {size : Nat} {v : Value} {n l : Nat} {xs : List Value} {o o' : Obj} (h : W.ownsRow base e size v n xs) (hl : W.heap[l]? = some o) (hc : o.isCells = false) : (W.putObj l o').ownsRow base e size v n xs := by
  refine ⟨h.1, ?_⟩
  rcases h.2 with hn | ⟨g, cap, cur, rfl, hb, hgg, rest⟩
  · exact .inl hn
  · refine .inr ⟨g, cap, cur, rfl, hb, (World.putObj_heap_other (fun e => ?_)).trans hgg, rest⟩
    subst e
    rw [hgg] at hl
    cases hl
    cases hc
theorem cells_apart {W : World} {base : Nat} {e : TypeId} {v : Value} {n g l : Nat} {xs : List Value} {o : Obj} (h : W.ownsRow base e 1 v n xs) (hg : v.ownBlock = some g) (hl : W.heap[l]? = some o) (hc : o.isCells = false) : g ≠ l := by
  rintro rfl
  rcases h.2 with ⟨rfl, _⟩ | ⟨b, cap, cur, rfl, _, hb, _⟩
  · cases hg
  · have e : b = g := by simpa [Value.ownBlock] using hg
    subst e
    rw [hb] at hl
    cases hl
    cases hc
theorem nwAt_kept (L : List Wd) : AtKeptX (NwAt L) :=
  ⟨fun k h => ⟨by obtain ⟨n, hn⟩ := h.new; exact ⟨n, hn.kept k⟩, h.mem, h.off1, h.off2⟩,
   fun hl hc h => ⟨by obtain ⟨n, hn⟩ := h.new; exact ⟨n, owns_turn hn.own1 hl hc, owns_turn hn.own2 hl hc, hn.apart, hn.small1, hn.small2, hn.few1, hn.few2⟩, h.mem, h.off1, h.off2⟩,
   fun hl hc h => ⟨h.new, h.mem, fun g hg hx => by obtain ⟨n, hn⟩ := h.new; exact hx.elim (h.off1 g hg) (cells_apart hn.own1 hg hl hc), fun g hg hx => by obtain ⟨n, hn⟩ := h.new; exact hx.elim (h.off2 g hg) (cells_apart hn.own2 hg hl hc)⟩,
   fun hX h => ⟨h.new, h.mem, fun g hg hx => h.off1 g hg (hX g hx), fun g hg hx => h.off2 g hg (hX g hx)⟩⟩

/-- The closure's own: the row, how long it gets, the stem's length, yield, the letters' bound, itself. -/
structure GrowAt (l Br Bp Bs By Bb Bg base stem places below : Nat) (X : Nat → Prop) (row : List Nat) (W : World) : Prop where
  bp : Boxed W Bp 3 (.int .i64 (places : Nat))
  bs : Boxed W Bs 3 (.int .i64 (stem : Nat))
  bb : Boxed W Bb 51 (.int .u16 (below : Nat))
  yld : Boxed W By 66 (.func (.yield l) #[] #[])
  self : Boxed W Bg 22 (.func (.func 54) #[] #[.pointer (some ⟨Br, 0, none⟩), .pointer (some ⟨Bp, 0, none⟩), .pointer (some ⟨Bs, 0, none⟩), .pointer (some ⟨By, 0, none⟩), .pointer (some ⟨Bb, 0, none⟩), .pointer (some ⟨Bg, 0, none⟩)])
  row : ∃ v, Boxed W Br 45 v ∧ W.ownsRow base 51 1 v row.length (u16s row) ∧ ∀ g, v.ownBlock = some g → X g ∧ g ≠ Bb
  xp : X Bp
  xs : X Bs
  xb : X Bb
  xy : X By
  xg : X Bg
  xr : X Br
theorem GrowAt.kpx {l Br Bp Bs By Bb Bg base stem places below : Nat} {X : Nat → Prop} {row : List Nat} {W W' : World} (h : GrowAt l Br Bp Bs By Bb Bg base stem places below X row W) (k : KpX X W W') : GrowAt l Br Bp Bs By Bb Bg base stem places below X row W' := by
  obtain ⟨v, h1, h2, h3⟩ := h.row
  refine ⟨k.own _ _ h.xp h.bp, k.own _ _ h.xs h.bs, k.own _ _ h.xb h.bb, k.own _ _ h.xy h.yld, k.own _ _ h.xg h.self, ⟨v, k.own _ _ h.xr h1, ?_, h3⟩, h.xp, h.xs, h.xb, h.xy, h.xg, h.xr⟩
  rcases h2 with ⟨e, ⟨rfl, h0⟩ | ⟨g, cap, cur, rfl, q1, q2, q3⟩⟩
  · exact ⟨e, .inl ⟨rfl, h0⟩⟩
  · exact ⟨e, .inr ⟨g, cap, cur, rfl, q1, k.own _ _ (h3 g rfl).1 q2, q3⟩⟩
theorem GrowAt.more {l Br Bp Bs By Bb Bg base stem places below : Nat} {X Y : Nat → Prop} {row : List Nat} {W : World} (h : GrowAt l Br Bp Bs By Bb Bg base stem places below X row W) (hY : ∀ k, X k → Y k) : GrowAt l Br Bp Bs By Bb Bg base stem places below Y row W := by
  obtain ⟨v, h1, h2, h3⟩ := h.row
  exact ⟨h.bp, h.bs, h.bb, h.yld, h.self, ⟨v, h1, h2, fun g e => ⟨hY g (h3 g e).1, (h3 g e).2⟩⟩, hY _ h.xp, hY _ h.xs, hY _ h.xb, hY _ h.xy, hY _ h.xg, hY _ h.xr⟩
theorem GrowAt.kept {l Br Bp Bs By Bb Bg base stem places below : Nat} {X : Nat → Prop} {row : List Nat} {W W' : World} (h : GrowAt l Br Bp Bs By Bb Bg base stem places below X row W) (k : Kept [] W W') : GrowAt l Br Bp Bs By Bb Bg base stem places below X row W' := h.kpx (KpX.of_kept k)
/-- What a walk owes. -/
def GrowEnds (l Br Bp Bs By Bb Bg base stem places below : Nat) (T : Nat → Prop) (J Jx : (Nat → Prop) → List Nw → World → Prop) (k : Nat) (row : List Nat) (pre : List Nw) (X : Nat → Prop) (W : World) (e : Ending) (W' : World) : Prop :=
  (e = .returned (.bool true) ∧ ∃ X' xs, (∀ k, X k → X' k) ∧ GrowAt l Br Bp Bs By Bb Bg base stem places below X' row W' ∧ KpX T W W' ∧ J X' (pre ++ xs) W' ∧ (∀ k, X' k → k < W'.heap.size) ∧ xs.map Nw.q = ext below stem k row) ∨
  (e = .returned (.bool false) ∧ ∃ X' xs, Jx X' (pre ++ xs) W' ∧ xs.map Nw.q <+: ext below stem k row)

/-- The word that a full row is. -/
theorem grow_word {W : World} {base g cap stem : Nat} {row : List Nat} (ho : W.ownsRow base 51 1 (.slice (some ⟨g, 0, none⟩) row.length cap) row.length (u16s row)) (hs : ∀ x ∈ row, x < 65536) (hf : row.length ≤ 1000) (hst : stem ≤ row.length) :
    IsW W (.slice (some ⟨g, 0, none⟩) stem cap) (.slice (if cap = stem then some ⟨g, 0, none⟩ else some ⟨g, stem, none⟩) (row.length - stem) (cap - stem)) (wdOf stem row) := by
  have hl := lets_own ho hs (by omega)
  refine ⟨hl.take stem hst, ?_, by show (row.take stem).length + (row.drop stem).length ≤ _; rw [List.length_take, List.length_drop]; omega⟩
  have := hl.dropI stem hst
  rw [Nat.zero_add] at this
  exact this
theorem box_cells {W W' : World} {B C : Nat} {t u : TypeId} {v x : Value} (h1 : Boxed W B t v) (h2 : Boxed W C u x) (k : Kept [] W W') : W'.cell? ⟨B, 0, none⟩ = some v ∧ W'.cell? ⟨C, 0, none⟩ = some x :=
  ⟨cell_kept0 k h1.cell, cell_kept0 k h2.cell⟩
/-- The row that was copied, as the walk wants it. -/
theorem copied_at (v : Value) (xs : List Nat) (w : World) (hx : Lets w v xs) :
    Calls Tryd.prog 43 #[v] w fun e w' => ∃ ad c, e = .returned (.slice ad xs.length c) ∧ Hid (w'.ownsRow w.heap.size 51 1 (.slice ad xs.length c) xs.length (u16s xs)) ∧ Hid (Kept [] w w') := by
  refine (copied_any v xs w hx).mono ?_
  rintro e w' ⟨v', rfl, h1, h2, _⟩
  obtain ⟨ad, c, hv⟩ := own_form h1
  subst hv
  exact ⟨ad, c, rfl, h1, h2⟩
variable {l Br Bp Bs By Bb Bg base stem places below N : Nat} {T : Nat → Prop} {L : List Wd} {J Jx : (Nat → Prop) → List Nw → World → Prop}
/-- A round is done. -/
theorem grow_fin {row : List Nat} {X : Nat → Prop} {pre : List Nw} {W W5 W6 : World} {x : Nw} {b : Bool} (hA : GrowAt l Br Bp Bs By Bb Bg base stem row.length below X row W) (hX : ∀ k, X k → k < W.heap.size) (k5 : Kept [] W W5)
    (hr : (b = true ∧ J X (pre ++ [x]) W6 ∧ KpX (orT T X) W5 W6) ∨ (b = false ∧ Jx X (pre ++ [x]) W6)) (hE : ext below stem 0 row = [x.q]) :
    GrowEnds l Br Bp Bs By Bb Bg base stem row.length below T J Jx 0 row pre X W (.returned (.bool b)) W6 := by
  rcases hr with ⟨rfl, h1, h2⟩ | ⟨rfl, h1⟩
  · refine .inl ⟨rfl, X, [x], fun k h => h, (hA.kept k5).kpx (h2.mono (fun _ h => .inl h)), (KpX.of_kept k5).trans (h2.mono (fun _ h => .inr h)), h1, fun k h => ?_, by rw [hE]; rfl⟩
    have := h2.size
    have := hX k h
    have := k5.size
    omega
  · exact .inr ⟨rfl, _, [x], h1, by rw [hE]; exact List.prefix_refl _⟩
end Go.Proofs.YtamfnefnaelgfaaDoor
