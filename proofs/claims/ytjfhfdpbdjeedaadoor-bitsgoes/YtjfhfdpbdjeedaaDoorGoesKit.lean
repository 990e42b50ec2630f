/- BitsGoes: what its loops lean on. -/
import Derived.Test.YtjfhfdpbdjeedaaDoorGoesBase
namespace Go.Proofs.YtjfhfdpbdjeedaaDoor
open Go.RowKit Go.Shelf

/-- A row of numbers in one block from lo on and below n1. -/
def WantRow (lo n1 : Nat) (W : World) (ad : Option Addr) (want : List Nat) : Prop :=
  ∀ k (h : k < want.length), ∃ lb, ad = some ⟨lb, 0, none⟩ ∧ lo ≤ lb ∧ lb < n1 ∧ W.cell? ⟨lb, k, none⟩ = some (.int .i64 (want[k] : Nat))
theorem WantRow.below {lo n1 : Nat} {W W' : World} {ad : Option Addr} {want : List Nat} (h : WantRow lo n1 W ad want) (k : Below n1 W W') : WantRow lo n1 W' ad want := by
  intro i hi
  obtain ⟨lb, h1, h0, h2, h3⟩ := h i hi
  exact ⟨lb, h1, h0, h2, (k.cell (p := ⟨lb, i, none⟩) h2).trans h3⟩
theorem WantRow.kept {lo : Nat} {F : List Nat} {W W' : World} {ad : Option Addr} {want : List Nat} (h : WantRow lo W.heap.size W ad want) (k : Kept F W W') (hF : ∀ x, x ∈ F → x < lo) : WantRow lo W'.heap.size W' ad want := by
  intro i hi
  obtain ⟨lb, h1, h0, h2, h3⟩ := h i hi
  refine ⟨lb, h1, h0, Nat.lt_of_lt_of_le h2 k.size, (World.cell?_of_block (w := W) (a := ⟨lb, i, none⟩) (k.block lb h2 (fun hm => ?_))).trans h3⟩
  have := hF _ hm; omega
theorem own_sl {W : World} {base : Nat} {v : Value} {want : List Nat} (h : W.ownsRow base 3 1 v want.length (want.map fun x => .int .i64 (x : Nat))) :
    ∃ ad cap, v = .slice ad want.length cap ∧ WantRow base W.heap.size W ad want := by
  rcases h.2 with ⟨rfl, h0⟩ | ⟨g, cap, cur, rfl, hb, hg, hn, hm, hs, ht⟩
  · refine ⟨none, 0, by rw [h0], fun k hk => by omega⟩
  · refine ⟨_, _, rfl, fun k hk => ⟨g, rfl, hb, lt_of hg, ?_⟩⟩
    rw [h.cellAt k (by omega)]
    simp [hk]

theorem WantRow.low {lo n1 : Nat} {W : World} {ad : Option Addr} {want : List Nat} (h : WantRow lo n1 W ad want) : WantRow 0 n1 W ad want := fun i hi => by
  obtain ⟨lb, h1, _, h2, h3⟩ := h i hi
  exact ⟨lb, h1, Nat.zero_le _, h2, h3⟩
/-- What lies ready when the loops begin. -/
structure Ready (n1 B6 B9 B10 Bn b g c n : Nat) (ws : List Nat) (want : List Nat) (ad : Option Addr) (cap : Nat) (W : World) : Prop where
  b6 : Boxed W B6 4 (.bool false)
  b9 : Boxed W B9 23 (.slice ad want.length cap)
  b10 : Boxed W B10 55 (.func (.func 60) #[] #[.pointer (some ⟨Bn, 0, none⟩)])
  row : WantRow 0 n1 W ad want
  all : AllAt n1 Bn b g c n ws W
  l6 : B6 < n1
  l9 : B9 < n1
  l10 : B10 < n1
theorem Ready.below {n1 B6 B9 B10 Bn b g c n : Nat} {ws want : List Nat} {ad : Option Addr} {cap : Nat} {W W' : World} (h : Ready n1 B6 B9 B10 Bn b g c n ws want ad cap W) (k : Below n1 W W') : Ready n1 B6 B9 B10 Bn b g c n ws want ad cap W' :=
  ⟨(k.block B6 h.l6).trans h.b6, (k.block B9 h.l9).trans h.b9, (k.block B10 h.l10).trans h.b10, h.row.below k, h.all.below k, h.l6, h.l9, h.l10⟩
theorem AllAt.mono {n₀ n₁ Bn b g c n : Nat} {ws : List Nat} {W : World} (h : AllAt n₀ Bn b g c n ws W) (hn : n₀ ≤ n₁) : AllAt n₁ Bn b g c n ws W :=
  ⟨h.box, h.set, h.tab, Nat.lt_of_lt_of_le h.lB hn, Nat.lt_of_lt_of_le h.lb hn, Nat.lt_of_lt_of_le h.lg hn, Nat.lt_of_lt_of_le h.l0 hn⟩

theorem _root_.Go.Boxed.kept' {W W' : World} {B : Nat} {t : TypeId} {v : Value} (h : Boxed W B t v) (k : Kept [] W W') : Boxed W' B t v := (k.block B h.lt (by simp)).trans h
theorem _root_.Go.Boxed.keptF {F : List Nat} {W W' : World} {B : Nat} {t : TypeId} {v : Value} (h : Boxed W B t v) (k : Kept F W W') (hB : B ∉ F) : Boxed W' B t v := (k.block B h.lt hB).trans h
theorem keepsFrom_of_below {B : Nat} {W W' : World} (h : Below W.heap.size W W') : KeepsFrom B W W' :=
  ⟨h.size, fun k _ _ hk _ => (h.block k (Array.getElem?_eq_some_iff.1 hk).1).trans hk⟩

theorem pre_more {pre want : List Nat} {x : Nat} (h : pre <+: want) (hl : pre.length < want.length) (hx : x = want[pre.length]) : pre ++ [x] <+: want := by
  obtain ⟨t, rfl⟩ := h
  cases t with
  | nil => simp at hl
  | cons y t => simp at hx; subst hx; exact ⟨t, by simp⟩
theorem pre_not {pre want : List Nat} {x : Nat} (hl : pre.length < want.length) (hx : ¬ x = want[pre.length]) : ¬ pre ++ [x] <+: want := by
  rintro ⟨t, rfl⟩
  apply hx
  simp

theorem _root_.Go.OwnFrom.or {β : Type} {B : Nat} {I I' : β → World → Prop} (h : OwnFrom B I) (h' : OwnFrom B I') : OwnFrom B (fun s W => I s W ∨ I' s W) := fun s W W' row hs hg hr => hs.elim (fun x => Or.inl (h s W W' row x hg hr)) (fun x => Or.inr (h' s W W' row x hg hr))

variable {F : Fence} {n : Nat} {P : Program}
/-- The sixth law, where the round's first code writes no cell. -/
theorem rangeFunc_H {α : Type} {g : Operand} {ps : Array Tmp} {assign body : Code} {Q : Exit → Act → World → Prop} {a : Act} {w : World}
    (hro : F.round = none) (h1 : 1 ≤ n) {gf : Nat} {lb : Array Value} (hg : a.eval g = .func (.func gf) #[] lb) (hFg : F.fn gf) (eg : ∀ args w, (callFunc gf args).run P w = .ok (.enter gf args) w)
    {encs : α → Array Value} {n₀ : Nat} {S Sp : List α → Prop} {N : Nat} {w0 : World} (hseq : SeqStopsK F (n - 1) P gf lb encs (Below n₀) S Sp N w0)
    (hKn : n₀ ≤ w.heap.size) (hb0 : Below w0.heap.size w0 w) (hps : ∀ x, (encs x).size = ps.size)
    (I : List α → World → Prop) (Ix : Code → List α → World → Prop) (hI : OwnFrom w.heap.size I) (hIx : ∀ c, OwnFrom w.heap.size (Ix c)) (h0 : I [] w) (a₁ : α → Act)
    (hassign : ∀ (l : Nat) (x : α) (W : World) (K : Act → World → Prop), K (a₁ x) W →
      assign.wpIn (F.inRound l) (n - 1 - 1) P (Exit.then K (fun _ _ _ => False)) { tmps := (ps.zip (encs x)).foldl (fun t (p, v) => t.setIfInBounds p v) a.tmps, defers := [] } W)
    (hbody : ∀ (l : Nat) (pre : List α) (x : α) (W : World), w.heap.size ≤ l → (∃ r, W.heap[l]? = some (.loop r)) → I pre W → pre.length < N → body.wpIn (F.inRound l) (n - 1 - 1) P (ownPostG w.heap.size (Below n₀) I Ix (pre ++ [x]) W) (a₁ x) W)
    (hdone : ∀ (D : Nat) (xs : List α) (W : World), w.heap.size ≤ D → S xs → I xs W → W.heap[D]? = some (.deferred (some [])) → Q .normal { a with defers := { target := .collected D, args := #[] } :: a.defers } W)
    (hstop : ∀ (D : Nat) (c : Code) (pre : List α) (W : World), w.heap.size ≤ D → Sp pre → Ix c pre W → W.heap[D]? = some (.deferred (some [])) → c.wpIn F n P Q { a with defers := { target := .collected D, args := #[] } :: a.defers } W) :
    (Code.rangeFunc g ps assign body).wpIn F n P Q a w :=
  wpIn_rangeFunc_ownH hro h1 hg hFg eg hseq belowK_t (belowK_b hKn) hb0 hps I Ix hI hIx h0 (fun x a' _ => a' = a₁ x) (fun _ _ _ _ _ _ hs _ _ => hs)
    (fun l _ x W K hi hK => hassign l x W K (hK _ _ (KeepsFrom.refl _ _) (Below.refl _ _) hi rfl)) (fun l pre x a' W hl hr hi ha hN => by subst ha; exact hbody l pre x W hl hr hi hN) hdone hstop
/-- The seventh law, likewise. -/
theorem rangeFunc_N {α : Type} {g : Operand} {ps : Array Tmp} {assign body : Code} {Q : Exit → Act → World → Prop} {a : Act} {w : World} {l₀ : Nat} {r₀ : Loop}
    (hro : F.round = some l₀) (hr₀ : w.heap[l₀]? = some (.loop r₀)) (h1 : 1 ≤ n) {gf : Nat} {lb : Array Value} (hg : a.eval g = .func (.func gf) #[] lb) (hFg : F.fn gf) (eg : ∀ args w, (callFunc gf args).run P w = .ok (.enter gf args) w)
    {encs : α → Array Value} {n₀ : Nat} {S Sp : List α → Prop} {N : Nat} {w0 : World} (hseq : SeqStopsK F (n - 1) P gf lb encs (Below n₀) S Sp N w0)
    (hKn : n₀ ≤ w.heap.size) (hb0 : Below w0.heap.size w0 w) (hps : ∀ x, (encs x).size = ps.size)
    (I : List α → World → Prop) (Ix : Code → List α → World → Prop) (hI : OwnFrom w.heap.size I) (hIx : ∀ c, OwnFrom w.heap.size (Ix c)) (h0 : I [] w) (a₁ : α → Act)
    (hassign : ∀ (l : Nat) (x : α) (W : World) (K : Act → World → Prop), K (a₁ x) W →
      assign.wpIn (F.inRound l) (n - 1 - 1) P (Exit.then K (fun _ _ _ => False)) { tmps := (ps.zip (encs x)).foldl (fun t (p, v) => t.setIfInBounds p v) a.tmps, defers := [] } W)
    (hbody : ∀ (l : Nat) (pre : List α) (x : α) (W : World), I pre W → pre.length < N → body.wpIn (F.inRound l) (n - 1 - 1) P (ownPostG w.heap.size (Below n₀) I Ix (pre ++ [x]) W) (a₁ x) W)
    (hdone : ∀ (xs : List α) (W : World), S xs → I xs W → Q .normal a W)
    (hstop : ∀ (c : Code) (pre : List α) (W : World), Sp pre → Ix c pre W → c.wpIn F n P Q a W) :
    (Code.rangeFunc g ps assign body).wpIn F n P Q a w :=
  wpIn_rangeFunc_ownN (l₀ := l₀) (r₀ := r₀) hro hr₀ h1 hg hFg eg hseq belowK_t (belowK_b hKn) hb0 hps I Ix hI hIx h0 (fun x a' _ => a' = a₁ x) (fun _ _ _ _ _ _ hs _ _ => hs)
    (fun l _ x W K hi hK => hassign l x W K (hK _ _ (KeepsFrom.refl _ _) (Below.refl _ _) hi rfl)) (fun l pre x a' W _ _ hi ha hN => by subst ha; exact hbody l pre x W hi hN) hdone hstop

/-- A return behind three loops: the three blocks for deferred calls are taken in; the answer stands in its box. -/
theorem leaves3 {fn : Func} {t : Array Value} {w W : World} {B D1 D2 D3 : Nat} (b6 : Boxed W B 4 (.bool false)) (K1 : W.heap[D1]? = some (.deferred (some []))) (K2 : W.heap[D2]? = some (.deferred (some []))) (K3 : W.heap[D3]? = some (.deferred (some [])))
    (h12 : D1 < D2) (h23 : D2 < D3) (hB1 : B < D1) (hw : w.heap.size ≤ B) (hb : Below w.heap.size w W)
    (hres : ∀ W' : World, W'.cell? ⟨B, 0, none⟩ = some (.bool true) → (results fn t).run P W' = .ok (.bool true) W') :
    bodyPostM F n P fn (fun e w' => e = .returned (.bool true) ∧ Below w.heap.size w w') .ret { tmps := t, defers := [{ target := .collected D3, args := #[] }, { target := .collected D2, args := #[] }, { target := .collected D1, args := #[] }] } (W.setCell ⟨B, 0, none⟩ (.bool true)) := by
  have k := KeepsOthers.setCell W ⟨B, 0, none⟩ (.bool true)
  have L3 := k.same D3 _ K3 rfl
  have L2 : ((W.setCell ⟨B, 0, none⟩ (.bool true)).putObj D3 (.deferred none)).heap[D2]? = some (.deferred (some [])) := (World.putObj_heap_other (by omega)).trans (k.same D2 _ K2 rfl)
  have L1 : (((W.setCell ⟨B, 0, none⟩ (.bool true)).putObj D3 (.deferred none)).putObj D2 (.deferred none)).heap[D1]? = some (.deferred (some [])) := (World.putObj_heap_other (by omega)).trans ((World.putObj_heap_other (by omega)).trans (k.same D1 _ K1 rfl))
  refine ⟨by simp, .inl ⟨_, _, rfl, run_takeDeferred L3, by simp, .inl ⟨_, _, rfl, run_takeDeferred L2, by simp, .inl ⟨_, _, rfl, run_takeDeferred L1, ?_⟩⟩⟩⟩
  refine ⟨.bool true, hres _ ?_, rfl, ?_⟩
  · exact Boxed.cell (t := 4) ((World.putObj_heap_other (by omega)).trans ((World.putObj_heap_other (by omega)).trans ((World.putObj_heap_other (by omega)).trans (b6.set (.bool true)))))
  · have h0 := hb.setCell (p := ⟨B, 0, none⟩) hw (.bool true)
    exact ((h0.trans (belowK_b (w := w) (Nat.le_refl _) _ D3 _ _ (by omega) L3 rfl rfl)).trans (belowK_b (w := w) (Nat.le_refl _) _ D2 _ _ (by omega) L2 rfl rfl)).trans (belowK_b (w := w) (Nat.le_refl _) _ D1 _ _ (by omega) L1 rfl rfl)
end Go.Proofs.YtjfhfdpbdjeedaaDoor
