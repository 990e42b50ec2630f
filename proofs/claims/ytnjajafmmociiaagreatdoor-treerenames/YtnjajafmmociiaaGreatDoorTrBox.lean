/- Loops over what stands in a tree, where the part is a variable in a block of its own. -/
import Derived.Test.YtnjajafmmociiaaGreatDoorTrForm
namespace Go.Proofs.YtnjajafmmociiaaGreatDoor
open Go.RowKit Go.Shelf
attribute [local go_sem] Oper.semAt_some

def partC (x : Part) : Array Value := #[.int .u8 (x.t.op : Nat), .string x.t.name, .slice x.kad x.t.kids.length x.kcap]
variable {F : Fence} {n : Nat} {P : Program}
theorem rangePart {g : Operand} {ps : Array Tmp} {assign body : Code} {Q : Exit → Act → World → Prop} {a : Act} {w : World}
    (hro : F.round = none) (h1 : 1 ≤ n) {gf : Nat} {lb : Array Value} (hg : a.eval g = .func (.func gf) #[] lb) (hFg : F.fn gf) (eg : ∀ args w, (callFunc gf args).run P w = .ok (.enter gf args) w)
    {encs : Part → Array Value} {At : Part → World → Prop} {T X₀ : Nat → Prop} {S Sp : List Part → Prop} {N : Nat} (hseq : GoesAt F (n - 1) P gf lb encs At T X₀ S Sp N w) (hAt : AtKept At) (hT : ∀ k, T k → k < w.heap.size) (hX₀ : ∀ k, X₀ k → k < w.heap.size) (hps : ∀ x, (encs x).size = ps.size)
    (I : (Nat → Prop) → List Part → World → Prop) (Ix : Code → (Nat → Prop) → List Part → World → Prop) (hI : Abide I) (hIx : ∀ c, Abide (Ix c)) (h0 : I X₀ [] w) (a₁ : Part → Nat → Act)
    (hassign : ∀ (l : Nat) (x : Part) (W : World) (Bx : Nat) (K : Act → World → Prop), W.heap.size = Bx → K (a₁ x Bx) (W.alloc (.cells (partC x) 25)) →
      assign.wpIn (F.inRound l) (n - 1 - 1) P (Exit.then K (fun _ _ _ => False)) { tmps := (ps.zip (encs x)).foldl (fun t (p, v) => t.setIfInBounds p v) a.tmps, defers := [] } W)
    (hbody : ∀ (l : Nat) (X : Nat → Prop) (pre : List Part) (x : Part) (Bx : Nat) (W : World), (∃ r, W.heap[l]? = some (.loop r)) → X l → (∀ k, X k → k < W.heap.size) → I X pre W → w.heap.size ≤ Bx → W.heap[Bx]? = some (.cells (partC x) 25 (0, 0)) → At x W → pre.length < N →
      body.wpIn (F.inRound l) (n - 1 - 1) P (bodyOwesT T X I Ix (pre ++ [x]) W) (a₁ x Bx) W)
    (hdone : ∀ (D : Nat) (X : Nat → Prop) (xs : List Part) (W : World), w.heap.size ≤ D → X D → S xs → I X xs W → W.heap[D]? = some (.deferred (some [])) → Q .normal { a with defers := { target := .collected D, args := #[] } :: a.defers } W)
    (hstop : ∀ (D : Nat) (X : Nat → Prop) (c : Code) (pre : List Part) (W : World), w.heap.size ≤ D → X D → Sp pre → Ix c X pre W → W.heap[D]? = some (.deferred (some [])) → c.wpIn F n P Q { a with defers := { target := .collected D, args := #[] } :: a.defers } W) :
    (Code.rangeFunc g ps assign body).wpIn F n P Q a w :=
  rangeAt hro h1 hg hFg eg hseq hAt hT hX₀ hps I Ix hI hIx h0 (fun x a' W => ∃ Bx, w.heap.size ≤ Bx ∧ W.heap[Bx]? = some (.cells (partC x) 25 (0, 0)) ∧ a' = a₁ x Bx)
    (fun x a' W l o o' hl hc ⟨Bx, q1, q2, q3⟩ => ⟨Bx, q1, (World.putObj_heap_other (fun e => by subst e; rw [q2] at hl; cases hl; cases hc)).trans q2, q3⟩)
    (fun l X pre x W K hi _ hw hK => hassign l x W _ K rfl (hK _ _ ((Kept.refl [] W).alloc _) ⟨W.heap.size, hw, heap_alloc_new W _, rfl⟩))
    (fun l X pre x a' W hr hl hX hi hx hat hN => by obtain ⟨Bx, q1, q2, q3⟩ := hx; subst q3; exact hbody l X pre x Bx W hr hl hX hi q1 q2 hat hN) hdone hstop

/-- A return behind one loop, the answer in its box. -/
theorem leave1 {fn : Func} {p : Tmp} {ty : TypeId} {W : World} {B D : Nat} {v : Value} {R : Ending → World → Prop} {tmps : Array Value} (hres : fn.results = #[.cell p ty]) (hp : tmps[p]?.getD undef = .pointer (some ⟨B, 0, none⟩)) (hb : Boxed W B ty v) (h1 : ∀ w, (isAgg ty).run P w = .ok false w) (hK : W.heap[D]? = some (.deferred (some []))) (hR : R (.returned v) (W.putObj D (.deferred none))) :
    bodyPostM Fence.wide n P fn R .ret { tmps := tmps, defers := [{ target := .collected D, args := #[] }] } W := by
  have c2 := (box_shut (o := .deferred none) hb hK).cell
  refine ⟨by simp, .inl ⟨_, _, rfl, run_takeDeferred hK, ⟨v, ?_, hR⟩⟩⟩
  simp [results, hres, go_sem, hp, c2, h1]
end Go.Proofs.YtnjajafmmociiaaGreatDoor
