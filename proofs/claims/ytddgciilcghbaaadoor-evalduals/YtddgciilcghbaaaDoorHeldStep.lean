/- A great region whose loads are taken first and whose calls wait for one another: one law a step, nothing of the frame written out. -/
import Derived.Test.YtddgciilcghbaaaDoorEvStp
import Derived.Deep.RegionHeld3
namespace Go.Proofs.YtddgciilcghbaaaDoor
open Go.RowKit Go.Shelf

/-- The operations of a region, by its number. -/
def regionAt (n : Nat) : Code → Option (Array Oper)
  | .region id ops _ => if id = n then some ops else none
  | .seq a b => match regionAt n a with
    | some c => some c
    | none => regionAt n b
  | .block _ c => regionAt n c
  | .scope c => regionAt n c
  | .loop c => regionAt n c
  | .cond _ a b => match regionAt n a with
    | some c => some c
    | none => regionAt n b
  | _ => none
section
variable {P : Program} {ops : Array Oper} {Q : Exit → Act → World → Prop} {md : Region.Mode} {S : World → Prop}
theorem wanted_free {o : Oper} {a : Act} (hg : o.guard = none) : Region.wanted o (yielded ops a.tmps) = true := by simp [Region.wanted, hg]
/-- An operation that only yields, taken first. -/
theorem held_take {i : Nat} {o : Oper} {v : Value} {fuel : Nat} {L L' : Array Bool} {a : Act} {w : World} (hi : ops[i]? = some o) (hg : o.guard = none)
    (hs : Region.noSelect ops = true) (hf : Region.free md ops L i = true) (hr : (Region.ready md ops L).contains i = true) (hl : L.setIfInBounds i true = L') (hy : ∀ w, S w → (execOp a.eval o).run P w = .ok (.value v) w) (hS : S w)
    (h : wpAnyH P md ops (NoPanic Q) S fuel L' (a.put o.dst v) w) : wpAnyH P md ops (NoPanic Q) S (fuel + 1) L a w :=
  wpAnyH_take hi hs hf hr (fun _ _ _ h => h) (.inl ⟨wanted_free hg, hy⟩) hS (by rw [hl]; exact h)
/-- The only one that may come up, a call. -/
theorem held_call {i g : Nat} {o : Oper} {vs : Array Value} {fuel : Nat} {L L' : Array Bool} {a : Act} {w : World} (hi : ops[i]? = some o) (hg : o.guard = none)
    (hr : Region.ready md ops L = [i]) (hl : L.setIfInBounds i true = L') (hx : (execOp a.eval o).run P w = .ok (.enter g vs) w)
    (h : Calls P g vs w fun e w' => ∃ v, e = .returned v ∧ S w' ∧ wpAnyH P md ops (NoPanic Q) S fuel L' (a.put o.dst v) w') : wpAnyH P md ops (NoPanic Q) S (fuel + 1) L a w := by
  refine wpAnyH_all hr (by simp) (fun j hj => ?_)
  obtain rfl := List.mem_singleton.1 hj
  unfold wpOp
  simp only [hi]
  rw [if_pos (wanted_free hg)]
  refine .inl ?_
  unfold Oper.wp
  rw [hx]
  simp only [Oper.upon]
  refine h.mono fun e w' ⟨v, he, hs⟩ => ?_
  subst he
  rw [hl]
  exact hs
/-- The only one that may come up, which yields in another world. -/
theorem held_make {i : Nat} {o : Oper} {v : Value} {fuel : Nat} {L L' : Array Bool} {a : Act} {w w' : World} (hi : ops[i]? = some o) (hg : o.guard = none)
    (hr : Region.ready md ops L = [i]) (hl : L.setIfInBounds i true = L') (hx : (execOp a.eval o).run P w = .ok (.value v) w') (hS : S w')
    (h : wpAnyH P md ops (NoPanic Q) S fuel L' (a.put o.dst v) w') : wpAnyH P md ops (NoPanic Q) S (fuel + 1) L a w := by
  refine wpAnyH_all hr (by simp) (fun j hj => ?_)
  obtain rfl := List.mem_singleton.1 hj
  unfold wpOp
  simp only [hi]
  rw [if_pos (wanted_free hg)]
  refine .inl ?_
  unfold Oper.wp
  rw [hx]
  simp only [Oper.upon]
  rw [hl]
  exact ⟨hS, h⟩
end
/-- What slots hold. -/
def Evs (a : Act) (l : List (Nat × Value)) : Prop := ∀ p ∈ l, a.eval (.tmp p.1) = p.2
theorem Evs.get {a : Act} {l : List (Nat × Value)} (h : Evs a l) (n : Nat) {s : Nat} {v : Value} (e : l[n]? = some (s, v)) : a.eval (.tmp s) = v := h (s, v) (List.mem_of_getElem? e)
theorem eval_put_ne {a : Act} {d i : Nat} (v : Value) (h : d ≠ i) : (a.put (some d) v).eval (.tmp i) = a.eval (.tmp i) := by
  simp [Act.put, Act.eval, Array.getD_eq_getD_getElem?, h]
theorem eval_put_eq {a : Act} {d : Nat} (v : Value) (h : d < a.tmps.size) : (a.put (some d) v).eval (.tmp d) = v := by
  simp [Act.put, Act.eval, Array.getD_eq_getD_getElem?, h]
theorem put_size (a : Act) (d : Option Nat) (v : Value) : (a.put d v).tmps.size = a.tmps.size := by
  unfold Act.put; split <;> simp
theorem Evs.put {a : Act} {l : List (Nat × Value)} {d : Nat} (v : Value) (h : Evs a l) (hd : (l.map (·.1)).contains d = false) (hz : d < a.tmps.size) : Evs (a.put (some d) v) ((d, v) :: l) := by
  intro p hp
  rcases List.mem_cons.1 hp with rfl | hp
  · exact eval_put_eq v hz
  · rw [eval_put_ne v (fun e => by
      have : d ∈ l.map (·.1) := List.mem_map.2 ⟨p, hp, e.symm⟩
      rw [List.contains_eq_mem] at hd
      exact absurd this (by simpa using hd))]
    exact h p hp
theorem exec_load {ρ : Operand → Value} {o : Oper} {t : TypeId} {x : Operand} {v : Value} {P : Program} {w : World} (hop : o.op = Op.load t x) (h : (Instr.loadAt t (ρ x)).run P w = .ok v w) : (execOp ρ o).run P w = .ok (.value v) w := by
  simp [execOp, hop, h]
theorem exec_assign {ρ : Operand → Value} {o : Oper} {x : Operand} {P : Program} {w : World} (hop : o.op = Op.assign x) : (execOp ρ o).run P w = .ok (.value (ρ x)) w := by
  simp [execOp, hop]
theorem exec_buildSlice {ρ : Operand → Value} {o : Oper} {t : TypeId} {n : Nat} {xs : Array (Nat × Operand)} {v : Value} {P : Program} {w w' : World} (hop : o.op = Op.buildSlice t n xs) (h : (Instr.buildSlice t n (xs.map fun (i, x) => (i, ρ x))).run P w = .ok v w') : (execOp ρ o).run P w = .ok (.value v) w' := by
  simp [execOp, hop, h]
theorem exec_call2 {a : Act} {o : Oper} {x y : Operand} {ts : Array TypeId} {w : World} (hop : o.op = Op.call { callee := .value (.func 9), args := #[x, y], argTypes := ts }) : (execOp a.eval o).run Tryd.prog w = .ok (.enter 9 #[a.eval x, a.eval y]) w := by
  unfold execOp
  rw [hop]
  go_simp
theorem exec_call3 {a : Act} {o : Oper} {x y z : Operand} {ts : Array TypeId} {w : World} (hop : o.op = Op.call { callee := .value (.func 10), args := #[x, y, z], argTypes := ts }) : (execOp a.eval o).run Tryd.prog w = .ok (.enter 10 #[a.eval x, a.eval y, a.eval z]) w := by
  unfold execOp
  rw [hop]
  go_simp
theorem load_for {w : World} {B : Nat} {x y z : Value} (h : For3 w B x y z) : (Instr.loadAt 25 (.pointer (some ⟨B, 0, none⟩))).run Tryd.prog w = .ok (.agg #[x, y, z]) w := by
  obtain ⟨c0, c1, c2, _⟩ := h.cells
  go_simp
end Go.Proofs.YtddgciilcghbaaaDoor
