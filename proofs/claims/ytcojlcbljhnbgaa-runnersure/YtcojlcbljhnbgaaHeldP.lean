/- Regions that draw, in a plain body: what only reads is taken first. -/
import Derived.Test.YtcojlcbljhnbgaaKeeps
import Derived.OrdersHeld
namespace Go.Proofs.Ytcojlcbljhnbgaa
open Go.RowKit

/-- The post that knows the plain end alone. -/
def Q1Hp (J : Act → World → Prop) : Exit → Act → World → Prop
  | .normal, a, w => J a w
  | _, _, _ => False
theorem wp_regionHp {P : Program} {ops : Array Oper} {id : Nat} {a : Act} {w : World} {Q : Exit → Act → World → Prop} (S : World → Prop) (hm : P.follows .mixedOrders = true)
    (h : wpAnyH P .any ops (Q1Hp (Q .normal)) S ops.size (Array.replicate ops.size false) a w.drew) : (Code.region id ops true).wp P Q a w :=
  Code.wp_mono (fun e a' w' q => by cases e <;> first | exact q | exact q.elim) (wp_region_held hm h)
section
variable {P : Program} {ops : Array Oper} {md : Region.Mode} {J : Act → World → Prop} {S : World → Prop}
theorem wantedDHp {o : Oper} {a : Act} (hg : o.guard = none) : Region.wanted o (yielded ops a.tmps) = true := by simp [Region.wanted, hg]
theorem heldTakeHp (i : Nat) (d : Option Tmp) (v : Value) {o : Oper} {fuel : Nat} {L : Array Bool} {a : Act} {w : World} (hi : ops[i]? = some o) (hg : o.guard = none) (hdd : o.dst = d)
    (hs : Region.noSelect ops = true) (hf : Region.free md ops L i = true) (hr : (Region.ready md ops L).contains i = true) (hy : ∀ w, S w → (execOp a.eval o).run P w = .ok (.value v) w) (hS : S w)
    (h : wpAnyH P md ops (Q1Hp J) S fuel (L.setIfInBounds i true) (a.put d v) w) : wpAnyH P md ops (Q1Hp J) S (fuel + 1) L a w :=
  wpAnyH_take hi hs hf hr (fun _ _ _ h => h) (.inl ⟨wantedDHp hg, hy⟩) hS (by rw [hdd]; exact h)
theorem heldOneHp (i : Nat) {fuel : Nat} {L : Array Bool} {a : Act} {w : World} (hr : Region.ready md ops L = [i]) (h : wpOp P ops (Q1Hp J) i (fun a' w' => S w' ∧ wpAnyH P md ops (Q1Hp J) S fuel (L.setIfInBounds i true) a' w') a w) : wpAnyH P md ops (Q1Hp J) S (fuel + 1) L a w :=
  wpAnyH_all hr (by simp) (fun k hk => by rw [List.mem_singleton.1 hk]; exact h)
theorem heldTwoHp (i j : Nat) {fuel : Nat} {L : Array Bool} {a : Act} {w : World} (hr : Region.ready md ops L = [i, j]) (h1 : wpOp P ops (Q1Hp J) i (fun a' w' => S w' ∧ wpAnyH P md ops (Q1Hp J) S fuel (L.setIfInBounds i true) a' w') a w)
    (h2 : wpOp P ops (Q1Hp J) j (fun a' w' => S w' ∧ wpAnyH P md ops (Q1Hp J) S fuel (L.setIfInBounds j true) a' w') a w) : wpAnyH P md ops (Q1Hp J) S (fuel + 1) L a w :=
  wpAnyH_all hr (by simp) (fun k hk => by
    rcases List.mem_cons.1 hk with e | hk
    · rw [e]; exact h1
    · rw [List.mem_singleton.1 hk]; exact h2)
theorem opValueHp (d : Option Tmp) (v : Value) (w' : World) {i : Nat} {o : Oper} {K : Act → World → Prop} {a : Act} {w : World} (hi : ops[i]? = some o) (hg : o.guard = none) (hdd : o.dst = d) (hx : (execOp a.eval o).run P w = .ok (.value v) w') (h : K (a.put d v) w') : wpOp P ops (Q1Hp J) i K a w := by
  unfold wpOp
  simp only [hi]
  rw [if_pos (wantedDHp hg)]
  refine .inl ?_
  unfold Oper.wp
  rw [hx]
  subst hdd
  exact h
theorem opSkipHp (w' : World) {i : Nat} {o : Oper} {K : Act → World → Prop} {a : Act} {w : World} (hi : ops[i]? = some o) (hg : o.guard = none) (hdd : o.dst = none) (hx : (execOp a.eval o).run P w = .ok .skip w') (h : K a w') : wpOp P ops (Q1Hp J) i K a w := by
  unfold wpOp
  simp only [hi]
  rw [if_pos (wantedDHp hg)]
  refine .inl ?_
  unfold Oper.wp
  rw [hx]
  show K (a.put o.dst undef) w'
  rw [hdd]
  exact h
theorem opCallHp (d : Option Tmp) (g : Nat) (vs : Array Value) {i : Nat} {o : Oper} {K : Act → World → Prop} {a : Act} {w : World} (hi : ops[i]? = some o) (hg : o.guard = none) (hdd : o.dst = d) (hx : (execOp a.eval o).run P w = .ok (.enter g vs) w)
    (h : Calls P g vs w fun e w' => ∃ v, e = .returned v ∧ K (a.put d v) w') : wpOp P ops (Q1Hp J) i K a w := by
  unfold wpOp
  simp only [hi]
  rw [if_pos (wantedDHp hg)]
  refine .inl ?_
  unfold Oper.wp
  rw [hx]
  simp only [Oper.upon]
  refine h.mono fun e w' ⟨v, he, hk⟩ => ?_
  subst he
  subst hdd
  exact hk
end
end Go.Proofs.Ytcojlcbljhnbgaa
