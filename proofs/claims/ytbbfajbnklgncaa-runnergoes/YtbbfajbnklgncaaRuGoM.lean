/- What the ranges of the law RunnerGoes carry. -/
import Derived.Test.YtbbfajbnklgncaaRuItC
import Derived.Test.YtbbfajbnklgncaaRuDoW
namespace Go.Proofs.Ytbbfajbnklgncaa
open Go.RowKit Go.Shelf Go.Maps

/-- A range's rounds: what is fixed (Z) is as it was at U; the count (nb) is that of the verdicts. -/
structure GoI (w U : World) (Z : Nat → Prop) (nb lim : Nat) (Y : Nat → Prop) (pre : List Nat) (W : World) : Prop where
  k : KpX Z U W
  n : Boxed W nb 3 (.int .i64 (pre.length : Nat))
  few : pre.length ≤ lim
  nY : ¬ Y nb ∧ (∀ q, Z q → ¬ Y q) ∧ ∀ q, Y q → w.heap.size ≤ q
  kept : Kept [] w W
theorem kept_grown {w W W' : World} {row : Option Nat} (h : Kept [] w W) (hg : W.grownBy W' row) (hr : ∀ r, row = some r → w.heap.size ≤ r) : Kept [] w W' :=
  h.grown hg (fun r e => .inr (hr r e))
theorem goI_abide {w U : World} {Z : Nat → Prop} {nb lim : Nat} (hZ : ∀ q, Z q → q < U.heap.size) : Abide (GoI w U Z nb lim) := by
  refine ⟨?_, ?_⟩
  · rintro Y Y' pre W ⟨k, n, f, ⟨n1, n2, n3⟩, kp⟩ hY'
    have hs := k.size
    exact ⟨k, n, f, ⟨fun h => (hY' _ h).elim n1 (by have := n.lt; omega), fun q hq h => (hY' q h).elim (n2 q hq) (by have := hZ q hq; omega), fun q h => (hY' q h).elim (n3 q) (fun h => by have := kp.size; omega)⟩, kp⟩
  · rintro Y pre W W' row ⟨k, n, f, ⟨n1, n2, n3⟩, kp⟩ hg hr
    exact ⟨k.trans (KpX.grown hg (fun r e hz => n2 r hz (hr r e))), n.kept hg (fun e => n1 (hr _ e.symm)), f, ⟨n1, n2, n3⟩, kept_grown kp hg (fun r e => n3 r (hr r e))⟩
/-- One verdict more was counted. -/
theorem GoI.next {w U : World} {Z : Nat → Prop} {nb lim i : Nat} {Y : Nat → Prop} {pre : List Nat} {W : World} (h : GoI w U Z nb lim Y pre W) (hi : pre.length = i) (hl : i < lim) (hZn : ¬ Z nb) (hwn : w.heap.size ≤ nb) (x : Nat) : GoI w U Z nb lim Y (pre ++ [x]) (W.setCell ⟨nb, 0, none⟩ (.int .i64 ((i + 1 : Nat) : Int))) := by
  have hl2 : (pre ++ [x]).length = i + 1 := by rw [List.length_append, List.length_singleton, hi]
  refine ⟨h.k.trans (KpX.setCell hZn _), ?_, by omega, h.nY, h.kept.setCell (.inr hwn) _⟩
  rw [hl2]
  exact h.n.set _
/-- How the last range is left by break: so many were counted. -/
structure GoX (w U : World) (Z : Nat → Prop) (nb lim early bid : Nat) (c : Code) (Y : Nat → Prop) (pre : List Nat) (W : World) : Prop where
  c : c = .exit bid
  i : GoI w U Z nb lim Y pre W
  e : pre.length = early
theorem goX_abide {w U : World} {Z : Nat → Prop} {nb lim early bid : Nat} (hZ : ∀ q, Z q → q < U.heap.size) (c : Code) : Abide (GoX w U Z nb lim early bid c) :=
  ⟨fun h hY => ⟨h.c, (goI_abide hZ).more h.i hY, h.e⟩, fun h hg hr => ⟨h.c, (goI_abide hZ).turn h.i hg hr, h.e⟩⟩
def noX (_ : Code) (_ : Nat → Prop) (_ : List Nat) (_ : World) : Prop := False
theorem noX_abide (c : Code) : Abide (noX c) := ⟨fun h _ => h.elim, fun h _ _ => h.elim⟩
/-- The verdicts behind the first k letters. -/
def verL (ps : List ByteArray) (next : List (List Int)) (out : List Nat) (us : List Nat) (k : Nat) : List Nat := (List.range k).map fun i => out.getD (goL ps next us (i + 1)) 0
theorem verL_len {ps : List ByteArray} {next : List (List Int)} {out : List Nat} {us : List Nat} {k : Nat} : (verL ps next out us k).length = k := by simp [verL]
theorem verL_next {ps : List ByteArray} {next : List (List Int)} {out : List Nat} {us : List Nat} {k : Nat} : verL ps next out us (k + 1) = verL ps next out us k ++ [out.getD (goL ps next us (k + 1)) 0] := by
  unfold verL
  rw [List.range_succ, List.map_append]
  rfl
theorem verL_at {ps : List ByteArray} {next : List (List Int)} {out : List Nat} {us : List Nat} {k i : Nat} (h : i < k) : (vdC (verL ps next out us k))[i]? = some (.int .u8 (out.getD (goL ps next us (i + 1)) 0 : Nat)) := by
  simp [vdC, verL, h]
/-- The law's list of what it wants, and the document's runner, behind so many letters. -/
structure WantI (W6 W7 W : World) (WB hi Q : Nat) (pd nd od : Value) (ps : List ByteArray) (next : List (List Int)) (out : List Nat) (us : List Nat) (k : Nat) : Prop where
  w : ∃ wv, Boxed W WB 24 wv ∧ W.ownsRow W7.heap.size 60 1 wv k (vdC (verL ps next out us k))
  d : DocW W hi Q pd nd od ps next out (goL ps next us k)
  k6 : Kept [] W6 W
  k7 : W7.heap.size ≤ W.heap.size
theorem WantI.quiet {W6 W7 W W' : World} {WB hi Q : Nat} {pd nd od : Value} {ps : List ByteArray} {next : List (List Int)} {out : List Nat} {us : List Nat} {k : Nat} (h : WantI W6 W7 W WB hi Q pd nd od ps next out us k) (kk : Kept [] W W') : WantI W6 W7 W' WB hi Q pd nd od ps next out us k := by
  obtain ⟨wv, h1, h2⟩ := h.w
  exact ⟨⟨wv, kk.at h1 (by simp), bx_kept h2 kk (by simp)⟩, h.d.keptF kk (by simp), keptB h.k6 kk, Nat.le_trans h.k7 kk.size⟩
theorem want_step {W6 W7 Wd W2 : World} {WB hi Q v : Nat} {pd nd od wv : Value} {ps : List ByteArray} {next : List (List Int)} {out : List Nat} {us : List Nat} {k : Nat} (S : World → Prop) (hS : ∀ W, Kept [] W6 W → S W) (h6 : Kept [] W6 Wd) (h7 : W7.heap.size ≤ Wd.heap.size) (hb : Boxed Wd WB 24 wv) (ho : Wd.ownsRow W7.heap.size 60 1 wv k (vdC (verL ps next out us k))) (hD : DocW W2 hi Q pd nd od ps next out (goL ps next us (k + 1))) (k2 : Kept [Q] Wd W2) (hz : W6.heap.size ≤ WB ∧ WB < Q ∧ Q < hi ∧ hi ≤ W7.heap.size) (hk : k ≤ 1000000) (hv : out.getD (goL ps next us (k + 1)) 0 = v) :
    ∃ (vad : Option Addr) (vc : Nat) (W3 W4 : World), Hid (∀ ty, (Builtin.append_ #[24, 24] ty #[wv, .slice (some ⟨W2.heap.size, 0, none⟩) 1 1]).run Try.prog (W2.alloc (.cells #[.int .u8 (v : Nat)] 60)) = .ok (.slice vad (k + 1) vc) W3) ∧ Hid (W3.setCell ⟨WB, 0, none⟩ (.slice vad (k + 1) vc) = W4) ∧ Hid (S W2) ∧ Hid (S (W2.alloc (.cells #[.int .u8 (v : Nat)] 60))) ∧
      Hid (S W3 ∧ S W4 ∧ W3.cell? ⟨WB, 0, none⟩ = some wv ∧ W3.frozen? ⟨WB, 0, none⟩ = false) ∧ Hid (W2.cell? ⟨WB, 0, none⟩ = some wv ∧ (W2.alloc (.cells #[.int .u8 (v : Nat)] 60)).cell? ⟨WB, 0, none⟩ = some wv) ∧ Hid (WantI W6 W7 W4 WB hi Q pd nd od ps next out us (k + 1)) := by
  obtain ⟨z1, z2, z3, z4⟩ := hz
  have s2 := k2.size
  have ho2 := bx_kept ho k2 (fun g hg hm => by
    have := (bx_base ho hg).1
    simp at hm
    omega)
  have hb2 : Boxed W2 WB 24 wv := k2.at hb (by simp; omega)
  have hl : (verL ps next out us k).length = k := verL_len
  obtain ⟨v', W3, g1, g2, g3⟩ := appendVd_step v (by rw [hl]; exact ho2) (by omega) (by rw [hl]; omega)
  have kA : Kept [] W2 (W2.alloc (.cells #[.int .u8 (v : Nat)] 60)) := (Kept.refl [] W2).alloc _
  have k3 : Kept wv.ownBlock.toList W2 W3 := ((Kept.refl _ W2).alloc _).grown g3 (fun g e => .inl (by simp [e]))
  have hwb : ∀ g, wv.ownBlock = some g → W7.heap.size ≤ g := fun g hg => (bx_base ho hg).1
  have hb3 : Boxed W3 WB 24 wv := k3.at hb2 (fun hm => by have := hwb WB (by simpa using hm); omega)
  have q2 : Kept [] W6 W2 := h6.trans k2 (by simp) (fun x hx => .inr (by simp at hx; omega))
  have q3 : Kept [] W6 W3 := q2.trans k3 (by simp) (fun x hx => .inr (by have := hwb x (by simpa using hx); omega))
  have s3 := k3.size
  have e1 : verL ps next out us k ++ [v] = verL ps next out us (k + 1) := by rw [verL_next, hv]
  rw [e1] at g2
  have hl2 : (verL ps next out us (k + 1)).length = k + 1 := verL_len
  rw [hl2] at g2
  obtain ⟨vad, vc, rfl⟩ := own_formR g2
  have k4 : Kept [WB] W3 (W3.setCell ⟨WB, 0, none⟩ (.slice vad (k + 1) vc)) := (Kept.refl [WB] W3).setCell (.inl (by simp)) _
  have q4 : Kept [] W6 (W3.setCell ⟨WB, 0, none⟩ (.slice vad (k + 1) vc)) := q3.trans k4 (by simp) (fun x hx => .inr (by simp at hx; omega))
  refine ⟨vad, vc, W3, _, g1, rfl, hS _ q2, hS _ (keptB q2 kA), ⟨hS _ q3, hS _ q4, hb3.cell, hb3.frozen⟩, ⟨hb2.cell, cell_kept0 kA hb2.cell⟩, ⟨_, hb3.set _, ?_⟩, ?_, q4, ?_⟩
  · refine bx_kept g2 k4 (fun g hg hm => ?_)
    have := (bx_base g2 hg).1
    simp at hm
    omega
  · exact (hD.keptF k3 (fun x hx => .inr (by have := hwb x (by simpa using hx); omega))).keptF k4 (fun x hx => .inl (by simp at hx; omega))
  · have := k4.size; omega
/-- What is fixed behind the law's head: what the iterator leans on, the result's cell, the list and its row, the marks. -/
def zG (T : Nat → Prop) (RB WB : Nat) (wv : Value) (Ds : List Nat) (k : Nat) : Prop := T k ∨ k = RB ∨ k = WB ∨ wv.ownBlock = some k ∨ k ∈ Ds
/-- A range begins: its count, and nothing was asked for. -/
theorem goI_start {w Wx W U : World} {Z : Nat → Prop} {AB a lim : Nat} (hU : (W.alloc (.cells #[.int .i64 0] 3)).setCell ⟨AB, 0, none⟩ (.int .i64 0) = U) (hA : Asked AB a W) (hZA : ¬ Z AB) (hk : Kept [] w W) (hwA : w.heap.size ≤ AB) (kz : KpX Z Wx W) :
    GoI w U Z W.heap.size lim (fun k => k = AB) [] U ∧ Asked AB 0 U ∧ KpX Z Wx U ∧ U.heap.size = W.heap.size + 1 := by
  have kA : Kept [] W (W.alloc (.cells #[.int .i64 0] 3)) := (Kept.refl [] W).alloc _
  have hA1 : Asked AB a (W.alloc (.cells #[.int .i64 0] 3)) := kA.at hA (by simp)
  have hAlt := hA.lt
  have hb : Boxed (W.alloc (.cells #[.int .i64 0] 3)) W.heap.size 3 (.int .i64 0) := al0 _ _
  have hsz : U.heap.size = W.heap.size + 1 := by rw [← hU]; simp [World.setCell]
  have kU : KpX (fun k => k ≠ AB) (W.alloc (.cells #[.int .i64 0] 3)) U := by rw [← hU]; exact KpX.setCell (by simp) _
  have kz' : KpX Z W U := (KpX.of_kept kA).trans (kU.mono (fun k hk e => hZA (e ▸ hk)))
  refine ⟨⟨KpX.refl _ _, ?_, Nat.zero_le _, ⟨by omega, fun q hq e => hZA (e ▸ hq), fun q e => by rw [e]; exact hwA⟩, ?_⟩, ?_, kz.trans kz', hsz⟩
  · exact kU.own _ _ (by omega) hb
  · rw [← hU]; exact (keptB hk kA).setCell (.inr hwA) _
  · rw [← hU]; exact hA1.set _
theorem wpList_min_run {P : Program} (w : World) {ops : Array Oper} {rest : List Oper} {o : Oper} {a : Act} {Q : Exit → Act → World → Prop} (hgd : o.guard = none) (s x : Operand) (t tn : TypeId)
    (ho : o.op = .call { callee := .builtin .min, args := #[s, x], argTypes := #[t, tn] }) (vs vx : Value) (hs : a.eval s = vs) (hx : a.eval x = vx)
    (v' : Value) (hr : (Builtin.min_ #[t, tn] o.type #[vs, vx]).run P w = .ok v' w) (h : wpList P ops Q rest (a.put o.dst v') w) : wpList P ops Q (o :: rest) a w :=
  wpList_plain hgd fun _ hK => by
    unfold Oper.wp execOp
    simp only [ho, resolve, invoke, builtin, Sem.run_bind, Sem.run_pure, Result.andThen_ok, List.map_toArray, List.map_cons, List.map_nil, hs, hx, hr]
    exact hK _ _ h
theorem minI (x y : Int) (ts : Array TypeId) (t : TypeId) (w : World) : (Builtin.min_ ts t #[.int .i64 x, .int .i64 y]).run Try.prog w = .ok (.int .i64 (if y < x then y else x)) w := by
  simp [Builtin.min_, Builtin.min2]
end Go.Proofs.Ytbbfajbnklgncaa
