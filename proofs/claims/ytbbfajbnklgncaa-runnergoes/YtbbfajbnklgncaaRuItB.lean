/- runner.All's iterator: it goes through the verdicts behind the letters, and counts none that was not asked for. -/
import Derived.Test.YtbbfajbnklgncaaRuItA
import Derived.RecoverIn
import Derived.Sort.CutIn
namespace Go.Proofs.Ytbbfajbnklgncaa
open Go.RowKit Go.Shelf Go.Maps
attribute [local go_sem] Oper.semAt_some

theorem row_own {T : Nat → Prop} {W W' : World} {base : Nat} {e : TypeId} {s : Nat} {v : Value} {n : Nat} {xs : List Value} (h : W.ownsRow base e s v n xs) (k : KpX T W W') (hT : ∀ g, v.ownBlock = some g → T g) : W'.ownsRow base e s v n xs := by
  refine ⟨h.1, ?_⟩
  rcases h.2 with h2 | ⟨g, cap, cur, rfl, q1, q2, q3⟩
  · exact .inl h2
  · exact .inr ⟨g, cap, cur, rfl, q1, k.own _ _ (hT g rfl) q2, q3⟩
theorem RunS.own {T : Nat → Prop} {W W' : World} {lo N R s : Nat} {ps : List ByteArray} {next : List (List Int)} {out : List Nat} {fin : List Bool} (h : RunS W lo N R ps next out fin s) (k : KpX T W W') (hR : T R) (hT : ∀ x, lo ≤ x → x < N → T x) : RunS W' lo N R ps next out fin s := by
  obtain ⟨Tb, MB, FR, nxv, outv, D, fl, h1, h2, h3⟩ := h.ex
  obtain ⟨a1, a2, a3⟩ := h2.low
  obtain ⟨b1, b2, b3, b4, b5⟩ := h2.high
  have hm : W'.heap[MB]? = W.heap[MB]? := by
    obtain ⟨ob, hob⟩ : ∃ ob, W.heap[MB]? = some ob := ⟨_, Array.getElem?_eq_getElem h2.map.lt⟩
    rw [hob]
    exact k.own _ _ (hT MB a2 b2) hob
  exact ⟨⟨Tb, MB, FR, nxv, outv, D, fl, k.own _ _ hR h1, ⟨k.own _ _ (hT _ a1 b1) h2.box, mapAt h2.map hm, h2.bits, row_own h2.nx k (fun g hg => hT g (bx_base h2.nx hg).1 (b4 g hg)), row_own h2.outs k (fun g hg => hT g (bx_base h2.outs hg).1 (b5 g hg)), k.own _ _ (hT _ a3 b3) h2.fins, h2.low, h2.high⟩, h3⟩, h.fin, h.high, h.lt⟩
/-- Another runner over the same table. -/
theorem RunS.twin {W : World} {lo N R s : Nat} {ps : List ByteArray} {next : List (List Int)} {out : List Nat} {fin : List Bool} (h : RunS W lo N R ps next out fin s) :
    ∃ T, W.heap[R]? = some (.cells #[.pointer (some ⟨T, 0, none⟩), .int .i64 (s : Nat)] 76 (0, 0)) ∧ ∀ (W' : World) (rb : Nat), Kept [] W W' → N ≤ rb → W'.heap[rb]? = some (.cells #[.pointer (some ⟨T, 0, none⟩), .int .i64 (s : Nat)] 76 (0, 0)) → RunS W' lo N rb ps next out fin s := by
  obtain ⟨Tb, MB, FR, nxv, outv, D, fl, h1, h2, h3⟩ := h.ex
  exact ⟨Tb, h1, fun W' rb k hN hb => ⟨⟨Tb, MB, FR, nxv, outv, D, fl, hb, h2.keptF k (by simp), h3⟩, h.fin, hN, h.lt⟩⟩
/-- The state behind so many letters. -/
def goL (ps : List ByteArray) (next : List (List Int)) (us : List Nat) : Nat → Nat
  | 0 => 0
  | k + 1 => stepN ps next (goL ps next us k) (us.getD k 0)
def verV (ps : List ByteArray) (next : List (List Int)) (out : List Nat) (us : List Nat) (i : Nat) : Array Value := #[.int .u8 (out.getD (goL ps next us (i + 1)) 0 : Nat)]
/-- The deferred closure, behind a frame that returns: it finds nothing to recover. -/
theorem recIdle (m tb : Nat) (w : World) (h : Boxed w tb 4 (.bool false)) : CallsDIn Fence.wide m Try.prog 46 #[.pointer (some ⟨tb, 0, none⟩)] .returning w fun e u' w' => e = .returned (.tuple #[]) ∧ u' = .returning ∧ w' = w := by
  have c0 : w.cell? ⟨tb, 0, none⟩ = some (.bool false) := h.cell
  refine callsDIn_of_wpSIn Try.func46 rfl trivial fun c₀ cs hu => ?_
  apply wpSIn_seq
  apply wpSIn_region
  simp [wpOpsSIn, go_sem, c0, Try.ntmps46, Exit.thenS]
  refine wpSIn_cond (t := true) (by simp [Act.eval, Array.replicate]) ?_
  simp only [if_true]
  apply wpSIn_region
  simp [wpOpsSIn, go_sem, recoverD, hu]
  cases c₀
  simp_all [bodyPostS, results, Try.results46]
/-- What the iterator leans on. -/
structure AllAt (T : Nat → Prop) (fb lb R lo N ub ab n : Nat) (us : List Nat) (uv : Value) (ps : List ByteArray) (next : List (List Int)) (out : List Nat) (fin : List Bool) (W : World) : Prop where
  f : Boxed W fb 32 (.pointer (some ⟨R, 0, none⟩))
  l : Boxed W lb 87 (.func (.func 15) #[] #[.pointer (some ⟨ub, 0, none⟩), .pointer (some ⟨ab, 0, none⟩)])
  r : RunS W lo N R ps next out fin 0
  s : SeqAt T ub n us uv W
  t : T fb ∧ T lb ∧ T R ∧ ∀ x, lo ≤ x → x < N → T x
theorem AllAt.kpx {T : Nat → Prop} {fb lb R lo N ub ab n : Nat} {us : List Nat} {uv : Value} {ps : List ByteArray} {next : List (List Int)} {out : List Nat} {fin : List Bool} {W W' : World} (h : AllAt T fb lb R lo N ub ab n us uv ps next out fin W) (k : KpX T W W') : AllAt T fb lb R lo N ub ab n us uv ps next out fin W' :=
  ⟨k.own _ _ h.t.1 h.f, k.own _ _ h.t.2.1 h.l, h.r.own k h.t.2.2.1 h.t.2.2.2, h.s.kpx k, h.t⟩
/-- What the iterator's loop carries. -/
structure ItI (T : Nat → Prop) (J : (Nat → Prop) → List Nat → World → Prop) (V : World) (l rb tb yb lo N : Nat) (us : List Nat) (ps : List ByteArray) (next : List (List Int)) (out : List Nat) (fin : List Bool) (Y : Nat → Prop) (pre : List Nat) (W' : World) : Prop where
  xo : ∃ Xo, J Xo pre W' ∧ (∀ k, Y k → Xo k) ∧ Xo rb ∧ Xo tb ∧ Xo yb
  by_ : Boxed W' yb 88 (.func (.yield l) #[] #[])
  bt : Boxed W' tb 4 (.bool false)
  rs : RunS W' lo N rb ps next out fin (goL ps next us pre.length)
  k2 : KpX T V W'
  nY : ¬ Y yb ∧ ¬ Y tb ∧ ¬ Y rb ∧ ∀ k, T k → ¬ Y k
/-- The blocks that the loop leans on. -/
def itZ (T : Nat → Prop) (rb tb yb k : Nat) : Prop := k = rb ∨ k = tb ∨ k = yb ∨ T k
theorem itI_abide {T : Nat → Prop} {J : (Nat → Prop) → List Nat → World → Prop} {V : World} {l rb tb yb lo N : Nat} {us : List Nat} {ps : List ByteArray} {next : List (List Int)} {out : List Nat} {fin : List Bool} (hJ : Abide J) (hT : ∀ k, T k → k < V.heap.size) (hlN : ∀ x, lo ≤ x → x < N → T x) : Abide (ItI T J V l rb tb yb lo N us ps next out fin) := by
  refine ⟨?_, ?_⟩
  · rintro Y Y' pre W' ⟨⟨Xo, q1, q2, q3, q4, q5⟩, hy, ht, hr, hk, n1, n2, n3, n4⟩ hY'
    have hz : ∀ x, x < W'.heap.size → ¬ Y x → ¬ Y' x := fun x hx hn h => (hY' x h).elim hn (by omega)
    obtain ⟨Tb, hTb, _⟩ := hr.twin
    refine ⟨⟨fun k => Xo k ∨ W'.heap.size ≤ k, hJ.more q1 (fun _ h => h), fun k h => (hY' k h).imp (q2 k) id, .inl q3, .inl q4, .inl q5⟩, hy, ht, hr, hk, hz _ hy.lt n1, hz _ ht.lt n2, hz _ (lt_of hTb) n3, fun k h => hz k (by have := hT k h; have := hk.size; omega) (n4 k h)⟩
  · rintro Y pre W' W'' row ⟨⟨Xo, q1, q2, q3, q4, q5⟩, hy, ht, hr, hk, n1, n2, n3, n4⟩ hg hrow
    have kz : KpX (itZ T rb tb yb) W' W'' := KpX.grown hg (fun r e hz => by
      have hYr := hrow r e
      rcases hz with rfl | rfl | rfl | hz
      · exact n3 hYr
      · exact n2 hYr
      · exact n1 hYr
      · exact n4 r hz hYr)
    exact ⟨⟨Xo, hJ.turn q1 hg (fun r e => q2 r (hrow r e)), q2, q3, q4, q5⟩, kz.own _ _ (.inr (.inr (.inl rfl))) hy, kz.own _ _ (.inr (.inl rfl)) ht, hr.own kz (.inl rfl) (fun x h1 h2 => .inr (.inr (.inr (hlN x h1 h2)))), hk.trans (kz.mono (fun _ h => .inr (.inr (.inr h)))), n1, n2, n3, n4⟩
/-- How it is left. -/
structure ItX (Jx : (Nat → Prop) → List Nat → World → Prop) (tb : Nat) (c : Code) (Y : Nat → Prop) (pre : List Nat) (W' : World) : Prop where
  c : c = .ret
  xo : ∃ Xo, Jx Xo pre W' ∧ ∀ k, Y k → Xo k
  bt : Boxed W' tb 4 (.bool false)
  nY : ¬ Y tb
theorem itX_abide {Jx : (Nat → Prop) → List Nat → World → Prop} {tb : Nat} (hJ : Abide Jx) (c : Code) : Abide (ItX Jx tb c) := by
  refine ⟨?_, ?_⟩
  · rintro Y Y' pre W' ⟨q0, ⟨Xo, q1, q2⟩, ht, n1⟩ hY'
    exact ⟨q0, ⟨fun k => Xo k ∨ W'.heap.size ≤ k, hJ.more q1 (fun _ h => h), fun k h => (hY' k h).imp (q2 k) id⟩, ht, fun h => (hY' _ h).elim n1 (by have := ht.lt; omega)⟩
  · rintro Y pre W' W'' row ⟨q0, ⟨Xo, q1, q2⟩, ht, n1⟩ hg hrow
    exact ⟨q0, ⟨Xo, hJ.turn q1 hg (fun r e => q2 r (hrow r e)), q2⟩, ht.kept hg (fun e => n1 (hrow _ e.symm)), n1⟩
theorem asked_put {ab k l : Nat} {W : World} {o o' : Obj} (h : Asked ab k W) (h1 : W.heap[l]? = some o) (h2 : o.isCells = false) : Asked ab k (W.putObj l o') := by
  have hne : ab ≠ l := by
    rintro rfl
    rw [show W.heap[ab]? = _ from h] at h1
    cases h1
    cases h2
  exact (World.putObj_heap_other hne).trans h
theorem asked_kept (ab : Nat) : AtKept (fun i W => Asked ab (i + 1) W) := ⟨fun k h => k.at h (by simp), fun h1 h2 h => asked_put h h1 h2⟩
theorem grownBy_kept1 {W W' : World} {b : Nat} (h : Kept [b] W W') : W.grownBy W' (some b) :=
  ⟨h.os, h.tape, h.output, h.size, fun i hi hne => h.block i hi (by simpa using fun e => hne (by rw [e]))⟩
/-- One round of the iterator: a step, the mark, the verdict handed over, the mark again. -/
theorem round_kpx {T Y : Nat → Prop} {W1 W2 W4 : World} {rb tb yb : Nat} (h2 : Kept [rb] W1 W2) (h4 : KpX (orT T (fun k => Y k ∨ k = rb ∨ k = tb ∨ k = yb)) (W2.setCell ⟨tb, 0, none⟩ (.bool true)) W4) (hr : ¬ orT T Y rb) (ht : ¬ orT T Y tb) : KpX (orT T Y) W1 (W4.setCell ⟨tb, 0, none⟩ (.bool false)) :=
  (KpX.grown (grownBy_kept1 h2) (fun r e => by cases e; exact hr)).trans ((KpX.setCell ht _).trans ((h4.mono (fun k hk => hk.imp .inl id)).trans (KpX.setCell ht _)))
set_option maxRecDepth 100000 in
set_option maxHeartbeats 3200000 in
theorem all_goes9 (T : Nat → Prop) (fb lb R lo N ub ab n : Nat) (us : List Nat) (uv : Value) (ps : List ByteArray) (next : List (List Int)) (out : List Nat) (fin : List Bool) (hn : n ≤ 1000000) (hm : MachR ps next out) (hu : ∀ x ∈ us, x < 65536) (w : World) (hA : AllAt T fb lb R lo N ub ab n us uv ps next out fin w) (hT : ∀ k, T k → k < w.heap.size) (ha : Asked ab 0 w) (hab : ¬ T ab) :
    GoesAtP Fence.wide 9 Try.prog 45 #[.pointer (some ⟨fb, 0, none⟩), .pointer (some ⟨lb, 0, none⟩)] (verV ps next out us) (fun i W => Asked ab (i + 1) W) T (fun k => k = ab) (upTo n) (upSome n) n (fun pre i => pre = List.range i) (fun xs W => Asked ab xs.length W) w := by
  intro l J Jx X W hW hJ hJx hY h0 hX0 hX
  have hAW := hA.kpx (KpX.of_belowI hW hT)
  have haW : Asked ab 0 W := (hW.block _ ha.lt).trans ha
  have hTW : ∀ k, T k → k < W.heap.size := fun k hk => Nat.lt_of_lt_of_le (hT k hk) hW.size
  obtain ⟨Tb, hRb, htw⟩ := hAW.r.twin
  have hNR := hAW.r.high
  have hRW := lt_of hRb
  have f0 : W.cell? ⟨fb, 0, none⟩ = some (.pointer (some ⟨R, 0, none⟩)) := hAW.f.cell
  have l0 : W.cell? ⟨lb, 0, none⟩ = _ := hAW.l.cell
  have r0 : W.cell? ⟨R, 0, none⟩ = some (.pointer (some ⟨Tb, 0, none⟩)) := (cell_of hRb 0).trans rfl
  have r1 : W.cell? ⟨R, 1, none⟩ = some (.int .i64 0) := (cell_of hRb 1).trans rfl
  obtain ⟨V1, hV1⟩ : ∃ V1, W.alloc (.cells #[.func (.yield l) #[] #[]] 88) = V1 := ⟨_, rfl⟩
  obtain ⟨V2, hV2⟩ : ∃ V2, V1.alloc (.cells #[.pointer (some ⟨Tb, 0, none⟩), .int .i64 0] 76) = V2 := ⟨_, rfl⟩
  obtain ⟨V, hV⟩ : ∃ V, V2.alloc (.cells #[.bool false] 4) = V := ⟨_, rfl⟩
  have k1 : Kept [] W V1 := by rw [← hV1]; exact (Kept.refl [] W).alloc _
  have k2 : Kept [] V1 V2 := by rw [← hV2]; exact (Kept.refl [] V1).alloc _
  have k3 : Kept [] V2 V := by rw [← hV]; exact (Kept.refl [] V2).alloc _
  have kV : Kept [] W V := keptB (keptB k1 k2) k3
  obtain ⟨yb, hyb⟩ : ∃ yb, W.heap.size = yb := ⟨_, rfl⟩
  obtain ⟨rb, hrb⟩ : ∃ rb, V1.heap.size = rb := ⟨_, rfl⟩
  obtain ⟨tb, htr⟩ : ∃ tb, rb + 1 = tb := ⟨_, rfl⟩
  have htb : V2.heap.size = tb := by rw [← hV2, World.size_alloc, hrb, htr]
  have by_ : Boxed V yb 88 (.func (.yield l) #[] #[]) := (keptB k2 k3).at (by rw [← hV1, ← hyb]; exact al0 _ _) (by simp)
  have br : V.heap[rb]? = some (.cells #[.pointer (some ⟨Tb, 0, none⟩), .int .i64 (0 : Nat)] 76 (0, 0)) := k3.at (by rw [← hV2, ← hrb]; exact al0 _ _) (by simp)
  have bt : Boxed V tb 4 (.bool false) := by rw [← hV, ← htb]; exact al0 _ _
  have zy : yb < rb := by rw [← hrb]; exact lt_of (show V1.heap[yb]? = _ by rw [← hV1, ← hyb]; exact al0 _ _)
  have zr : rb < tb := by rw [← htb]; exact lt_of (show V2.heap[rb]? = _ by rw [← hV2, ← hrb]; exact al0 _ _)
  have zt : tb < V.heap.size := bt.lt
  have hrs : RunS V lo N rb ps next out fin 0 := htw V rb kV (by omega) br
  have hj0 : J (fun k => X k ∨ Between W V k) [] V := hJ.lay h0 kV
  have HY : Hid _ := hY
  have HJ : Hid (Abide J ∧ Abide Jx) := ⟨hJ, hJx⟩
  have HM : Hid (MachR ps next out) := hm
  have HT : Hid (∀ k, T k → k < W.heap.size) := hTW
  have HLN : Hid (∀ x, lo ≤ x → x < N → T x) := hA.t.2.2.2
  have HU : Hid (∀ i, us.getD i 0 < 65536) := fun i => by
    rw [List.getD_eq_getElem?_getD]
    cases e : us[i]? with
    | none => simp
    | some x => exact hu x (List.mem_of_getElem? e)
  have HXX : Hid ((∀ k, X k → k < W.heap.size) ∧ X ab ∧ ¬ T ab) := ⟨hX, hX0 ab rfl, hab⟩
  have HSV : Hid (SeqAt T ub n us uv V ∧ Asked ab 0 V) := ⟨hAW.s.kpx (KpX.of_kept kV), kV.at haW (by simp)⟩
  have HI0 : Hid (ItI T J V l rb tb yb lo N us ps next out fin (fun k => k = ab) [] V) := by
    have hab' : ab < W.heap.size := haW.lt
    have hRT : ∀ k, T k → k ≠ ab := fun k hk e => hab (e ▸ hk)
    exact ⟨⟨_, hj0, fun k hk => .inl (by rw [hk]; exact hX0 ab rfl), .inr ⟨by omega, by omega⟩, .inr ⟨by omega, by omega⟩, .inr ⟨by omega, by omega⟩⟩, by_, bt, hrs, KpX.refl _ _, by omega, by omega, by omega, hRT⟩
  have HB : Hid (W.heap.size = yb ∧ yb < rb ∧ rb < tb ∧ tb < V.heap.size ∧ ab < yb) := ⟨hyb, zy, zr, zt, by have := haW.lt; omega⟩
  have f1 := cell_kept0 k1 f0
  have r2 := cell_kept0 k1 r0
  have r3 := cell_kept0 k1 r1
  have l1 : ((V1.alloc (.cells #[.pointer (some ⟨Tb, 0, none⟩), .int .i64 0] 76)).alloc (.cells #[.bool false] 4)).cell? ⟨lb, 0, none⟩ = some (.func (.func 15) #[] #[.pointer (some ⟨ub, 0, none⟩), .pointer (some ⟨ab, 0, none⟩)]) := by
    rw [hV2, hV]
    exact cell_kept0 kV l0
  have HV : Hid ((V1.alloc (.cells #[.pointer (some ⟨Tb, 0, none⟩), .int .i64 0] 76)).alloc (.cells #[.bool false] 4) = V) := by show _ = _; rw [hV2, hV]
  have HTR : Hid (rb + 1 = tb) := htr
  have hmf : ∀ (fn : Fn) (first cap : Array Value) (w : World), (Instr.makeFunc fn first cap).run Try.prog w = .ok (.func fn first cap) w := fun _ _ _ _ => rfl
  clear hV2 hV htb htr hY hJ hJx hm hu hX hab hA hT ha hW hAW haW hTW hRb htw hNR hRW f0 l0 r0 r1 k1 k2 k3 kV by_ br bt zy zr zt hrs hj0 h0 hX0
  refine callsIn_of_wp_marks Try.func45 rfl trivial ?_ rfl
  simp only [Try.ntmps45, List.size_toArray, List.length_cons, List.length_nil, Nat.reduceAdd, Nat.reduceSub, Array.replicate_succ, Array.replicate_zero, List.push_toArray, List.append_toArray, List.nil_append, List.cons_append]
  gi_wp2_with fail
  rw [HV.out, HTR.out]
  have HTV : Hid (∀ k, T k → k < V.heap.size) := fun k h => by have := HT.out k h; have := HB.out; omega
  refine rangeAtP1 rfl (by omega) (gf := 15) (lb := #[.pointer (some ⟨ub, 0, none⟩), .pointer (some ⟨ab, 0, none⟩)]) rfl trivial (enters_of Try.func15 (by kernel_rfl) rfl)
    (seq_goes (9 - 1) (by omega) T ub ab n us uv hn V HSV.out.1 HTV.out HSV.out.2 HXX.out.2.2) (fun _ _ _ _ _ h1 h2 h => asked_put h h1 h2) (asked_kept ab) HTV.out (fun k h => by have := HB.out; show k < V.heap.size; rw [show k = ab from h]; omega) (fun _ => rfl)
    (ItI T J V l rb tb yb lo N us ps next out fin) (ItX Jx tb) ?abI ?abX HI0.out ?a1 ?assign ?body ?done ?stop
  case abI => exact itI_abide HJ.out.1 HTV.out HLN.out
  case abX => exact itX_abide HJ.out.2
  case assign =>
    intro l' x W0 K hK
    dsimp only [sqV]
    gi_wp2
    exact hK
  case body =>
    rintro l' Y pre x W1 _ _ hYb hI hat hlen hpf
    obtain rfl : x = pre.length := by rw [show pre = List.range x from hpf, List.length_range]
    obtain ⟨⟨Xo, j1, j2, j3, j4, j5⟩, hby, hbt, hrs, hk2, n1, n2, n3, n4⟩ := hI
    obtain ⟨i, hi⟩ : ∃ i, pre.length = i := ⟨_, rfl⟩
    rw [hi] at hrs hat hlen ⊢
    have hnr : ¬ orT T Y rb := fun h => h.elim n3 (fun h => by have := HT.out rb h; have := HB.out; omega)
    have hnt : ¬ orT T Y tb := fun h => h.elim n2 (fun h => by have := HT.out tb h; have := HB.out; omega)
    obtain ⟨s', hs'⟩ : ∃ s', goL ps next us (i + 1) = s' := ⟨_, rfl⟩
    obtain ⟨v, hv⟩ : ∃ v, out.getD s' 0 = v := ⟨_, rfl⟩
    obtain ⟨x, hx⟩ : ∃ x, us.getD i 0 = x := ⟨_, rfl⟩
    have HST : Hid (Calls Try.prog 37 #[.pointer (some ⟨rb, 0, none⟩), .int .u16 (x : Nat)] W1 fun e w' => e = .returned (.int .u8 (v : Nat)) ∧ Hid (RunS w' lo N rb ps next out fin s') ∧ Hid (Kept [rb] W1 w')) := by
      have q := step_any lo N rb ps next out fin (goL ps next us i) x W1 hrs HM.out (by rw [← hx]; exact HU.out i)
      have e1 : stepN ps next (goL ps next us i) x = s' := by rw [← hs', ← hx]; rfl
      rw [e1, hv] at q
      exact q
    have HVX : Hid (verV ps next out us i = #[.int .u8 (v : Nat)] ∧ goL ps next us (i + 1) = s') := ⟨by unfold verV; rw [hs', hv], hs'⟩
    rw [← List.getD_eq_getElem?_getD, hx]
    clear hs' hv hx
    have HJ1 : Hid (J (fun k => Y k ∨ k = rb ∨ k = tb ∨ k = yb) pre W1) := HJ.out.1.more j1 (fun k hk => .inl (by
      rcases hk with hk | rfl | rfl | rfl
      · exact j2 k hk
      · exact j3
      · exact j4
      · exact j5))
    have HN : Hid (¬ orT T Y rb ∧ ¬ orT T Y tb ∧ ¬ Y yb ∧ ¬ Y tb ∧ ¬ Y rb ∧ ∀ k, T k → ¬ Y k) := ⟨hnr, hnt, n1, n2, n3, n4⟩
    have HBX : Hid (Boxed W1 yb 88 (.func (.yield l) #[] #[]) ∧ Boxed W1 tb 4 (.bool false) ∧ KpX T V W1 ∧ Asked ab (i + 1) W1 ∧ (∀ k, Y k → k < W1.heap.size) ∧ i < n ∧ pre = List.range i) := ⟨hby, hbt, hk2, hat, hYb, hlen, by rw [← hi]; exact hi ▸ hpf⟩
    clear j1 j2 j3 j4 j5 hby hbt hrs hk2 n1 n2 n3 n4 hnr hnt hat hYb hlen hpf
    gi_upto_region 6 with (refine ⟨trivial, ?_⟩; gi_at_call 37; refine (CallsIn.inRound l' (callsIn_wide.2 HST.out)).mono ?_; rintro e W2 ⟨rfl, HR2, HK2⟩)
    obtain ⟨W3, hW3⟩ : ∃ W3, W2.setCell ⟨tb, 0, none⟩ (.bool true) = W3 := ⟨_, rfl⟩
    obtain ⟨hby, hbt, hk2, hat, hYb, hlen, hpf⟩ := HBX.out
    have hlt1 := hbt.lt
    have hzz := HB.out
    have hs2 := HK2.out.size
    have hs1 := hk2.size
    have t2 : Boxed W2 tb 4 (.bool false) := HK2.out.at hbt (by simp; omega)
    have t0 : W2.cell? ⟨tb, 0, none⟩ = some (.bool false) := t2.cell
    have t1 : W2.frozen? ⟨tb, 0, none⟩ = false := t2.frozen
    have t3 : Boxed W3 tb 4 (.bool true) := by rw [← hW3]; exact t2.set _
    have kyb : KpX (fun k => k = yb) W1 W3 := by
      rw [← hW3]
      exact (KpX.grown (grownBy_kept1 HK2.out) (fun r e => by cases e; show ¬ rb = yb; omega)).trans (KpX.setCell (show ¬ tb = yb by omega) _)
    have y3 : Boxed W3 yb 88 (.func (.yield l) #[] #[]) := kyb.own _ _ rfl hby
    have y0 : W3.cell? ⟨yb, 0, none⟩ = some (.func (.yield l) #[] #[]) := y3.cell
    have g3 : W2.grownBy W3 (some tb) := by rw [← hW3]; exact grownBy_setCell' W2 tb _
    have hj3 : J (fun k => Y k ∨ k = rb ∨ k = tb ∨ k = yb) pre W3 := HJ.out.1.turn (HJ.out.1.turn HJ1.out (grownBy_kept1 HK2.out) (fun r e => by cases e; exact .inr (.inl rfl))) g3 (fun r e => by cases e; exact .inr (.inr (.inl rfl)))
    have ha3 : Asked ab (i + 1) W3 := by
      have ka : KpX (fun k => k = ab) W1 W3 := by
        rw [← hW3]
        exact (KpX.grown (grownBy_kept1 HK2.out) (fun r e => by cases e; show ¬ rb = ab; omega)).trans (KpX.setCell (show ¬ tb = ab by omega) _)
      exact ka.own _ _ rfl hat
    have hr3 : RunS W3 lo N rb ps next out fin s' := by
      rw [← hW3]
      exact HR2.out.own (T := fun k => k = rb ∨ T k) (KpX.setCell (show ¬ (tb = rb ∨ T tb) from fun h => h.elim (by omega) (fun h => HN.out.2.1 (.inr h))) _) (.inl rfl) (fun q h1 h2 => .inr (HLN.out q h1 h2))
    have hz3 : W3.heap.size = W2.heap.size := by rw [← hW3]; simp [World.setCell]
    have HYY : Hid (YieldAt (Fence.wide.inRound l') (9 - 1 - 1 - 1) Try.prog l #[.int .u8 (v : Nat)] W3 fun e W6 => ∃ b : Bool, e = .returned (.bool b) ∧ Hid ((b = true ∧ J (fun k => Y k ∨ k = rb ∨ k = tb ∨ k = yb) (pre ++ [i]) W6 ∧ KpX (orT T (fun k => Y k ∨ k = rb ∨ k = tb ∨ k = yb)) W3 W6) ∨ (b = false ∧ Jx (fun k => Y k ∨ k = rb ∨ k = tb ∨ k = yb) (pre ++ [i]) W6 ∧ KpX (orT T (fun k => Y k ∨ k = rb ∨ k = tb ∨ k = yb)) W3 W6))) := by
      have q := HY.out (fun k => Y k ∨ k = rb ∨ k = tb ∨ k = yb) pre i W3 hj3 ha3 (fun k hk => by
        rcases hk with hk | hk | hk | hk
        · have := hYb k hk; omega
        · omega
        · omega
        · omega) (by rw [hi]; exact hlen) hpf
      rw [HVX.out.1] at q
      refine yield_in _ (q.mono fun e W6 h => ?_)
      rcases h with ⟨rfl, h1, h2⟩ | ⟨rfl, h1, h2⟩
      · exact ⟨true, rfl, .inl ⟨rfl, h1, h2⟩⟩
      · exact ⟨false, rfl, .inr ⟨rfl, h1, h2⟩⟩
    have HR3 : Hid (RunS W3 lo N rb ps next out fin s') := hr3
    have HT3 : Hid (Boxed W3 tb 4 (.bool true) ∧ Boxed W3 yb 88 (.func (.yield l) #[] #[])) := ⟨t3, y3⟩
    have HI : Hid (pre.length = i) := hi
    have HW3 : Hid (W2.setCell ⟨tb, 0, none⟩ (.bool true) = W3) := hW3
    clear hby hbt hk2 hat hYb hlen hpf hlt1 hzz hs2 hs1 t2 t3 kyb y3 g3 hj3 ha3 hr3 hz3 hi
    obtain ⟨fnY, tmpsY, assignY, bodyY, hy, hR⟩ := HYY.out
    gi_wp2_with fail
    refine hR.mono ?_
    rintro e W4 ⟨b, rfl, HR4⟩
    clear hy hR t0 t1 y0 hW3
    have hT4 : Boxed W4 tb 4 (.bool true) := by
      rcases HR4.out with ⟨_, _, k4⟩ | ⟨_, _, k4⟩ <;> exact k4.own _ _ (.inl (.inr (.inr (.inl rfl)))) HT3.out.1
    have t0 : W4.cell? ⟨tb, 0, none⟩ = some (.bool true) := hT4.cell
    have t1 : W4.frozen? ⟨tb, 0, none⟩ = false := hT4.frozen
    obtain ⟨W5, hW5⟩ : ∃ W5, W4.setCell ⟨tb, 0, none⟩ (.bool false) = W5 := ⟨_, rfl⟩
    have HW5 : Hid (W4.setCell ⟨tb, 0, none⟩ (.bool false) = W5 ∧ Boxed W5 tb 4 (.bool false)) := ⟨hW5, by rw [← hW5]; exact hT4.set _⟩
    clear hT4
    have HKX : Hid (KpX (orT T Y) W1 W5) := by
      show KpX _ _ _
      rw [← hW5]
      rcases HR4.out with ⟨_, _, k4⟩ | ⟨_, _, k4⟩
      · exact round_kpx HK2.out (by rw [HW3.out]; exact k4) HN.out.1 HN.out.2.1
      · exact round_kpx HK2.out (by rw [HW3.out]; exact k4) HN.out.1 HN.out.2.1
    have HG5 : Hid (W4.grownBy W5 (some tb)) := by show World.grownBy _ _ _; rw [← hW5]; exact grownBy_setCell' W4 tb _
    cases b with
    | true =>
      have hq : J (fun k => Y k ∨ k = rb ∨ k = tb ∨ k = yb) (pre ++ [i]) W4 ∧ KpX (orT T (fun k => Y k ∨ k = rb ∨ k = tb ∨ k = yb)) W3 W4 := by
        rcases HR4.out with ⟨_, h1, h2⟩ | ⟨h, _, _⟩
        · exact ⟨h1, h2⟩
        · cases h
      have HJ4 : Hid _ := hq
      clear hq
      gi_wp2_with fail
      refine ⟨HKX.out, ⟨_, HJ.out.1.turn HJ4.out.1 HG5.out (fun r e => by cases e; exact .inr (.inr (.inl rfl))), fun _ h => .inl h, .inr (.inl rfl), .inr (.inr (.inl rfl)), .inr (.inr (.inr rfl))⟩, ?_, HW5.out.2, ?_, ?_, HN.out.2.2.1, HN.out.2.2.2.1, HN.out.2.2.2.2.1, HN.out.2.2.2.2.2⟩
      · have y4 : Boxed W4 yb 88 (.func (.yield l) #[] #[]) := HJ4.out.2.own _ _ (.inl (.inr (.inr (.inr rfl)))) HT3.out.2
        exact y4.kept HG5.out (fun e => by have := HB.out; simp at e; omega)
      · rw [List.length_append, List.length_singleton, HI.out, HVX.out.2]
        have r4 := HR3.out.own (HJ4.out.2.mono (Y := fun k => k = rb ∨ T k) (fun k hk => hk.elim (fun e => .inl (.inr (.inl e))) .inr)) (.inl rfl) (fun q h1 h2 => .inr (HLN.out q h1 h2))
        rw [← HW5.out.1]
        exact r4.own (T := fun k => k = rb ∨ T k) (KpX.setCell (show ¬ (tb = rb ∨ T tb) from fun h => h.elim (fun e => by have := HB.out; omega) (fun h => HN.out.2.1 (.inr h))) _) (.inl rfl) (fun q h1 h2 => .inr (HLN.out q h1 h2))
      · exact HBX.out.2.2.1.trans (HKX.out.mono (fun _ h => .inr h))
    | false =>
      have hq : Jx (fun k => Y k ∨ k = rb ∨ k = tb ∨ k = yb) (pre ++ [i]) W4 := by
        rcases HR4.out with ⟨h, _, _⟩ | ⟨_, h1, _⟩
        · cases h
        · exact h1
      have HJ4 : Hid _ := hq
      clear hq
      gi_wp2_with fail
      exact ⟨HKX.out, rfl, ⟨_, HJ.out.2.turn HJ4.out HG5.out (fun r e => by cases e; exact .inr (.inr (.inl rfl))), fun _ h => .inl h⟩, HW5.out.2, HN.out.2.2.2.1⟩
  case done =>
    rintro D Y xs W1 hD hYD hS hI hE hK
    obtain ⟨⟨Xo, j1, j2, j3, j4, j5⟩, hby, hbt, hrs, hk2, n1, n2, n3, n4⟩ := hI
    gi_wp2
    have hne : tb ≠ D := fun e => n2 (e ▸ hYD)
    refine ⟨by simp, .inl ⟨_, _, rfl, run_takeDeferred hK, ?_⟩⟩
    refine ⟨by simp, .inr ⟨fun _ => by omega, _, _, 46, #[.pointer (some ⟨tb, 0, none⟩)], rfl, by simp [invoke, go_sem], fun _ _ => trivial, (recIdle (9 - 1) tb _ ((World.putObj_heap_other hne).trans hbt)).mono ?_⟩⟩
    rintro e u' w' ⟨rfl, rfl, rfl⟩
    refine ⟨_, results_none rfl _ _ _, ⟨_, rfl⟩, .inl ⟨xs, Xo, hS, HJ.out.1.turn j1 (grownBy_putObj' _ _ _) (fun r e => by cases e; exact j2 _ hYD), ?_⟩⟩
    exact asked_put hE hK rfl
  case stop =>
    rintro D Y c xs W1 hD hYD hS ⟨rfl, ⟨Xo, j1, j2⟩, hbt, n2⟩ hE hK
    gi_wp2
    have hne : tb ≠ D := fun e => n2 (e ▸ hYD)
    refine ⟨by simp, .inl ⟨_, _, rfl, run_takeDeferred hK, ?_⟩⟩
    refine ⟨by simp, .inr ⟨fun _ => by omega, _, _, 46, #[.pointer (some ⟨tb, 0, none⟩)], rfl, by simp [invoke, go_sem], fun _ _ => trivial, (recIdle (9 - 1) tb _ ((World.putObj_heap_other hne).trans hbt)).mono ?_⟩⟩
    rintro e u' w' ⟨rfl, rfl, rfl⟩
    refine ⟨_, results_none rfl _ _ _, ⟨_, rfl⟩, .inr ⟨xs, Xo, hS, HJ.out.2.turn j1 (grownBy_putObj' _ _ _) (fun r e => by cases e; exact j2 _ hYD), ?_⟩⟩
    exact asked_put hE hK rfl
theorem yield_anyDepth {F : Fence} (hd : F.depth = none) {m : Nat} (m' : Nat) {P : Program} {l : Nat} {args : Array Value} {W : World} {R : Ending → World → Prop} (h : YieldAt F m P l args W R) : YieldAt F m' P l args W R := by
  obtain ⟨fn, tmps, assign, body, hy, h1, h2⟩ := h
  exact ⟨fn, tmps, assign, body, hy, h1, fun c cs _ => h2 c cs (fun d h => by rw [hd] at h; cases h)⟩
theorem GoesAtP.anyDepth {α : Type} {P : Program} {g : Nat} {lb : Array Value} {encs : α → Array Value} {At : α → World → Prop} {T X₀ : Nat → Prop} {S Sp : List α → Prop} {N : Nat} {Pf : List α → α → Prop} {En : List α → World → Prop} {w : World} {n : Nat} (m : Nat) (h : GoesAtP Fence.wide n P g lb encs At T X₀ S Sp N Pf En w) : GoesAtP Fence.wide m P g lb encs At T X₀ S Sp N Pf En w := by
  intro l J Jx X W hW hJ hJx hY h0 hX0 hX
  exact callsIn_wide.2 (callsIn_wide.1 (h l J Jx X W hW hJ hJx (fun X pre x W1 a b c d e => yield_anyDepth rfl _ (hY X pre x W1 a b c d e)) h0 hX0 hX))
/-- The iterator of a machine that is none: it hands nothing over. -/
theorem none_goes (m : Nat) (T : Nat → Prop) (ab : Nat) (encs : Nat → Array Value) (w : World) (ha : Asked ab 0 w) :
    GoesAtP Fence.wide m Try.prog 44 #[] encs (fun i W => Asked ab (i + 1) W) T (fun k => k = ab) (upTo 0) (upSome 0) 0 (fun pre i => pre = List.range i) (fun xs W => Asked ab xs.length W) w := by
  intro l J Jx X W hW hJ hJx hY h0 hX0 hX
  have haW : Asked ab 0 W := (hW.block _ ha.lt).trans ha
  refine callsIn_of_wp Try.func44 rfl trivial ?_ rfl
  simp only [Try.ntmps44, List.size_toArray, List.length_cons, List.length_nil, Nat.reduceAdd, Nat.reduceSub, Array.replicate_succ, Array.replicate_zero, List.push_toArray, List.append_toArray, List.nil_append, List.cons_append]
  gi_wp2
  go_end0
  exact ⟨⟨_, rfl⟩, .inl ⟨[], X, rfl, h0, haW⟩⟩
end Go.Proofs.Ytbbfajbnklgncaa
