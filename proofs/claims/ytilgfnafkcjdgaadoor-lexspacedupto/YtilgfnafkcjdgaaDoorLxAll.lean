/- lex.All: the tokens, by the iterator of cut. -/
import Derived.Test.YtilgfnafkcjdgaaDoorLxCut
import Derived.RangeFuncBox
import Derived.Laws.EntriesVeiled
namespace Go.Proofs.YtilgfnafkcjdgaaDoor
open Go.RowKit Go.Shelf
attribute [local go_sem] Oper.semAt_some

/-- The tokens ahead of the first that is none. -/
def goodI (x : Item) : Bool := x.err == 0
def toksOf (l : List UInt8) : List Item := (itemsOf l).takeWhile goodI
theorem good_all {xs : List Item} (h : ∀ x ∈ xs, x.err = 0) : xs.takeWhile goodI = xs := by
  induction xs with
  | nil => rfl
  | cons x r ih => rw [List.takeWhile_cons, show goodI x = true from by simp [goodI, h x (by simp)], if_pos rfl, ih (fun y hy => h y (by simp [hy]))]
theorem good_stop {pre L : List Item} {x : Item} (hp : pre ++ [x] <+: L) (h : ∀ y ∈ pre, y.err = 0) (hx : x.err ≠ 0) : L.takeWhile goodI = pre := by
  obtain ⟨t, rfl⟩ := hp
  rw [List.append_assoc, List.takeWhile_append, good_all h, if_pos rfl, List.singleton_append, List.takeWhile_cons, show goodI x = false from by simp [goodI, hx]]
  simp
theorem good_pre {pre L : List Item} (hp : pre <+: L) (h : ∀ y ∈ pre, y.err = 0) : pre <+: L.takeWhile goodI := by
  obtain ⟨t, rfl⟩ := hp
  rw [List.takeWhile_append, good_all h, if_pos rfl]
  exact List.prefix_append _ _

def tokC (x : Item) : Array Value := #[.int .u8 (x.kind.val : Nat), .string ⟨x.text.toArray⟩, .int .i64 (x.pos : Nat)]
def tokA (x : Item) : Array Value := #[tokV x]

variable {F : Fence} {n : Nat} {P : Program}
/-- A round of another loop can be had from within a round. -/
theorem yield_in {m : Nat} (m' : Nat) {l l' : Nat} {args : Array Value} {W : World} {R : Ending → World → Prop} (h : YieldAt Fence.wide m P l args W R) : YieldAt (Fence.wide.inRound l') m' P l args W R := by
  obtain ⟨fn, tmps, assign, body, h1, h2⟩ := h
  exact ⟨fn, tmps, assign, body, h1, h2.1, fun c cs _ => h2.2 c cs (by simp [Fence.room, Fence.wide])⟩
/-- The law, where the loop's variable is a token in a block of its own. -/
theorem rangeTok {g : Operand} {ps : Array Tmp} {assign body : Code} {Q : Exit → Act → World → Prop} {a : Act} {w : World}
    (hro : F.round = none) (h1 : 1 ≤ n) {gf : Nat} {lb : Array Value} (hg : a.eval g = .func (.func gf) #[] lb) (hFg : F.fn gf) (eg : ∀ args w, (callFunc gf args).run P w = .ok (.enter gf args) w)
    {encs : Item → Array Value} {X₀ : Nat → Prop} {S Sp : List Item → Prop} {N : Nat} (hseq : Goes F (n - 1) P gf lb encs X₀ S Sp N w) (hX₀ : ∀ k, X₀ k → k < w.heap.size) (hps : ∀ x, (encs x).size = ps.size)
    (I : (Nat → Prop) → List Item → World → Prop) (Ix : Code → (Nat → Prop) → List Item → World → Prop) (hI : Abide I) (hIx : ∀ c, Abide (Ix c)) (h0 : I X₀ [] w) (a₁ : Item → Nat → Act)
    (hassign : ∀ (l : Nat) (x : Item) (W : World) (Bx : Nat) (K : Act → World → Prop), W.heap.size = Bx → K (a₁ x Bx) (W.alloc (.cells (tokC x) 50)) →
      assign.wpIn (F.inRound l) (n - 1 - 1) P (Exit.then K (fun _ _ _ => False)) { tmps := (ps.zip (encs x)).foldl (fun t (p, v) => t.setIfInBounds p v) a.tmps, defers := [] } W)
    (hbody : ∀ (l : Nat) (X : Nat → Prop) (pre : List Item) (x : Item) (Bx : Nat) (W : World), (∃ r, W.heap[l]? = some (.loop r)) → X l → (∀ k, X k → k < W.heap.size) → I X pre W → w.heap.size ≤ Bx → W.heap[Bx]? = some (.cells (tokC x) 50 (0, 0)) → pre.length < N →
      body.wpIn (F.inRound l) (n - 1 - 1) P (bodyOwes X I Ix (pre ++ [x]) W) (a₁ x Bx) W)
    (hdone : ∀ (D : Nat) (X : Nat → Prop) (xs : List Item) (W : World), w.heap.size ≤ D → X D → S xs → I X xs W → W.heap[D]? = some (.deferred (some [])) → Q .normal { a with defers := { target := .collected D, args := #[] } :: a.defers } W)
    (hstop : ∀ (D : Nat) (X : Nat → Prop) (c : Code) (pre : List Item) (W : World), w.heap.size ≤ D → X D → Sp pre → Ix c X pre W → W.heap[D]? = some (.deferred (some [])) → c.wpIn F n P Q { a with defers := { target := .collected D, args := #[] } :: a.defers } W) :
    (Code.rangeFunc g ps assign body).wpIn F n P Q a w :=
  rangeGoes hro h1 hg hFg eg hseq hX₀ hps I Ix hI hIx h0 (fun x a' W => ∃ Bx, w.heap.size ≤ Bx ∧ W.heap[Bx]? = some (.cells (tokC x) 50 (0, 0)) ∧ a' = a₁ x Bx)
    (fun x a' W l o o' hl hc ⟨Bx, q1, q2, q3⟩ => ⟨Bx, q1, (World.putObj_heap_other (fun e => by subst e; rw [q2] at hl; cases hl; cases hc)).trans q2, q3⟩)
    (fun l X pre x W K hi hw hK => hassign l x W _ K rfl (hK _ _ ((Kept.refl [] W).alloc _) ⟨W.heap.size, hw, heap_alloc_new W _, rfl⟩))
    (fun l X pre x a' W hr hl hX hi hx hN => by obtain ⟨Bx, q1, q2, q3⟩ := hx; subst q3; exact hbody l X pre x Bx W hr hl hX hi q1 q2 hN) hdone hstop

/-- What All's function value leans on. -/
structure AllAt (Bs Bt Bb : Nat) (s : ByteArray) (W : World) : Prop where
  seq : Boxed W Bs 63 (.func (.func 51) #[] #[.pointer (some ⟨Bt, 0, none⟩), .pointer (some ⟨Bb, 0, none⟩)])
  cut : CutAt Bt Bb s W
theorem AllAt.kept {Bs Bt Bb : Nat} {s : ByteArray} {W W' : World} (h : AllAt Bs Bt Bb s W) (k : Kept [] W W') : AllAt Bs Bt Bb s W' := ⟨k.at h.seq (by simp), h.cut.kept k⟩
def allX (Bs Bt Bb k : Nat) : Prop := k = Bs ∨ k = Bt ∨ k = Bb
theorem AllAt.lt {Bs Bt Bb : Nat} {s : ByteArray} {W : World} (h : AllAt Bs Bt Bb s W) (k : Nat) (hk : allX Bs Bt Bb k) : k < W.heap.size := by
  rcases hk with rfl | rfl | rfl
  · exact h.seq.lt
  · exact h.cut.text.lt
  · exact lt_of h.cut.tab

set_option maxHeartbeats 1000000 in
set_option maxRecDepth 20000 in
theorem all_goes (m : Nat) (hm : 4 ≤ m) (Bs Bt Bb : Nat) (s : ByteArray) (hs : s.size ≤ 9223372036854775800) (w : World) (hA : AllAt Bs Bt Bb s w) :
    Goes Fence.wide m Tryd.prog 40 #[.pointer (some ⟨Bs, 0, none⟩)] tokA (allX Bs Bt Bb) (fun ys => ys = toksOf s.data.toList) (fun pre => pre <+: toksOf s.data.toList) (itemsOf s.data.toList).length w := by
  intro l J Jx X W hW hJ hJx hY h0 hX0 hX
  have hA1 : AllAt Bs Bt Bb s W := ⟨(hW.block _ hA.seq.lt).trans hA.seq, (hW.block _ hA.cut.text.lt).trans hA.cut.text, (hW.block _ (lt_of hA.cut.tab)).trans hA.cut.tab⟩
  have hbx := hA1.seq.cell
  refine callsIn_of_wp_marks Tryd.func40 rfl trivial ?_ rfl
  simp only [Tryd.ntmps40, List.size_toArray, List.length_cons, List.length_nil, Nat.reduceAdd, Nat.reduceSub, Array.replicate_succ, Array.replicate_zero, List.push_toArray, List.append_toArray, List.nil_append, List.cons_append]
  have HY : Hid _ := hY
  have HJ : Hid (Abide J) := hJ
  have HJx : Hid (Abide Jx) := hJx
  have HA1 : Hid _ := hA1
  have hbl : Bs < W.heap.size := World.block_lt_of_cell? W _ hbx
  have hb1 : ¬ Bs = W.heap.size := by omega
  have hb2 : ¬ W.heap.size = Bs := by omega
  clear hY hJ hJx hA1 hW hA
  gi_wp2
  obtain ⟨V, hV⟩ : ∃ V, W.alloc (.cells #[.func (.yield l) #[] #[]] 78) = V := ⟨_, rfl⟩
  have kV : Kept [] W V := by rw [← hV]; exact (Kept.refl [] W).alloc _
  have zV : V.heap.size = W.heap.size + 1 := by rw [← hV]; simp
  have bV : Boxed V W.heap.size 78 (.func (.yield l) #[] #[]) := by rw [← hV]; exact Boxed.new W _ _
  rw [hV]
  clear hV
  have HC : Hid (CutAt Bt Bb s V) := HA1.out.cut.kept kV
  have hj0 : J (fun k => X k ∨ Between W V k) [] V := HJ.out.lay h0 kV
  refine rangeTok rfl (by omega) (gf := 51) (lb := #[.pointer (some ⟨Bt, 0, none⟩), .pointer (some ⟨Bb, 0, none⟩)]) rfl trivial (enters_of Tryd.func51 (by kernel_rfl) rfl)
    (cut_goes (m - 1) (by omega) Bt Bb s hs V HC.out) (fun k hk => by rcases hk with rfl | rfl; exact HC.out.text.lt; exact lt_of HC.out.tab) (fun _ => rfl)
    (fun Y pre W' => (∀ x ∈ pre, x.err = 0) ∧ Boxed W' W.heap.size 78 (.func (.yield l) #[] #[]) ∧ ¬ Y W.heap.size ∧ ∃ Xo, J Xo pre W' ∧ Xo W.heap.size ∧ ∀ k, Y k → Xo k)
    (fun c Y pre W' => c = .ret ∧ ∃ pre' x, pre = pre' ++ [x] ∧ (∀ y ∈ pre', y.err = 0) ∧ ∃ Xo, (∀ k, Y k → Xo k) ∧ ((x.err ≠ 0 ∧ J Xo pre' W') ∨ (x.err = 0 ∧ Jx Xo pre W')))
    ?abI ?abX ⟨by simp, bV, fun h => ?ne, _, hj0, .inr ⟨Nat.le_refl _, by omega⟩, fun k h => .inl (hX0 k (.inr h))⟩ ?a1 ?assign ?body ?done ?stop
  case ne =>
    rcases h with h | h
    · have := HA1.out.cut.text.lt; omega
    · have := lt_of HA1.out.cut.tab; omega
  case abI =>
    refine ⟨?_, ?_⟩
    · rintro Y Y' pre W' ⟨q1, q2, q3, Xo, q4, q5, q6⟩ hY'
      have := q2.lt
      exact ⟨q1, q2, fun h => (hY' _ h).elim q3 (by omega), fun k => Xo k ∨ W'.heap.size ≤ k, HJ.out.more q4 (fun _ h => h), .inl q5, fun k hk => (hY' k hk).imp (q6 k) id⟩
    · rintro Y pre W' W'' row ⟨q1, q2, q3, Xo, q4, q5, q6⟩ hg hr
      exact ⟨q1, q2.kept hg (fun e => q3 (hr _ e.symm)), q3, Xo, HJ.out.turn q4 hg (fun r e => q6 r (hr r e)), q5, q6⟩
  case abX =>
    refine fun c => ⟨?_, ?_⟩
    · rintro Y Y' pre W' ⟨q0, pre', x, q4, q5, Xo, q6, q7⟩ hY'
      refine ⟨q0, pre', x, q4, q5, fun k => Xo k ∨ W'.heap.size ≤ k, fun k hk => (hY' k hk).imp (q6 k) id, ?_⟩
      exact q7.imp (fun h => ⟨h.1, HJ.out.more h.2 (fun _ h => h)⟩) (fun h => ⟨h.1, HJx.out.more h.2 (fun _ h => h)⟩)
    · rintro Y pre W' W'' row ⟨q0, pre', x, q4, q5, Xo, q6, q7⟩ hg hr
      refine ⟨q0, pre', x, q4, q5, Xo, q6, ?_⟩
      exact q7.imp (fun h => ⟨h.1, HJ.out.turn h.2 hg (fun r e => q6 r (hr r e))⟩) (fun h => ⟨h.1, HJx.out.turn h.2 hg (fun r e => q6 r (hr r e))⟩)
  case assign =>
    intro l x W Bx K hBx hK
    dsimp only [itemV, tokV]
    dsimp only [tokC] at hK
    gi_wp2
    exact hK
  case body =>
    rintro l' Y pre x Bx W1 _ _ hYb ⟨q1, q2, q3, Xo, q4, q5, q6⟩ hBx hrow hN
    have c0 : W1.cell? ⟨Bx, 0, none⟩ = some (.int .u8 (x.kind.val : Nat)) := (cell_of hrow 0).trans rfl
    have c1 : W1.cell? ⟨Bx, 1, none⟩ = some (.string ⟨x.text.toArray⟩) := (cell_of hrow 1).trans rfl
    have c2 : W1.cell? ⟨Bx, 2, none⟩ = some (.int .i64 (x.pos : Nat)) := (cell_of hrow 2).trans rfl
    have cb := q2.cell
    have HQ1 : Hid _ := q1
    have HQ2 : Hid _ := q2
    have HQ3 : Hid _ := q3
    have HQ6 : Hid _ := q6
    have hwl := q2.lt
    clear q1 q2 q3
    by_cases hx : x.err = 0
    · have hj : J (fun k => Y k ∨ k = W.heap.size) pre W1 := HJ.out.more q4 (fun k hk => .inl (hk.elim (HQ6.out k) (fun e => e ▸ q5)))
      obtain ⟨fn, tmps, assign, body, hy, hR⟩ : YieldAt (Fence.wide.inRound l') (m - 1 - 1 - 1) Tryd.prog l #[.agg #[.int .u8 (x.kind.val : Nat), .string ⟨x.text.toArray⟩, .int .i64 (x.pos : Nat)]] W1 _ :=
        yield_in _ (HY.out _ pre x W1 hj (fun k hk => hk.elim (hYb k) (fun e => e ▸ hwl)) hN)
      have hxi : ((x.err : Nat) : Int) = 0 := by omega
      clear hj q4 q6 hrow
      gi_wp2
      refine ⟨fun _ => by omega, hR.mono ?_⟩
      rintro e W3 (⟨rfl, hJ3, hk3⟩ | ⟨rfl, hJx3, hk3⟩)
      · have HK3 : Hid _ := hk3
        clear hk3
        gi_wp2
        refine ⟨HK3.out.mono (fun _ h => .inl h), ?_, HK3.out.own _ _ (.inr rfl) HQ2.out, HQ3.out, _, hJ3, .inr rfl, fun _ h => .inl h⟩
        intro y hy
        rcases List.mem_append.1 hy with h | h
        · exact HQ1.out y h
        · rw [List.mem_singleton.1 h]; exact hx
      · have HK3 : Hid _ := hk3
        clear hk3
        gi_wp2
        exact ⟨HK3.out.mono (fun _ h => .inl h), rfl, pre, x, rfl, HQ1.out, _, fun _ h => .inl h, .inr ⟨hx, hJx3⟩⟩
    · have hxi : ¬ ((x.err : Nat) : Int) = 0 := by omega
      have HQ4 : Hid _ := q4
      clear q4 q6 hrow
      gi_wp2
      refine ⟨fun _ h => (by cases h), ?_⟩
      gi_wp2
      exact ⟨KpX.refl _ _, rfl, pre, x, rfl, HQ1.out, Xo, HQ6.out, .inl ⟨hx, HQ4.out⟩⟩
  case done =>
    rintro D Y xs W1 hD hYD rfl ⟨q1, q2, q3, Xo, q4, q5, q6⟩ hK
    gi_wp2
    refine ⟨by simp, .inl ⟨_, _, rfl, run_takeDeferred hK, ?_⟩⟩
    refine ⟨_, results_none rfl _ _ _, ⟨_, rfl⟩, .inl ⟨_, Xo, (good_all q1).symm, HJ.out.turn q4 (grownBy_putObj' _ _ _) (fun r e => by cases e; exact q6 _ hYD)⟩⟩
  case stop =>
    rintro D Y c pre W1 hD hYD hpre ⟨rfl, pre', x, rfl, q5, Xo, q6, q7⟩ hK
    gi_wp2
    refine ⟨by simp, .inl ⟨_, _, rfl, run_takeDeferred hK, ?_⟩⟩
    refine ⟨_, results_none rfl _ _ _, ⟨_, rfl⟩, ?_⟩
    rcases q7 with ⟨hx, hj⟩ | ⟨hx, hj⟩
    · exact .inl ⟨_, Xo, (good_stop hpre q5 hx).symm, HJ.out.turn hj (grownBy_putObj' _ _ _) (fun r e => by cases e; exact q6 _ hYD)⟩
    · refine .inr ⟨_, Xo, good_pre hpre ?_, HJx.out.turn hj (grownBy_putObj' _ _ _) (fun r e => by cases e; exact q6 _ hYD)⟩
      intro y hy
      rcases List.mem_append.1 hy with h | h
      · exact q5 y h
      · rw [List.mem_singleton.1 h]; exact hx

set_option maxHeartbeats 1000000 in
/-- All: the iterator of cut, in a box that the function value holds. -/
theorem all_any (s : ByteArray) (w : World) :
    Calls Tryd.prog 16 #[.string s] w fun e w' => ∃ Bs Bt Bb, e = .returned (.func (.func 40) #[] #[.pointer (some ⟨Bs, 0, none⟩)]) ∧ AllAt Bs Bt Bb s w' ∧ w.heap.size ≤ Bs ∧ w.heap.size ≤ Bt ∧ w.heap.size ≤ Bb ∧ Kept [] w w' := by
  go_enter Tryd.func16, Tryd.ntmps16
  go_wp2_with (go_at_call 26; refine (cut_any s _).mono ?_; rintro e w1 ⟨Bt, Bb, rfl, hA, hBt, hBb, hBt2, hBb2, hk⟩)
  go_ret
  exact ⟨w1.heap.size, Bt, Bb, rfl, ⟨Boxed.new w1 _ _, hA.kept ((Kept.refl [] w1).alloc _)⟩, hk.size, hBt, hBb, hk.alloc _⟩
end Go.Proofs.YtilgfnafkcjdgaaDoor
