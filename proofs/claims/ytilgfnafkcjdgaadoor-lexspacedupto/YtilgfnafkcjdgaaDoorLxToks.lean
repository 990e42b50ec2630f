/- lex.Tokens: all of them, or the error of the first that is none. -/
import Derived.Test.YtilgfnafkcjdgaaDoorLxAll
import Derived.Maps.AppendAt
import Derived.Deep.Onto
import Derived.Deep.AppendLies
namespace Go.Proofs.YtilgfnafkcjdgaaDoor
open Go.RowKit Go.Shelf
attribute [local go_sem] Oper.semAt_some

def flatI (xs : List Item) : List Value := xs.flatMap fun x => (tokC x).toList
theorem flatI_len (xs : List Item) : (flatI xs).length = xs.length * 3 := by
  induction xs with
  | nil => rfl
  | cons x r ih => unfold flatI at ih ⊢; rw [List.flatMap_cons, List.length_append, ih]; simp [tokC]; omega
theorem flatI_snoc (xs : List Item) (x : Item) : flatI (xs ++ [x]) = flatI xs ++ (tokC x).toList := by simp [flatI]
theorem own_lt {W : World} {base : Nat} {e : TypeId} {size : Nat} {v : Value} {n g : Nat} {xs : List Value} (h : W.ownsRow base e size v n xs) (hg : v.ownBlock = some g) : base ≤ g ∧ g < W.heap.size := by
  rcases h.2 with ⟨rfl, _⟩ | ⟨g', cap, cur, rfl, hb, hc, _⟩
  · cases hg
  · cases hg; exact ⟨hb, lt_of hc⟩
theorem own_nil_iff {W : World} {base : Nat} {e : TypeId} {v : Value} {xs : List Item} (h : W.ownsRow base e 3 v xs.length (flatI xs)) (hx : xs ≠ []) : v ≠ .slice none 0 0 := by
  rintro rfl
  rcases h.2 with ⟨_, h0⟩ | ⟨g, cap, cur, h1, _⟩
  · exact hx (List.length_eq_zero_iff.1 h0)
  · cases h1

/-- An append in a fence, that tells where the row lies. -/
theorem append_in {F : Fence} {n : Nat} {P : Program} (w : World) {ops : Array Oper} {rest : List Oper} {o : Oper} {a : Act} {Q : Exit → Act → World → Prop}
    (hg : o.guard = none) (s x : Operand) (t : TypeId) (hop : o.op = Op.call { callee := Callee.builtin Builtin.append, args := #[s, x], argTypes := #[t, t] })
    (base : Nat) (e : TypeId) (i : TypeInfo) (z : Value) (size bytes : Nat) (h1 : P.underlying t = some (.slice e)) (h2 : P.info? e = some i) (h3 : i.zero = some z) (h4 : i.size = size) (h5 : i.bytes = bytes) (h6 : z.cells.size = size) (h7 : 0 < size)
    (v : Value) (k : Nat) (xs : List Value) (hs : a.eval s = v) (hown : w.ownsRow base e size v k xs) (ad : Addr) (m c : Nat) (news : List Value) (hx : a.eval x = .slice (some ad) m c) (hn : news.length = m * size)
    (hc : ∀ j u, news[j]? = some u → w.cell? (ad.add j) = some u) (h1c : ∀ u ∈ news, u.oneCell' = true) (hm : 0 < m) (b1 : k + m ≤ maxLen) (b2 : (k + m) * bytes ≤ 140737488355328) (b3 : base ≤ w.heap.size)
    (hK : ∀ gr cap w', w'.ownsRow base e size (.slice (some ⟨gr, 0, none⟩) (k + m) cap) (k + m) (xs ++ news) → w.grownBy w' v.ownBlock → (v.ownBlock = some gr ∨ gr = w.heap.size) → wpListIn F n P ops Q rest (a.put o.dst (.slice (some ⟨gr, 0, none⟩) (k + m) cap)) w') :
    wpListIn F n P ops Q (o :: rest) a w := by
  obtain ⟨gr, cap, w', run, q1, q2, q3, _⟩ := run_append_lies (P := P) w t o.type base e i z size bytes h1 h2 h3 h4 h5 h6 h7 v k xs hown ad m c news hn hc h1c hm b1 b2 b3 _ rfl
  refine wpListIn_plain hg fun K hk => ⟨by simp [Oper.about, hop, resolve, Target.leads, Sem.run_pure], ?_⟩
  rw [Oper.semAt_plain F _ _ (by rw [hop]; intro c hc'; cases hc')]
  simp [execOp, hop, resolve, invoke, builtin, hs, hx, run, Result.andThen]
  exact hk _ _ (hK gr cap w' q1 q2 q3)

/-- The tokens that have come, in the slice of a box of the caller's. -/
def Coll (n₀ B : Nat) (X : Nat → Prop) (xs : List Item) (W : World) : Prop :=
  (∃ v, Boxed W B 23 v ∧ W.ownsRow n₀ 50 3 v xs.length (flatI xs) ∧ (∀ k, X k → v.ownBlock ≠ some k)) ∧ ¬ X B
theorem Coll.more {n₀ B : Nat} {X X' : Nat → Prop} {xs : List Item} {W : World} (h : Coll n₀ B X xs W) (hX : ∀ k, X' k → X k ∨ W.heap.size ≤ k) : Coll n₀ B X' xs W := by
  obtain ⟨⟨v, h1, h2, h3⟩, h4⟩ := h
  have := h1.lt
  refine ⟨⟨v, h1, h2, fun k hk e => ?_⟩, fun hk => (hX _ hk).elim h4 (by omega)⟩
  rcases hX k hk with h | h
  · exact h3 k h e
  · have := (own_lt h2 e).2; omega
theorem Coll.turn {n₀ B : Nat} {X : Nat → Prop} {xs : List Item} {W W' : World} {row : Option Nat} (h : Coll n₀ B X xs W) (hg : W.grownBy W' row) (hr : ∀ r, row = some r → X r) : Coll n₀ B X xs W' := by
  obtain ⟨⟨v, h1, h2, h3⟩, h4⟩ := h
  refine ⟨⟨v, h1.kept hg (fun e => h4 (hr _ e.symm)), h2.kept hg ?_, h3⟩, h4⟩
  rcases h2.2 with ⟨rfl, _⟩ | ⟨g, cap, cur, rfl, _⟩
  · exact .inl rfl
  · exact .inr fun e => h3 g (hr g (by first | exact e | exact e.symm)) rfl
/-- A box of the caller's. -/
def Bx1 (B : Nat) (t : TypeId) (v : Value) (X : Nat → Prop) (W : World) : Prop := Boxed W B t v ∧ ¬ X B
theorem Bx1.more {B : Nat} {t : TypeId} {v : Value} {X X' : Nat → Prop} {W : World} (h : Bx1 B t v X W) (hX : ∀ k, X' k → X k ∨ W.heap.size ≤ k) : Bx1 B t v X' W := by
  have := h.1.lt
  exact ⟨h.1, fun hk => (hX _ hk).elim h.2 (by omega)⟩
theorem Bx1.turn {B : Nat} {t : TypeId} {v : Value} {X : Nat → Prop} {W W' : World} {row : Option Nat} (h : Bx1 B t v X W) (hg : W.grownBy W' row) (hr : ∀ r, row = some r → X r) : Bx1 B t v X W' :=
  ⟨h.1.kept hg (fun e => h.2 (hr _ e.symm)), h.2⟩
/-- All that lay below n₀ lies as it lay; nothing of X is below. -/
def Bw (n₀ : Nat) (w : World) (X : Nat → Prop) (W : World) : Prop := Below n₀ w W ∧ n₀ ≤ W.heap.size ∧ ∀ k, X k → n₀ ≤ k
theorem Bw.more {n₀ : Nat} {w W : World} {X X' : Nat → Prop} (h : Bw n₀ w X W) (hX : ∀ k, X' k → X k ∨ W.heap.size ≤ k) : Bw n₀ w X' W :=
  ⟨h.1, h.2.1, fun k hk => (hX k hk).elim (h.2.2 k) (fun q => Nat.le_trans h.2.1 q)⟩
theorem Bw.turn {n₀ : Nat} {w W W' : World} {X : Nat → Prop} {row : Option Nat} (h : Bw n₀ w X W) (hg : W.grownBy W' row) (hr : ∀ r, row = some r → X r) : Bw n₀ w X W' :=
  ⟨h.1.grown hg h.2.1 (fun k e => h.2.2 k (hr k e)), Nat.le_trans h.2.1 hg.size, h.2.2⟩

theorem tokensE_good {xs : List Item} (h : ∀ x ∈ xs, x.err = 0) : tokensE xs = (xs, 0, 0) := by
  unfold tokensE
  rw [List.find?_eq_none.2 (fun x hx => by simp [h x hx])]
theorem tokensE_bad {L pre : List Item} {x : Item} (hp : pre ++ [x] <+: L) (h : ∀ y ∈ pre, y.err = 0) (hx : x.err ≠ 0) : tokensE L = ([], x.err, x.pos) := by
  obtain ⟨t, rfl⟩ := hp
  unfold tokensE
  rw [List.append_assoc, List.find?_append, List.find?_eq_none.2 (fun y hy => by simp [h y hy]), List.singleton_append, List.find?_cons, show (x.err != 0) = true by simpa using hx]
  rfl
theorem items_le : ∀ (f p : Nat) (l : List UInt8), (items f p l).length ≤ f
  | 0, _, _ => Nat.le_refl _
  | f + 1, p, l => by
    cases hd : l.drop (blanksN l) with
    | nil => rw [items_end _ _ _ hd]; simp
    | cons b r =>
      by_cases he : (pieceOf (b :: r)).err = 0
      · rw [items_go _ _ _ _ _ hd he, List.length_cons]; have := items_le f (p + blanksN l + (pieceOf (b :: r)).width) ((b :: r).drop (pieceOf (b :: r)).width); omega
      · rw [items_err _ _ _ _ _ hd he]; simp
theorem Tryd.infoTok : (Tryd.prog.info? 50).map (fun i => (i.zero, i.size, i.bytes)) = some (some (.agg #[.int .u8 0, .string ⟨#[]⟩, .int .i64 0]), 3, 32) := by kernel_rfl

theorem own_set {W : World} {base : Nat} {e : TypeId} {size k B : Nat} {t : TypeId} {v u : Value} {xs : List Value} (h : W.ownsRow base e size v k xs) (b : Boxed W B t u) (ht : t ≠ e) (u' : Value) : (W.setCell ⟨B, 0, none⟩ u').ownsRow base e size v k xs :=
  h.kept (grownBy_setCell' W B u') (.inr (b.not_row ht h).symm)
theorem box_other {W : World} {B C : Nat} {t : TypeId} {v u : Value} (h : Boxed W B t v) (hne : B ≠ C) : Boxed (W.setCell ⟨C, 0, none⟩ u) B t v := (Below.heap_setCell _ _ _ _ hne).trans h
theorem box_shut {W : World} {B D : Nat} {t : TypeId} {v : Value} {o : Obj} (h : Boxed W B t v) (hD : W.heap[D]? = some (.deferred (some []))) : Boxed (W.putObj D o) B t v :=
  (World.putObj_heap_other (fun e => by subst e; rw [show W.heap[B]? = _ from h] at hD; cases hD)).trans h
theorem leaveT {n : Nat} {W : World} {B2 B3 B4 D : Nat} {v2 v3 v4 : Value} {R : Ending → World → Prop} {tmps : Array Value} (p2 : tmps[2]?.getD undef = .pointer (some ⟨B2, 0, none⟩)) (p3 : tmps[3]?.getD undef = .pointer (some ⟨B3, 0, none⟩)) (p4 : tmps[4]?.getD undef = .pointer (some ⟨B4, 0, none⟩))
    (b2 : Boxed W B2 23 v2) (b3 : Boxed W B3 24 v3) (b4 : Boxed W B4 3 v4) (hK : W.heap[D]? = some (.deferred (some []))) (hR : R (.returned (.tuple #[v2, v3, v4])) (W.putObj D (.deferred none))) :
    bodyPostM Fence.wide n Tryd.prog Tryd.f12 R .ret { tmps := tmps, defers := [{ target := .collected D, args := #[] }] } W := by
  have c2 := (box_shut (o := .deferred none) b2 hK).cell
  have c3 := (box_shut (o := .deferred none) b3 hK).cell
  have c4 := (box_shut (o := .deferred none) b4 hK).cell
  refine ⟨by simp, .inl ⟨_, _, rfl, run_takeDeferred hK, ⟨.tuple #[v2, v3, v4], ?_, hR⟩⟩⟩
  simp [results, Tryd.f12, go_sem, p2, p3, p4, c2, c3, c4]

set_option maxHeartbeats 1000000 in
set_option maxRecDepth 20000 in
theorem tokens_walk (s : ByteArray) (w : World) (hs : s.size ≤ 1099511627776) :
    Calls Tryd.prog 12 #[.string s] w fun e w' => ∃ v, e = .returned (.tuple #[v, .int .i64 ((tokensE (itemsOf s.data.toList)).2.1 : Nat), .int .i64 ((tokensE (itemsOf s.data.toList)).2.2 : Nat)]) ∧
      w'.ownsRow w.heap.size 50 3 v (tokensE (itemsOf s.data.toList)).1.length (flatI (tokensE (itemsOf s.data.toList)).1) ∧ Below w.heap.size w w' := by
  obtain ⟨te, hte⟩ : ∃ te, tokensE (itemsOf s.data.toList) = te := ⟨_, rfl⟩
  rw [hte]
  have HTE : Hid _ := hte
  clear hte
  refine (callsIn_wide (n := 9)).1 ?_
  refine callsIn_of_wp_marks Tryd.func12 rfl trivial ?_ rfl
  simp only [Tryd.ntmps12, List.size_toArray, List.length_cons, List.length_nil, Nat.reduceAdd, Nat.reduceSub, Array.replicate_succ, Array.replicate_zero, List.push_toArray, List.append_toArray, List.nil_append, List.cons_append]
  gi_wp2_with (refine ⟨trivial, ?_⟩; gi_at_call 26; refine (callsIn_wide.2 (cut_any s _)).mono ?_; rintro e V ⟨Bt, Bb, rfl, hA, hBt, hBb, hBt2, hBb2, hk⟩)
  simp only [World.size_alloc] at hBt hBb
  have HK : Hid (Kept [] w V) := ((((((Kept.refl [] w).alloc _).alloc _).alloc _).alloc _)).trans hk (by simp) (by simp)
  have b2 : Boxed V w.heap.size 23 (.slice none 0 0) := hk.at ((((Boxed.new w _ _).alloc _).alloc _).alloc _) (by simp)
  have b3 : Boxed V (w.heap.size + 1) 24 (.int .i64 0) := hk.at (((Boxed.alloc (by have := Boxed.new (w.alloc (.cells #[.slice none 0 0] 23)) 24 (.int .i64 0); simpa using this) _).alloc _)) (by simp)
  have b4 : Boxed V (w.heap.size + 1 + 1) 3 (.int .i64 0) := hk.at (Boxed.alloc (by have := Boxed.new ((w.alloc (.cells #[.slice none 0 0] 23)).alloc (.cells #[.int .i64 0] 24)) 3 (.int .i64 0); rw [World.size_alloc, World.size_alloc] at this; exact this) _) (by simp)
  have b5 : Boxed V (w.heap.size + 1 + 1 + 1) 23 (.slice none 0 0) := hk.at (by have := Boxed.new (((w.alloc (.cells #[.slice none 0 0] 23)).alloc (.cells #[.int .i64 0] 24)).alloc (.cells #[.int .i64 0] 3)) 23 (.slice none 0 0); rw [World.size_alloc, World.size_alloc, World.size_alloc] at this; exact this) (by simp)
  clear hk
  have hN : (itemsOf s.data.toList).length ≤ s.size + 1 := by rw [Lib.size_eq]; exact items_le _ _ _
  have HA : Hid _ := hA
  clear hA
  refine rangeTok rfl (by omega) (gf := 51) (lb := #[.pointer (some ⟨Bt, 0, none⟩), .pointer (some ⟨Bb, 0, none⟩)]) rfl trivial (enters_of Tryd.func51 (by kernel_rfl) rfl)
    (cut_goes (9 - 1) (by omega) Bt Bb s (by omega) V HA.out) (fun k hk => by rcases hk with rfl | rfl <;> assumption) (fun _ => rfl)
    (fun X pre W => (∀ x ∈ pre, x.err = 0) ∧ Coll w.heap.size (w.heap.size + 1 + 1 + 1) X pre W ∧ (Bx1 w.heap.size 23 (.slice none 0 0) X W ∧ Bx1 (w.heap.size + 1) 24 (.int .i64 0) X W ∧ Bx1 (w.heap.size + 1 + 1) 3 (.int .i64 0) X W) ∧ Bw w.heap.size w X W)
    (fun c X pre W => c = .ret ∧ (∃ pre' x, pre = pre' ++ [x] ∧ (∀ y ∈ pre', y.err = 0) ∧ x.err ≠ 0 ∧ Bx1 w.heap.size 23 (.slice none 0 0) X W ∧ Bx1 (w.heap.size + 1) 24 (.int .i64 (x.err : Nat)) X W ∧ Bx1 (w.heap.size + 1 + 1) 3 (.int .i64 (x.pos : Nat)) X W) ∧ Bw w.heap.size w X W)
    ⟨fun h hX => ⟨h.1, h.2.1.more hX, ⟨h.2.2.1.1.more hX, h.2.2.1.2.1.more hX, h.2.2.1.2.2.more hX⟩, h.2.2.2.more hX⟩, fun h hg hr => ⟨h.1, h.2.1.turn hg hr, ⟨h.2.2.1.1.turn hg hr, h.2.2.1.2.1.turn hg hr, h.2.2.1.2.2.turn hg hr⟩, h.2.2.2.turn hg hr⟩⟩
    (fun c => ⟨fun h hX => ⟨h.1, by obtain ⟨_, ⟨p', x, e1, e2, e3, q1, q2, q3⟩, _⟩ := h; exact ⟨p', x, e1, e2, e3, q1.more hX, q2.more hX, q3.more hX⟩, h.2.2.more hX⟩, fun h hg hr => ⟨h.1, by obtain ⟨_, ⟨p', x, e1, e2, e3, q1, q2, q3⟩, _⟩ := h; exact ⟨p', x, e1, e2, e3, q1.turn hg hr, q2.turn hg hr, q3.turn hg hr⟩, h.2.2.turn hg hr⟩⟩)
    ⟨by simp, ⟨⟨_, b5, World.ownsRow_nil _ _ _ _, fun k _ h => by cases h⟩, by omega⟩, ⟨⟨b2, by omega⟩, ⟨b3, by omega⟩, ⟨b4, by omega⟩⟩, HK.out.below, HK.out.size, fun k h => by rcases h with rfl | rfl <;> omega⟩ ?a1 ?assign ?body ?done ?stop
  case assign =>
    intro l x W Bx K hBx hK
    dsimp only [itemV, tokV]
    dsimp only [tokC] at hK
    gi_wp2
    exact hK
  case body =>
    rintro l' X pre x Bx W1 _ _ hXb ⟨q1, ⟨⟨v, bv, hown, hvX⟩, hX4⟩, ⟨c2, c3, c4⟩, hB⟩ hBx hrow hlen
    have t0 : W1.cell? ⟨Bx, 0, none⟩ = some (.int .u8 (x.kind.val : Nat)) := (cell_of hrow 0).trans rfl
    have t1 : W1.cell? ⟨Bx, 1, none⟩ = some (.string ⟨x.text.toArray⟩) := (cell_of hrow 1).trans rfl
    have t2 : W1.cell? ⟨Bx, 2, none⟩ = some (.int .i64 (x.pos : Nat)) := (cell_of hrow 2).trans rfl
    have hcv := bv.cell
    have hfv := bv.frozen
    have HV : Hid (Boxed W1 (w.heap.size + 1 + 1 + 1) 23 v) := bv
    have HX : Hid (∀ k, X k → v.ownBlock ≠ some k) := hvX
    have HQ1 : Hid _ := q1
    have HB : Hid (Bw w.heap.size w X W1) := hB
    have H2 : Hid (Bx1 w.heap.size 23 (.slice none 0 0) X W1) := c2
    have H3 : Hid (Bx1 (w.heap.size + 1) 24 (.int .i64 0) X W1) := c3
    have H4 : Hid (Bx1 (w.heap.size + 1 + 1) 3 (.int .i64 0) X W1) := c4
    have HO : Hid _ := hown
    have hz1 := hB.2.1
    clear bv hvX q1 hB c2 c3 c4
    by_cases hx : x.err = 0
    · have hxi : ((x.err : Nat) : Int) = 0 := by omega
      obtain ⟨i0, hi, hz0, hz1', hz2⟩ := info_parts Tryd.infoTok
      clear hrow
      gi_wp2_with (gi_at_builtin; refine append_in _ rfl _ _ 23 rfl w.heap.size 50 i0 _ 3 32 Tryd.underlying23 hi hz0 hz1' hz2 rfl (by decide) _ _ _ rfl (hown.alloc _) ⟨W1.heap.size, 0, none⟩ 1 1 [.int .u8 (x.kind.val : Nat), .string ⟨x.text.toArray⟩, .int .i64 (x.pos : Nat)] rfl rfl (World.news_of_block (cs := #[.int .u8 (x.kind.val : Nat), .string ⟨x.text.toArray⟩, .int .i64 (x.pos : Nat)]) (t := 50) (fr := (0, 0)) (heap_alloc_new W1 _)) (by simp [Value.oneCell']) (by omega) (by unfold maxLen; omega) (by omega) (by simp; omega) ?_; intro gr cap w1 hown' hgrow hat; obtain ⟨hv1, hv2, hr2, _, hb2⟩ := HV.out.appended (by decide) hown hz1 (by omega) hown' hgrow; have HG : Hid _ := hgrow; have HAT : Hid _ := hat; have HV1 : Hid _ := hv1; have HV2 : Hid _ := hv2; have HR2 : Hid _ := hr2; have HB2 : Hid _ := hb2; have hc1 := hv1.cell; have hf1 := hv1.frozen; clear hown' hgrow hat hv1 hv2 hr2 hb2)
      have keep : ∀ {B : Nat} {t : TypeId} {u : Value}, Bx1 B t u X W1 → t ≠ 50 → B ≠ w.heap.size + 1 + 1 + 1 → Bx1 B t u X (w1.setCell ⟨w.heap.size + 1 + 1 + 1, 0, none⟩ (.slice (some ⟨gr, 0, none⟩) (pre.length + 1) cap)) := fun {B t u} h ht hne =>
        ⟨(Below.heap_setCell _ _ _ _ hne).trans ((h.1.alloc _).kept HG.out (h.1.not_row ht HO.out)), h.2⟩
      refine ⟨(KpX.of_kept ((Kept.refl [] W1).alloc _)).trans ((KpX.grown HG.out (fun r e hr => HX.out r hr e)).trans (KpX.setCell hX4 _)), ?_, ⟨⟨_, HV2.out, ?_, ?_⟩, hX4⟩, ⟨keep H2.out (by decide) (by omega), keep H3.out (by decide) (by omega), keep H4.out (by decide) (by omega)⟩, HB.out.1.trans HB2.out, Nat.le_trans HB.out.2.1 HB2.out.size, HB.out.2.2⟩
      · intro y hy
        rcases List.mem_append.1 hy with h | h
        · exact HQ1.out y h
        · rw [List.mem_singleton.1 h]; exact hx
      · rw [flatI_snoc, List.length_append]; exact HR2.out
      · intro k hk e
        have e' : gr = k := by simpa [Value.ownBlock] using e
        subst e'
        rcases HAT.out with h | h
        · exact HX.out _ hk h
        · have := hXb _ hk
          simp at h
          omega
    · have hxi : ¬ ((x.err : Nat) : Int) = 0 := by omega
      have e2 := H2.out.1.cell
      have e3 := H3.out.1.cell
      have e4 := H4.out.1.cell
      have f2 := H2.out.1.frozen
      have f3 := H3.out.1.frozen
      have f4 := H4.out.1.frozen
      clear hrow hown hcv hfv
      gi_wp2
      have g2 : Boxed (((W1.setCell ⟨w.heap.size, 0, none⟩ (.slice none 0 0)).setCell ⟨w.heap.size + 1, 0, none⟩ (.int .i64 (x.err : Nat))).setCell ⟨w.heap.size + 1 + 1, 0, none⟩ (.int .i64 (x.pos : Nat))) w.heap.size 23 (.slice none 0 0) :=
        (Below.heap_setCell _ _ _ _ (by show w.heap.size ≠ w.heap.size + 1 + 1; omega)).trans ((Below.heap_setCell _ _ _ _ (by show w.heap.size ≠ w.heap.size + 1; omega)).trans (Boxed.set _ H2.out.1))
      have g3 : Boxed (((W1.setCell ⟨w.heap.size, 0, none⟩ (.slice none 0 0)).setCell ⟨w.heap.size + 1, 0, none⟩ (.int .i64 (x.err : Nat))).setCell ⟨w.heap.size + 1 + 1, 0, none⟩ (.int .i64 (x.pos : Nat))) (w.heap.size + 1) 24 (.int .i64 (x.err : Nat)) :=
        (Below.heap_setCell _ _ _ _ (by show w.heap.size + 1 ≠ w.heap.size + 1 + 1; omega)).trans (Boxed.set _ ((Below.heap_setCell _ _ _ _ (by show w.heap.size + 1 ≠ w.heap.size; omega)).trans H3.out.1))
      have g4 : Boxed (((W1.setCell ⟨w.heap.size, 0, none⟩ (.slice none 0 0)).setCell ⟨w.heap.size + 1, 0, none⟩ (.int .i64 (x.err : Nat))).setCell ⟨w.heap.size + 1 + 1, 0, none⟩ (.int .i64 (x.pos : Nat))) (w.heap.size + 1 + 1) 3 (.int .i64 (x.pos : Nat)) :=
        Boxed.set _ ((Below.heap_setCell _ _ _ _ (by show w.heap.size + 1 + 1 ≠ w.heap.size + 1; omega)).trans ((Below.heap_setCell _ _ _ _ (by show w.heap.size + 1 + 1 ≠ w.heap.size; omega)).trans H4.out.1))
      have gk : KpX X W1 (((W1.setCell ⟨w.heap.size, 0, none⟩ (.slice none 0 0)).setCell ⟨w.heap.size + 1, 0, none⟩ (.int .i64 (x.err : Nat))).setCell ⟨w.heap.size + 1 + 1, 0, none⟩ (.int .i64 (x.pos : Nat))) :=
        ((KpX.setCell H2.out.2 _).trans (KpX.setCell H3.out.2 _)).trans (KpX.setCell H4.out.2 _)
      have gb : Below w.heap.size w (((W1.setCell ⟨w.heap.size, 0, none⟩ (.slice none 0 0)).setCell ⟨w.heap.size + 1, 0, none⟩ (.int .i64 (x.err : Nat))).setCell ⟨w.heap.size + 1 + 1, 0, none⟩ (.int .i64 (x.pos : Nat))) :=
        ((HB.out.1.setCell (p := ⟨w.heap.size, 0, none⟩) (Nat.le_refl _) _).setCell (p := ⟨w.heap.size + 1, 0, none⟩) (by show w.heap.size ≤ w.heap.size + 1; omega) _).setCell (p := ⟨w.heap.size + 1 + 1, 0, none⟩) (by show w.heap.size ≤ w.heap.size + 1 + 1; omega) _
      have G2 : Hid _ := g2
      have G3 : Hid _ := g3
      have G4 : Hid _ := g4
      have GK : Hid _ := gk
      have GB : Hid _ := gb
      clear g2 g3 g4 gk gb
      gi_region
      all_goals gi_wp2
      all_goals exact ⟨⟨GK.out.size, GK.out.own⟩, rfl, ⟨pre, x, rfl, HQ1.out, hx, ⟨G2.out, H2.out.2⟩, ⟨G3.out, H3.out.2⟩, ⟨G4.out, H4.out.2⟩⟩, GB.out.drew, Nat.le_trans HB.out.2.1 GK.out.size, HB.out.2.2⟩
  case done =>
    rintro D X xs W1 hD hXD rfl ⟨q1, ⟨⟨v, bv, hown, hvX⟩, hX4⟩, ⟨c2, c3, c4⟩, hB⟩ hK
    have HE : Hid (te = (itemsOf s.data.toList, 0, 0)) := HTE.out.symm.trans (tokensE_good q1)
    have hcv := bv.cell
    have e2 := c2.1.cell
    have e3 := c3.1.cell
    have e4 := c4.1.cell
    have f2 := c2.1.frozen
    have f3 := c3.1.frozen
    have f4 := c4.1.frozen
    obtain ⟨ad, cap, rfl⟩ : ∃ ad cap, v = .slice ad (itemsOf s.data.toList).length cap := by
      rcases hown.2 with ⟨rfl, h0⟩ | ⟨g, cap, cur, rfl, _⟩
      · exact ⟨none, 0, by rw [h0]⟩
      · exact ⟨_, _, rfl⟩
    have HO : Hid _ := hown
    have HC2 : Hid (Bx1 _ _ _ _ _) := c2
    have HC3 : Hid (Bx1 _ _ _ _ _) := c3
    have HC4 : Hid (Bx1 _ _ _ _ _) := c4
    have HB : Hid (Bw _ _ _ _) := hB
    have HQ : Hid _ := hK
    clear hown c2 c3 c4 hB hK
    gi_wp2
    rw [HE.out]
    have g2 : Boxed (((W1.setCell ⟨w.heap.size, 0, none⟩ (.slice ad (itemsOf s.data.toList).length cap)).setCell ⟨w.heap.size + 1, 0, none⟩ (.int .i64 0)).setCell ⟨w.heap.size + 1 + 1, 0, none⟩ (.int .i64 0)) w.heap.size 23 (.slice ad (itemsOf s.data.toList).length cap) :=
      (Below.heap_setCell _ _ _ _ (by show w.heap.size ≠ w.heap.size + 1 + 1; omega)).trans ((Below.heap_setCell _ _ _ _ (by show w.heap.size ≠ w.heap.size + 1; omega)).trans (Boxed.set _ HC2.out.1))
    have g3 : Boxed (((W1.setCell ⟨w.heap.size, 0, none⟩ (.slice ad (itemsOf s.data.toList).length cap)).setCell ⟨w.heap.size + 1, 0, none⟩ (.int .i64 0)).setCell ⟨w.heap.size + 1 + 1, 0, none⟩ (.int .i64 0)) (w.heap.size + 1) 24 (.int .i64 0) :=
      (Below.heap_setCell _ _ _ _ (by show w.heap.size + 1 ≠ w.heap.size + 1 + 1; omega)).trans (Boxed.set _ ((Below.heap_setCell _ _ _ _ (by show w.heap.size + 1 ≠ w.heap.size; omega)).trans HC3.out.1))
    have g4 : Boxed (((W1.setCell ⟨w.heap.size, 0, none⟩ (.slice ad (itemsOf s.data.toList).length cap)).setCell ⟨w.heap.size + 1, 0, none⟩ (.int .i64 0)).setCell ⟨w.heap.size + 1 + 1, 0, none⟩ (.int .i64 0)) (w.heap.size + 1 + 1) 3 (.int .i64 0) :=
      Boxed.set _ ((Below.heap_setCell _ _ _ _ (by show w.heap.size + 1 + 1 ≠ w.heap.size + 1; omega)).trans ((Below.heap_setCell _ _ _ _ (by show w.heap.size + 1 + 1 ≠ w.heap.size; omega)).trans HC4.out.1))
    have gK := ((KeepsOthers.setCell W1 ⟨w.heap.size, 0, none⟩ (.slice ad (itemsOf s.data.toList).length cap)).trans (KeepsOthers.setCell _ ⟨w.heap.size + 1, 0, none⟩ (.int .i64 0))).trans (KeepsOthers.setCell _ ⟨w.heap.size + 1 + 1, 0, none⟩ (.int .i64 0))
    have gD := gK.same D _ HQ.out rfl
    refine leaveT rfl rfl rfl g2 g3 g4 gD ⟨_, rfl, ?_, ?_⟩
    · have r1 := own_set (show W1.ownsRow w.heap.size 50 3 (.slice ad (itemsOf s.data.toList).length cap) (itemsOf s.data.toList).length (flatI (itemsOf s.data.toList)) from HO.out) HC2.out.1 (by decide) (.slice ad (itemsOf s.data.toList).length cap)
      have r2 := own_set r1 (box_other HC3.out.1 (by omega)) (by decide) (.int .i64 0)
      have r3 := own_set r2 (box_other (box_other HC4.out.1 (by omega)) (by omega)) (by decide) (.int .i64 0)
      exact ownsRow_putObj r3 _ gD rfl
    · have gb := ((HB.out.1.setCell (p := ⟨w.heap.size, 0, none⟩) (Nat.le_refl _) (.slice ad (itemsOf s.data.toList).length cap)).setCell (p := ⟨w.heap.size + 1, 0, none⟩) (by show w.heap.size ≤ w.heap.size + 1; omega) (.int .i64 0)).setCell (p := ⟨w.heap.size + 1 + 1, 0, none⟩) (by show w.heap.size ≤ w.heap.size + 1 + 1; omega) (.int .i64 0)
      exact gb.trans (belowK_b (w := w) (Nat.le_refl _) _ D _ _ (by have := HB.out.2.2 D hXD; omega) gD rfl rfl)
  case stop =>
    rintro D X c pre W1 hD hXD hpre ⟨rfl, ⟨pre', x, rfl, q5, hx, c2, c3, c4⟩, hB⟩ hK
    have HE : Hid (te = ([], x.err, x.pos)) := HTE.out.symm.trans (tokensE_bad hpre q5 hx)
    gi_wp2
    rw [HE.out]
    exact leaveT rfl rfl rfl c2.1 c3.1 c4.1 hK ⟨_, rfl, ⟨rfl, .inl ⟨rfl, rfl⟩⟩, hB.1.trans (belowK_b (w := w) (Nat.le_refl _) _ D _ _ (by have := hB.2.2 D hXD; omega) hK rfl rfl)⟩
end Go.Proofs.YtilgfnafkcjdgaaDoor
