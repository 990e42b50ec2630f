/- Words by their letters: what the laws ask of Normal, Suffix, Join, Prefix, At, Same. -/
import Derived.Test.YtamfnefnaelgfaaDoorWdRefs
import Derived.Test.YtamfnefnaelgfaaDoorHE
import Derived.Test.YtamfnefnaelgfaaDoorWdJoin
import Derived.Test.YtamfnefnaelgfaaDoorWdSuf
import Derived.Test.YtamfnefnaelgfaaDoorWdPre
import Derived.Test.YtamfnefnaelgfaaDoorWdOnceB
import Derived.Test.YtamfnefnaelgfaaDoorWdWorksX
import Derived.Test.YtamfnefnaelgfaaDoorHG
namespace Go.Proofs.YtamfnefnaelgfaaDoor
open Go.RowKit
attribute [local go_sem ↓] Go.wp_at_zero Go.wp_at_succ

theorem join_at (us : List Nat) (q : Wd) (i : Nat) : (Wd.mk (us ++ q.stem) q.loop).at i = if i < us.length then us.getD i 0 else q.at (i - us.length) := by
  by_cases h : i < us.length
  · rw [if_pos h, Wd.at_lo (by simp; omega)]
    simp [List.getD_eq_getElem?_getD, List.getElem?_append_left h]
  · rw [if_neg h]
    by_cases h2 : i < us.length + q.stem.length
    · rw [Wd.at_lo (by simp; omega), Wd.at_lo (by omega)]
      simp [List.getD_eq_getElem?_getD, List.getElem?_append_right (by omega : us.length ≤ i)]
    · rw [Wd.at_hi (by simp; omega), Wd.at_hi (by omega)]
      simp only [List.length_append]
      congr 1
      omega
def ahead (us : List Nat) (f : Nat → Nat) (i : Nat) : Nat := if i < us.length then us.getD i 0 else f (i - us.length)
theorem join_wat {W : World} {uv x y : Value} {us : List Nat} {f : Nat → Nat} {n : Nat} (hu : Lets W uv us) (h : Wat W x y f n) (hn : us.length + n ≤ 70368744177664) : Calls Tryd.prog 20 #[uv, .agg #[x, y]] W (Makes W (ahead us f) (us.length + n)) := by
  obtain ⟨r, h1, h2, h3, h4⟩ := h
  refine makes_of (join_any uv x y us r W hu h1 (by omega)) h2 (fun i => ?_) (by simp; omega) hn
  rw [join_at]
  unfold ahead
  split
  · rfl
  · rw [h3]
theorem at_wat {W : World} {x y : Value} {f : Nat → Nat} {n : Nat} (h : Wat W x y f n) (i : Nat) (hi : i ≤ 9223372036854775807) : Calls Tryd.prog 18 #[.agg #[x, y], .int .i64 (i : Nat)] W fun e w1 => e = .returned (.int .u16 (f i : Nat)) ∧ Hid (Kept [] W w1) := by
  obtain ⟨r, h1, h2, h3, h4⟩ := h
  have := at_any x y r i W h1 (by omega)
  unfold atI at this
  rw [if_neg (by omega), Int.toNat_natCast, h3] at this
  exact this
theorem same_made {W : World} {x y x' y' : Value} {f g : Nat → Nat} {n m : Nat} (h : Made W x y f n) (h' : Made W x' y' g m) (e : ∀ i, f i = g i) : Calls Tryd.prog 8 #[.agg #[x, y], .agg #[x', y']] W fun e w1 => e = .returned (.bool true) ∧ Hid (Kept [] W w1) := by
  obtain ⟨r, h1, h2, h3, h4⟩ := h
  obtain ⟨r', h1', h2', h3', h4'⟩ := h'
  obtain rfl : r = r' := h2.unique h2' (fun i => by rw [h3, h3', e])
  have := sameWord_any x y x' y' r r W h1.st h1.lp h1'.st h1'.lp
  rw [eqW_iff.2 rfl] at this
  exact this
theorem prefix_wat {W : World} {x y : Value} {f : Nat → Nat} {n : Nat} (h : Wat W x y f n) (k : Nat) (hk : k ≤ 65536) : Calls Tryd.prog 21 #[.agg #[x, y], .int .i64 (k : Nat)] W fun e w1 => ∃ g, e = .returned (.slice (some ⟨g, 0, none⟩) k k) ∧ Hid (Lets w1 (.slice (some ⟨g, 0, none⟩) k k) ((List.range k).map f)) ∧ Hid (Kept [] W w1) := by
  obtain ⟨r, h1, h2, h3, h4⟩ := h
  refine (prefix_some x y r k W h1 h2 hk).mono ?_
  rintro e w1 ⟨g, rfl, ho, hk1⟩
  have e1 : prefN r k = (List.range k).map f := by unfold prefN; rw [funext h3]
  have hl : Lets w1 (.slice (some ⟨g, 0, none⟩) k k) (prefN r k) := lets_own ho (fun z hz => by
    obtain ⟨j, _, rfl⟩ := List.mem_map.1 hz
    exact at_small h1.st.small h1.lp.small j) (by rw [prefN_len]; omega)
  rw [e1] at hl
  exact ⟨g, rfl, hl, hk1⟩
set_option maxHeartbeats 800000 in
theorem pick_any (c m : Int) (w : World) (hc : -9223372036854775808 ≤ c ∧ c ≤ 9223372036854775807) (hm : 0 < m) (hm2 : m ≤ 1099511627776) :
    Calls Tryd.prog 5 #[.int .i64 c, .int .i64 m] w fun e w' => ∃ k : Nat, e = .returned (.int .i64 (k : Nat)) ∧ (k : Int) < m ∧ w' = w := by
  obtain ⟨d, hd⟩ : ∃ d : Int, (if c < 0 then -(c + 1) else c) = d := ⟨_, rfl⟩
  have hd0 : 0 ≤ d ∧ d ≤ 9223372036854775807 := by rw [← hd]; split <;> omega
  have t1 : d.tmod m = ((d % m).toNat : Int) := by
    rw [Int.tmod_eq_emod_of_nonneg hd0.1, Int.toNat_of_nonneg (Int.emod_nonneg _ (by omega))]
  have t2 : ((d % m).toNat : Int) < m := by rw [Int.toNat_of_nonneg (Int.emod_nonneg _ (by omega))]; exact Int.emod_lt_of_pos _ hm
  have HT2 : Hid _ := t2
  obtain ⟨k, hk⟩ : ∃ k : Nat, (d % m).toNat = k := ⟨_, rfl⟩
  rw [hk] at t1 HT2
  have hm0 : ¬ m = 0 := by omega
  clear t2 hk
  by_cases h : c < 0
  · have e1 : d = -(c + 1) := by rw [← hd, if_pos h]
    have e3 : -((c + 1).tmod m) = (k : Int) := by rw [← Int.neg_tmod, ← e1]; exact t1
    have E3 : Hid (-((c + 1).tmod m) = (k : Int)) := e3
    clear hd e1 t1 hd0 e3
    go_enter Tryd.func5, Tryd.ntmps5
    go_wp2
    go_ret
    exact ⟨k, by rw [← E3.out]; rfl, HT2.out, rfl⟩
  · obtain rfl : c = d := by rw [← hd, if_neg h]
    clear hd
    go_enter Tryd.func5, Tryd.ntmps5
    go_wp2
    go_ret
    exact ⟨k, rfl, HT2.out, rfl⟩
end Go.Proofs.YtamfnefnaelgfaaDoor

/- WordsOnce: what its loop carries. -/
namespace Go.Proofs.YtamfnefnaelgfaaDoor
open Go.RowKit Go.Shelf

theorem row_at {W : World} {base : Nat} {e : TypeId} {v : Value} {n g : Nat} {xs : List Value} (h : W.ownsRow base e 1 v n xs) (hg : v.ownBlock = some g) : ∃ cur, W.heap[g]? = some (.cells cur e (0, 0)) := by
  rcases h.2 with ⟨rfl, _⟩ | ⟨b, cap, cur, rfl, _, hb, _⟩
  · cases hg
  · have e : b = g := by simpa [Value.ownBlock] using hg
    subst e
    exact ⟨cur, hb⟩
/-- Is a word among these? -/
def inB (r : Wd) (l : List Wd) : Bool := l.any fun q => eqW q r
theorem inB_iff {r : Wd} {l : List Wd} : inB r l = true ↔ r ∈ l := by
  unfold inB
  rw [List.any_eq_true]
  constructor
  · rintro ⟨q, hq, he⟩
    rw [← eqW_iff.1 he]; exact hq
  · exact fun h => ⟨r, h, eqW_iff.2 rfl⟩
/-- A word's rows, none of them in X. -/
structure RowX (X : Nat → Prop) (W : World) (v1 v2 : Value) (q : Wd) : Prop where
  new : ∃ n₀, NewW n₀ W v1 v2 q
  off1 : ∀ g, v1.ownBlock = some g → ¬ X g
  off2 : ∀ g, v2.ownBlock = some g → ¬ X g
theorem RowX.more {X X' : Nat → Prop} {W : World} {v1 v2 : Value} {q : Wd} (h : RowX X W v1 v2 q) (hX : ∀ k, X' k → X k ∨ W.heap.size ≤ k) : RowX X' W v1 v2 q := by
  obtain ⟨n, hn⟩ := h.new
  refine ⟨h.new, fun g hg hx => ?_, fun g hg hx => ?_⟩
  · rcases hX g hx with q | q
    · exact h.off1 g hg q
    · have := owns_lt hn.own1 hg; omega
  · rcases hX g hx with q | q
    · exact h.off2 g hg q
    · have := owns_lt hn.own2 hg; omega
theorem RowX.turn {X : Nat → Prop} {W W' : World} {row : Option Nat} {v1 v2 : Value} {q : Wd} (h : RowX X W v1 v2 q) (hg : W.grownBy W' row) (hr : ∀ r, row = some r → X r) : RowX X W' v1 v2 q := by
  obtain ⟨n, hn⟩ := h.new
  have key : ∀ v : Value, (∀ g, v.ownBlock = some g → ¬ X g) → v.ownBlock = none ∨ v.ownBlock ≠ row := fun v hv => by
    cases e : v.ownBlock with
    | none => exact .inl rfl
    | some g => exact .inr (fun e2 => hv g e (hr g e2.symm))
  exact ⟨⟨n, hn.own1.kept hg (key v1 h.off1), hn.own2.kept hg (key v2 h.off2), hn.apart, hn.small1, hn.small2, hn.few1, hn.few2⟩, h.off1, h.off2⟩
theorem RowX.kept {X : Nat → Prop} {W W' : World} {v1 v2 : Value} {q : Wd} (h : RowX X W v1 v2 q) (k : Kept [] W W') : RowX X W' v1 v2 q := h.turn (grownBy_of_kept k) (fun r e => by cases e)
theorem RowX.set {X : Nat → Prop} {W : World} {v1 v2 : Value} {q : Wd} {B o : Nat} {cs : Array Value} {t : TypeId} {fz : Nat × Nat} (h : RowX X W v1 v2 q) (hB : W.heap[B]? = some (.cells cs t fz)) (ht : t ≠ 51) (v : Value) : RowX X (W.setCell ⟨B, o, none⟩ v) v1 v2 q := by
  obtain ⟨n, hn⟩ := h.new
  have k : Kept [B] W (W.setCell ⟨B, o, none⟩ v) := (Kept.refl _ W).setCell (.inl (by simp)) _
  have key : ∀ {u : Value} {m : Nat} {ys : List Value}, W.ownsRow n 51 1 u m ys → ∀ g, u.ownBlock = some g → g ∉ [B] := fun ho g hg hm => by
    obtain rfl : g = B := by simpa using hm
    obtain ⟨cur, e⟩ := row_at ho hg
    rw [hB] at e
    cases e
    exact ht rfl
  exact ⟨⟨n, owns_keptF hn.own1 k (key hn.own1), owns_keptF hn.own2 k (key hn.own2), hn.apart, hn.small1, hn.small2, hn.few1, hn.few2⟩, h.off1, h.off2⟩
theorem RowX.isW {X : Nat → Prop} {W : World} {v1 v2 : Value} {q : Wd} (h : RowX X W v1 v2 q) (hf : q.stem.length + q.loop.length ≤ 70368744177664) : IsW W v1 v2 q := by
  obtain ⟨n, hn⟩ := h.new
  exact ⟨hn.lets1, hn.lets2, hf⟩
theorem RowX.lets {X : Nat → Prop} {W : World} {v1 v2 : Value} {q : Wd} (h : RowX X W v1 v2 q) : Lets W v1 q.stem ∧ Lets W v2 q.loop := by
  obtain ⟨n, hn⟩ := h.new
  exact ⟨hn.lets1, hn.lets2⟩
/-- The word before. -/
def LastX (L : List Wd) (l1 l2 : Value) (X : Nat → Prop) (pre : List Nw) (W : World) : Prop :=
  (pre = [] ∧ l1 = .slice none 0 0 ∧ l2 = .slice none 0 0) ∨ ∃ p y, pre = p ++ [y] ∧ l1 = .slice y.a1 y.q.stem.length y.c1 ∧ l2 = .slice y.a2 y.q.loop.length y.c2 ∧ RowX X W l1 l2 y.q ∧ y.q ∈ L
/-- What the loop carries. -/
structure OnS (w : World) (L : List Wd) (Br Bk Bn Bm Bf Bl k n : Nat) (m1 m2 : Value) (r : Wd) (X : Nat → Prop) (pre : List Nw) (W : World) : Prop where
  res : Bx1 Br 4 (.bool false) X W
  bk : Bx1 Bk 3 (.int .i64 (k : Nat)) X W
  bn : Bx1 Bn 3 (.int .i64 (n : Nat)) X W
  bm : Blk Bm #[m1, m2] 47 X W
  rm : RowX X W m1 m2 r
  bf : Bx1 Bf 4 (.bool (inB r (pre.map Nw.q))) X W
  last : ∃ l1 l2, Blk Bl #[l1, l2] 47 X W ∧ LastX L l1 l2 X pre W
  low : Bw w.heap.size w X W
theorem onS_abide {w : World} {L : List Wd} {Br Bk Bn Bm Bf Bl k n : Nat} {m1 m2 : Value} {r : Wd} : Abide (OnS w L Br Bk Bn Bm Bf Bl k n m1 m2 r) := by
  refine ⟨fun {X X' pre W} h hX => ?_, fun {X pre W W' row} h hg hr => ?_⟩
  · obtain ⟨l1, l2, hb, hl⟩ := h.last
    refine ⟨h.res.more hX, h.bk.more hX, h.bn.more hX, h.bm.more hX, h.rm.more hX, h.bf.more hX, ⟨l1, l2, hb.more hX, ?_⟩, h.low.more hX⟩
    rcases hl with hl | ⟨p, y, e, e1, e2, hrow, hm⟩
    · exact .inl hl
    · exact .inr ⟨p, y, e, e1, e2, hrow.more hX, hm⟩
  · obtain ⟨l1, l2, hb, hl⟩ := h.last
    refine ⟨h.res.turn hg hr, h.bk.turn hg hr, h.bn.turn hg hr, h.bm.turn hg hr, h.rm.turn hg hr, h.bf.turn hg hr, ⟨l1, l2, hb.turn hg hr, ?_⟩, h.low.turn hg hr⟩
    rcases hl with hl | ⟨p, y, e, e1, e2, hrow, hm⟩
    · exact .inl hl
    · exact .inr ⟨p, y, e, e1, e2, hrow.turn hg hr, hm⟩
/-- The boxes that a round reads. -/
structure OnC (W : World) (Br Bx Bl Bm Bf Bk Bn k n : Nat) (x1 x2 l1 l2 m1 m2 : Value) (fd : Bool) : Prop where
  x : Wd2 W Bx x1 x2
  l : Wd2 W Bl l1 l2
  m : Wd2 W Bm m1 m2
  f : Boxed W Bf 4 (.bool fd)
  k : Boxed W Bk 3 (.int .i64 (k : Nat))
  n : Boxed W Bn 3 (.int .i64 (n : Nat))
  r : Boxed W Br 4 (.bool false)
theorem OnC.kept {W W' : World} {Br Bx Bl Bm Bf Bk Bn k n : Nat} {x1 x2 l1 l2 m1 m2 : Value} {fd : Bool} (h : OnC W Br Bx Bl Bm Bf Bk Bn k n x1 x2 l1 l2 m1 m2 fd) (q : Kept [] W W') : OnC W' Br Bx Bl Bm Bf Bk Bn k n x1 x2 l1 l2 m1 m2 fd :=
  ⟨h.x.kept q, h.l.kept q, h.m.kept q, q.at h.f (by simp), q.at h.k (by simp), q.at h.n (by simp), q.at h.r (by simp)⟩
theorem OnC.cells {W : World} {Br Bx Bl Bm Bf Bk Bn k n : Nat} {x1 x2 l1 l2 m1 m2 : Value} {fd : Bool} (h : OnC W Br Bx Bl Bm Bf Bk Bn k n x1 x2 l1 l2 m1 m2 fd) :
    (W.cell? ⟨Bx, 0, none⟩ = some x1 ∧ W.cell? ⟨Bx, 1, none⟩ = some x2) ∧ (W.cell? ⟨Bl, 0, none⟩ = some l1 ∧ W.cell? ⟨Bl, 1, none⟩ = some l2) ∧ (W.cell? ⟨Bm, 0, none⟩ = some m1 ∧ W.cell? ⟨Bm, 1, none⟩ = some m2) ∧ W.cell? ⟨Bf, 0, none⟩ = some (.bool fd) ∧ W.cell? ⟨Bk, 0, none⟩ = some (.int .i64 (k : Nat)) ∧ W.cell? ⟨Bn, 0, none⟩ = some (.int .i64 (n : Nat)) ∧ W.cell? ⟨Br, 0, none⟩ = some (.bool false) :=
  ⟨⟨h.x.cells.1, h.x.cells.2.1⟩, ⟨h.l.cells.1, h.l.cells.2.1⟩, ⟨h.m.cells.1, h.m.cells.2.1⟩, h.f.cell, h.k.cell, h.n.cell, h.r.cell⟩
theorem OnC.frees {W : World} {Br Bx Bl Bm Bf Bk Bn k n : Nat} {x1 x2 l1 l2 m1 m2 : Value} {fd : Bool} (h : OnC W Br Bx Bl Bm Bf Bk Bn k n x1 x2 l1 l2 m1 m2 fd) :
    W.frozen? ⟨Bl, 0, none⟩ = false ∧ W.frozen? ⟨Bl, 1, none⟩ = false ∧ W.frozen? ⟨Bf, 0, none⟩ = false ∧ W.frozen? ⟨Br, 0, none⟩ = false :=
  ⟨h.l.cells.2.2.1, h.l.cells.2.2.2, h.f.frozen, h.r.frozen⟩
theorem mem_snoc {r : Wd} {pre : List Nw} {x : Nw} : inB r ((pre ++ [x]).map Nw.q) = (inB r (pre.map Nw.q) || eqW x.q r) := by
  unfold inB
  rw [List.map_append, List.any_append]
  simp
/-- Which boxes are which. -/
structure OnD (w : World) (T : Nat → Prop) (Br Bk Bn Bm Bf Bl : Nat) : Prop where
  fr : Bf ≠ Br
  fk : Bf ≠ Bk
  fn : Bf ≠ Bn
  fm : Bf ≠ Bm
  fl : Bf ≠ Bl
  lr : Bl ≠ Br
  lk : Bl ≠ Bk
  ln : Bl ≠ Bn
  lm : Bl ≠ Bm
  tf : ¬ T Bf
  tl : ¬ T Bl
  wf : w.heap.size ≤ Bf
  wl : w.heap.size ≤ Bl
/-- A round's end: what was found, the word before. -/
theorem on_step {w : World} {L : List Wd} {T X : Nat → Prop} {Br Bk Bn Bm Bf Bl k n : Nat} {m1 m2 : Value} {r : Wd} {pre : List Nw} {x : Nw} {W W2 : World} {fd' : Bool} (h : OnS w L Br Bk Bn Bm Bf Bl k n m1 m2 r X pre W) (hd : OnD w T Br Bk Bn Bm Bf Bl) (hat : NwAt L X x W) (q : Kept [] W W2) (hfd : fd' = inB r ((pre ++ [x]).map Nw.q)) :
    KpX (orT T X) W (((W2.setCell ⟨Bf, 0, none⟩ (.bool fd')).setCell ⟨Bl, 0, none⟩ (.slice x.a1 x.q.stem.length x.c1)).setCell ⟨Bl, 1, none⟩ (.slice x.a2 x.q.loop.length x.c2)) ∧
    OnS w L Br Bk Bn Bm Bf Bl k n m1 m2 r X (pre ++ [x]) (((W2.setCell ⟨Bf, 0, none⟩ (.bool fd')).setCell ⟨Bl, 0, none⟩ (.slice x.a1 x.q.stem.length x.c1)).setCell ⟨Bl, 1, none⟩ (.slice x.a2 x.q.loop.length x.c2)) := by
  obtain ⟨l1, l2, hb, _⟩ := h.last
  have hbl2 : W2.heap[Bl]? = some (.cells #[l1, l2] 47 (0, 0)) := q.at hb.1 (by simp)
  have hbf2 : W2.heap[Bf]? = some (.cells #[.bool (inB r (pre.map Nw.q))] 4 (0, 0)) := q.at h.bf.1 (by simp)
  have hbl3 : (W2.setCell ⟨Bf, 0, none⟩ (.bool fd')).heap[Bl]? = some (.cells #[l1, l2] 47 (0, 0)) := (Below.heap_setCell _ _ _ _ (fun e => hd.fl e.symm)).trans hbl2
  have hbl4 : ((W2.setCell ⟨Bf, 0, none⟩ (.bool fd')).setCell ⟨Bl, 0, none⟩ (.slice x.a1 x.q.stem.length x.c1)).heap[Bl]? = some (.cells #[.slice x.a1 x.q.stem.length x.c1, l2] 47 (0, 0)) := by rw [row_set hbl3]; rfl
  have nXf : ¬ orT T X Bf := fun h' => h'.elim h.bf.2 hd.tf
  have nXl : ¬ orT T X Bl := fun h' => h'.elim hb.2 hd.tl
  have row3 : ∀ {v1 v2 : Value} {z : Wd}, RowX X W v1 v2 z → RowX X (((W2.setCell ⟨Bf, 0, none⟩ (.bool fd')).setCell ⟨Bl, 0, none⟩ (.slice x.a1 x.q.stem.length x.c1)).setCell ⟨Bl, 1, none⟩ (.slice x.a2 x.q.loop.length x.c2)) v1 v2 z := fun hr => (((hr.kept q).set hbf2 (by decide) _).set hbl3 (by decide) _).set hbl4 (by decide) _
  refine ⟨(KpX.of_kept q).trans (((KpX.setCell (p := ⟨Bf, 0, none⟩) nXf _).trans (KpX.setCell (p := ⟨Bl, 0, none⟩) nXl _)).trans (KpX.setCell (p := ⟨Bl, 1, none⟩) nXl _)), ?_⟩
  refine ⟨(((h.res.kept0 q).other hd.fr.symm).other hd.lr.symm).other hd.lr.symm, (((h.bk.kept0 q).other hd.fk.symm).other hd.lk.symm).other hd.lk.symm, (((h.bn.kept0 q).other hd.fn.symm).other hd.ln.symm).other hd.ln.symm, (((h.bm.kept0 q).other hd.fm.symm).other hd.lm.symm).other hd.lm.symm, row3 h.rm, ?_, ?_, (((h.low.kept0 q).set hd.wf _).set hd.wl _).set hd.wl _⟩
  · rw [← hfd]
    exact (((h.bf.kept0 q).set _).other hd.fl).other hd.fl
  · refine ⟨_, _, ⟨?_, hb.2⟩, .inr ⟨pre, x, rfl, rfl, rfl, row3 ⟨hat.new, hat.off1, hat.off2⟩, hat.mem⟩⟩
    rw [row_set hbl4]; rfl
end Go.Proofs.YtamfnefnaelgfaaDoor

/- WordsAll: what its loops carry. -/
namespace Go.Proofs.YtamfnefnaelgfaaDoor
open Go.RowKit Go.Shelf

theorem owns_rebase {W : World} {b Z : Nat} {e : TypeId} {v : Value} {n : Nat} {xs : List Value} (h : W.ownsRow b e 1 v n xs) (hz : ∀ g, v.ownBlock = some g → Z ≤ g) : W.ownsRow Z e 1 v n xs := by
  refine ⟨h.1, h.2.imp id ?_⟩
  rintro ⟨g, cap, cur, rfl, _, rest⟩
  exact ⟨g, cap, cur, rfl, hz g rfl, rest⟩
/-- Boxes of the caller's. -/
def BoxesX (l : List (Nat × TypeId × Value)) (X : Nat → Prop) (W : World) : Prop := ∀ b ∈ l, Bx1 b.1 b.2.1 b.2.2 X W
theorem BoxesX.more {l : List (Nat × TypeId × Value)} {X X' : Nat → Prop} {W : World} (h : BoxesX l X W) (hX : ∀ k, X' k → X k ∨ W.heap.size ≤ k) : BoxesX l X' W := fun b hb => (h b hb).more hX
theorem BoxesX.turn {l : List (Nat × TypeId × Value)} {X : Nat → Prop} {W W' : World} {row : Option Nat} (h : BoxesX l X W) (hg : W.grownBy W' row) (hr : ∀ r, row = some r → X r) : BoxesX l X W' := fun b hb => (h b hb).turn hg hr
theorem BoxesX.kept0 {l : List (Nat × TypeId × Value)} {X : Nat → Prop} {W W' : World} (h : BoxesX l X W) (k : Kept [] W W') : BoxesX l X W' := fun b hb => (h b hb).kept0 k
theorem BoxesX.other {l : List (Nat × TypeId × Value)} {X : Nat → Prop} {W : World} {C o : Nat} {u : Value} (h : BoxesX l X W) (hC : ∀ b ∈ l, b.1 ≠ C) : BoxesX l X (W.setCell ⟨C, o, none⟩ u) := fun b hb => (h b hb).other (hC b hb)
theorem BoxesX.keptF {l : List (Nat × TypeId × Value)} {X : Nat → Prop} {W W' : World} {F : List Nat} (h : BoxesX l X W) (k : Kept F W W') (hF : ∀ g ∈ F, ∃ c t, W.heap[g]? = some (.cells c t (0, 0)) ∧ ∀ b ∈ l, b.2.1 ≠ t) : BoxesX l X W' := fun b hb => (h b hb).keptF k (fun hm => by
  obtain ⟨c, t, e, ht⟩ := hF _ hm
  have := (h b hb).1
  rw [show W.heap[b.1]? = _ from this] at e
  cases e
  exact ht b hb rfl)
/-- What stands in the book behind these. -/
def bkV (pre : List Nw) : List Value := pre.flatMap fun x => [.slice x.a1 x.q.stem.length x.c1, .slice x.a2 x.q.loop.length x.c2]
def bkL (pre : List Nw) : List (List Nat) := pre.flatMap fun x => [x.q.stem, x.q.loop]
theorem bkV_snoc {pre : List Nw} {x : Nw} (vs : List Value) : vs ++ bkV (pre ++ [x]) = vs ++ bkV pre ++ [.slice x.a1 x.q.stem.length x.c1] ++ [.slice x.a2 x.q.loop.length x.c2] := by simp [bkV]
theorem bkL_snoc {pre : List Nw} {x : Nw} (xs : List (List Nat)) : xs ++ bkL (pre ++ [x]) = xs ++ bkL pre ++ [x.q.stem] ++ [x.q.loop] := by simp [bkL]
theorem bkV_len (pre : List Nw) : (bkV pre).length = 2 * pre.length := by
  induction pre with
  | nil => rfl
  | cons x l ih => simp only [bkV, List.flatMap_cons, List.length_append] at ih ⊢; rw [ih]; simp; omega
/-- What the outer loop carries. -/
structure AlS (w : World) (ds : List Nat) (Z D B Bk n : Nat) (fx : List (Nat × TypeId × Value)) (wv : Value) (wl : List Wd) (vs : List Value) (xs : List (List Nat)) (X : Nat → Prop) (pre : List Nw) (W : World) : Prop where
  fix : BoxesX fx X W
  want : WdsD D W wv wl
  hi : ∀ k, X k → D ≤ k
  dz : D ≤ W.heap.size
  bk : Bx1 Bk 3 (.int .i64 (pre.length : Nat)) X W
  book : ∃ lv, BookX X W Z Z B lv (vs ++ bkV pre) (xs ++ bkL pre)
  short : pre.length ≤ n
  dfr : ∀ d ∈ ds, W.heap[d]? = some (.deferred (some [])) ∧ ¬ X d
  low : Bw w.heap.size w X W
theorem alS_abide {w : World} {ds : List Nat} {Z D B Bk n : Nat} {fx : List (Nat × TypeId × Value)} {wv : Value} {wl : List Wd} {vs : List Value} {xs : List (List Nat)} : Abide (AlS w ds Z D B Bk n fx wv wl vs xs) := by
  refine ⟨fun {X X' pre W} h hX => ?_, fun {X pre W W' row} h hg hr => ?_⟩
  · obtain ⟨lv, hb⟩ := h.book
    exact ⟨h.fix.more hX, h.want, fun k hk => (hX k hk).elim (h.hi k) (fun q => Nat.le_trans h.dz q), h.dz, h.bk.more hX, ⟨lv, hb.more hX⟩, h.short, fun d hd => ⟨(h.dfr d hd).1, fun hk => (hX d hk).elim (h.dfr d hd).2 (fun q => by have := lt_of (h.dfr d hd).1; omega)⟩, h.low.more hX⟩
  · obtain ⟨lv, hb⟩ := h.book
    exact ⟨h.fix.turn hg hr, h.want.turn h.hi hg hr, h.hi, Nat.le_trans h.dz hg.size, h.bk.turn hg hr, ⟨lv, hb.turn hg hr⟩, h.short, fun d hd => ⟨(hg.block d (lt_of (h.dfr d hd).1) (fun e => (h.dfr d hd).2 (hr d e.symm))).trans (h.dfr d hd).1, (h.dfr d hd).2⟩, h.low.turn hg hr⟩
theorem AlS.kept {w : World} {ds : List Nat} {Z D B Bk n : Nat} {fx : List (Nat × TypeId × Value)} {wv : Value} {wl : List Wd} {vs : List Value} {xs : List (List Nat)} {X : Nat → Prop} {pre : List Nw} {W W' : World} (h : AlS w ds Z D B Bk n fx wv wl vs xs X pre W) (k : Kept [] W W') : AlS w ds Z D B Bk n fx wv wl vs xs X pre W' := alS_abide.kept h k
/-- The book's call, within a round: the state with one word more, but for k. -/
structure AlM (w : World) (ds : List Nat) (Z D B Bk n : Nat) (fx : List (Nat × TypeId × Value)) (wv : Value) (wl : List Wd) (vs : List Value) (xs : List (List Nat)) (X : Nat → Prop) (pre : List Nw) (x : Nw) (W : World) : Prop where
  fix : BoxesX fx X W
  want : WdsD D W wv wl
  hi : ∀ k, X k → D ≤ k
  dz : D ≤ W.heap.size
  bk : Bx1 Bk 3 (.int .i64 (pre.length : Nat)) X W
  book : ∃ lv, BookX X W Z Z B lv (vs ++ bkV (pre ++ [x])) (xs ++ bkL (pre ++ [x]))
  short : pre.length ≤ n
  dfr : ∀ d ∈ ds, W.heap[d]? = some (.deferred (some [])) ∧ ¬ X d
  low : Bw w.heap.size w X W
theorem alM_abide {w : World} {ds : List Nat} {Z D B Bk n : Nat} {fx : List (Nat × TypeId × Value)} {wv : Value} {wl : List Wd} {vs : List Value} {xs : List (List Nat)} {pre : List Nw} {x : Nw} : Abide (fun X (_ : List Nw) W => AlM w ds Z D B Bk n fx wv wl vs xs X pre x W) := by
  refine ⟨fun {X X' _ W} h hX => ?_, fun {X _ W W' row} h hg hr => ?_⟩
  · obtain ⟨lv, hb⟩ := h.book
    exact ⟨h.fix.more hX, h.want, fun k hk => (hX k hk).elim (h.hi k) (fun q => Nat.le_trans h.dz q), h.dz, h.bk.more hX, ⟨lv, hb.more hX⟩, h.short, fun d hd => ⟨(h.dfr d hd).1, fun hk => (hX d hk).elim (h.dfr d hd).2 (fun q => by have := lt_of (h.dfr d hd).1; omega)⟩, h.low.more hX⟩
  · obtain ⟨lv, hb⟩ := h.book
    exact ⟨h.fix.turn hg hr, h.want.turn h.hi hg hr, h.hi, Nat.le_trans h.dz hg.size, h.bk.turn hg hr, ⟨lv, hb.turn hg hr⟩, h.short, fun d hd => ⟨(hg.block d (lt_of (h.dfr d hd).1) (fun e => (h.dfr d hd).2 (hr d e.symm))).trans (h.dfr d hd).1, (h.dfr d hd).2⟩, h.low.turn hg hr⟩
theorem AlM.kept {w : World} {ds : List Nat} {Z D B Bk n : Nat} {fx : List (Nat × TypeId × Value)} {wv : Value} {wl : List Wd} {vs : List Value} {xs : List (List Nat)} {X : Nat → Prop} {pre : List Nw} {x : Nw} {W W' : World} (h : AlM w ds Z D B Bk n fx wv wl vs xs X pre x W) (k : Kept [] W W') : AlM w ds Z D B Bk n fx wv wl vs xs X pre x W' := (alM_abide (pre := pre) (x := x)).kept (pre := ([] : List Nw)) h k
/-- Which types no box of the caller's has. -/
def FxOk (w : World) (T : Nat → Prop) (B Bk : Nat) (fx : List (Nat × TypeId × Value)) : Prop :=
  (∀ b ∈ fx, b.2.1 ≠ 45 ∧ b.2.1 ≠ 44 ∧ b.1 ≠ Bk) ∧ ¬ T Bk ∧ ¬ T B ∧ w.heap.size ≤ Bk ∧ w.heap.size ≤ B ∧ (∀ k, T k → ∃ b ∈ fx, b.1 = k)
set_option maxHeartbeats 1000000 in
theorem alS_word {w : World} {ds : List Nat} {T : Nat → Prop} {Z D B Bk n : Nat} {fx : List (Nat × TypeId × Value)} {wv : Value} {wl L : List Wd} {vs : List Value} {xs : List (List Nat)} {X : Nat → Prop} {pre : List Nw} {x : Nw} {W W2 : World}
    (h : AlS w ds Z D B Bk n fx wv wl vs xs X pre W) (hf : FxOk w T B Bk fx) (hZ : w.heap.size ≤ Z) (hat : NwAt L X x W) (hfr : ∃ W0, AlS w ds Z D B Bk n fx wv wl vs xs X pre W0 ∧ FrNw W0.heap.size x) (hvs : vs.length ≤ 1000) (hn : n ≤ 1000) (hXb : ∀ k, X k → k < W.heap.size) (q : Kept [] W W2) :
    Calls Tryd.prog 9 #[.pointer (some ⟨B, 0, none⟩), .agg #[.slice x.a1 x.q.stem.length x.c1, .slice x.a2 x.q.loop.length x.c2]] W2 fun e w' => (∃ v, e = .returned v) ∧ Hid (AlM w ds Z D B Bk n fx wv wl vs xs X pre x w') ∧ Hid (KpX (orT T X) W2 w') ∧ Hid (∀ (b : Nat) (c : Array Value) (t : TypeId), W2.heap[b]? = some (.cells c t (0, 0)) → t ≠ 45 → t ≠ 44 → w'.heap[b]? = some (.cells c t (0, 0))) := by
  obtain ⟨W0, h0, f1, f2, f3, f4⟩ := hfr
  obtain ⟨n0, hnew⟩ := hat.new
  have hnew2 := hnew.kept q
  have h2 := h.kept q
  obtain ⟨lv, hb⟩ := h2.book
  obtain ⟨lv0, hb0⟩ := h0.book
  have hlt0 := hb0.book.ltAll
  have hZ0 : Z ≤ W0.heap.size := hb0.book.low'
  have hlen := bkV_len pre
  have hshort := h.short
  have hfr : ∀ v ∈ vs ++ bkV pre, ∀ g, v.ownBlock = some g → g < W0.heap.size := fun v hv g hg => hlt0 g (List.mem_append_right _ (List.mem_filterMap.2 ⟨v, hv, hg⟩))
  have hbF : ∀ g ∈ bookF B lv, ∃ c t, W2.heap[g]? = some (.cells c t (0, 0)) ∧ (t = 45 ∨ t = 44) := fun g hg => by
    rcases List.mem_cons.1 hg with rfl | q
    · exact ⟨_, _, hb.book.head, .inr rfl⟩
    · obtain ⟨c, e⟩ := row_type hb.book.inn.list (show lv.ownBlock = some g by simpa using q)
      exact ⟨c, _, e, .inl rfl⟩
  have hbZ : ∀ g ∈ bookF B lv, w.heap.size ≤ g := fun g hg => by
    rcases List.mem_cons.1 hg with rfl | q
    · exact hf.2.2.2.2.1
    · exact Nat.le_trans hZ (own_base hb.book.inn.list (show lv.ownBlock = some g by simpa using q))
  refine (bookWord_any B Z Z lv (vs ++ bkV pre) (xs ++ bkL pre) _ _ x.q.stem x.q.loop W2 hb.book (owns_rebase hnew2.own1 fun g hg => Nat.le_trans hZ0 (f1 g hg)) (owns_rebase hnew2.own2 fun g hg => Nat.le_trans hZ0 (f2 g hg)) (fun v hv g hg e => by have := hfr v hv g hg; have := f1 g e; omega) (fun v hv g hg e => by have := hfr v hv g hg; have := f2 g e; omega) hnew2.apart (by rw [List.length_append]; omega) (by omega) (by omega)).mono ?_
  rintro e w' ⟨he, lv', hb', k', hl'⟩
  have key : ∀ (b : Nat) (c : Array Value) (t : TypeId), W2.heap[b]? = some (.cells c t (0, 0)) → t ≠ 45 → t ≠ 44 → w'.heap[b]? = some (.cells c t (0, 0)) := fun b c t hbt h1 h2 => by
    refine k'.at hbt (fun hm => ?_)
    obtain ⟨c', t', e', ht⟩ := hbF b hm
    rw [hbt] at e'
    cases e'
    exact ht.elim h1 h2
  have hXz : ∀ g, X g → g ∉ bookF B lv := fun g hg hm => hb.off g (List.mem_append_left _ hm) hg
  refine ⟨he, ⟨fun b hbx => ⟨key _ _ _ (h2.fix b hbx).1 (hf.1 b hbx).1 (hf.1 b hbx).2.1, (h2.fix b hbx).2⟩, ?_, h2.hi, Nat.le_trans h2.dz k'.size, ⟨key _ _ _ h2.bk.1 (by decide) (by decide), h2.bk.2⟩, ⟨lv', ?_⟩, h2.short, fun d hd => ⟨k'.at (h2.dfr d hd).1 (fun hm => by obtain ⟨c, t, e, _⟩ := hbF d hm; rw [(h2.dfr d hd).1] at e; cases e), (h2.dfr d hd).2⟩, h2.low.keptF k' hbZ⟩, ?_, key⟩
  · refine h2.want.other k' (fun g hg => ?_)
    obtain ⟨c, t, e, ht⟩ := hbF g hg
    refine ⟨fun cur e2 => ?_, fun cur e2 => ?_⟩
    · rw [e] at e2; cases e2; rcases ht with ht | ht <;> exact absurd ht (by decide)
    · rw [e] at e2; cases e2; rcases ht with ht | ht <;> exact absurd ht (by decide)
  · rw [bkV_snoc, bkL_snoc]
    refine ⟨hb', fun g hg hx => ?_⟩
    rcases List.mem_append.1 hg with hg | hg
    · rcases List.mem_cons.1 hg with rfl | q3
      · exact hb.off _ (by simp [bookF]) hx
      · rcases hl' g (by simpa using q3) with q4 | q4
        · exact hb.off g (by simp [bookF, q4]) hx
        · have hlt := hXb g hx
          have hsz := q.size
          omega
    · obtain ⟨v, hv, hvg⟩ := List.mem_filterMap.1 hg
      rcases List.mem_append.1 hv with hv | hv
      · rcases List.mem_append.1 hv with hv | hv
        · exact hb.off g (List.mem_append_right _ (List.mem_filterMap.2 ⟨v, hv, hvg⟩)) hx
        · rw [List.mem_singleton.1 hv] at hvg; exact hat.off1 g hvg hx
      · rw [List.mem_singleton.1 hv] at hvg; exact hat.off2 g hvg hx
  · refine KpX.of_keptF k' (fun g hg hx => ?_)
    rcases hx with hx | hx
    · exact hXz g hx hg
    · obtain ⟨b, hbx, rfl⟩ := hf.2.2.2.2.2 g hx
      obtain ⟨c, t, e, ht⟩ := hbF _ hg
      have := (h2.fix b hbx).1
      rw [show W2.heap[b.1]? = _ from this] at e
      cases e
      exact ht.elim (hf.1 b hbx).1 (hf.1 b hbx).2.1
theorem BookL.types {W : World} {base base' B : Nat} {lv : Value} {vs : List Value} {xss : List (List Nat)} (h : BookL W base base' B lv vs xss) : ∀ g ∈ bookF B lv ++ blocksOf vs, ∃ c t, W.heap[g]? = some (.cells c t (0, 0)) ∧ (t = 45 ∨ t = 44 ∨ t = 51) := by
  intro g hg
  rcases List.mem_append.1 hg with hg | hg
  · rcases List.mem_cons.1 hg with rfl | q
    · exact ⟨_, _, h.head, .inr (.inl rfl)⟩
    · obtain ⟨c, e⟩ := row_type h.inn.list (show lv.ownBlock = some g by simpa using q)
      exact ⟨c, _, e, .inl rfl⟩
  · obtain ⟨v, hv, e⟩ := List.mem_filterMap.1 hg
    obtain ⟨i, hi, rfl⟩ := List.getElem_of_mem hv
    have hix : i < xss.length := by rw [← h.inn.rows.len]; exact hi
    obtain ⟨c, e2⟩ := row_type (h.inn.rows.row i _ _ (List.getElem?_eq_getElem hi) (List.getElem?_eq_getElem hix)) e
    exact ⟨c, _, e2, .inr (.inr rfl)⟩
/-- A cell of a box of an int is set. -/
theorem BookX.setInt {X : Nat → Prop} {W : World} {base base' B : Nat} {lv : Value} {vs : List Value} {xss : List (List Nat)} {C : Nat} {t : TypeId} {u : Value} (h : BookX X W base base' B lv vs xss) (hC : Boxed W C t u) (h1 : t ≠ 45) (h2 : t ≠ 44) (h3 : t ≠ 51) (v : Value) : BookX X (W.setCell ⟨C, 0, none⟩ v) base base' B lv vs xss := by
  refine ⟨h.book.kept ((Kept.refl [C] W).setCell (p := ⟨C, 0, none⟩) (.inl (by simp)) v) (fun g hg hm => ?_), h.off⟩
  obtain rfl : g = C := by simpa using hm
  obtain ⟨c, t', e, ht⟩ := h.book.types g hg
  rw [show W.heap[g]? = _ from hC] at e
  cases e
  rcases ht with ht | ht | ht
  · exact h1 ht
  · exact h2 ht
  · exact h3 ht
theorem WdsD.setBox {D : Nat} {W : World} {v : Value} {L : List Wd} {C : Nat} {t : TypeId} {u : Value} (h : WdsD D W v L) (hC : Boxed W C t u) (h1 : t ≠ 51) (h2 : t ≠ 47) (y : Value) : WdsD D (W.setCell ⟨C, 0, none⟩ y) v L := by
  refine h.other ((Kept.refl [C] W).setCell (p := ⟨C, 0, none⟩) (.inl (by simp)) y) (fun g hg => ?_)
  obtain rfl : g = C := by simpa using hg
  refine ⟨fun cur e => ?_, fun cur e => ?_⟩
  · rw [show W.heap[g]? = _ from hC] at e; cases e; exact h1 rfl
  · rw [show W.heap[g]? = _ from hC] at e; cases e; exact h2 rfl
theorem alM_step {w : World} {ds : List Nat} {T : Nat → Prop} {Z D B Bk n : Nat} {fx : List (Nat × TypeId × Value)} {wv : Value} {wl : List Wd} {vs : List Value} {xs : List (List Nat)} {X : Nat → Prop} {pre : List Nw} {x : Nw} {W : World} {mm : Nat} (h : AlM w ds Z D B Bk n fx wv wl vs xs X pre x W) (hf : FxOk w T B Bk fx) (hm : pre.length + 1 = mm) :
    AlS w ds Z D B Bk (n + 1) fx wv wl vs xs X (pre ++ [x]) (W.setCell ⟨Bk, 0, none⟩ (.int .i64 (mm : Nat))) ∧ KpX (orT T X) W (W.setCell ⟨Bk, 0, none⟩ (.int .i64 (mm : Nat))) := by
  obtain ⟨lv, hb⟩ := h.book
  have hsz : (W.setCell ⟨Bk, 0, none⟩ (.int .i64 (mm : Nat))).heap.size = W.heap.size := by simp [World.setCell]
  refine ⟨⟨h.fix.other fun b hb => (hf.1 b hb).2.2, h.want.setBox h.bk.1 (by decide) (by decide) _, h.hi, by rw [hsz]; exact h.dz, ?_, ⟨lv, hb.setInt h.bk.1 (by decide) (by decide) (by decide) _⟩, by rw [List.length_append]; have := h.short; simp; omega, fun d hd => ⟨(Below.heap_setCell _ _ _ _ (fun e => by have h1 := h.bk.1; have h2 := (h.dfr d hd).1; rw [e] at h2; rw [show W.heap[Bk]? = _ from h1] at h2; cases h2)).trans (h.dfr d hd).1, (h.dfr d hd).2⟩, h.low.set hf.2.2.2.1 _⟩, KpX.setCell (p := ⟨Bk, 0, none⟩) (fun e => e.elim h.bk.2 hf.2.1) _⟩
  rw [show (pre ++ [x]).length = mm by rw [List.length_append]; simpa using hm]
  exact h.bk.set _
theorem AlS.wider {w : World} {ds : List Nat} {Z D B Bk n n' : Nat} {fx : List (Nat × TypeId × Value)} {wv : Value} {wl : List Wd} {vs : List Value} {xs : List (List Nat)} {X : Nat → Prop} {pre : List Nw} {W : World} (h : AlS w ds Z D B Bk n fx wv wl vs xs X pre W) (hn : pre.length ≤ n') : AlS w ds Z D B Bk n' fx wv wl vs xs X pre W :=
  ⟨h.fix, h.want, h.hi, h.dz, h.bk, h.book, hn, h.dfr, h.low⟩
/-- Between two rounds. -/
structure AlR (w : World) (ds : List Nat) (Z B : Nat) (fx : List (Nat × TypeId × Value)) (wv : Value) (wl : List Wd) (vs : List Value) (xs : List (List Nat)) (W : World) : Prop where
  fix : ∀ b ∈ fx, Boxed W b.1 b.2.1 b.2.2
  want : WdsD W.heap.size W wv wl
  book : ∃ lv, BookL W Z Z B lv vs xs
  dfr : ∀ d ∈ ds, W.heap[d]? = some (.deferred (some []))
  low : Below w.heap.size w W
  size : w.heap.size ≤ W.heap.size
theorem WdsD.wide {D D' : Nat} {W : World} {v : Value} {L : List Wd} (h : WdsD D W v L) (hD : D ≤ D') : WdsD D' W v L := by
  obtain ⟨vs, h1, h2, h3, h4⟩ := h
  exact ⟨vs, h1, h2, fun g e => Nat.lt_of_lt_of_le (h3 g e) hD, fun u hu g e => Nat.lt_of_lt_of_le (h4 u hu g e) hD⟩
theorem WdsD.kept0 {D : Nat} {W W' : World} {v : Value} {L : List Wd} (h : WdsD D W v L) (k : Kept [] W W') : WdsD D W' v L := h.turn (X := fun _ => False) (fun _ h => h.elim) (grownBy_of_kept k) (fun r e => by cases e)
theorem AlS.between {w : World} {ds : List Nat} {Z D B Bk n : Nat} {fx : List (Nat × TypeId × Value)} {wv : Value} {wl : List Wd} {vs : List Value} {xs : List (List Nat)} {X : Nat → Prop} {pre : List Nw} {W : World} {D1 : Nat} (h : AlS w ds Z D B Bk n fx wv wl vs xs X pre W) (hD : W.heap[D1]? = some (.deferred (some []))) : AlR w (D1 :: ds) Z B fx wv wl (vs ++ bkV pre) (xs ++ bkL pre) W := by
  obtain ⟨lv, hb⟩ := h.book
  refine ⟨fun b hb => (h.fix b hb).1, h.want.wide h.dz, ⟨lv, hb.book⟩, fun d hd => ?_, h.low.1, h.low.2.1⟩
  rcases List.mem_cons.1 hd with rfl | hd
  · exact hD
  · exact (h.dfr d hd).1
theorem AlR.begin {w : World} {ds : List Nat} {Z B n : Nat} {fx : List (Nat × TypeId × Value)} {wv : Value} {wl : List Wd} {vs : List Value} {xs : List (List Nat)} {W U : World} (h : AlR w ds Z B fx wv wl vs xs W) (hU : W.alloc (.cells #[.int .i64 0] 3) = U) : AlS w ds Z U.heap.size B W.heap.size n fx wv wl vs xs (fun _ => False) [] U := by
  have k : Kept [] W U := by rw [← hU]; exact (Kept.refl [] W).alloc _
  obtain ⟨lv, hb⟩ := h.book
  refine ⟨fun b hb => ⟨k.at (h.fix b hb) (by simp), fun h => h⟩, (h.want.kept0 k).wide k.size, fun _ h => h.elim, Nat.le_refl _, ⟨by rw [← hU]; exact al0 _ _, fun h => h⟩, ⟨lv, ?_⟩, Nat.zero_le _, fun d hd => ⟨k.at (h.dfr d hd) (by simp), fun h => h⟩, ⟨h.low.trans (k.below.mono h.size), Nat.le_trans h.size k.size, fun _ h => h.elim⟩⟩
  simp only [bkV, bkL, List.flatMap_nil, List.append_nil]
  exact ⟨hb.quiet k, fun _ _ h => h⟩
/-- The caller's boxes. -/
def fxOf (Br Bo Bn Bw Bi Bb Bz Bq n : Nat) (inner zz props : Int) (wv fv bv : Value) : List (Nat × TypeId × Value) :=
  [(Br, 4, .bool false), (Bo, 3, .int .i64 inner), (Bn, 3, .int .i64 (n : Nat)), (Bw, 24, wv), (Bi, 27, fv), (Bb, 29, bv), (Bz, 3, .int .i64 zz), (Bq, 3, .int .i64 props)]
theorem fx_all {p : Nat × TypeId × Value → Prop} {Br Bo Bn Bw Bi Bb Bz Bq n : Nat} {inner zz props : Int} {wv fv bv : Value} (h : ∀ b ∈ fxOf Br Bo Bn Bw Bi Bb Bz Bq n inner zz props wv fv bv, p b) :
    p (Br, 4, .bool false) ∧ p (Bo, 3, .int .i64 inner) ∧ p (Bn, 3, .int .i64 (n : Nat)) ∧ p (Bw, 24, wv) ∧ p (Bi, 27, fv) ∧ p (Bb, 29, bv) ∧ p (Bz, 3, .int .i64 zz) ∧ p (Bq, 3, .int .i64 props) :=
  ⟨h _ (by simp [fxOf]), h _ (by simp [fxOf]), h _ (by simp [fxOf]), h _ (by simp [fxOf]), h _ (by simp [fxOf]), h _ (by simp [fxOf]), h _ (by simp [fxOf]), h _ (by simp [fxOf])⟩
theorem fx_of {p : Nat × TypeId × Value → Prop} {Br Bo Bn Bw Bi Bb Bz Bq n : Nat} {inner zz props : Int} {wv fv bv : Value} (h1 : p (Br, 4, .bool false)) (h2 : p (Bo, 3, .int .i64 inner)) (h3 : p (Bn, 3, .int .i64 (n : Nat))) (h4 : p (Bw, 24, wv)) (h5 : p (Bi, 27, fv)) (h6 : p (Bb, 29, bv)) (h7 : p (Bz, 3, .int .i64 zz)) (h8 : p (Bq, 3, .int .i64 props)) : ∀ b ∈ fxOf Br Bo Bn Bw Bi Bb Bz Bq n inner zz props wv fv bv, p b := by
  intro b hb
  simp only [fxOf, List.mem_cons, List.not_mem_nil, or_false] at hb
  rcases hb with rfl | rfl | rfl | rfl | rfl | rfl | rfl | rfl
  · exact h1
  · exact h2
  · exact h3
  · exact h4
  · exact h5
  · exact h6
  · exact h7
  · exact h8
/-- The boxes that a round reads. -/
structure AlQ (W : World) (Br Bo Bn Bw Bi Bb Bk n m : Nat) (inner : Int) (wv fv bv : Value) : Prop where
  r : Boxed W Br 4 (.bool false)
  o : Boxed W Bo 3 (.int .i64 inner)
  n : Boxed W Bn 3 (.int .i64 (n : Nat))
  w : Boxed W Bw 24 wv
  i : Boxed W Bi 27 fv
  b : Boxed W Bb 29 bv
  k : Boxed W Bk 3 (.int .i64 (m : Nat))
theorem AlQ.kept {W W' : World} {Br Bo Bn Bw Bi Bb Bk n m : Nat} {inner : Int} {wv fv bv : Value} (h : AlQ W Br Bo Bn Bw Bi Bb Bk n m inner wv fv bv) (q : Kept [] W W') : AlQ W' Br Bo Bn Bw Bi Bb Bk n m inner wv fv bv :=
  ⟨q.at h.r (by simp), q.at h.o (by simp), q.at h.n (by simp), q.at h.w (by simp), q.at h.i (by simp), q.at h.b (by simp), q.at h.k (by simp)⟩
theorem AlQ.cells {W : World} {Br Bo Bn Bw Bi Bb Bk n m : Nat} {inner : Int} {wv fv bv : Value} (h : AlQ W Br Bo Bn Bw Bi Bb Bk n m inner wv fv bv) :
    W.cell? ⟨Br, 0, none⟩ = some (.bool false) ∧ W.cell? ⟨Bo, 0, none⟩ = some (.int .i64 inner) ∧ W.cell? ⟨Bn, 0, none⟩ = some (.int .i64 (n : Nat)) ∧ W.cell? ⟨Bw, 0, none⟩ = some wv ∧ W.cell? ⟨Bi, 0, none⟩ = some fv ∧ W.cell? ⟨Bb, 0, none⟩ = some bv ∧ W.cell? ⟨Bk, 0, none⟩ = some (.int .i64 (m : Nat)) :=
  ⟨h.r.cell, h.o.cell, h.n.cell, h.w.cell, h.i.cell, h.b.cell, h.k.cell⟩
theorem AlS.q {w : World} {ds : List Nat} {Z D B Bk n n' Br Bo Bn Bw Bi Bb Bz Bq : Nat} {inner zz props : Int} {wv fv bv : Value} {wl : List Wd} {vs : List Value} {xs : List (List Nat)} {X : Nat → Prop} {pre : List Nw} {W : World} (h : AlS w ds Z D B Bk n' (fxOf Br Bo Bn Bw Bi Bb Bz Bq n inner zz props wv fv bv) wv wl vs xs X pre W) : AlQ W Br Bo Bn Bw Bi Bb Bk n pre.length inner wv fv bv := by
  obtain ⟨h1, h2, h3, h4, h5, h6, _, _⟩ := fx_all h.fix
  exact ⟨h1.1, h2.1, h3.1, h4.1, h5.1, h6.1, h.bk.1⟩
theorem AlM.q {w : World} {ds : List Nat} {Z D B Bk n n' Br Bo Bn Bw Bi Bb Bz Bq : Nat} {inner zz props : Int} {wv fv bv : Value} {wl : List Wd} {vs : List Value} {xs : List (List Nat)} {X : Nat → Prop} {pre : List Nw} {x : Nw} {W : World} (h : AlM w ds Z D B Bk n' (fxOf Br Bo Bn Bw Bi Bb Bz Bq n inner zz props wv fv bv) wv wl vs xs X pre x W) : AlQ W Br Bo Bn Bw Bi Bb Bk n pre.length inner wv fv bv := by
  obtain ⟨h1, h2, h3, h4, h5, h6, _, _⟩ := fx_all h.fix
  exact ⟨h1.1, h2.1, h3.1, h4.1, h5.1, h6.1, h.bk.1⟩
theorem AlR.fxok {w : World} {ds : List Nat} {T : Nat → Prop} {Z B : Nat} {fx : List (Nat × TypeId × Value)} {wv : Value} {wl : List Wd} {vs : List Value} {xs : List (List Nat)} {W : World} (h : AlR w ds Z B fx wv wl vs xs W) (hty : ∀ b ∈ fx, b.2.1 ≠ 45 ∧ b.2.1 ≠ 44) (hT : ∀ k, T k → ∃ b ∈ fx, b.1 = k) (hB : w.heap.size ≤ B) : FxOk w T B W.heap.size fx := by
  refine ⟨fun b hb => ⟨(hty b hb).1, (hty b hb).2, ?_⟩, fun hk => ?_, fun hk => ?_, h.size, hB, hT⟩
  · have := (h.fix b hb).lt; omega
  · obtain ⟨b, hb, e⟩ := hT _ hk
    have := (h.fix b hb).lt
    omega
  · obtain ⟨b, hb, rfl⟩ := hT _ hk
    obtain ⟨lv, hl⟩ := h.book
    have e := hl.head
    rw [show W.heap[b.1]? = _ from h.fix b hb] at e
    have e2 := Option.some.inj e
    injection e2 with _ e3 _
    exact (hty b hb).2 e3
/-- How the outer loop is left. -/
def AlX (w : World) (ds : List Nat) (Z D B Bk n : Nat) (fx : List (Nat × TypeId × Value)) (wv : Value) (wl : List Wd) (vs : List Value) (xs : List (List Nat)) (L : List Wd) (c : Code) (X : Nat → Prop) (pre : List Nw) (W : World) : Prop :=
  (c = .exit 2 ∧ AlS w ds Z D B Bk (n + 1) fx wv wl vs xs X pre W ∧ pre.length = n + 1) ∨ (c = .ret ∧ ∃ (p : List Nw) (x : Nw), pre = p ++ [x] ∧ ¬ L[p.length]? = some x.q)
theorem alX_abide {w : World} {ds : List Nat} {Z D B Bk n : Nat} {fx : List (Nat × TypeId × Value)} {wv : Value} {wl : List Wd} {vs : List Value} {xs : List (List Nat)} {L : List Wd} (c : Code) : Abide (AlX w ds Z D B Bk n fx wv wl vs xs L c) :=
  ⟨fun h hX => h.imp (fun q => ⟨q.1, alS_abide.more q.2.1 hX, q.2.2⟩) id, fun h hg hr => h.imp (fun q => ⟨q.1, alS_abide.turn q.2.1 hg hr, q.2.2⟩) id⟩
theorem no_other {L : List Wd} {p : List Nw} {x : Nw} (h : (p ++ [x]).map Nw.q <+: L) : L[p.length]? = some x.q := by
  obtain ⟨t, rfl⟩ := h
  rw [List.getElem?_append_left (by simp), List.map_append, List.getElem?_append_right (by simp)]
  simp
/-- What the inner loop carries: the state of the outer one, beside its own blocks. -/
structure AlI (w : World) (ds : List Nat) (T X : Nat → Prop) (Z D B Bk n : Nat) (fx : List (Nat × TypeId × Value)) (wv : Value) (wl : List Wd) (vs : List Value) (xs : List (List Nat)) (pre : List Nw) (x : Nw) (W3 : World) (X' : Nat → Prop) (W : World) : Prop where
  st : AlM w ds Z D B Bk n fx wv wl vs xs (fun k => X k ∨ X' k) pre x W
  kp : KpX (orT T X) W3 W
  new : ∀ k, X' k → W3.heap.size ≤ k
theorem alI_abide {w : World} {ds : List Nat} {T X : Nat → Prop} {Z D B Bk n : Nat} {fx : List (Nat × TypeId × Value)} {wv : Value} {wl : List Wd} {vs : List Value} {xs : List (List Nat)} {pre : List Nw} {x : Nw} {W3 : World} (hlt : ∀ k, orT T X k → k < W3.heap.size) : Abide (fun X' (_ : List Nw) W => AlI w ds T X Z D B Bk n fx wv wl vs xs pre x W3 X' W) := by
  refine ⟨fun {X1 X2 _ W} h hX => ⟨?_, h.kp, fun k hk => ?_⟩, fun {X1 _ W W' row} h hg hr => ⟨?_, ?_, h.new⟩⟩
  · exact alM_abide.more (pre := ([] : List Nw)) h.st (fun k hk => hk.elim (fun q => .inl (.inl q)) (fun q => (hX k q).imp .inr id))
  · exact (hX k hk).elim (h.new k) (fun q => Nat.le_trans h.kp.size q)
  · exact alM_abide.turn (pre := ([] : List Nw)) h.st hg (fun r e => .inr (hr r e))
  · exact h.kp.trans (KpX.grown hg (fun r e hx => by have h1 := hlt r hx; have h2 := h.new r (hr r e); omega))
theorem AlI.back {w : World} {ds : List Nat} {T X : Nat → Prop} {Z D B Bk n : Nat} {fx : List (Nat × TypeId × Value)} {wv : Value} {wl : List Wd} {vs : List Value} {xs : List (List Nat)} {pre : List Nw} {x : Nw} {W3 : World} {X' : Nat → Prop} {W : World} (h : AlI w ds T X Z D B Bk n fx wv wl vs xs pre x W3 X' W) : AlM w ds Z D B Bk n fx wv wl vs xs X pre x W :=
  alM_abide.more (pre := ([] : List Nw)) h.st (fun _ hk => .inl (.inl hk))
theorem AlI.start {w : World} {ds : List Nat} {T X : Nat → Prop} {Z D B Bk n : Nat} {fx : List (Nat × TypeId × Value)} {wv : Value} {wl : List Wd} {vs : List Value} {xs : List (List Nat)} {pre : List Nw} {x : Nw} {W : World} (h : AlM w ds Z D B Bk n fx wv wl vs xs X pre x W) : AlI w ds T X Z D B Bk n fx wv wl vs xs pre x W (fun _ => False) W :=
  ⟨alM_abide.more (pre := ([] : List Nw)) h (fun _ hk => .inl (hk.elim id False.elim)), KpX.refl _ _, fun _ h => h.elim⟩
theorem AlR.own {w : World} {ds : List Nat} {Z B : Nat} {fx : List (Nat × TypeId × Value)} {wv : Value} {wl : List Wd} {vs : List Value} {xs : List (List Nat)} {W : World} (h : AlR w ds Z B fx wv wl vs xs W) (hZ : w.heap.size ≤ Z) :
    Calls Tryd.prog 10 #[.pointer (some ⟨B, 0, none⟩)] W fun e w' => e = .returned (.bool true) ∧ Hid (∀ (b : Nat) (c : Array Value) (t : TypeId), W.heap[b]? = some (.cells c t (0, 0)) → t ≠ 51 → w'.heap[b]? = some (.cells c t (0, 0))) ∧ Hid (∀ d ∈ ds, w'.heap[d]? = some (.deferred (some []))) ∧ Hid (Below w.heap.size w w') := by
  obtain ⟨lv, hb⟩ := h.book
  have hty : ∀ g ∈ blocksOf vs, Z ≤ g ∧ ∃ c, W.heap[g]? = some (.cells c 51 (0, 0)) := fun g hg => by
    obtain ⟨v, hv, e⟩ := List.mem_filterMap.1 hg
    obtain ⟨i, hi, rfl⟩ := List.getElem_of_mem hv
    have hix : i < xs.length := by rw [← hb.inn.rows.len]; exact hi
    have hrow := hb.inn.rows.row i _ _ (List.getElem?_eq_getElem hi) (List.getElem?_eq_getElem hix)
    obtain ⟨c, e2⟩ := row_type hrow e
    exact ⟨own_base hrow e, c, e2⟩
  refine (bookOwn_any B Z Z lv vs xs W hb).mono ?_
  rintro e w' ⟨he, k⟩
  refine ⟨he, fun b c t hbt ht => k.at hbt (fun hm => ?_), fun d hd => k.at (h.dfr d hd) (fun hm => ?_), h.low.trans ⟨k.os, k.tape, k.output, k.size, fun i hi => k.block i (Nat.lt_of_lt_of_le hi h.size) (fun hm => ?_)⟩⟩
  · obtain ⟨_, c', e'⟩ := hty b hm
    rw [hbt] at e'
    cases e'
    exact ht rfl
  · obtain ⟨_, c', e'⟩ := hty d hm
    rw [h.dfr d hd] at e'
    cases e'
  · have := (hty i hm).1
    omega
theorem AlR.fxok8 {w : World} {ds : List Nat} {Z B Br Bo Bn Bw Bi Bb Bz Bq n : Nat} {inner zz props : Int} {wv fv bv : Value} {wl : List Wd} {vs : List Value} {xs : List (List Nat)} {W : World} (h : AlR w ds Z B (fxOf Br Bo Bn Bw Bi Bb Bz Bq n inner zz props wv fv bv) wv wl vs xs W) (hB : w.heap.size ≤ B) : FxOk w (fun k => k = Bz ∨ k = Bq) B W.heap.size (fxOf Br Bo Bn Bw Bi Bb Bz Bq n inner zz props wv fv bv) :=
  h.fxok (fx_of (by dsimp only; decide) (by dsimp only; decide) (by dsimp only; decide) (by dsimp only; decide) (by dsimp only; decide) (by dsimp only; decide) (by dsimp only; decide) (by dsimp only; decide)) (fun k hk => hk.elim (fun e => ⟨(Bz, 3, .int .i64 zz), by simp [fxOf], e.symm⟩) (fun e => ⟨(Bq, 3, .int .i64 props), by simp [fxOf], e.symm⟩)) hB
theorem fx_offR {Br Bo Bn Bw Bi Bb Bz Bq n : Nat} {inner zz props : Int} {wv fv bv : Value} {X : Nat → Prop} {W : World} (h : BoxesX (fxOf Br Bo Bn Bw Bi Bb Bz Bq n inner zz props wv fv bv) X W) : ¬ orT (fun k => k = Bz ∨ k = Bq) X Br := by
  obtain ⟨h1, _, _, _, _, _, h7, h8⟩ := fx_all h
  rintro (hx | rfl | rfl)
  · exact h1.2 hx
  · have e : W.heap[Br]? = _ := h7.1; rw [show W.heap[Br]? = _ from h1.1] at e; cases e
  · have e : W.heap[Br]? = _ := h8.1; rw [show W.heap[Br]? = _ from h1.1] at e; cases e
theorem fx_boxes {Br Bo Bn Bw Bi Bb Bz Bq n : Nat} {inner zz props : Int} {wv fv bv : Value} {X : Nat → Prop} {W : World} (h : BoxesX (fxOf Br Bo Bn Bw Bi Bb Bz Bq n inner zz props wv fv bv) X W) : Boxed W Br 4 (.bool false) ∧ Boxed W Bz 3 (.int .i64 zz) ∧ Boxed W Bq 3 (.int .i64 props) := by
  obtain ⟨h1, _, _, _, _, _, h7, h8⟩ := fx_all h
  exact ⟨h1.1, h7.1, h8.1⟩
theorem fx_nb {w : World} {T : Nat → Prop} {B Bk Br Bo Bn Bw Bi Bb Bz Bq n : Nat} {inner zz props : Int} {wv fv bv : Value} (h : FxOk w T B Bk (fxOf Br Bo Bn Bw Bi Bb Bz Bq n inner zz props wv fv bv)) : ¬ (Bn = Bk) ∧ ¬ (Bk = Bn) := by
  have := (h.1 (Bn, 3, .int .i64 (n : Nat)) (by simp [fxOf])).2.2
  exact ⟨this, fun e => this e.symm⟩
/-- A round's end. -/
theorem al_norm {w : World} {ds : List Nat} {T : Nat → Prop} {Z D B Bk n : Nat} {fx : List (Nat × TypeId × Value)} {wv : Value} {wl : List Wd} {vs : List Value} {xs : List (List Nat)} {X : Nat → Prop} {pre : List Nw} {x : Nw} {W0 W : World} {mm : Nat} (h : AlM w ds Z D B Bk n fx wv wl vs xs X pre x W) (hf : FxOk w T B Bk fx) (k : KpX (orT T X) W0 W) (hm : pre.length + 1 = mm) (hn : mm ≤ n) :
    KpX (orT T X) W0 (W.setCell ⟨Bk, 0, none⟩ (.int .i64 (mm : Nat))) ∧ AlS w ds Z D B Bk n fx wv wl vs xs X (pre ++ [x]) (W.setCell ⟨Bk, 0, none⟩ (.int .i64 (mm : Nat))) := by
  obtain ⟨h1, h2⟩ := alM_step h hf hm
  exact ⟨k.trans h2, h1.wider (by rw [List.length_append]; simp; omega)⟩
theorem al_exit {w : World} {ds : List Nat} {T : Nat → Prop} {Z D B Bk n : Nat} {fx : List (Nat × TypeId × Value)} {wv : Value} {wl L : List Wd} {vs : List Value} {xs : List (List Nat)} {X : Nat → Prop} {pre : List Nw} {x : Nw} {W0 W : World} {mm : Nat} (h : AlM w ds Z D B Bk n fx wv wl vs xs X pre x W) (hf : FxOk w T B Bk fx) (k : KpX (orT T X) W0 W) (hm : pre.length + 1 = mm) (hn : n < mm) :
    KpX (orT T X) W0 (W.setCell ⟨Bk, 0, none⟩ (.int .i64 (mm : Nat))) ∧ AlX w ds Z D B Bk n fx wv wl vs xs L (.exit 2) X (pre ++ [x]) (W.setCell ⟨Bk, 0, none⟩ (.int .i64 (mm : Nat))) := by
  obtain ⟨h1, h2⟩ := alM_step h hf hm
  have := h.short
  exact ⟨k.trans h2, .inl ⟨rfl, h1, by rw [List.length_append]; simp; omega⟩⟩
/-- How the inner loop is left. -/
def AlIx (w : World) (ds : List Nat) (T X : Nat → Prop) (Z D B Bk n : Nat) (fx : List (Nat × TypeId × Value)) (wv : Value) (wl : List Wd) (vs : List Value) (xs : List (List Nat)) (pre : List Nw) (x : Nw) (W3 : World) (L : List Wd) (c : Code) (X' : Nat → Prop) (pre' : List Nw) (W : World) : Prop :=
  (c = .exit 4 ∧ AlI w ds T X Z D B Bk n fx wv wl vs xs pre x W3 X' W) ∨ (c = .ret ∧ ∃ v : Nw, pre' = [v] ∧ ¬ L[0]? = some v.q)
theorem alIx_abide {w : World} {ds : List Nat} {T X : Nat → Prop} {Z D B Bk n : Nat} {fx : List (Nat × TypeId × Value)} {wv : Value} {wl : List Wd} {vs : List Value} {xs : List (List Nat)} {pre : List Nw} {x : Nw} {W3 : World} {L : List Wd} (hlt : ∀ k, orT T X k → k < W3.heap.size) (c : Code) : Abide (AlIx w ds T X Z D B Bk n fx wv wl vs xs pre x W3 L c) :=
  ⟨fun h hX => h.imp (fun q => ⟨q.1, (alI_abide hlt).more (pre := ([] : List Nw)) q.2 hX⟩) id, fun h hg hr => h.imp (fun q => ⟨q.1, (alI_abide hlt).turn (pre := ([] : List Nw)) q.2 hg hr⟩) id⟩
end Go.Proofs.YtamfnefnaelgfaaDoor
