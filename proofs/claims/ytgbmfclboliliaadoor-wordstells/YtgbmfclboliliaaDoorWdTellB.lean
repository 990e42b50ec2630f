/- WordsTells: what its walk leans on: the book among words, what is carried. -/
import Derived.Test.YtgbmfclboliliaaDoorHB
import Derived.Test.YtgbmfclboliliaaDoorHC
import Derived.Test.YtgbmfclboliliaaDoorWdRefD
import Derived.Test.YtgbmfclboliliaaDoorHD
import Derived.Test.YtgbmfclboliliaaDoorHE
import Derived.Test.YtgbmfclboliliaaDoorWdWorks
namespace Go.Proofs.YtgbmfclboliliaaDoor
open Go.RowKit Go.Shelf
attribute [local go_sem ↓] Go.wp_at_zero Go.wp_at_succ

theorem normOf_one {q r r' : Wd} (h : NormOf q r) (h' : NormOf q r') : r = r' := by
  by_cases h0 : q.loop = []
  · rw [h.1 h0, h'.1 h0]
  · have hp : 0 < q.loop.length := List.length_pos_iff.2 h0
    have := same_norms hp hp h h'
    rw [(sameB_iff hp hp).2 (fun _ => rfl)] at this
    exact eqW_iff.1 this
/-- What a book's call keeps: all but the book and lists of lists. -/
def KpB (Z : Nat) (W W' : World) : Prop := ∃ F, Kept F W W' ∧ (∀ g ∈ F, Z ≤ g) ∧ ∀ g ∈ F, ∃ c t, W.heap[g]? = some (.cells c t (0, 0)) ∧ (t = 22 ∨ t = 44)
theorem KpB.at {Z : Nat} {W W' : World} (h : KpB Z W W') {k : Nat} {cs : Array Value} {t : TypeId} {fz : Nat × Nat} (hk : W.heap[k]? = some (.cells cs t fz)) (h1 : t ≠ 22) (h2 : t ≠ 44) : W'.heap[k]? = some (.cells cs t fz) := by
  obtain ⟨F, k1, _, k3⟩ := h
  refine k1.at hk (fun hm => ?_)
  obtain ⟨c, t', e, ht⟩ := k3 k hm
  rw [hk] at e
  cases e
  exact ht.elim h1 h2
theorem KpB.wd2 {Z : Nat} {W W' : World} (h : KpB Z W W') {B : Nat} {a b : Value} (hk : Wd2 W B a b) : Wd2 W' B a b := h.at hk (by decide) (by decide)
theorem KpB.lent {Z : Nat} {W W' : World} (h : KpB Z W W') {b : Nat} {xs : List Nat} (hk : LentL W b xs) : LentL W' b xs := ⟨h.at hk.row (by decide) (by decide), hk.small, hk.few⟩
theorem KpB.size {Z : Nat} {W W' : World} (h : KpB Z W W') : W.heap.size ≤ W'.heap.size := by obtain ⟨F, k1, _⟩ := h; exact k1.size
theorem KpB.kept {Z : Nat} {w W W' : World} (h : KpB Z W W') (k : Kept [] w W) (hZ : w.heap.size ≤ Z) : Kept [] w W' := by
  obtain ⟨F, k1, k2, _⟩ := h
  exact k.trans k1 (by simp) (fun g hg => .inr (Nat.le_trans hZ (k2 g hg)))
theorem KpB.owns {Z : Nat} {W W' : World} (h : KpB Z W W') {b n : Nat} {v : Value} {xs : List Value} (hk : W.ownsRow b 54 1 v n xs) : W'.ownsRow b 54 1 v n xs := by
  obtain ⟨F, k1, _, k3⟩ := h
  refine owns_keptF hk k1 (fun g hg hm => ?_)
  obtain ⟨c, e⟩ := row_type hk hg
  obtain ⟨c', t', e', ht⟩ := k3 g hm
  rw [e] at e'
  cases e'
  rcases ht with ht | ht
  · exact absurd ht (by decide)
  · exact absurd ht (by decide)
theorem KpB.new {Z : Nat} {W W' : World} (h : KpB Z W W') {n : Nat} {x y : Value} {r : Wd} (hk : NewW n W x y r) : NewW n W' x y r := ⟨h.owns hk.own1, h.owns hk.own2, hk.apart, hk.small1, hk.small2, hk.few1, hk.few2⟩
/-- A book, its lists below N. -/
structure Bk (W : World) (Z B N c : Nat) : Prop where
  book : ∃ lv vs xss, BookL W Z Z B lv vs xss ∧ vs.length ≤ c ∧ ∀ v ∈ vs, ∀ g, v.ownBlock = some g → g < N
  low : Z ≤ B
theorem Bk.more {W : World} {Z B N N' c : Nat} (h : Bk W Z B N c) (hN : N ≤ N') : Bk W Z B N' c := by
  obtain ⟨lv, vs, xss, h1, h2, h3⟩ := h.book
  exact ⟨⟨lv, vs, xss, h1, h2, fun v hv g hg => Nat.lt_of_lt_of_le (h3 v hv g hg) hN⟩, h.low⟩
theorem book_rows {W : World} {Z B : Nat} {lv : Value} {vs : List Value} {xss : List (List Nat)} (h : BookL W Z Z B lv vs xss) {v : Value} (hv : v ∈ vs) : ∃ n ys, W.ownsRow Z 54 1 v n ys := by
  obtain ⟨j, hj, rfl⟩ := List.getElem_of_mem hv
  have hjx : j < xss.length := by rw [← h.inn.rows.len]; exact hj
  exact ⟨_, _, h.inn.rows.row j _ _ (List.getElem?_eq_getElem hj) (List.getElem?_eq_getElem hjx)⟩
theorem Bk.keptF {W W' : World} {Z B N c : Nat} {F : List Nat} (h : Bk W Z B N c) (k : Kept F W W') (hF : ∀ g ∈ F, g < Z) : Bk W' Z B N c := by
  obtain ⟨lv, vs, xss, h1, h2, h3⟩ := h.book
  refine ⟨⟨lv, vs, xss, h1.kept k (fun g hg hm => ?_), h2, h3⟩, h.low⟩
  have hz := hF g hm
  have hb := h.low
  rcases List.mem_append.1 hg with q | q
  · rcases List.mem_cons.1 q with rfl | q
    · omega
    · have := own_base h1.inn.list (show lv.ownBlock = some g by simpa using q)
      omega
  · obtain ⟨v, hv, hvg⟩ := List.mem_filterMap.1 q
    obtain ⟨n, ys, hr⟩ := book_rows h1 hv
    have := own_base hr hvg
    omega
theorem Bk.quiet {W W' : World} {Z B N c : Nat} (h : Bk W Z B N c) (k : Kept [] W W') : Bk W' Z B N c := h.keptF k (by simp)
theorem book_kpb {W W' : World} {Z B : Nat} {lv : Value} {vs : List Value} {xss : List (List Nat)} (h : BookL W Z Z B lv vs xss) (hB : Z ≤ B) (k : Kept (bookF B lv) W W') : KpB Z W W' := by
  refine ⟨_, k, fun g hg => ?_, fun g hg => ?_⟩
  · rcases List.mem_cons.1 hg with rfl | q
    · exact hB
    · exact own_base h.inn.list (show lv.ownBlock = some g by simpa using q)
  · rcases List.mem_cons.1 hg with rfl | q
    · exact ⟨_, _, h.head, .inr rfl⟩
    · obtain ⟨c, e⟩ := row_type h.inn.list (show lv.ownBlock = some g by simpa using q)
      exact ⟨c, _, e, .inl rfl⟩
theorem Bk.word {W : World} {Z B N N' c : Nat} {x y : Value} {r : Wd} (h : Bk W Z B N c) (hn : NewW N W x y r) (hZ : Z ≤ N) (hN : N ≤ N') (hx : ∀ g, x.ownBlock = some g → g < N') (hy : ∀ g, y.ownBlock = some g → g < N') (hc : c ≤ 1000) (hs : r.stem.length ≤ 1000000000) (hl : r.loop.length ≤ 1000000000) :
    Calls Tryd.prog 30 #[.pointer (some ⟨B, 0, none⟩), .agg #[x, y]] W fun e w' => (∃ v, e = .returned v) ∧ Hid (Bk w' Z B N' (c + 2)) ∧ Hid (KpB Z W w') := by
  obtain ⟨lv, vs, xss, h1, h2, h3⟩ := h.book
  refine (bookWord_any B Z Z lv vs xss x y r.stem r.loop W h1 (owns_low hn.own1 hZ) (owns_low hn.own2 hZ) (fun v hv g hg e => by have := h3 v hv g hg; have := own_base hn.own1 e; omega) (fun v hv g hg e => by have := h3 v hv g hg; have := own_base hn.own2 e; omega) hn.apart (by omega) hs hl).mono ?_
  rintro e w8 ⟨he, lv', hb8, k8, _⟩
  refine ⟨he, ⟨⟨lv', _, _, hb8, by simp; omega, fun v hv g hg => ?_⟩, h.low⟩, book_kpb h1 h.low k8⟩
  rcases List.mem_append.1 hv with q | q
  · rcases List.mem_append.1 q with q | q
    · exact Nat.lt_of_lt_of_le (h3 v q g hg) hN
    · rw [List.mem_singleton.1 q] at hg; exact hx g hg
  · rw [List.mem_singleton.1 q] at hg; exact hy g hg
theorem Bk.letters {W : World} {Z B N N' c : Nat} {x : Value} {xs : List Nat} (h : Bk W Z B N c) (hn : W.ownsRow N 54 1 x xs.length (u16s xs)) (hZ : Z ≤ N) (hN : N ≤ N') (hx : ∀ g, x.ownBlock = some g → g < N') (hc : c ≤ 1000) (hs : xs.length ≤ 1000000000) :
    Calls Tryd.prog 31 #[.pointer (some ⟨B, 0, none⟩), x] W fun e w' => (∃ v, e = .returned v) ∧ Hid (Bk w' Z B N' (c + 1)) ∧ Hid (KpB Z W w') := by
  obtain ⟨lv, vs, xss, h1, h2, h3⟩ := h.book
  refine (bookLetters_any B Z Z lv vs xss x xs W h1 (owns_low hn hZ) (fun v hv g hg e => by have := h3 v hv g hg; have := own_base hn e; omega) (by omega) hs).mono ?_
  rintro e w8 ⟨he, lv', hb8, k8, _⟩
  refine ⟨he, ⟨⟨lv', _, _, hb8, by simp; omega, fun v hv g hg => ?_⟩, h.low⟩, book_kpb h1 h.low k8⟩
  rcases List.mem_append.1 hv with q | q
  · exact Nat.lt_of_lt_of_le (h3 v q g hg) hN
  · rw [List.mem_singleton.1 q] at hg; exact hx g hg
theorem Bk.mine {w W : World} {Z B N c : Nat} (h : Bk W Z B N c) (k : Kept [] w W) (hZ : w.heap.size ≤ Z) :
    Calls Tryd.prog 36 #[.pointer (some ⟨B, 0, none⟩)] W fun e w' => e = .returned (.bool true) ∧ Hid (Kept [] w w') := by
  obtain ⟨lv, vs, xss, h1, h2, h3⟩ := h.book
  refine (bookOwn_any B _ _ lv vs xss W h1).mono ?_
  rintro e w' ⟨he, k'⟩
  refine ⟨he, k.trans k' (by simp) (fun g hg => .inr ?_)⟩
  obtain ⟨v, hv, hvg⟩ := List.mem_filterMap.1 hg
  obtain ⟨n, ys, hr⟩ := book_rows h1 hv
  have := own_base hr hvg
  omega
/-- A word that was made, in its box. -/
structure It (W : World) (Bo n N : Nat) (x y : Value) (r : Wd) : Prop where
  box : Wd2 W Bo x y
  new : NewW n W x y r
  hi1 : ∀ g, x.ownBlock = some g → g < N
  hi2 : ∀ g, y.ownBlock = some g → g < N
theorem It.quiet {W W' : World} {Bo n N : Nat} {x y : Value} {r : Wd} (h : It W Bo n N x y r) (k : Kept [] W W') : It W' Bo n N x y r := ⟨h.box.kept k, h.new.kept k, h.hi1, h.hi2⟩
theorem It.kpb {W W' : World} {Z Bo n N : Nat} {x y : Value} {r : Wd} (h : It W Bo n N x y r) (k : KpB Z W W') : It W' Bo n N x y r := ⟨k.wd2 h.box, k.new h.new, h.hi1, h.hi2⟩
theorem It.make {W1 : World} {m n : Nat} {x y : Value} {r : Wd} (h : NewW m W1 x y r) (hn : n ≤ m) : It (W1.alloc (.cells #[x, y] 24)) W1.heap.size n W1.heap.size x y r :=
  ⟨heap_alloc_new W1 _, (h.low hn).kept ((Kept.refl [] W1).alloc _), fun _ hg => owns_lt h.own1 hg, fun _ hg => owns_lt h.own2 hg⟩
theorem It.isW {W : World} {Bo n N : Nat} {x y : Value} {r : Wd} (h : It W Bo n N x y r) : Lets W x r.stem ∧ Lets W y r.loop := ⟨h.new.lets1, h.new.lets2⟩
/-- What the law holds all along: the argument's box, its own word's box. -/
structure TlC (w W : World) (Bo : Nat) (x1 x2 y1 y2 : Value) : Prop where
  kept : Kept [] w W
  arg : Wd2 W w.heap.size x1 x2
  own : Wd2 W Bo y1 y2
theorem TlC.quiet {w W W' : World} {Bo : Nat} {x1 x2 y1 y2 : Value} (h : TlC w W Bo x1 x2 y1 y2) (k : Kept [] W W') : TlC w W' Bo x1 x2 y1 y2 := ⟨kept_same h.kept k, h.arg.kept k, h.own.kept k⟩
theorem TlC.kpb {w W W' : World} {Z Bo : Nat} {x1 x2 y1 y2 : Value} (h : TlC w W Bo x1 x2 y1 y2) (k : KpB Z W W') (hZ : w.heap.size ≤ Z) : TlC w W' Bo x1 x2 y1 y2 := ⟨k.kept h.kept hZ, k.wd2 h.arg, k.wd2 h.own⟩
theorem TlC.cells {w W : World} {Bo : Nat} {x1 x2 y1 y2 : Value} (h : TlC w W Bo x1 x2 y1 y2) : (W.cell? ⟨w.heap.size, 0, none⟩ = some x1 ∧ W.cell? ⟨w.heap.size, 1, none⟩ = some x2) ∧ W.cell? ⟨Bo, 0, none⟩ = some y1 ∧ W.cell? ⟨Bo, 1, none⟩ = some y2 := ⟨⟨h.arg.cells.1, h.arg.cells.2.1⟩, h.own.cells.1, h.own.cells.2.1⟩
/-- What is lent. -/
structure Ln (W : World) (b1 b2 b3 : Nat) (q : Wd) (us : List Nat) : Prop where
  l1 : LentL W b1 q.stem
  l2 : LentL W b2 q.loop
  l3 : LentL W b3 us
theorem Ln.quiet {W W' : World} {b1 b2 b3 : Nat} {q : Wd} {us : List Nat} (h : Ln W b1 b2 b3 q us) (k : Kept [] W W') : Ln W' b1 b2 b3 q us := ⟨h.l1.kept k, h.l2.kept k, h.l3.kept k⟩
theorem Ln.kpb {W W' : World} {Z b1 b2 b3 : Nat} {q : Wd} {us : List Nat} (h : Ln W b1 b2 b3 q us) (k : KpB Z W W') : Ln W' b1 b2 b3 q us := ⟨k.lent h.l1, k.lent h.l2, k.lent h.l3⟩
/-- The calls, told by one normal form. -/
def MadeIt (r : Wd) (W : World) (e : Ending) (W' : World) : Prop := ∃ a1 n1 c1 a2 n2 c2, e = .returned (.agg #[.slice a1 n1 c1, .slice a2 n2 c2]) ∧ Hid (NewW W.heap.size W' (.slice a1 n1 c1) (.slice a2 n2 c2) r) ∧ Hid (Kept [] W W')
def RefIt (r : Wd) (W : World) (e : Ending) (W' : World) : Prop := ∃ a1 n1 c1 a2 n2 c2, e = .returned (.agg #[.slice a1 n1 c1, .slice a2 n2 c2]) ∧ Hid (IsW W' (.slice a1 n1 c1) (.slice a2 n2 c2) r) ∧ Hid (Kept [] W W')
theorem made_it {f : Nat} {args : Array Value} {W : World} {q r : Wd} (h : Calls Tryd.prog f args W (MadeNorm W q)) (hr : NormOf q r) : Calls Tryd.prog f args W (MadeIt r W) := by
  refine h.mono ?_
  rintro e W' ⟨s, l, r', rfl, hn, ho, k⟩
  obtain rfl := normOf_one ho hr
  obtain ⟨a1, c1, rfl⟩ := own_form hn.own1
  obtain ⟨a2, c2, rfl⟩ := own_form hn.own2
  exact ⟨_, _, _, _, _, _, rfl, hn, k⟩
theorem ref_it {f : Nat} {args : Array Value} {W : World} {q r : Wd} (h : Calls Tryd.prog f args W (RefMade W q)) (hr : NormOf q r) : Calls Tryd.prog f args W (RefIt r W) := by
  refine h.mono ?_
  rintro e W' ⟨a1, n1, c1, a2, n2, c2, r', rfl, hn, ho, k⟩
  obtain rfl := normOf_one ho.out hr
  exact ⟨_, _, _, _, _, _, rfl, hn, k⟩
theorem strip_end {st l : List Nat} : ∀ m first, StripInv st l m first → ∃ m' first', StripInv st l m' first' ∧ (m' = 0 ∨ st.getD (m' - 1) 0 ≠ l.getD ((first' + l.length - 1) % l.length) 0) := by
  intro m
  induction m with
  | zero => exact fun first h => ⟨0, first, h, .inl rfl⟩
  | succ m ih =>
    intro first h
    by_cases hc : st.getD (m + 1 - 1) 0 = l.getD ((first + l.length - 1) % l.length) 0
    · exact ih _ (h.step (by omega) hc)
    · exact ⟨m + 1, first, h, .inr hc⟩
theorem norm_some (q : Wd) : ∃ r, NormOf q r := by
  by_cases h0 : q.loop = []
  · exact ⟨⟨[], []⟩, fun _ => rfl, fun h => absurd h0 h⟩
  · obtain ⟨st, lp⟩ := q
    have h1 : 0 < lp.length := List.length_pos_iff.2 h0
    obtain ⟨d, hd⟩ := least_some lp.length h1 (cyc_per lp)
    obtain ⟨hc1, hc2, hc3⟩ := at_cut (st := st) h1 hd
    obtain ⟨m, fi, hI, hE⟩ := strip_end _ _ (StripInv.start st (lp.take d) (by rw [hc2]; exact hd.1))
    exact ⟨⟨st.take m, rot (lp.take d) fi⟩, fun e => absurd e h0, fun _ => ⟨hI.norm hc3 hE, fun i => (hI.same i).trans (hc1 i)⟩⟩
theorem same_it {W W' : World} {Bo n N : Nat} {x y a b : Value} {r : Wd} (h : It W Bo n N x y r) (k : Kept [] W W') (hi : IsW W' a b r) :
    Calls Tryd.prog 14 #[.agg #[x, y], .agg #[a, b]] W' fun e w1 => e = .returned (.bool true) ∧ Hid (Kept [] W' w1) := by
  have h' := h.quiet k
  have := sameWord_any _ _ _ _ r r W' h'.isW.1 h'.isW.2 hi.st hi.lp
  rw [eqW_iff.2 rfl] at this
  exact this
theorem same_let {W W' : World} {n m : Nat} {x y : Value} {xs : List Nat} (h : W.ownsRow n 54 1 x xs.length (u16s xs)) (k : Kept [] W W') (h' : W'.ownsRow m 54 1 y xs.length (u16s xs)) (hs : ∀ x ∈ xs, x < 65536) (hf : xs.length ≤ 70368744177664) :
    Calls Tryd.prog 18 #[x, y] W' fun e w1 => e = .returned (.bool true) ∧ Hid (Kept [] W' w1) := by
  have := sameLetters_any x y xs xs W' (lets_own (owns_keptF h k (by simp)) hs hf) (lets_own h' hs hf)
  rw [decide_eq_true rfl] at this
  refine this.mono ?_
  rintro e w1 ⟨he, hq⟩
  exact ⟨he, hq.kept⟩
set_option maxHeartbeats 400000 in
theorem heavy_any (ads adl : Option Addr) (ns cs nl cl : Nat) (w : World) (b : Bool) (hs : ns ≤ 70368744177664) (hl : nl ≤ 70368744177664) (hb : decide ((4194304 : Int) < (ns : Int) + (nl : Int)) = b) :
    Calls Tryd.prog 7 #[.agg #[.slice ads ns cs, .slice adl nl cl]] w fun e w' => e = .returned (.bool b) ∧ Hid (Kept [] w w') := by
  go_enter Tryd.func7, Tryd.ntmps7
  go_wp2
  go_ret
  exact ⟨rfl, (Kept.refl [] w).alloc _⟩
end Go.Proofs.YtgbmfclboliliaaDoor
