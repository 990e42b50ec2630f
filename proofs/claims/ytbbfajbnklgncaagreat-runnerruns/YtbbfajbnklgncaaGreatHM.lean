/- slices.Equal at letters; words.repeats, words.period, words.endless. -/
import Derived.Test.YtbbfajbnklgncaaGreatWd
import Derived.WalkLawsBesides
import Derived.Deep.RegionHeld3
import Derived.Deep.DrawnRows
import Derived.BigRegion
import Derived.Deep.RegionWith
import Derived.Deep.QuietTactic
import Derived.BigQuiet
import Derived.Lib.AppendZeros
import Derived.OwnWalk
import Derived.Deep.AppendLies
namespace Go.Proofs.YtbbfajbnklgncaaGreat
open Go.RowKit
attribute [local go_sem ↓] Go.wp_at_zero Go.wp_at_succ

theorem quiet_more (w : World) (q n : Nat) : Quiet w ((w.drewN q).drewN n) := ⟨q + n, by simp [World.drewN, Nat.add_assoc]⟩
theorem ext_getD {xs ys : List Nat} (hl : xs.length = ys.length) (h : ∀ j, j < xs.length → xs.getD j 0 = ys.getD j 0) : xs = ys := by
  apply List.ext_getElem hl
  intro j h1 h2
  have := h j h1
  simpa [List.getD_eq_getElem?_getD, h1, h2] using this

end Go.Proofs.YtbbfajbnklgncaaGreat

/- words.endless, words.repeats, words.period. -/
namespace Go.Proofs.YtbbfajbnklgncaaGreat
open Go.RowKit
attribute [local go_sem ↓] Go.wp_at_zero Go.wp_at_succ

/-- Is a row its first n letters, again and again? -/
def repB (xs : List Nat) (n : Nat) : Bool := decide (xs.drop n = xs.take (xs.length - n))
theorem repB_iff (xs : List Nat) (n : Nat) (h : n ≤ xs.length) : repB xs n = true ↔ rep xs n := by
  unfold repB rep
  rw [decide_eq_true_eq]
  constructor
  · intro e i hi
    have := congrArg (fun l => l[i]?) e
    simp only [List.getElem?_drop, List.getElem?_take, if_pos (show i < xs.length - n by omega)] at this
    rw [List.getD_eq_getElem?_getD, List.getD_eq_getElem?_getD, Nat.add_comm i n, this]
  · intro e
    apply ext_getD
    · rw [List.length_drop, List.length_take]; omega
    · intro j hj
      rw [List.length_drop] at hj
      have := e j (by omega)
      rw [List.getD_eq_getElem?_getD, List.getElem?_drop, List.getD_eq_getElem?_getD, List.getElem?_take, if_pos (show j < xs.length - n by omega), ← List.getD_eq_getElem?_getD, ← List.getD_eq_getElem?_getD, Nat.add_comm n j, this]

/-- A number is divided: what the walk wants of it. -/
theorem quo_of {a p q : Nat} (h : a = p * q) (hp : 0 < p) : (a : Int).tdiv (p : Int) = (q : Int) ∧ (a : Int) / (p : Int) = (q : Int) ∧ (a : Int).tmod (p : Int) = 0 ∧ (a : Int) % (p : Int) = 0 := by
  subst h
  have hp' : (p : Int) ≠ 0 := by omega
  refine ⟨?_, ?_, ?_, ?_⟩
  · rw [Int.natCast_mul]; exact Int.mul_tdiv_cancel_left _ hp'
  · rw [Int.natCast_mul]; exact Int.mul_ediv_cancel_left _ hp'
  · rw [Int.natCast_mul]; exact Int.mul_tmod_right _ _
  · rw [Int.natCast_mul]; exact Int.mul_emod_right _ _
theorem rem_of {a p : Nat} (h : ¬ p ∣ a) : ∃ r : Nat, (a : Int).tmod (p : Int) = (r : Int) ∧ (a : Int) % (p : Int) = (r : Int) ∧ ((r : Int) == 0) = false ∧ r ≤ a := by
  refine ⟨a % p, by rw [Int.tmod_eq_emod_of_nonneg (by omega)]; rfl, rfl, ?_, Nat.mod_le _ _⟩
  have : a % p ≠ 0 := fun e => h (Nat.dvd_of_mod_eq_zero e)
  simp; omega
theorem wrap_nat (k : Nat) (h : k ≤ 4611686018427387904) : IntKind.i64.wrap (k : Int) = (k : Int) := by
  simp only [IntKind.wrap, IntKind.bits, IntKind.signed]; simp; omega
theorem quiet_trans {a b c : World} (h : Quiet a b) (k : Quiet b c) : Quiet a c := by
  obtain ⟨p, rfl⟩ := h
  obtain ⟨q, rfl⟩ := k
  exact quiet_more _ _ _

end Go.Proofs.YtbbfajbnklgncaaGreat

/- append of letters; words.copied; slices.Grow, slices.Concat of two; words.turned. -/
namespace Go.Proofs.YtbbfajbnklgncaaGreat
open Go.RowKit
attribute [local go_sem ↓] Go.wp_at_zero Go.wp_at_succ

theorem run_append_lets (w : World) (base : Nat) (v u : Value) (xs ys : List Nat) (hown : w.ownsRow base 73 1 v xs.length (u16s xs)) (hu : Lets w u ys) (hl : xs.length + ys.length ≤ 70368744177664) (hbase : base ≤ w.heap.size) :
    ∃ v' w', (∀ ty, (Builtin.append_ #[105, 105] ty #[v, u]).run Tryz.prog w = .ok v' w') ∧ w'.ownsRow base 73 1 v' (xs ++ ys).length (u16s (xs ++ ys)) ∧ w.grownBy w' v.ownBlock ∧ (v' = .slice none 0 0 ↔ v = .slice none 0 0 ∧ ys = []) ∧ (v'.ownBlock = v.ownBlock ∨ v'.ownBlock = some w.heap.size) := by
  obtain ⟨i0, hi, hz0, hz1, hz2⟩ := info_parts Tryz.infoU16
  rcases hu.lie with ⟨rfl, rfl⟩ | ⟨b, o, c, rfl, h2, h3, h4⟩
  · refine ⟨v, w, fun ty => run_append_owned_none (P := Tryz.prog) (w := w) base 105 ty 73 i0 1 Tryz.underlying105 hi v _ _ hown, by simpa using hown, ⟨rfl, rfl, rfl, Nat.le_refl _, fun _ _ _ => rfl⟩, by simp, .inl rfl⟩
  · obtain ⟨v', w', h5, h6, h7, h8, h9⟩ := run_append_own_at (P := Tryz.prog) w base 105 0 73 i0 _ 1 2 Tryz.underlying105 hi hz0 hz1 hz2 rfl (by decide) v _ _ hown ⟨b, o, none⟩ ys.length c (u16s ys) (by simp [u16s_len]) (lets_news h4) (u16s_one ys) (by unfold maxLen; omega) (by omega) hbase
    exact ⟨v', w', fun _ => h5, by rw [List.length_append, u16s_app]; exact h6, h7, by rw [h8, List.length_eq_zero_iff], h9⟩
theorem own_nil (w : World) (base : Nat) : w.ownsRow base 73 1 (.slice none 0 0) ([] : List Nat).length (u16s []) := ⟨rfl, .inl ⟨rfl, rfl⟩⟩

theorem zeroCells_size (n : Nat) : (Builtin.zeroCells #[Value.int .u16 0] n).size = n := by simp [Builtin.zeroCells]
/-- The two slices that Concat is handed. -/
def Two (W : World) (g : Nat) (v u : Value) : Prop := W.heap[g]? = some (.cells #[v, u] 105 (0, 0))
theorem own_base {W : World} {base : Nat} {e : TypeId} {size : Nat} {v : Value} {n g : Nat} {xs : List Value} (h : W.ownsRow base e size v n xs) (hg : v.ownBlock = some g) : base ≤ g := by
  rcases h.2 with ⟨rfl, _⟩ | ⟨g', cap, cur, rfl, hb, hc, _⟩
  · cases hg
  · cases hg; exact hb
theorem val_int {k : IntKind} {a b : Int} (h : a = b) : Value.int k a = .int k b := by rw [h]
/-- An append to letters of one's own, and what it keeps. -/
theorem append_step {w wr : World} {v u : Value} {xs ys : List Nat} (hk : Kept [] w wr) (hown : wr.ownsRow w.heap.size 73 1 v xs.length (u16s xs)) (hu : Lets wr u ys) (hl : xs.length + ys.length ≤ 70368744177664) :
    ∃ v' w', (∀ ty, (Builtin.append_ #[105, 105] ty #[v, u]).run Tryz.prog wr = .ok v' w') ∧ w'.ownsRow w.heap.size 73 1 v' (xs ++ ys).length (u16s (xs ++ ys)) ∧ Kept [] w w' := by
  obtain ⟨v', w', h1, h2, h3, _, _⟩ := run_append_lets wr w.heap.size v u xs ys hown hu hl hk.size
  exact ⟨v', w', h1, h2, hk.grown h3 (fun k e => .inr (own_base hown e))⟩
def pre2 (xs ys : List Nat) (k : Nat) : List Nat := if k = 0 then [] else if k = 1 then xs else xs ++ ys
end Go.Proofs.YtbbfajbnklgncaaGreat

/- words.turned; words.Normal. -/
namespace Go.Proofs.YtbbfajbnklgncaaGreat
open Go.RowKit
attribute [local go_sem ↓] Go.wp_at_zero Go.wp_at_succ

theorem lets_form {W : World} {b o n c : Nat} {xs : List Nat} (h : Lets W (.slice (some ⟨b, o, none⟩) n c) xs) : n = xs.length ∧ xs.length ≤ c ∧ c ≤ 9223372036854775807 := by
  obtain ⟨_, _, e, h1, h2⟩ := h.form
  cases e
  unfold maxLen at h2
  exact ⟨rfl, h1, by omega⟩
end Go.Proofs.YtbbfajbnklgncaaGreat

/- words.Normal. -/
namespace Go.Proofs.YtbbfajbnklgncaaGreat
open Go.RowKit
attribute [local go_sem ↓] Go.wp_at_zero Go.wp_at_succ

theorem owns_keptF {F : List Nat} {W W' : World} {base : Nat} {e : TypeId} {size : Nat} {v : Value} {n : Nat} {xs : List Value} (h : W.ownsRow base e size v n xs) (k : Kept F W W') (hF : ∀ g, v.ownBlock = some g → g ∉ F) : W'.ownsRow base e size v n xs := by
  refine ⟨h.1, ?_⟩
  rcases h.2 with hn | ⟨g, cap, cur, rfl, hb, hgg, rest⟩
  · exact .inl hn
  · exact .inr ⟨g, cap, cur, rfl, hb, k.at hgg (hF g rfl), rest⟩
theorem owns_low {W : World} {base base' : Nat} {e : TypeId} {size : Nat} {v : Value} {n : Nat} {xs : List Value} (h : W.ownsRow base e size v n xs) (hb : base' ≤ base) : W.ownsRow base' e size v n xs := by
  refine ⟨h.1, ?_⟩
  rcases h.2 with hn | ⟨g, cap, cur, rfl, hb', rest⟩
  · exact .inl hn
  · exact .inr ⟨g, cap, cur, rfl, Nat.le_trans hb hb', rest⟩
theorem owns_lt {W : World} {base : Nat} {e : TypeId} {size : Nat} {v : Value} {n g : Nat} {xs : List Value} (h : W.ownsRow base e size v n xs) (hg : v.ownBlock = some g) : g < W.heap.size := by
  rcases h.2 with ⟨rfl, _⟩ | ⟨g', cap, cur, rfl, hb, hc, _⟩
  · cases hg
  · cases hg; exact lt_of hc
theorem own_form {W : World} {base : Nat} {e : TypeId} {size : Nat} {v : Value} {n : Nat} {xs : List Value} (h : W.ownsRow base e size v n xs) : ∃ ad c, v = .slice ad n c := by
  rcases h.2 with ⟨rfl, h0⟩ | ⟨g', cap, cur, rfl, _⟩
  · exact ⟨none, 0, by rw [h0]⟩
  · exact ⟨_, _, rfl⟩
/-- A word that a call has made: its letters lie in two rows of its own. -/
structure NewW (n₀ : Nat) (w' : World) (sv lv : Value) (r : Wd) : Prop where
  own1 : w'.ownsRow n₀ 73 1 sv r.stem.length (u16s r.stem)
  own2 : w'.ownsRow n₀ 73 1 lv r.loop.length (u16s r.loop)
  apart : ∀ g, sv.ownBlock = some g → lv.ownBlock ≠ some g
  small1 : ∀ x ∈ r.stem, x < 65536
  small2 : ∀ x ∈ r.loop, x < 65536
  few1 : r.stem.length ≤ 70368744177664
  few2 : r.loop.length ≤ 70368744177664
theorem NewW.lets1 {n₀ : Nat} {w' : World} {sv lv : Value} {r : Wd} (h : NewW n₀ w' sv lv r) : Lets w' sv r.stem := lets_own h.own1 h.small1 h.few1
theorem NewW.lets2 {n₀ : Nat} {w' : World} {sv lv : Value} {r : Wd} (h : NewW n₀ w' sv lv r) : Lets w' lv r.loop := lets_own h.own2 h.small2 h.few2
theorem NewW.keptF {n₀ : Nat} {F : List Nat} {W W' : World} {sv lv : Value} {r : Wd} (h : NewW n₀ W sv lv r) (k : Kept F W W') (hF : ∀ x ∈ F, x < n₀) : NewW n₀ W' sv lv r :=
  ⟨owns_keptF h.own1 k (fun g e hg => by have := own_base h.own1 e; have := hF g hg; omega), owns_keptF h.own2 k (fun g e hg => by have := own_base h.own2 e; have := hF g hg; omega), h.apart, h.small1, h.small2, h.few1, h.few2⟩
theorem NewW.kept {n₀ : Nat} {W W' : World} {sv lv : Value} {r : Wd} (h : NewW n₀ W sv lv r) (k : Kept [] W W') : NewW n₀ W' sv lv r := h.keptF k (by simp)
theorem NewW.low {n₀ n₁ : Nat} {W : World} {sv lv : Value} {r : Wd} (h : NewW n₀ W sv lv r) (hn : n₁ ≤ n₀) : NewW n₁ W sv lv r := ⟨owns_low h.own1 hn, owns_low h.own2 hn, h.apart, h.small1, h.small2, h.few1, h.few2⟩
/-- What Normal makes of a word. -/
def NormOf (q r : Wd) : Prop := (q.loop = [] → r = ⟨[], []⟩) ∧ (q.loop ≠ [] → r.Norm ∧ ∀ i, r.at i = q.at i)
def MadeNorm (w : World) (q : Wd) (e : Ending) (w' : World) : Prop :=
  ∃ sv lv r, e = .returned (.agg #[sv, lv]) ∧ NewW w.heap.size w' sv lv r ∧ NormOf q r ∧ Kept [] w w'
theorem new_zero (n₀ : Nat) (w : World) : NewW n₀ w (.slice none 0 0) (.slice none 0 0) ⟨[], []⟩ :=
  ⟨own_nil _ _, own_nil _ _, (fun g e => by cases e), by simp, by simp, by simp, by simp⟩

theorem two_new (w : World) (a b : Obj) : ((w.alloc a).alloc b).heap[w.heap.size]? = some a ∧ ((w.alloc a).alloc b).heap[w.heap.size + 1]? = some b := by
  refine ⟨by rw [Below.heap_alloc _ _ _ (by simp)]; exact heap_alloc_new _ _, ?_⟩
  have := heap_alloc_new (w.alloc a) b
  rwa [World.size_alloc] at this
/-- A word in a block of its own. -/
def Wd2 (W : World) (B : Nat) (a b : Value) : Prop := W.heap[B]? = some (.cells #[a, b] 121 (0, 0))
theorem Wd2.cells {W : World} {B : Nat} {a b : Value} (h : Wd2 W B a b) : W.cell? ⟨B, 0, none⟩ = some a ∧ W.cell? ⟨B, 1, none⟩ = some b ∧ W.frozen? ⟨B, 0, none⟩ = false ∧ W.frozen? ⟨B, 1, none⟩ = false :=
  ⟨(cell_of h 0).trans rfl, (cell_of h 1).trans rfl, free_of h 0, free_of h 1⟩
theorem Wd2.kept {W W' : World} {B : Nat} {a b : Value} (h : Wd2 W B a b) (k : Kept [] W W') : Wd2 W' B a b := k.at h (by simp)
theorem Wd2.set {W : World} {B : Nat} {a b : Value} (h : Wd2 W B a b) (a' b' : Value) : Wd2 ((W.setCell ⟨B, 0, none⟩ a').setCell ⟨B, 1, none⟩ b') B a' b' := by
  unfold Wd2; rw [row_set (row_set h a') b']; rfl
theorem ret_word {fn : Func} {p : Tmp} {a : Act} {w : World} {g : Nat} {x y : Value} {R : Ending → World → Prop} (h : fn.results = #[.cell p 121]) (hp : a.tmps.getD p undef = .pointer (some ⟨g, 0, none⟩)) (hd : a.defers = []) (hg : Wd2 w g x y) (hR : R (.returned (.agg #[x, y])) w) : bodyPost Tryz.prog fn R .ret a w :=
  bodyPost_ret (results_cell_row h _ w g 121 #[x, y] _ _ hp hg Tryz.underlying121 rfl (by kernel_rfl)) hd hR
theorem kept_set2 {w W : World} {B : Nat} (k : Kept [] w W) (hB : w.heap.size ≤ B) (a b : Value) : Kept [] w ((W.setCell ⟨B, 0, none⟩ a).setCell ⟨B, 1, none⟩ b) := (k.setCell (.inr hB) _).setCell (.inr hB) _
def slLen (v : Value) : Nat := match v with | .slice _ n _ => n | _ => 0
theorem Lets.takeA {W : World} {ads : Option Addr} {cs : Nat} {st : List Nat} (h : Lets W (.slice ads st.length cs) st) (m : Nat) (hm : m ≤ st.length) : Lets W (.slice ads m cs) (st.take m) := by
  rcases h.lie with ⟨e, rfl⟩ | ⟨b, o, c, e, _⟩
  · obtain rfl : m = 0 := by simpa using hm
    cases e
    exact Lets.nil W
  · cases e
    exact h.take m hm
theorem new_of {n₁ : Nat} {w2 w3 : World} {sv lv : Value} {r : Wd} (h1 : w2.ownsRow n₁ 73 1 sv r.stem.length (u16s r.stem)) (k : Kept [] w2 w3) (h2 : w3.ownsRow (w2.heap.size + 1) 73 1 lv r.loop.length (u16s r.loop)) (hn : n₁ ≤ w2.heap.size) (s1 : ∀ x ∈ r.stem, x < 65536) (s2 : ∀ x ∈ r.loop, x < 65536) (f1 : r.stem.length ≤ 70368744177664) (f2 : r.loop.length ≤ 70368744177664) : NewW n₁ w3 sv lv r :=
  ⟨owns_keptF h1 k (by simp), owns_low h2 (by omega), fun g e e2 => by have := owns_lt h1 e; have := own_base h2 e2; omega, s1, s2, f1, f2⟩
theorem rot_small {l : List Nat} {n : Nat} (h : ∀ x ∈ l, x < 65536) : ∀ x ∈ rot l n, x < 65536 := by
  intro x hx
  unfold rot at hx
  rcases List.mem_append.1 hx with h1 | h1
  · exact h x (List.mem_of_mem_drop h1)
  · exact h x (List.mem_of_mem_take h1)
/-- What the walk has come to at its end. -/
theorem made_norm {w wr w2 w3 : World} {st lp lq : List Nat} {m first : Nat} {sv lv : Value} (hC1 : ∀ i, (Wd.mk st lq).at i = (Wd.mk st lp).at i) (hC3 : Least (cyc lq) 0 lq.length) (h0 : 0 < lp.length) (hS : StripInv st lq m first) (he : m = 0 ∨ st.getD (m - 1) 0 ≠ lq.getD ((first + lq.length - 1) % lq.length) 0)
    (hk : Kept [] w wr) (hB : Wd2 wr (w.heap.size + 1) (.slice none 0 0) (.slice none 0 0)) (o1 : w2.ownsRow wr.heap.size 73 1 sv (st.take m).length (u16s (st.take m))) (k1 : Kept [] wr w2) (o2 : w3.ownsRow (w2.heap.size + 1) 73 1 lv (rot lq first).length (u16s (rot lq first))) (k2 : Kept [] w2 w3)
    (s1 : ∀ x ∈ st, x < 65536) (s2 : ∀ x ∈ lq, x < 65536) (f1 : st.length ≤ 70368744177664) (f2 : lq.length ≤ 70368744177664) :
    MadeNorm w ⟨st, lp⟩ (.returned (.agg #[sv, lv])) ((w3.setCell ⟨w.heap.size + 1, 0, none⟩ sv).setCell ⟨w.heap.size + 1, 1, none⟩ lv) ∧ Wd2 ((w3.setCell ⟨w.heap.size + 1, 0, none⟩ sv).setCell ⟨w.heap.size + 1, 1, none⟩ lv) (w.heap.size + 1) sv lv := by
  have k3 : Kept [] wr w3 := k1.trans k2 (by simp) (by simp)
  have hB3 := hB.kept k3
  have hlt : w.heap.size + 1 < wr.heap.size := lt_of hB
  have hn := new_of (r := ⟨st.take m, rot lq first⟩) o1 k2 o2 k1.size (fun x hx => s1 x (List.mem_of_mem_take hx)) (rot_small s2) (by show (st.take m).length ≤ _; rw [List.length_take]; omega) (by show (rot lq first).length ≤ _; rw [rot_length]; exact f2)
  have kF : Kept [w.heap.size + 1] w3 ((w3.setCell ⟨w.heap.size + 1, 0, none⟩ sv).setCell ⟨w.heap.size + 1, 1, none⟩ lv) := ((Kept.refl _ w3).setCell (.inl (by simp)) _).setCell (.inl (by simp)) _
  refine ⟨⟨sv, lv, ⟨st.take m, rot lq first⟩, rfl, (hn.keptF kF (by simpa using hlt)).low hk.size, ⟨fun e => ?_, fun _ => ⟨hS.norm hC3 he, fun i => (hS.same i).trans (hC1 i)⟩⟩, ?_⟩, hB3.set _ _⟩
  · have e' : lp = [] := e
    rw [e'] at h0; simp at h0
  · exact kept_set2 (hk.trans k3 (by simp) (by simp)) (by simp) _ _
theorem rem_last {first d : Nat} (h : first < d) : ∃ la : Nat, la = (first + d - 1) % d ∧ la < d ∧ ((first : Int) + (d : Int) - 1).tmod (d : Int) = (la : Int) ∧ ((first : Int) + (d : Int) - 1) % (d : Int) = (la : Int) := by
  refine ⟨(first + d - 1) % d, rfl, Nat.mod_lt _ (by omega), ?_, ?_⟩
  · rw [Int.tmod_eq_emod_of_nonneg (by omega)]; rw [show (first : Int) + (d : Int) - 1 = ((first + d - 1 : Nat) : Int) by omega]; rfl
  · rw [show (first : Int) + (d : Int) - 1 = ((first + d - 1 : Nat) : Int) by omega]; rfl
end Go.Proofs.YtbbfajbnklgncaaGreat

/- Appends that leave the old row as it was where they move: for Own. -/
namespace Go.Proofs.YtbbfajbnklgncaaGreat
open Go.RowKit Go.Shelf

theorem run_append_keep {P : Program} (w : World) (t ty : TypeId) (base : Nat) (e : TypeId) (i : TypeInfo) (z : Value) (size bytes : Nat) (ht : P.underlying t = some (.slice e)) (hi : P.info? e = some i) (hz : i.zero = some z)
    (hsize : i.size = size) (hby : i.bytes = bytes) (hzs : z.cells.size = size) (hsz : 0 < size)
    (v : Value) (n : Nat) (xs : List Value) (hown : w.ownsRow base e size v n xs)
    (ad : Addr) (m c : Nat) (news : List Value) (hl : news.length = m * size) (hnews : ∀ j u, news[j]? = some u → w.cell? (ad.add j) = some u) (h1 : ∀ u ∈ news, u.oneCell' = true)
    (hm : 0 < m) (h63 : n + m ≤ maxLen) (hbytes : (n + m) * bytes ≤ 140737488355328) (hbase : base ≤ w.heap.size) :
    ∃ g cap w', (Builtin.append_ #[t, t] ty #[v, .slice (some ad) m c]).run P w = .ok (.slice (some ⟨g, 0, none⟩) (n + m) cap) w' ∧
      w'.ownsRow base e size (.slice (some ⟨g, 0, none⟩) (n + m) cap) (n + m) (xs ++ news) ∧ w.grownBy w' v.ownBlock ∧ (v.ownBlock = some g ∨ (g = w.heap.size ∧ Kept [] w w')) ∧ g < w'.heap.size := by
  obtain ⟨g, cap, w', hr, h2, h3, h4, h5⟩ := run_append_lies (P := P) w t ty base e i z size bytes ht hi hz hsize hby hzs hsz v n xs hown ad m c news hl hnews h1 hm h63 hbytes hbase _ rfl
  refine ⟨g, cap, w', hr, h2, h3, ?_, h5⟩
  have hsmall : n + m ≤ 9223372036854775807 := by simp only [maxLen] at h63; omega
  rcases h4 with h4 | h4
  · exact .inl h4
  · subst hsize hby
    rcases hown.2 with ⟨rfl, rfl⟩ | ⟨g0, cap0, cur, rfl, hbg, hg, hnc, hcm, hcs, htake⟩
    · have hr2 := run_append_nil (P := P) w t ty e i z ht hi hz ad m c news hl hnews hm (by omega) (by have hb := hbytes; rw [Nat.zero_add] at hb; omega)
      have e := (Result.ok.inj (hr.symm.trans hr2)).2
      exact .inr ⟨h4, by rw [e]; exact ((Kept.refl [] w).drew).alloc _⟩
    · by_cases hroom : n + m ≤ cap0
      · obtain ⟨w2, hr2, _⟩ := run_append_fits (P := P) w base t ty e i i.size ht hi rfl g0 n cap0 xs hown ad m c news hl hnews h1 hroom
        rw [hr] at hr2
        cases hr2
        exact .inl rfl
      · have holds : ∀ j u, xs[j]? = some u → w.cell? ((⟨g0, 0, none⟩ : Addr).add j) = some u := hown.cells (g := g0) rfl
        have hr2 := run_append_grow (P := P) w t ty e i z ht hi hz ⟨g0, 0, none⟩ n cap0 xs hown.1 holds ad m c news hl hnews (by omega) (by omega) (growslice_fits (by omega) hbytes)
        rw [hr] at hr2
        cases hr2
        exact .inr ⟨h4, ((Kept.refl [] w).drew).alloc _⟩
end Go.Proofs.YtbbfajbnklgncaaGreat
