/- Letters in memory. No walk here. -/
import Derived.Test.YtnpeghaficghaaaGreatDoorGA
import Derived.Test.YtnpeghaficghaaaGreatDoorGB
import Derived.Maps.AppendAt
import Derived.Laws.AppendOwnNone
import Derived.WalkLawsBesides
import Derived.Deep.RegionHeld3
import Derived.Deep.DrawnRows
import Derived.BigRegion
import Derived.Deep.RegionWith
import Derived.Deep.QuietTactic
import Derived.BigQuiet
import Derived.Lib.AppendZeros
namespace Go.Proofs.YtnpeghaficghaaaGreatDoor
open Go.RowKit

/-- Only draws. -/
def Quiet (w w' : World) : Prop := ∃ q, w' = w.drewN q
theorem Quiet.refl (w : World) : Quiet w w := ⟨0, rfl⟩
theorem Quiet.kept {w w' : World} (h : Quiet w w') : Kept [] w w' := by
  obtain ⟨q, rfl⟩ := h
  exact (Kept.refl [] w).drewN q
/-- The letters xs are what v tells, in W: no slice, or one somewhere. -/
structure Lets (W : World) (v : Value) (xs : List Nat) : Prop where
  small : ∀ x ∈ xs, x < 65536
  few : xs.length ≤ 70368744177664
  lie : (v = .slice none 0 0 ∧ xs = []) ∨ ∃ b o c, v = .slice (some ⟨b, o, none⟩) xs.length c ∧ xs.length ≤ c ∧ c ≤ maxLen ∧ ∀ i, i < xs.length → W.cell? ⟨b, o + i, none⟩ = some (.int .u16 (xs.getD i 0 : Nat))
theorem Lets.kept {W W' : World} {v : Value} {xs : List Nat} (h : Lets W v xs) (k : Kept [] W W') : Lets W' v xs := by
  refine ⟨h.small, h.few, ?_⟩
  rcases h.lie with h1 | ⟨b, o, c, h1, h2, h3, h4⟩
  · exact .inl h1
  · exact .inr ⟨b, o, c, h1, h2, h3, fun i hi => cell_kept0 k (h4 i hi)⟩
theorem Lets.nil (W : World) : Lets W (.slice none 0 0) [] := ⟨by simp, by simp, .inl ⟨rfl, rfl⟩⟩
/-- A slice's form. -/
theorem Lets.form {W : World} {v : Value} {xs : List Nat} (h : Lets W v xs) : ∃ ad c, v = .slice ad xs.length c ∧ xs.length ≤ c ∧ c ≤ maxLen := by
  rcases h.lie with ⟨rfl, rfl⟩ | ⟨b, o, c, rfl, h2, h3, _⟩
  · exact ⟨none, 0, rfl, Nat.le_refl _, by unfold maxLen; omega⟩
  · exact ⟨_, c, rfl, h2, h3⟩
theorem Lets.there {W : World} {v : Value} {xs : List Nat} (h : Lets W v xs) (h0 : 0 < xs.length) : ∃ b o c, v = .slice (some ⟨b, o, none⟩) xs.length c ∧ xs.length ≤ c ∧ c ≤ maxLen ∧ ∀ i, i < xs.length → W.cell? ⟨b, o + i, none⟩ = some (.int .u16 (xs.getD i 0 : Nat)) := by
  rcases h.lie with ⟨_, rfl⟩ | h1
  · simp at h0
  · exact h1
/-- A part of a slice. -/
theorem Lets.part {W : World} {b o c : Nat} {xs : List Nat} (h : Lets W (.slice (some ⟨b, o, none⟩) xs.length c) xs) (lo hi : Nat) (h1 : lo ≤ hi) (h2 : hi ≤ xs.length) : Lets W (.slice (some ⟨b, o + lo, none⟩) (hi - lo) (c - lo)) ((xs.take hi).drop lo) := by
  have hl : ((xs.take hi).drop lo).length = hi - lo := by rw [List.length_drop, List.length_take]; omega
  have hf := h.few
  refine ⟨fun x hx => h.small x (List.mem_of_mem_take (List.mem_of_mem_drop hx)), by omega, .inr ?_⟩
  rcases h.lie with ⟨h3, _⟩ | ⟨b', o', c', h3, h4, h5, h6⟩
  · cases h3
  · simp only [Value.slice.injEq, Option.some.injEq, Addr.mk.injEq, and_true, true_and] at h3
    obtain ⟨⟨rfl, rfl⟩, rfl⟩ := h3
    refine ⟨b, o + lo, c - lo, by rw [hl], by omega, by omega, fun i hi' => ?_⟩
    rw [hl] at hi'
    rw [Nat.add_assoc, h6 (lo + i) (by omega)]
    simp [List.getD_eq_getElem?_getD, List.getElem?_drop, show lo + i < hi by omega]
theorem Lets.take {W : World} {b o c : Nat} {xs : List Nat} (h : Lets W (.slice (some ⟨b, o, none⟩) xs.length c) xs) (n : Nat) (h2 : n ≤ xs.length) : Lets W (.slice (some ⟨b, o, none⟩) n c) (xs.take n) := by
  have := h.part 0 n (Nat.zero_le _) h2
  simpa using this
theorem Lets.drop {W : World} {b o c : Nat} {xs : List Nat} (h : Lets W (.slice (some ⟨b, o, none⟩) xs.length c) xs) (n : Nat) (h2 : n ≤ xs.length) : Lets W (.slice (some ⟨b, o + n, none⟩) (xs.length - n) (c - n)) (xs.drop n) := by
  have := h.part n xs.length h2 (Nat.le_refl _)
  simpa using this
/-- What is cut off ahead, as the model writes it. -/
theorem Lets.dropI {W : World} {b o c : Nat} {xs : List Nat} (h : Lets W (.slice (some ⟨b, o, none⟩) xs.length c) xs) (n : Nat) (h2 : n ≤ xs.length) : Lets W (.slice (if c = n then some ⟨b, o, none⟩ else some ⟨b, o + n, none⟩) (xs.length - n) (c - n)) (xs.drop n) := by
  by_cases e : c = n
  · rw [if_pos e]
    obtain ⟨ad, c', e2, h3, h4⟩ := h.form
    cases e2
    have hl : (xs.drop n).length = 0 := by rw [List.length_drop]; omega
    have e0 : xs.drop n = [] := List.length_eq_zero_iff.1 hl
    rw [e0]
    refine ⟨by simp, by simp, .inr ⟨b, o, c - n, ?_, by simp, by unfold maxLen at *; omega, by simp⟩⟩
    rw [show xs.length - n = 0 by omega]; rfl
  · rw [if_neg e]; exact h.drop n h2
/-- The values of letters. -/
def u16s (xs : List Nat) : List Value := xs.map fun x => .int .u16 (x : Nat)
theorem u16s_len (xs : List Nat) : (u16s xs).length = xs.length := by simp [u16s]
theorem u16s_app (xs ys : List Nat) : u16s (xs ++ ys) = u16s xs ++ u16s ys := by simp [u16s]
theorem u16s_one (xs : List Nat) : ∀ u ∈ u16s xs, u.oneCell' = true := by
  intro u hu
  obtain ⟨x, _, rfl⟩ := List.mem_map.1 hu
  rfl
theorem u16s_at {xs : List Nat} {j : Nat} {u : Value} (h : (u16s xs)[j]? = some u) : j < xs.length ∧ u = .int .u16 (xs.getD j 0 : Nat) := by
  rcases Nat.lt_or_ge j xs.length with hj | hj
  · refine ⟨hj, ?_⟩
    simp [u16s, hj] at h
    rw [← h]; simp [List.getD_eq_getElem?_getD, hj]
  · rw [List.getElem?_eq_none (by simpa [u16s] using hj)] at h; cases h
theorem addr_add (b o j : Nat) : (⟨b, o, none⟩ : Addr).add j = ⟨b, o + j, none⟩ := by
  unfold Addr.add; simp
/-- What an append reads. -/
theorem lets_news {W : World} {b o : Nat} {xs : List Nat} (h : ∀ i, i < xs.length → W.cell? ⟨b, o + i, none⟩ = some (.int .u16 (xs.getD i 0 : Nat))) : ∀ j u, (u16s xs)[j]? = some u → W.cell? ((⟨b, o, none⟩ : Addr).add j) = some u := by
  intro j u hj
  obtain ⟨h1, rfl⟩ := u16s_at hj
  rw [addr_add]; exact h j h1
theorem Tryz.infoU16 : (Tryz.prog.info? 90).map (fun i => (i.zero, i.size, i.bytes)) = some (some (.int .u16 0), 1, 2) := by kernel_rfl
/-- A row of one's own tells its letters. -/
theorem lets_own {W : World} {base : Nat} {v : Value} {xs : List Nat} (h : W.ownsRow base 90 1 v xs.length (u16s xs)) (hs : ∀ x ∈ xs, x < 65536) (hf : xs.length ≤ 70368744177664) : Lets W v xs := by
  refine ⟨hs, hf, ?_⟩
  rcases h.2 with ⟨rfl, h0⟩ | ⟨g, cap, cur, rfl, h1, h2, h3, h4, h5, h6⟩
  · exact .inl ⟨rfl, List.length_eq_zero_iff.1 h0⟩
  · refine .inr ⟨g, 0, cap, rfl, h3, h4, fun i hi => ?_⟩
    rw [Nat.zero_add, h.cellAt i (by omega)]
    simp [u16s, hi]
end Go.Proofs.YtnpeghaficghaaaGreatDoor

/- slices.Equal at letters; words.repeats, words.period, words.endless. -/
namespace Go.Proofs.YtnpeghaficghaaaGreatDoor
open Go.RowKit
attribute [local go_sem ↓] Go.wp_at_zero Go.wp_at_succ

theorem quiet_more (w : World) (q n : Nat) : Quiet w ((w.drewN q).drewN n) := ⟨q + n, by simp [World.drewN, Nat.add_assoc]⟩
theorem ext_getD {xs ys : List Nat} (hl : xs.length = ys.length) (h : ∀ j, j < xs.length → xs.getD j 0 = ys.getD j 0) : xs = ys := by
  apply List.ext_getElem hl
  intro j h1 h2
  have := h j h1
  simpa [List.getD_eq_getElem?_getD, h1, h2] using this

end Go.Proofs.YtnpeghaficghaaaGreatDoor

/- words.endless, words.repeats, words.period. -/
namespace Go.Proofs.YtnpeghaficghaaaGreatDoor
open Go.RowKit
attribute [local go_sem ↓] Go.wp_at_zero Go.wp_at_succ

set_option maxHeartbeats 400000 in
theorem endless_any (sv : Value) (ad : Option Addr) (n c : Nat) (w : World) :
    Calls Tryz.prog 99 #[.agg #[sv, .slice ad n c]] w fun e w' => e = .returned (.bool (decide (0 < n))) ∧ Kept [] w w' := by
  by_cases h : 0 < n
  · have hi : (0 : Int) < (n : Int) := by omega
    have hd : decide (0 < n) = true := by simpa using h
    rw [hd]
    clear hd
    go_enter Tryz.func99, Tryz.ntmps99
    go_wp2
    go_ret
    exact ⟨rfl, (Kept.refl [] w).alloc _⟩
  · have hi : ¬ (0 : Int) < (n : Int) := by omega
    have hd : decide (0 < n) = false := by simpa using h
    rw [hd]
    clear hd
    go_enter Tryz.func99, Tryz.ntmps99
    go_wp2
    go_ret
    exact ⟨rfl, (Kept.refl [] w).alloc _⟩

/-- Is a row its first n letters, again and again? -/
def repB (xs : List Nat) (n : Nat) : Bool := decide (xs.drop n = xs.take (xs.length - n))
theorem repB_iff (xs : List Nat) (n : Nat) (h : n ≤ xs.length) : repB xs n = true ↔ rep xs n := by
  unfold repB rep
  rw [decide_eq_true_eq]
  constructor
  · intro e i hi
    have := congrArg (fun l => l[i]?) e
    simp only [List.getElem?_drop, List.getElem?_take, if_pos (show i < xs.length - n by omega)] at this
    rw [List.getD_eq_getElem?_getD, List.getD_eq_getElem?_getD, Nat.add_comm i n, this]
  · intro e
    apply ext_getD
    · rw [List.length_drop, List.length_take]; omega
    · intro j hj
      rw [List.length_drop] at hj
      have := e j (by omega)
      rw [List.getD_eq_getElem?_getD, List.getElem?_drop, List.getD_eq_getElem?_getD, List.getElem?_take, if_pos (show j < xs.length - n by omega), ← List.getD_eq_getElem?_getD, ← List.getD_eq_getElem?_getD, Nat.add_comm n j, this]

/-- A number is divided: what the walk wants of it. -/
theorem quo_of {a p q : Nat} (h : a = p * q) (hp : 0 < p) : (a : Int).tdiv (p : Int) = (q : Int) ∧ (a : Int) / (p : Int) = (q : Int) ∧ (a : Int).tmod (p : Int) = 0 ∧ (a : Int) % (p : Int) = 0 := by
  subst h
  have hp' : (p : Int) ≠ 0 := by omega
  refine ⟨?_, ?_, ?_, ?_⟩
  · rw [Int.natCast_mul]; exact Int.mul_tdiv_cancel_left _ hp'
  · rw [Int.natCast_mul]; exact Int.mul_ediv_cancel_left _ hp'
  · rw [Int.natCast_mul]; exact Int.mul_tmod_right _ _
  · rw [Int.natCast_mul]; exact Int.mul_emod_right _ _
theorem rem_of {a p : Nat} (h : ¬ p ∣ a) : ∃ r : Nat, (a : Int).tmod (p : Int) = (r : Int) ∧ (a : Int) % (p : Int) = (r : Int) ∧ ((r : Int) == 0) = false ∧ r ≤ a := by
  refine ⟨a % p, by rw [Int.tmod_eq_emod_of_nonneg (by omega)]; rfl, rfl, ?_, Nat.mod_le _ _⟩
  have : a % p ≠ 0 := fun e => h (Nat.dvd_of_mod_eq_zero e)
  simp; omega
theorem wrap_nat (k : Nat) (h : k ≤ 4611686018427387904) : IntKind.i64.wrap (k : Int) = (k : Int) := by
  simp only [IntKind.wrap, IntKind.bits, IntKind.signed]; simp; omega
theorem quiet_trans {a b c : World} (h : Quiet a b) (k : Quiet b c) : Quiet a c := by
  obtain ⟨p, rfl⟩ := h
  obtain ⟨q, rfl⟩ := k
  exact quiet_more _ _ _

end Go.Proofs.YtnpeghaficghaaaGreatDoor

/- append of letters; words.copied; slices.Grow, slices.Concat of two; words.turned. -/
namespace Go.Proofs.YtnpeghaficghaaaGreatDoor
open Go.RowKit
attribute [local go_sem ↓] Go.wp_at_zero Go.wp_at_succ

theorem run_append_lets (w : World) (base : Nat) (v u : Value) (xs ys : List Nat) (hown : w.ownsRow base 90 1 v xs.length (u16s xs)) (hu : Lets w u ys) (hl : xs.length + ys.length ≤ 70368744177664) (hbase : base ≤ w.heap.size) :
    ∃ v' w', (∀ ty, (Builtin.append_ #[27, 27] ty #[v, u]).run Tryz.prog w = .ok v' w') ∧ w'.ownsRow base 90 1 v' (xs ++ ys).length (u16s (xs ++ ys)) ∧ w.grownBy w' v.ownBlock ∧ (v' = .slice none 0 0 ↔ v = .slice none 0 0 ∧ ys = []) ∧ (v'.ownBlock = v.ownBlock ∨ v'.ownBlock = some w.heap.size) := by
  obtain ⟨i0, hi, hz0, hz1, hz2⟩ := info_parts Tryz.infoU16
  rcases hu.lie with ⟨rfl, rfl⟩ | ⟨b, o, c, rfl, h2, h3, h4⟩
  · refine ⟨v, w, fun ty => run_append_owned_none (P := Tryz.prog) (w := w) base 27 ty 90 i0 1 Tryz.underlying27 hi v _ _ hown, by simpa using hown, ⟨rfl, rfl, rfl, Nat.le_refl _, fun _ _ _ => rfl⟩, by simp, .inl rfl⟩
  · obtain ⟨v', w', h5, h6, h7, h8, h9⟩ := run_append_own_at (P := Tryz.prog) w base 27 0 90 i0 _ 1 2 Tryz.underlying27 hi hz0 hz1 hz2 rfl (by decide) v _ _ hown ⟨b, o, none⟩ ys.length c (u16s ys) (by simp [u16s_len]) (lets_news h4) (u16s_one ys) (by unfold maxLen; omega) (by omega) hbase
    exact ⟨v', w', fun _ => h5, by rw [List.length_append, u16s_app]; exact h6, h7, by rw [h8, List.length_eq_zero_iff], h9⟩
theorem own_nil (w : World) (base : Nat) : w.ownsRow base 90 1 (.slice none 0 0) ([] : List Nat).length (u16s []) := ⟨rfl, .inl ⟨rfl, rfl⟩⟩

theorem zeroCells_size (n : Nat) : (Builtin.zeroCells #[Value.int .u16 0] n).size = n := by simp [Builtin.zeroCells]
/-- The two slices that Concat is handed. -/
def Two (W : World) (g : Nat) (v u : Value) : Prop := W.heap[g]? = some (.cells #[v, u] 27 (0, 0))
theorem own_base {W : World} {base : Nat} {e : TypeId} {size : Nat} {v : Value} {n g : Nat} {xs : List Value} (h : W.ownsRow base e size v n xs) (hg : v.ownBlock = some g) : base ≤ g := by
  rcases h.2 with ⟨rfl, _⟩ | ⟨g', cap, cur, rfl, hb, hc, _⟩
  · cases hg
  · cases hg; exact hb
theorem val_int {k : IntKind} {a b : Int} (h : a = b) : Value.int k a = .int k b := by rw [h]
/-- An append to letters of one's own, and what it keeps. -/
theorem append_step {w wr : World} {v u : Value} {xs ys : List Nat} (hk : Kept [] w wr) (hown : wr.ownsRow w.heap.size 90 1 v xs.length (u16s xs)) (hu : Lets wr u ys) (hl : xs.length + ys.length ≤ 70368744177664) :
    ∃ v' w', (∀ ty, (Builtin.append_ #[27, 27] ty #[v, u]).run Tryz.prog wr = .ok v' w') ∧ w'.ownsRow w.heap.size 90 1 v' (xs ++ ys).length (u16s (xs ++ ys)) ∧ Kept [] w w' := by
  obtain ⟨v', w', h1, h2, h3, _, _⟩ := run_append_lets wr w.heap.size v u xs ys hown hu hl hk.size
  exact ⟨v', w', h1, h2, hk.grown h3 (fun k e => .inr (own_base hown e))⟩
def pre2 (xs ys : List Nat) (k : Nat) : List Nat := if k = 0 then [] else if k = 1 then xs else xs ++ ys
end Go.Proofs.YtnpeghaficghaaaGreatDoor

/- words.turned; words.Normal. -/
namespace Go.Proofs.YtnpeghaficghaaaGreatDoor
open Go.RowKit
attribute [local go_sem ↓] Go.wp_at_zero Go.wp_at_succ

theorem lets_form {W : World} {b o n c : Nat} {xs : List Nat} (h : Lets W (.slice (some ⟨b, o, none⟩) n c) xs) : n = xs.length ∧ xs.length ≤ c ∧ c ≤ 9223372036854775807 := by
  obtain ⟨_, _, e, h1, h2⟩ := h.form
  cases e
  unfold maxLen at h2
  exact ⟨rfl, h1, by omega⟩
end Go.Proofs.YtnpeghaficghaaaGreatDoor
