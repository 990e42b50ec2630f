/- Lists of names, numbers, edges in memory; the small functions of package buchi: isState, isLetter, cmp.Compare, compareEdges, slices.Index and Contains of names. -/
import Derived.Test.YtcojlcbljhnbgaaBuName
namespace Go.Proofs.Ytcojlcbljhnbgaa
open Go.RowKit Go.Shelf

/-- The names xs are what v tells, in W. -/
structure Strs (W : World) (v : Value) (xs : List ByteArray) : Prop where
  few : xs.length ≤ 8796093022208
  small : ∀ x ∈ xs, x.size ≤ maxLen
  lie : (v = .slice none 0 0 ∧ xs = []) ∨ ∃ b o c, v = .slice (some ⟨b, o, none⟩) xs.length c ∧ xs.length ≤ c ∧ c ≤ maxLen ∧ ∀ i (h : i < xs.length), W.cell? ⟨b, o + i, none⟩ = some (.string xs[i])
theorem Strs.kept {W W' : World} {v : Value} {xs : List ByteArray} (h : Strs W v xs) (k : Kept [] W W') : Strs W' v xs := by
  refine ⟨h.few, h.small, ?_⟩
  rcases h.lie with h1 | ⟨b, o, c, h1, h2, h3, h4⟩
  · exact .inl h1
  · exact .inr ⟨b, o, c, h1, h2, h3, fun i hi => cell_kept0 k (h4 i hi)⟩
theorem Strs.form {W : World} {v : Value} {xs : List ByteArray} (h : Strs W v xs) : ∃ ad c, v = .slice ad xs.length c ∧ xs.length ≤ c ∧ c ≤ maxLen := by
  rcases h.lie with ⟨rfl, rfl⟩ | ⟨b, o, c, rfl, h2, h3, _⟩
  · exact ⟨none, 0, rfl, Nat.le_refl _, by unfold maxLen; omega⟩
  · exact ⟨_, c, rfl, h2, h3⟩
theorem Strs.there {W : World} {v : Value} {xs : List ByteArray} (h : Strs W v xs) (h0 : 0 < xs.length) : ∃ b o c, v = .slice (some ⟨b, o, none⟩) xs.length c ∧ xs.length ≤ c ∧ c ≤ maxLen ∧ ∀ i (h : i < xs.length), W.cell? ⟨b, o + i, none⟩ = some (.string xs[i]) := by
  rcases h.lie with ⟨_, rfl⟩ | h1
  · simp at h0
  · exact h1
/-- The numbers xs are what v tells. -/
structure Ints (W : World) (v : Value) (xs : List Int) : Prop where
  few : xs.length ≤ 17592186044416
  wf : ∀ x ∈ xs, -9223372036854775808 ≤ x ∧ x ≤ 9223372036854775807
  lie : ((∃ ad c, v = .slice ad 0 c ∧ c ≤ maxLen ∧ (ad = none → c = 0)) ∧ xs = []) ∨ ∃ b o c, v = .slice (some ⟨b, o, none⟩) xs.length c ∧ xs.length ≤ c ∧ c ≤ maxLen ∧ ∀ i (h : i < xs.length), W.cell? ⟨b, o + i, none⟩ = some (.int .i64 xs[i])
theorem Ints.kept {W W' : World} {v : Value} {xs : List Int} (h : Ints W v xs) (k : Kept [] W W') : Ints W' v xs := by
  refine ⟨h.few, h.wf, ?_⟩
  rcases h.lie with h1 | ⟨b, o, c, h1, h2, h3, h4⟩
  · exact .inl h1
  · exact .inr ⟨b, o, c, h1, h2, h3, fun i hi => cell_kept0 k (h4 i hi)⟩
theorem Ints.form {W : World} {v : Value} {xs : List Int} (h : Ints W v xs) : ∃ ad c, v = .slice ad xs.length c ∧ xs.length ≤ c ∧ c ≤ maxLen := by
  rcases h.lie with ⟨⟨ad, c, rfl, hc, _⟩, rfl⟩ | ⟨b, o, c, rfl, h2, h3, _⟩
  · exact ⟨ad, c, rfl, Nat.zero_le _, hc⟩
  · exact ⟨_, c, rfl, h2, h3⟩
theorem Ints.there {W : World} {v : Value} {xs : List Int} (h : Ints W v xs) (h0 : 0 < xs.length) : ∃ b o c, v = .slice (some ⟨b, o, none⟩) xs.length c ∧ xs.length ≤ c ∧ c ≤ maxLen ∧ ∀ i (h : i < xs.length), W.cell? ⟨b, o + i, none⟩ = some (.int .i64 xs[i]) := by
  rcases h.lie with ⟨_, rfl⟩ | h1
  · simp at h0
  · exact h1
/-- An edge, and edges in memory. -/
structure Edg where
  fr : Int
  to : Int
  mu : Nat
  no : Nat
def Edg.ok (e : Edg) : Prop := (-9223372036854775808 ≤ e.fr ∧ e.fr ≤ 9223372036854775807) ∧ (-9223372036854775808 ≤ e.to ∧ e.to ≤ 9223372036854775807) ∧ e.mu < 65536 ∧ e.no < 65536
structure Edgs (W : World) (v : Value) (es : List Edg) : Prop where
  few : es.length ≤ 8796093022208
  wf : ∀ e ∈ es, e.ok
  lie : (v = .slice none 0 0 ∧ es = []) ∨ ∃ b o c, v = .slice (some ⟨b, o, none⟩) es.length c ∧ es.length ≤ c ∧ c ≤ maxLen ∧ ∀ i (h : i < es.length), W.cell? ⟨b, o + i * 4, none⟩ = some (.int .i64 es[i].fr) ∧ W.cell? ⟨b, o + i * 4 + 1, none⟩ = some (.int .i64 es[i].to) ∧ W.cell? ⟨b, o + i * 4 + 2, none⟩ = some (.int .u16 (es[i].mu : Nat)) ∧ W.cell? ⟨b, o + i * 4 + 3, none⟩ = some (.int .u16 (es[i].no : Nat))
theorem Edgs.kept {W W' : World} {v : Value} {es : List Edg} (h : Edgs W v es) (k : Kept [] W W') : Edgs W' v es := by
  refine ⟨h.few, h.wf, ?_⟩
  rcases h.lie with h1 | ⟨b, o, c, h1, h2, h3, h4⟩
  · exact .inl h1
  · exact .inr ⟨b, o, c, h1, h2, h3, fun i hi => ⟨cell_kept0 k (h4 i hi).1, cell_kept0 k (h4 i hi).2.1, cell_kept0 k (h4 i hi).2.2.1, cell_kept0 k (h4 i hi).2.2.2⟩⟩
theorem Edgs.form {W : World} {v : Value} {es : List Edg} (h : Edgs W v es) : ∃ ad c, v = .slice ad es.length c ∧ es.length ≤ c ∧ c ≤ maxLen := by
  rcases h.lie with ⟨rfl, rfl⟩ | ⟨b, o, c, rfl, h2, h3, _⟩
  · exact ⟨none, 0, rfl, Nat.le_refl _, by unfold maxLen; omega⟩
  · exact ⟨_, c, rfl, h2, h3⟩
def stateB (s n : Int) : Bool := decide (0 ≤ s) && decide (s < n)
theorem isState_any (s n : Int) (w : World) : Calls Try.prog 64 #[.int .i64 s, .int .i64 n] w fun e w' => e = .returned (.bool (stateB s n)) ∧ w' = w := by
  unfold stateB
  by_cases h : 0 ≤ s
  · have e : decide (0 ≤ s) = true := decide_eq_true h
    rw [e, Bool.true_and]
    go_enter Try.func64, Try.ntmps64
    go_wp2
    go_ret
    exact ⟨rfl, rfl⟩
  · have e : decide (0 ≤ s) = false := decide_eq_false h
    rw [e, Bool.false_and]
    go_enter Try.func64, Try.ntmps64
    go_wp2
    go_ret
    exact ⟨rfl, rfl⟩
def cmpI (a b : Int) : Int := if a < b then -1 else if b < a then 1 else 0
theorem isNaNi_any (a : Int) (w : World) : Calls Try.prog 70 #[.int .i64 a] w fun e w' => e = .returned (.bool false) ∧ w' = w := by
  go_enter Try.func70, Try.ntmps70
  go_wp2
  go_ret
  exact ⟨by simp, rfl⟩
theorem isNaNu_any (a : Nat) (w : World) : Calls Try.prog 71 #[.int .u16 (a : Nat)] w fun e w' => e = .returned (.bool false) ∧ w' = w := by
  go_enter Try.func71, Try.ntmps71
  go_wp2
  go_ret
  exact ⟨by simp, rfl⟩
theorem compareI_any (a b : Int) (w : World) : Calls Try.prog 68 #[.int .i64 a, .int .i64 b] w fun e w' => e = .returned (.int .i64 (cmpI a b)) ∧ w' = w := by
  unfold cmpI
  have HN : Hid (∀ a W, Calls Try.prog 70 #[.int .i64 a] W fun e w' => e = .returned (.bool false) ∧ w' = W) := fun a W => isNaNi_any a W
  by_cases h : a < b
  · rw [if_pos h]
    go_enter Try.func68, Try.ntmps68
    go_wp2_with (go_at_call 70; refine (HN.out _ _).mono ?_; rintro e w1 ⟨rfl, rfl⟩)
    go_ret
    exact ⟨rfl, rfl⟩
  · rw [if_neg h]
    by_cases h2 : b < a
    · rw [if_pos h2]
      go_enter Try.func68, Try.ntmps68
      go_wp2_with (go_at_call 70; refine (HN.out _ _).mono ?_; rintro e w1 ⟨rfl, rfl⟩)
      go_ret
      exact ⟨rfl, rfl⟩
    · rw [if_neg h2]
      go_enter Try.func68, Try.ntmps68
      go_wp2_with (go_at_call 70; refine (HN.out _ _).mono ?_; rintro e w1 ⟨rfl, rfl⟩)
      go_ret
      exact ⟨rfl, rfl⟩
theorem compareU_any (a b : Nat) (w : World) : Calls Try.prog 69 #[.int .u16 (a : Nat), .int .u16 (b : Nat)] w fun e w' => e = .returned (.int .i64 (cmpI a b)) ∧ w' = w := by
  unfold cmpI
  have HN : Hid (∀ (a : Nat) W, Calls Try.prog 71 #[.int .u16 (a : Nat)] W fun e w' => e = .returned (.bool false) ∧ w' = W) := fun a W => isNaNu_any a W
  by_cases h : (a : Int) < b
  · rw [if_pos h]
    go_enter Try.func69, Try.ntmps69
    go_wp2_with (go_at_call 71; refine (HN.out _ _).mono ?_; rintro e w1 ⟨rfl, rfl⟩)
    go_ret
    exact ⟨rfl, rfl⟩
  · rw [if_neg h]
    by_cases h2 : (b : Int) < a
    · rw [if_pos h2]
      go_enter Try.func69, Try.ntmps69
      go_wp2_with (go_at_call 71; refine (HN.out _ _).mono ?_; rintro e w1 ⟨rfl, rfl⟩)
      go_ret
      exact ⟨rfl, rfl⟩
    · rw [if_neg h2]
      go_enter Try.func69, Try.ntmps69
      go_wp2_with (go_at_call 71; refine (HN.out _ _).mono ?_; rintro e w1 ⟨rfl, rfl⟩)
      go_ret
      exact ⟨rfl, rfl⟩
end Go.Proofs.Ytcojlcbljhnbgaa
