/- buchi.isName. (Written off TrForm.) -/
import Derived.Test.YtbbfajbnklgncaaWd
import Derived.LoopN
namespace Go.Proofs.Ytbbfajbnklgncaa
open Go.RowKit Go.Shelf

/-- May a byte stand in a name; is a text a name. -/
def okB (b : Nat) : Bool := decide (32 ≤ b) && decide (b ≤ 126) && !(b == 34) && !(b == 92)
def nameB (l : List UInt8) : Bool := decide (1 ≤ l.length) && decide (l.length ≤ 32) && l.all fun b => okB b.toNat

theorem nameB_short {l : List UInt8} (h : l.length = 0) : nameB l = false := by
  unfold nameB; rw [show decide (1 ≤ l.length) = false from by rw [decide_eq_false_iff_not]; omega]; rfl
theorem nameB_long {l : List UInt8} (h : 32 < l.length) : nameB l = false := by
  unfold nameB; rw [show decide (l.length ≤ 32) = false from by rw [decide_eq_false_iff_not]; omega, Bool.and_false]; rfl
theorem nameB_bad {l : List UInt8} {c : UInt8} (h : c ∈ l) (hc : okB c.toNat = false) : nameB l = false := by
  unfold nameB
  rw [show (l.all fun b => okB b.toNat) = false from List.all_eq_false.2 ⟨c, h, by simp [hc]⟩, Bool.and_false]
theorem nameB_good {l : List UInt8} (h0 : 1 ≤ l.length) (h1 : l.length ≤ 32) (h : ∀ j (hj : j < l.length), okB (l[j]).toNat = true) : nameB l = true := by
  unfold nameB
  rw [show (l.all fun b => okB b.toNat) = true from List.all_eq_true.2 fun b hb => by obtain ⟨j, hj, rfl⟩ := List.getElem_of_mem hb; exact h j hj]
  simp [h0, h1]
theorem okB_no {c : Nat} (h : c < 32 ∨ 126 < c ∨ c = 34 ∨ c = 92) : okB c = false := by
  unfold okB
  rcases h with h | h | h | h
  · rw [show decide (32 ≤ c) = false from by rw [decide_eq_false_iff_not]; omega]; rfl
  · rw [show decide (c ≤ 126) = false from by rw [decide_eq_false_iff_not]; omega, Bool.and_false]; rfl
  · subst h; rfl
  · subst h; rfl
theorem okB_yes {c : Nat} (h1 : ¬ c < 32) (h2 : ¬ 126 < c) (h3 : ¬ c = 34) (h4 : ¬ c = 92) : okB c = true := by
  unfold okB
  simp [h3, h4]; omega

set_option maxHeartbeats 1000000 in
theorem isName_any (s : ByteArray) (w : World) (hs : s.size ≤ maxLen) :
    Calls Try.prog 90 #[.string s] w fun e w' => e = .returned (.bool (nameB s.data.toList)) ∧ w' = w := by
  have hl : s.size = s.data.toList.length := rfl
  unfold maxLen at hs
  obtain ⟨r, hr⟩ : ∃ r, nameB s.data.toList = r := ⟨_, rfl⟩
  rw [hr]
  have HR : Hid _ := hr
  have HL : Hid _ := hl
  clear hr hl
  by_cases h0 : s.size = 0
  · have h0i : ((s.size : Int) == 0) = true := by rw [beq_iff_eq]; omega
    go_enter Try.func90, Try.ntmps90
    go_wp2
    go_ret
    exact ⟨ret_bool ((nameB_short (HL.out.symm.trans h0)).symm.trans HR.out), rfl⟩
  have h0i : ((s.size : Int) == 0) = false := by rw [beq_eq_false_iff_ne]; omega
  by_cases h1 : 32 < s.size
  · have h1i : (32 : Int) < (s.size : Int) := by omega
    go_enter Try.func90, Try.ntmps90
    go_wp2
    go_ret
    exact ⟨ret_bool ((nameB_long (by rw [← HL.out]; exact h1)).symm.trans HR.out), rfl⟩
  have h1i : ¬ (32 : Int) < (s.size : Int) := by omega
  go_enter Try.func90, Try.ntmps90
  go_wp2
  go_loop [15] (fun v => ∃ k : Nat, k ≤ s.size ∧ v = .int .i64 (k : Nat) ∧ Hid (∀ j (h : j < s.data.toList.length), j < k → okB (s.data.toList[j]).toNat = true)) (fun v => s.size - (intOf v).toNat)
  case atStart => exact ⟨0, Nat.zero_le _, rfl, fun j _ h => by omega⟩
  case round =>
    obtain ⟨k, hk, rfl, HA⟩ := hrel
    by_cases hlt : k < s.size
    · obtain ⟨c, hc⟩ : ∃ c : UInt8, s[k] = c := ⟨_, rfl⟩
      have hcd : s.data.toList[k]'(by rw [← HL.out]; exact hlt) = c := hc
      have HC : Hid _ := hcd
      have hki : (k : Int) < (s.size : Int) := by omega
      have hbad : okB c.toNat = false → false = r := fun h => (nameB_bad (by rw [← HC.out]; exact List.getElem_mem _) h).symm.trans HR.out
      have HB : Hid _ := hbad
      clear hcd hbad
      by_cases c1 : (c.toNat : Int) < 32
      · go_wp2
        go_ret
        exact ⟨ret_bool (HB.out (okB_no (by omega))), rfl⟩
      by_cases c2 : (126 : Int) < (c.toNat : Int)
      · go_wp2
        go_ret
        exact ⟨ret_bool (HB.out (okB_no (by omega))), rfl⟩
      by_cases c3 : (c.toNat : Int) = 34
      · have c3' : ((c.toNat : Int) == 34) = true := by rw [beq_iff_eq]; exact c3
        have HC3 : Hid _ := c3
        clear c3
        go_wp2
        go_ret
        exact ⟨ret_bool (HB.out (okB_no (by have := HC3.out; omega))), rfl⟩
      have c3' : ((c.toNat : Int) == 34) = false := by rw [beq_eq_false_iff_ne]; exact c3
      by_cases c4 : (c.toNat : Int) = 92
      · have c4' : ((c.toNat : Int) == 92) = true := by rw [beq_iff_eq]; exact c4
        have HC4 : Hid _ := c4
        clear c4
        go_wp2
        go_ret
        exact ⟨ret_bool (HB.out (okB_no (by have := HC4.out; omega))), rfl⟩
      have c4' : ((c.toNat : Int) == 92) = false := by rw [beq_eq_false_iff_ne]; exact c4
      go_wp2
      go_round
      case rel =>
        refine ⟨k + 1, by omega, by go_num, fun j h hj => ?_⟩
        rcases Nat.lt_or_ge j k with h' | h'
        · exact HA.out j h h'
        · obtain rfl : j = k := by omega
          rw [HC.out]
          exact okB_yes (by omega) (by omega) (by omega) (by omega)
      case measure => simp [intOf]; omega
    · go_wp2
      go_ret
      exact ⟨ret_bool ((nameB_good (by rw [← HL.out]; omega) (by rw [← HL.out]; omega) (fun j hj => HA.out j hj (by have := HL.out; omega))).symm.trans HR.out), rfl⟩

end Go.Proofs.Ytbbfajbnklgncaa

/- Lists of names, numbers, edges in memory; the small functions of package buchi: isState, isLetter, cmp.Compare, compareEdges, slices.Index and Contains of names. -/
namespace Go.Proofs.Ytbbfajbnklgncaa
open Go.RowKit Go.Shelf

/-- The names xs are what v tells, in W. -/
structure Strs (W : World) (v : Value) (xs : List ByteArray) : Prop where
  few : xs.length ≤ 8796093022208
  small : ∀ x ∈ xs, x.size ≤ maxLen
  lie : (v = .slice none 0 0 ∧ xs = []) ∨ ∃ b o c, v = .slice (some ⟨b, o, none⟩) xs.length c ∧ xs.length ≤ c ∧ c ≤ maxLen ∧ ∀ i (h : i < xs.length), W.cell? ⟨b, o + i, none⟩ = some (.string xs[i])
theorem Strs.kept {W W' : World} {v : Value} {xs : List ByteArray} (h : Strs W v xs) (k : Kept [] W W') : Strs W' v xs := by
  refine ⟨h.few, h.small, ?_⟩
  rcases h.lie with h1 | ⟨b, o, c, h1, h2, h3, h4⟩
  · exact .inl h1
  · exact .inr ⟨b, o, c, h1, h2, h3, fun i hi => cell_kept0 k (h4 i hi)⟩
theorem Strs.form {W : World} {v : Value} {xs : List ByteArray} (h : Strs W v xs) : ∃ ad c, v = .slice ad xs.length c ∧ xs.length ≤ c ∧ c ≤ maxLen := by
  rcases h.lie with ⟨rfl, rfl⟩ | ⟨b, o, c, rfl, h2, h3, _⟩
  · exact ⟨none, 0, rfl, Nat.le_refl _, by unfold maxLen; omega⟩
  · exact ⟨_, c, rfl, h2, h3⟩
theorem Strs.there {W : World} {v : Value} {xs : List ByteArray} (h : Strs W v xs) (h0 : 0 < xs.length) : ∃ b o c, v = .slice (some ⟨b, o, none⟩) xs.length c ∧ xs.length ≤ c ∧ c ≤ maxLen ∧ ∀ i (h : i < xs.length), W.cell? ⟨b, o + i, none⟩ = some (.string xs[i]) := by
  rcases h.lie with ⟨_, rfl⟩ | h1
  · simp at h0
  · exact h1
/-- The numbers xs are what v tells. -/
structure Ints (W : World) (v : Value) (xs : List Int) : Prop where
  few : xs.length ≤ 17592186044416
  wf : ∀ x ∈ xs, -9223372036854775808 ≤ x ∧ x ≤ 9223372036854775807
  lie : ((∃ ad c, v = .slice ad 0 c ∧ c ≤ maxLen ∧ (ad = none → c = 0)) ∧ xs = []) ∨ ∃ b o c, v = .slice (some ⟨b, o, none⟩) xs.length c ∧ xs.length ≤ c ∧ c ≤ maxLen ∧ ∀ i (h : i < xs.length), W.cell? ⟨b, o + i, none⟩ = some (.int .i64 xs[i])
theorem Ints.kept {W W' : World} {v : Value} {xs : List Int} (h : Ints W v xs) (k : Kept [] W W') : Ints W' v xs := by
  refine ⟨h.few, h.wf, ?_⟩
  rcases h.lie with h1 | ⟨b, o, c, h1, h2, h3, h4⟩
  · exact .inl h1
  · exact .inr ⟨b, o, c, h1, h2, h3, fun i hi => cell_kept0 k (h4 i hi)⟩
theorem Ints.form {W : World} {v : Value} {xs : List Int} (h : Ints W v xs) : ∃ ad c, v = .slice ad xs.length c ∧ xs.length ≤ c ∧ c ≤ maxLen := by
  rcases h.lie with ⟨⟨ad, c, rfl, hc, _⟩, rfl⟩ | ⟨b, o, c, rfl, h2, h3, _⟩
  · exact ⟨ad, c, rfl, Nat.zero_le _, hc⟩
  · exact ⟨_, c, rfl, h2, h3⟩
theorem Ints.there {W : World} {v : Value} {xs : List Int} (h : Ints W v xs) (h0 : 0 < xs.length) : ∃ b o c, v = .slice (some ⟨b, o, none⟩) xs.length c ∧ xs.length ≤ c ∧ c ≤ maxLen ∧ ∀ i (h : i < xs.length), W.cell? ⟨b, o + i, none⟩ = some (.int .i64 xs[i]) := by
  rcases h.lie with ⟨_, rfl⟩ | h1
  · simp at h0
  · exact h1
/-- An edge, and edges in memory. -/
structure Edg where
  fr : Int
  to : Int
  mu : Nat
  no : Nat
def Edg.ok (e : Edg) : Prop := (-9223372036854775808 ≤ e.fr ∧ e.fr ≤ 9223372036854775807) ∧ (-9223372036854775808 ≤ e.to ∧ e.to ≤ 9223372036854775807) ∧ e.mu < 65536 ∧ e.no < 65536
structure Edgs (W : World) (v : Value) (es : List Edg) : Prop where
  few : es.length ≤ 8796093022208
  wf : ∀ e ∈ es, e.ok
  lie : (v = .slice none 0 0 ∧ es = []) ∨ ∃ b o c, v = .slice (some ⟨b, o, none⟩) es.length c ∧ es.length ≤ c ∧ c ≤ maxLen ∧ ∀ i (h : i < es.length), W.cell? ⟨b, o + i * 4, none⟩ = some (.int .i64 es[i].fr) ∧ W.cell? ⟨b, o + i * 4 + 1, none⟩ = some (.int .i64 es[i].to) ∧ W.cell? ⟨b, o + i * 4 + 2, none⟩ = some (.int .u16 (es[i].mu : Nat)) ∧ W.cell? ⟨b, o + i * 4 + 3, none⟩ = some (.int .u16 (es[i].no : Nat))
theorem Edgs.kept {W W' : World} {v : Value} {es : List Edg} (h : Edgs W v es) (k : Kept [] W W') : Edgs W' v es := by
  refine ⟨h.few, h.wf, ?_⟩
  rcases h.lie with h1 | ⟨b, o, c, h1, h2, h3, h4⟩
  · exact .inl h1
  · exact .inr ⟨b, o, c, h1, h2, h3, fun i hi => ⟨cell_kept0 k (h4 i hi).1, cell_kept0 k (h4 i hi).2.1, cell_kept0 k (h4 i hi).2.2.1, cell_kept0 k (h4 i hi).2.2.2⟩⟩
theorem Edgs.form {W : World} {v : Value} {es : List Edg} (h : Edgs W v es) : ∃ ad c, v = .slice ad es.length c ∧ es.length ≤ c ∧ c ≤ maxLen := by
  rcases h.lie with ⟨rfl, rfl⟩ | ⟨b, o, c, rfl, h2, h3, _⟩
  · exact ⟨none, 0, rfl, Nat.le_refl _, by unfold maxLen; omega⟩
  · exact ⟨_, c, rfl, h2, h3⟩
def stateB (s n : Int) : Bool := decide (0 ≤ s) && decide (s < n)
theorem isState_any (s n : Int) (w : World) : Calls Try.prog 92 #[.int .i64 s, .int .i64 n] w fun e w' => e = .returned (.bool (stateB s n)) ∧ w' = w := by
  unfold stateB
  by_cases h : 0 ≤ s
  · have e : decide (0 ≤ s) = true := decide_eq_true h
    rw [e, Bool.true_and]
    go_enter Try.func92, Try.ntmps92
    go_wp2
    go_ret
    exact ⟨rfl, rfl⟩
  · have e : decide (0 ≤ s) = false := decide_eq_false h
    rw [e, Bool.false_and]
    go_enter Try.func92, Try.ntmps92
    go_wp2
    go_ret
    exact ⟨rfl, rfl⟩
def cmpI (a b : Int) : Int := if a < b then -1 else if b < a then 1 else 0
theorem isNaNi_any (a : Int) (w : World) : Calls Try.prog 98 #[.int .i64 a] w fun e w' => e = .returned (.bool false) ∧ w' = w := by
  go_enter Try.func98, Try.ntmps98
  go_wp2
  go_ret
  exact ⟨by simp, rfl⟩
theorem isNaNu_any (a : Nat) (w : World) : Calls Try.prog 99 #[.int .u16 (a : Nat)] w fun e w' => e = .returned (.bool false) ∧ w' = w := by
  go_enter Try.func99, Try.ntmps99
  go_wp2
  go_ret
  exact ⟨by simp, rfl⟩
theorem compareI_any (a b : Int) (w : World) : Calls Try.prog 96 #[.int .i64 a, .int .i64 b] w fun e w' => e = .returned (.int .i64 (cmpI a b)) ∧ w' = w := by
  unfold cmpI
  have HN : Hid (∀ a W, Calls Try.prog 98 #[.int .i64 a] W fun e w' => e = .returned (.bool false) ∧ w' = W) := fun a W => isNaNi_any a W
  by_cases h : a < b
  · rw [if_pos h]
    go_enter Try.func96, Try.ntmps96
    go_wp2_with (go_at_call 98; refine (HN.out _ _).mono ?_; rintro e w1 ⟨rfl, rfl⟩)
    go_ret
    exact ⟨rfl, rfl⟩
  · rw [if_neg h]
    by_cases h2 : b < a
    · rw [if_pos h2]
      go_enter Try.func96, Try.ntmps96
      go_wp2_with (go_at_call 98; refine (HN.out _ _).mono ?_; rintro e w1 ⟨rfl, rfl⟩)
      go_ret
      exact ⟨rfl, rfl⟩
    · rw [if_neg h2]
      go_enter Try.func96, Try.ntmps96
      go_wp2_with (go_at_call 98; refine (HN.out _ _).mono ?_; rintro e w1 ⟨rfl, rfl⟩)
      go_ret
      exact ⟨rfl, rfl⟩
theorem compareU_any (a b : Nat) (w : World) : Calls Try.prog 97 #[.int .u16 (a : Nat), .int .u16 (b : Nat)] w fun e w' => e = .returned (.int .i64 (cmpI a b)) ∧ w' = w := by
  unfold cmpI
  have HN : Hid (∀ (a : Nat) W, Calls Try.prog 99 #[.int .u16 (a : Nat)] W fun e w' => e = .returned (.bool false) ∧ w' = W) := fun a W => isNaNu_any a W
  by_cases h : (a : Int) < b
  · rw [if_pos h]
    go_enter Try.func97, Try.ntmps97
    go_wp2_with (go_at_call 99; refine (HN.out _ _).mono ?_; rintro e w1 ⟨rfl, rfl⟩)
    go_ret
    exact ⟨rfl, rfl⟩
  · rw [if_neg h]
    by_cases h2 : (b : Int) < a
    · rw [if_pos h2]
      go_enter Try.func97, Try.ntmps97
      go_wp2_with (go_at_call 99; refine (HN.out _ _).mono ?_; rintro e w1 ⟨rfl, rfl⟩)
      go_ret
      exact ⟨rfl, rfl⟩
    · rw [if_neg h2]
      go_enter Try.func97, Try.ntmps97
      go_wp2_with (go_at_call 99; refine (HN.out _ _).mono ?_; rintro e w1 ⟨rfl, rfl⟩)
      go_ret
      exact ⟨rfl, rfl⟩
end Go.Proofs.Ytbbfajbnklgncaa

/- package buchi: isLetter, compareEdges, areStates, isList. -/
namespace Go.Proofs.Ytbbfajbnklgncaa
open Go.RowKit Go.Shelf

/-- Is a number a letter over so many names. -/
def letterB (c k : Nat) : Bool := (c : Int) / 2 ^ (min k 16) == 0
theorem isLetter_any (c : Nat) (ad : Option Addr) (k cap : Nat) (w : World) :
    Calls Try.prog 93 #[.int .u16 (c : Nat), .slice ad k cap] w fun e w' => e = .returned (.bool (letterB c k)) ∧ w' = w := by
  go_enter Try.func93, Try.ntmps93
  go_wp2
  go_ret
  exact ⟨rfl, rfl⟩
/-- The order of edges. -/
def cmpEd (a b : Edg) : Int := if a.fr ≠ b.fr then cmpI a.fr b.fr else if a.to ≠ b.to then cmpI a.to b.to else if a.mu ≠ b.mu then cmpI a.mu b.mu else cmpI a.no b.no
def edgV (e : Edg) : Value := .agg #[.int .i64 e.fr, .int .i64 e.to, .int .u16 (e.mu : Nat), .int .u16 (e.no : Nat)]
set_option maxHeartbeats 1000000 in
theorem compareEdges_any (a b : Edg) (w : World) : Calls Try.prog 94 #[edgV a, edgV b] w fun e w' => e = .returned (.int .i64 (cmpEd a b)) ∧ Kept [] w w' := by
  obtain ⟨a1, a2, a3, a4⟩ := a
  obtain ⟨b1, b2, b3, b4⟩ := b
  unfold cmpEd edgV
  dsimp only
  have HI : Hid (∀ a b W, Calls Try.prog 96 #[.int .i64 a, .int .i64 b] W fun e w' => e = .returned (.int .i64 (cmpI a b)) ∧ w' = W) := fun a b W => compareI_any a b W
  have HU : Hid (∀ (a b : Nat) W, Calls Try.prog 97 #[.int .u16 (a : Nat), .int .u16 (b : Nat)] W fun e w' => e = .returned (.int .i64 (cmpI a b)) ∧ w' = W) := fun a b W => compareU_any a b W
  by_cases h1 : a1 = b1
  · subst h1
    rw [if_neg (by simp)]
    by_cases h2 : a2 = b2
    · subst h2
      rw [if_neg (by simp)]
      by_cases h3 : a3 = b3
      · subst h3
        rw [if_neg (by simp)]
        go_enter Try.func94, Try.ntmps94
        go_wp2_with (first | (go_at_call 96; refine (HI.out _ _ _).mono ?_; rintro e w1 ⟨rfl, rfl⟩) | (go_at_call 97; refine (HU.out _ _ _).mono ?_; rintro e w1 ⟨rfl, rfl⟩))
        go_ret
        exact ⟨rfl, ((Kept.refl [] w).alloc _).alloc _⟩
      · rw [if_pos h3]
        have z3 : ((a3 : Int) == (b3 : Int)) = false := by rw [beq_eq_false_iff_ne]; omega
        go_enter Try.func94, Try.ntmps94
        go_wp2_with (first | (go_at_call 96; refine (HI.out _ _ _).mono ?_; rintro e w1 ⟨rfl, rfl⟩) | (go_at_call 97; refine (HU.out _ _ _).mono ?_; rintro e w1 ⟨rfl, rfl⟩))
        go_ret
        exact ⟨rfl, ((Kept.refl [] w).alloc _).alloc _⟩
    · rw [if_pos h2]
      have z2 : (a2 == b2) = false := by rw [beq_eq_false_iff_ne]; exact h2
      go_enter Try.func94, Try.ntmps94
      go_wp2_with (first | (go_at_call 96; refine (HI.out _ _ _).mono ?_; rintro e w1 ⟨rfl, rfl⟩) | (go_at_call 97; refine (HU.out _ _ _).mono ?_; rintro e w1 ⟨rfl, rfl⟩))
      go_ret
      exact ⟨rfl, ((Kept.refl [] w).alloc _).alloc _⟩
  · rw [if_pos h1]
    have z1 : (a1 == b1) = false := by rw [beq_eq_false_iff_ne]; exact h1
    go_enter Try.func94, Try.ntmps94
    go_wp2_with (first | (go_at_call 96; refine (HI.out _ _ _).mono ?_; rintro e w1 ⟨rfl, rfl⟩) | (go_at_call 97; refine (HU.out _ _ _).mono ?_; rintro e w1 ⟨rfl, rfl⟩))
    go_ret
    exact ⟨rfl, ((Kept.refl [] w).alloc _).alloc _⟩
/-- Are these states, rising. -/
def okAt (xs : List Int) (n : Int) (i : Nat) : Bool := stateB (xs.getD i 0) n && (decide (i = 0) || decide (xs.getD (i - 1) 0 < xs.getD i 0))
def statesB (xs : List Int) (n : Int) : Bool := (List.range xs.length).all (okAt xs n)
theorem statesB_no {xs : List Int} {n : Int} {i : Nat} (hi : i < xs.length) (h : okAt xs n i = false) : statesB xs n = false := by
  unfold statesB
  rw [List.all_eq_false]
  exact ⟨i, List.mem_range.2 hi, by rw [h]; simp⟩
theorem statesB_yes {xs : List Int} {n : Int} (h : ∀ i, i < xs.length → okAt xs n i = true) : statesB xs n = true := by
  unfold statesB
  rw [List.all_eq_true]
  exact fun i hi => h i (List.mem_range.1 hi)
set_option maxHeartbeats 2000000 in
set_option maxRecDepth 10000 in
theorem areStates_any (v : Value) (xs : List Int) (n : Int) (w : World) (h : Ints w v xs) :
    Calls Try.prog 88 #[v, .int .i64 n] w fun e w' => e = .returned (.bool (statesB xs n)) ∧ w' = w := by
  obtain ⟨r, hr⟩ : ∃ r, statesB xs n = r := ⟨_, rfl⟩
  rw [hr]
  have HR : Hid (statesB xs n = r) := hr
  have hfew := h.few
  have HS : Hid (∀ s W, Calls Try.prog 92 #[.int .i64 s, .int .i64 n] W fun e w' => e = .returned (.bool (stateB s n)) ∧ w' = W) := fun s W => isState_any s n W
  clear hr
  rcases h.lie with ⟨⟨ad0, c0, rfl, hc0, _⟩, rfl⟩ | ⟨b, o, c, rfl, hc1, hc2, hcell⟩
  · obtain rfl : true = r := HR.out
    clear h hfew
    go_enter Try.func88, Try.ntmps88
    go_wp2_with fail
    refine wp_loop_rounds 1 ?_
    rw [rounds_succ]
    go_wp2
    go_ret
    exact ⟨rfl, rfl⟩
  · have HCE : Hid (∀ i (h : i < xs.length), w.cell? ⟨b, o + i, none⟩ = some (.int .i64 xs[i])) := hcell
    clear h hcell
    go_enter Try.func88, Try.ntmps88
    go_wp2_with fail
    go_loopw [9] (fun i wr => ∃ k : Nat, i = .int .i64 (k : Nat) ∧ k ≤ xs.length ∧ wr = w ∧ Hid (∀ j, j < k → okAt xs n j = true)) (fun i _ => xs.length - (intOf i).toNat)
    case atStart => exact ⟨0, rfl, Nat.zero_le _, rfl, fun j h => by omega⟩
    case round =>
      obtain ⟨k, rfl, hk, rfl, HA⟩ := hrel
      by_cases hlt : k < xs.length
      · have z0 : (k : Int) < (xs.length : Int) := by omega
        obtain ⟨s, hs⟩ : ∃ s, xs[k] = s := ⟨_, rfl⟩
        have c0 : wr.cell? ⟨b, o + k, none⟩ = some (.int .i64 s) := by rw [← hs]; exact HCE.out k hlt
        have HGD : Hid (xs.getD k 0 = s) := by show _ = _; rw [List.getD_eq_getElem?_getD, List.getElem?_eq_getElem hlt]; exact hs
        clear hs
        obtain ⟨sb, hsb⟩ : ∃ sb, stateB s n = sb := ⟨_, rfl⟩
        have HSB : Hid (stateB s n = sb) := hsb
        have HS2 : Hid (∀ W, Calls Try.prog 92 #[.int .i64 s, .int .i64 n] W fun e w' => e = .returned (.bool sb) ∧ w' = W) := fun W => by rw [← hsb]; exact HS.out s W
        clear hsb
        cases sb with
        | false =>
          have HNO : Hid (statesB xs n = false) := statesB_no hlt (by unfold okAt; rw [HGD.out, HSB.out]; rfl)
          obtain rfl : false = r := HNO.out.symm.trans HR.out
          go_wp2_with (go_at_call 92; refine (HS2.out _).mono ?_; rintro e w1 ⟨rfl, rfl⟩)
          go_ret
          exact ⟨rfl, rfl⟩
        | true =>
          by_cases hk0 : k = 0
          · subst hk0
            simp only [Nat.add_zero] at c0
            have HYES : Hid (∀ j, j < 1 → okAt xs n j = true) := fun j hj => by
              obtain rfl : j = 0 := by omega
              unfold okAt; rw [HGD.out, HSB.out]; rfl
            go_wp2_with (go_at_call 92; refine (HS2.out _).mono ?_; rintro e w1 ⟨rfl, rfl⟩)
            go_roundw
            case rel => exact ⟨1, by go_num, by omega, by trivial, HYES.out⟩
            case measure => simp [intOf]; omega
          · obtain ⟨k1, hk1e⟩ : ∃ k1 : Nat, (k : Int) - 1 = k1 := ⟨k - 1, by omega⟩
            have hk1 : k1 < xs.length := by omega
            have HKK : Hid (k = k1 + 1) := by show _ = _; omega
            obtain ⟨t, ht⟩ : ∃ t, xs[k1] = t := ⟨_, rfl⟩
            have c1 : wr.cell? ⟨b, o + k1, none⟩ = some (.int .i64 t) := by rw [← ht]; exact HCE.out k1 hk1
            have HGT : Hid (xs.getD (k - 1) 0 = t) := by show _ = _; rw [HKK.out, Nat.add_sub_cancel, List.getD_eq_getElem?_getD, List.getElem?_eq_getElem hk1]; exact ht
            have z1 : (0 : Int) < (k : Int) := by omega
            have z2 : (k1 : Int) < (xs.length : Int) := by omega
            clear ht
            by_cases hts : t < s
            · have z3 : ¬ (s ≤ t) := by omega
              have HYES : Hid (∀ j, j < k + 1 → okAt xs n j = true) := fun j hj => by
                rcases Nat.lt_or_ge j k with h' | h'
                · exact HA.out j h'
                · obtain rfl : j = k := by omega
                  unfold okAt; rw [HGD.out, HSB.out, HGT.out, decide_eq_true hts]; simp
              go_wp2_with (go_at_call 92; refine (HS2.out _).mono ?_; rintro e w1 ⟨rfl, rfl⟩)
              go_roundw
              case rel => exact ⟨k + 1, by go_num, by omega, by trivial, HYES.out⟩
              case measure => simp [intOf]; omega
            · have z3 : s ≤ t := by omega
              have HNO : Hid (statesB xs n = false) := statesB_no hlt (by unfold okAt; rw [HGD.out, HSB.out, HGT.out, decide_eq_false hts, decide_eq_false hk0]; rfl)
              obtain rfl : false = r := HNO.out.symm.trans HR.out
              go_wp2_with (go_at_call 92; refine (HS2.out _).mono ?_; rintro e w1 ⟨rfl, rfl⟩)
              go_ret
              exact ⟨rfl, rfl⟩
      · obtain rfl : k = xs.length := by omega
        have z0 : ¬ ((xs.length : Int) < (xs.length : Int)) := by omega
        obtain rfl : true = r := (statesB_yes HA.out).symm.trans HR.out
        go_wp2
        go_ret
        exact ⟨rfl, rfl⟩
def sameN (s x : ByteArray) : Bool := s.toList == x.toList
def hasN (xs : List ByteArray) (s : ByteArray) : Bool := xs.any (fun x => sameN s x)
theorem hasN_yes {xs : List ByteArray} {s : ByteArray} {i : Nat} (hi : i < xs.length) (h : sameN s xs[i] = true) : hasN xs s = true := by
  unfold hasN
  rw [List.any_eq_true]
  exact ⟨_, List.getElem_mem hi, h⟩
theorem hasN_no {xs : List ByteArray} {s : ByteArray} (h : ∀ i (hi : i < xs.length), sameN s xs[i] = false) : hasN xs s = false := by
  unfold hasN
  rw [List.any_eq_false]
  intro x hx
  obtain ⟨i, hi, rfl⟩ := List.getElem_of_mem hx
  rw [h i hi]
  simp
set_option maxHeartbeats 2000000 in
set_option maxRecDepth 10000 in
theorem indexN_any (v : Value) (xs : List ByteArray) (s : ByteArray) (w : World) (h : Strs w v xs) :
    Calls Try.prog 95 #[v, .string s] w fun e w' => ∃ k : Int, e = .returned (.int .i64 k) ∧ Hid (decide (0 ≤ k) = hasN xs s) ∧ w' = w := by
  have hfew := h.few
  rcases h.lie with ⟨rfl, rfl⟩ | ⟨b, o, c, rfl, hc1, hc2, hcell⟩
  · clear h hfew
    go_enter Try.func95, Try.ntmps95
    go_wp2_with fail
    refine wp_loop_rounds 1 ?_
    rw [rounds_succ]
    go_wp2
    go_ret
    exact ⟨-1, rfl, rfl, rfl⟩
  · have HCE : Hid (∀ i (h : i < xs.length), w.cell? ⟨b, o + i, none⟩ = some (.string xs[i])) := hcell
    clear h hcell
    go_enter Try.func95, Try.ntmps95
    go_wp2_with fail
    go_loopw [8] (fun i wr => ∃ k : Nat, i = .int .i64 (k : Nat) ∧ k ≤ xs.length ∧ wr = w ∧ Hid (∀ j (h : j < xs.length), j < k → sameN s xs[j] = false)) (fun i _ => xs.length - (intOf i).toNat)
    case atStart => exact ⟨0, rfl, Nat.zero_le _, rfl, fun j _ h => by omega⟩
    case round =>
      obtain ⟨k, rfl, hk, rfl, HA⟩ := hrel
      by_cases hlt : k < xs.length
      · have z0 : (k : Int) < (xs.length : Int) := by omega
        obtain ⟨x, hx⟩ : ∃ x, xs[k] = x := ⟨_, rfl⟩
        have c0 : wr.cell? ⟨b, o + k, none⟩ = some (.string x) := by rw [← hx]; exact HCE.out k hlt
        have HX : Hid (xs[k] = x) := hx
        clear hx
        obtain ⟨sb, hsb⟩ : ∃ sb, (s.toList == x.toList) = sb := ⟨_, rfl⟩
        cases sb with
        | true =>
          have HY : Hid (hasN xs s = true) := hasN_yes hlt (by rw [HX.out]; exact hsb)
          go_wp2_with fail
          go_ret
          exact ⟨k, rfl, by show decide (0 ≤ (k : Int)) = _; rw [HY.out]; simp, rfl⟩
        | false =>
          have HY : Hid (∀ j (h : j < xs.length), j < k + 1 → sameN s xs[j] = false) := fun j hj h' => by
            rcases Nat.lt_or_ge j k with q | q
            · exact HA.out j hj q
            · obtain rfl : j = k := by omega
              rw [HX.out]; exact hsb
          go_wp2_with fail
          go_roundw
          case rel => exact ⟨k + 1, by go_num, by omega, by trivial, HY.out⟩
          case measure => simp [intOf]; omega
      · obtain rfl : k = xs.length := by omega
        have z0 : ¬ ((xs.length : Int) < (xs.length : Int)) := by omega
        have HY : Hid (hasN xs s = false) := hasN_no (fun i hi => HA.out i hi hi)
        go_wp2
        go_ret
        exact ⟨-1, rfl, by show decide ((0 : Int) ≤ -1) = _; rw [HY.out]; rfl, rfl⟩
theorem containsN_any (v : Value) (xs : List ByteArray) (s : ByteArray) (w : World) (h : Strs w v xs) :
    Calls Try.prog 91 #[v, .string s] w fun e w' => e = .returned (.bool (hasN xs s)) ∧ w' = w := by
  have HI : Hid (Calls Try.prog 95 #[v, .string s] w fun e w' => ∃ k : Int, e = .returned (.int .i64 k) ∧ Hid (decide (0 ≤ k) = hasN xs s) ∧ w' = w) := indexN_any v xs s w h
  obtain ⟨ad, c, rfl, _, _⟩ := h.form
  clear h
  go_enter Try.func91, Try.ntmps91
  go_wp2_with (go_at_call 95; refine HI.out.mono ?_; rintro e w1 ⟨k, rfl, HK, rfl⟩)
  go_ret
  exact ⟨by rw [← HK.out]; rfl, rfl⟩
/-- Are these a list of names. -/
def nmAt (xs : List ByteArray) (i : Nat) (x : ByteArray) : Bool := nameB x.data.toList && !(hasN (xs.take i) x)
def listB (xs : List ByteArray) : Bool := decide (xs.length ≤ 8) && (List.range xs.length).all fun i => nmAt xs i (xs.getD i ⟨#[]⟩)
theorem listB_no {xs : List ByteArray} {i : Nat} (hi : i < xs.length) (h : nmAt xs i xs[i] = false) : listB xs = false := by
  unfold listB
  have : ((List.range xs.length).all fun i => nmAt xs i (xs.getD i ⟨#[]⟩)) = false := by
    rw [List.all_eq_false]
    exact ⟨i, List.mem_range.2 hi, by rw [List.getD_eq_getElem?_getD, List.getElem?_eq_getElem hi]; simp [h]⟩
  rw [this, Bool.and_false]
theorem listB_yes {xs : List ByteArray} (h8 : xs.length ≤ 8) (h : ∀ i (hi : i < xs.length), nmAt xs i xs[i] = true) : listB xs = true := by
  unfold listB
  rw [decide_eq_true h8, Bool.true_and, List.all_eq_true]
  intro i hi
  have hi' := List.mem_range.1 hi
  rw [List.getD_eq_getElem?_getD, List.getElem?_eq_getElem hi']
  exact h i hi'
theorem Strs.take {W : World} {b o c k : Nat} {xs : List ByteArray} (h : Strs W (.slice (some ⟨b, o, none⟩) xs.length c) xs) (hc : xs.length ≤ c) (hm : c ≤ maxLen) (hcell : ∀ i (h : i < xs.length), W.cell? ⟨b, o + i, none⟩ = some (.string xs[i])) (hk : k ≤ xs.length) : Strs W (.slice (some ⟨b, o, none⟩) k c) (xs.take k) := by
  have hl : (xs.take k).length = k := by rw [List.length_take]; omega
  refine ⟨by rw [hl]; have := h.few; omega, fun x hx => h.small x (List.mem_of_mem_take hx), .inr ⟨b, o, c, by rw [hl], by rw [hl]; omega, hm, fun i hi => ?_⟩⟩
  rw [hcell i (by omega)]
  simp
set_option maxHeartbeats 4000000 in
set_option maxRecDepth 10000 in
theorem isList_any (v : Value) (xs : List ByteArray) (w : World) (h : Strs w v xs) :
    Calls Try.prog 86 #[v] w fun e w' => e = .returned (.bool (listB xs)) ∧ w' = w := by
  obtain ⟨r, hr⟩ : ∃ r, listB xs = r := ⟨_, rfl⟩
  rw [hr]
  have HR : Hid (listB xs = r) := hr
  have hfew := h.few
  clear hr
  rcases h.lie with ⟨rfl, rfl⟩ | ⟨b, o, c, rfl, hc1, hc2, hcell⟩
  · obtain rfl : true = r := HR.out
    clear h hfew
    go_enter Try.func86, Try.ntmps86
    go_wp2_with fail
    refine wp_loop_rounds 1 ?_
    rw [rounds_succ]
    go_wp2
    go_ret
    exact ⟨rfl, rfl⟩
  · by_cases h8 : xs.length ≤ 8
    · have HCE : Hid (∀ i (h : i < xs.length), w.cell? ⟨b, o + i, none⟩ = some (.string xs[i])) := hcell
      have HST : Hid (∀ k, k ≤ xs.length → Strs w (.slice (some ⟨b, o, none⟩) k c) (xs.take k)) := fun k hk => h.take hc1 hc2 hcell hk
      have HSM : Hid (∀ x ∈ xs, x.size ≤ maxLen) := h.small
      have z8 : ¬ ((8 : Int) < (xs.length : Int)) := by omega
      clear h hcell
      have hcm : c ≤ 9223372036854775807 := by unfold maxLen at hc2; exact hc2
      go_enter Try.func86, Try.ntmps86
      go_wp2_with fail
      go_loopw [10] (fun i wr => ∃ k : Nat, i = .int .i64 (k : Nat) ∧ k ≤ xs.length ∧ wr = w ∧ Hid (∀ j (h : j < xs.length), j < k → nmAt xs j xs[j] = true)) (fun i _ => xs.length - (intOf i).toNat)
      case atStart => exact ⟨0, rfl, Nat.zero_le _, rfl, fun j _ h => by omega⟩
      case round =>
        obtain ⟨k, rfl, hk, rfl, HA⟩ := hrel
        by_cases hlt : k < xs.length
        · have z0 : (k : Int) < (xs.length : Int) := by omega
          obtain ⟨x, hx⟩ : ∃ x, xs[k] = x := ⟨_, rfl⟩
          have c0 : wr.cell? ⟨b, o + k, none⟩ = some (.string x) := by rw [← hx]; exact HCE.out k hlt
          have HX : Hid (xs[k] = x) := hx
          have hxs : x.size ≤ maxLen := by rw [← hx]; exact HSM.out _ (List.getElem_mem hlt)
          clear hx
          obtain ⟨nb, hnb⟩ : ∃ nb, nameB x.data.toList = nb := ⟨_, rfl⟩
          obtain ⟨hb, hhb⟩ : ∃ hb, hasN (xs.take k) x = hb := ⟨_, rfl⟩
          have HNM : Hid (Calls Try.prog 90 #[.string x] wr fun e w' => e = .returned (.bool nb) ∧ w' = wr) := by rw [← hnb]; exact isName_any x wr hxs
          have HCN : Hid (Calls Try.prog 91 #[.slice (some ⟨b, o, none⟩) k c, .string x] wr fun e w' => e = .returned (.bool hb) ∧ w' = wr) := by rw [← hhb]; exact containsN_any _ _ x wr (HST.out k hk)
          have HNA : Hid (nmAt xs k x = (nb && !hb)) := by show nmAt xs k x = _; unfold nmAt; rw [hnb, hhb]
          have b1 : (0 : Int) ≤ (k : Int) := by omega
          have b2 : (k : Int) ≤ (c : Int) := by omega
          clear hnb hhb hxs
          cases nb with
          | false =>
            have HNO : Hid (listB xs = false) := listB_no hlt (by rw [HX.out, HNA.out]; rfl)
            obtain rfl : false = r := HNO.out.symm.trans HR.out
            go_wp2_with (first | (go_at_call 90; refine HNM.out.mono ?_; rintro e w1 ⟨rfl, rfl⟩) | (go_at_call 91; refine HCN.out.mono ?_; rintro e w1 ⟨rfl, rfl⟩))
            go_ret
            exact ⟨rfl, rfl⟩
          | true =>
            cases hb with
            | true =>
              have HNO : Hid (listB xs = false) := listB_no hlt (by rw [HX.out, HNA.out]; rfl)
              obtain rfl : false = r := HNO.out.symm.trans HR.out
              go_wp2_with (first | (go_at_call 90; refine HNM.out.mono ?_; rintro e w1 ⟨rfl, hw1⟩; rw [hw1]; clear hw1) | (go_at_call 91; refine HCN.out.mono ?_; rintro e w1 ⟨rfl, hw1⟩; rw [hw1]; clear hw1))
              go_ret
              exact ⟨rfl, rfl⟩
            | false =>
              have HYES : Hid (∀ j (h : j < xs.length), j < k + 1 → nmAt xs j xs[j] = true) := fun j hj h' => by
                rcases Nat.lt_or_ge j k with q | q
                · exact HA.out j hj q
                · obtain rfl : j = k := by omega
                  rw [HX.out, HNA.out]; rfl
              go_wp2_with (first | (go_at_call 90; refine HNM.out.mono ?_; rintro e w1 ⟨rfl, hw1⟩; rw [hw1]; clear hw1) | (go_at_call 91; refine HCN.out.mono ?_; rintro e w1 ⟨rfl, hw1⟩; rw [hw1]; clear hw1))
              go_roundw
              case rel => exact ⟨k + 1, by go_num, by omega, by trivial, HYES.out⟩
              case measure => simp [intOf]; omega
        · obtain rfl : k = xs.length := by omega
          have z0 : ¬ ((xs.length : Int) < (xs.length : Int)) := by omega
          obtain rfl : true = r := (listB_yes h8 (fun i hi => HA.out i hi hi)).symm.trans HR.out
          go_wp2
          go_ret
          exact ⟨rfl, rfl⟩
    · have z8 : (8 : Int) < (xs.length : Int) := by omega
      obtain rfl : false = r := by rw [← HR.out]; unfold listB; rw [decide_eq_false h8, Bool.false_and]
      clear h hcell
      go_enter Try.func86, Try.ntmps86
      go_wp2
      go_ret
      exact ⟨rfl, rfl⟩
end Go.Proofs.Ytbbfajbnklgncaa
