/- Own's marks, and what its loops have come to. -/
import Derived.Test.YtbbfajbnklgncaaGreatOwnV1
namespace Go.Proofs.YtbbfajbnklgncaaGreat
open Go.RowKit Go.Shelf

/-- The marks: of a list's verdicts, of the room behind. -/
def mark1V8 (i k : Nat) : Nat := (i * 97 + k * 13) % 256
def mark2V8 (i k : Nat) : Nat := (((-1 - (i : Int)) * 97 + (k : Int) * 13) % 256).toNat
def m1V8 (i n : Nat) : List Nat := (List.range n).map (mark1V8 i)
def m2V8 (i n : Nat) : List Nat := (List.range n).map (mark2V8 i)
theorem m1_lenV8 (i n : Nat) : (m1V8 i n).length = n := by simp [m1V8]
theorem m2_lenV8 (i n : Nat) : (m2V8 i n).length = n := by simp [m2V8]
theorem m1_succV8 (i n : Nat) : m1V8 i (n + 1) = m1V8 i n ++ [mark1V8 i n] := by unfold m1V8; rw [List.range_succ, List.map_append]; rfl
theorem m2_succV8 (i n : Nat) : m2V8 i (n + 1) = m2V8 i n ++ [mark2V8 i n] := by unfold m2V8; rw [List.range_succ, List.map_append]; rfl
theorem mark1_smallV8 (i k : Nat) : mark1V8 i k < 256 := Nat.mod_lt _ (by decide)
theorem mark2_smallV8 (i k : Nat) : mark2V8 i k < 256 := by unfold mark2V8; omega
theorem m1_atV8 {i n k : Nat} (h : k < n) : (m1V8 i n)[k]? = some (mark1V8 i k) := by simp [m1V8, h]
theorem m2_atV8 {i n k : Nat} (h : k < n) : (m2V8 i n)[k]? = some (mark2V8 i k) := by simp [m2V8, h]
/-- A letter more is marked. -/
theorem mark_stepV8 {xs : List Nat} {i k : Nat} (h : k < xs.length) : (m1V8 i k ++ xs.drop k).set k (mark1V8 i k) = m1V8 i (k + 1) ++ xs.drop (k + 1) := by
  rw [List.set_append_right _ _ (by rw [m1_lenV8]; exact Nat.le_refl _), m1_lenV8, Nat.sub_self, ← List.getElem_cons_drop h, List.set_cons_zero, m1_succV8, List.append_assoc]
  rfl
/-- How far the verdicts are marked. -/
def Ph1V8 (W : World) (base : Nat) (vs : List Value) (xss : List (List Nat)) (i k : Nat) : Prop := ∃ cs, OwnAllV8 W base vs cs ∧ ∀ (j : Nat) (xs : List Nat), xss[j]? = some xs → cs[j]? = some (if j < i then m1V8 j xs.length else if j = i then m1V8 i k ++ xs.drop k else xs)
theorem Ph1V8.start {W : World} {base : Nat} {vs : List Value} {xss : List (List Nat)} (h : OwnAllV8 W base vs xss) : Ph1V8 W base vs xss 0 0 := ⟨xss, h, fun j xs hx => by
  rw [hx, if_neg (Nat.not_lt_zero j)]
  split <;> simp [m1V8]⟩
theorem Ph1V8.next {W : World} {base i : Nat} {vs : List Value} {xss : List (List Nat)} {xs : List Nat} (h : Ph1V8 W base vs xss i xs.length) (hx : xss[i]? = some xs) : Ph1V8 W base vs xss (i + 1) 0 := by
  obtain ⟨cs, h1, h2⟩ := h
  refine ⟨cs, h1, fun j ys hy => ?_⟩
  rw [h2 j ys hy]
  by_cases e1 : j < i
  · rw [if_pos e1, if_pos (by omega)]
  · rw [if_neg e1]
    by_cases e2 : j = i
    · subst e2
      rw [if_pos rfl, if_pos (by omega)]
      rw [hx] at hy
      cases hy
      rw [List.drop_length, List.append_nil]
    · rw [if_neg e2, if_neg (by omega)]
      split
      · rename_i e3; subst e3; simp [m1V8]
      · rfl
theorem Ph1V8.write {W : World} {base i k g n c : Nat} {vs : List Value} {xss : List (List Nat)} {xs : List Nat} (h : Ph1V8 W base vs xss i k) (hv : vs[i]? = some (.slice (some ⟨g, 0, none⟩) n c)) (hx : xss[i]? = some xs) (hk : k < xs.length) : Ph1V8 (W.setCell ⟨g, k, none⟩ (.int .u8 (mark1V8 i k : Nat))) base vs xss i (k + 1) := by
  obtain ⟨cs, h1, h2⟩ := h
  have hc : cs[i]? = some (m1V8 i k ++ xs.drop k) := by rw [h2 i xs hx, if_neg (Nat.lt_irrefl i), if_pos rfl]
  refine ⟨_, h1.write (x := mark1V8 i k) (k := k) hv hc, fun j ys hy => ?_⟩
  rw [List.getElem?_set]
  have hlt : i < cs.length := by
    rcases Nat.lt_or_ge i cs.length with h | h
    · exact h
    · rw [List.getElem?_eq_none h] at hc; cases hc
  by_cases e : i = j
  · subst e
    rw [if_pos rfl, if_pos hlt, if_neg (Nat.lt_irrefl i), if_pos rfl, mark_stepV8 hk]
    rw [hx] at hy
    cases hy
    rfl
  · rw [if_neg e, h2 j ys hy]
    have e' : ¬ j = i := fun e2 => e e2.symm
    simp only [e', if_false]
theorem Ph1V8.kept {W W' : World} {base i k : Nat} {vs : List Value} {xss : List (List Nat)} (h : Ph1V8 W base vs xss i k) (kk : Kept [] W W') : Ph1V8 W' base vs xss i k := by
  obtain ⟨cs, h1, h2⟩ := h
  exact ⟨cs, h1.kept kk, h2⟩
end Go.Proofs.YtbbfajbnklgncaaGreat
