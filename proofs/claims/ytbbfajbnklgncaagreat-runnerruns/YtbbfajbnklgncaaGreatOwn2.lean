/- Own's marks, and what its loops have come to. -/
import Derived.Test.YtbbfajbnklgncaaGreatOwn1
namespace Go.Proofs.YtbbfajbnklgncaaGreat
open Go.RowKit Go.Shelf

/-- The marks: of a list's letters, of the room behind. -/
def mark1 (i k : Nat) : Nat := (i * 1009 + k * 31) % 65536
def mark2 (i k : Nat) : Nat := (((-1 - (i : Int)) * 1009 + (k : Int) * 31) % 65536).toNat
def m1 (i n : Nat) : List Nat := (List.range n).map (mark1 i)
def m2 (i n : Nat) : List Nat := (List.range n).map (mark2 i)
theorem m1_len (i n : Nat) : (m1 i n).length = n := by simp [m1]
theorem m2_len (i n : Nat) : (m2 i n).length = n := by simp [m2]
theorem m1_succ (i n : Nat) : m1 i (n + 1) = m1 i n ++ [mark1 i n] := by unfold m1; rw [List.range_succ, List.map_append]; rfl
theorem m2_succ (i n : Nat) : m2 i (n + 1) = m2 i n ++ [mark2 i n] := by unfold m2; rw [List.range_succ, List.map_append]; rfl
theorem mark1_small (i k : Nat) : mark1 i k < 65536 := Nat.mod_lt _ (by decide)
theorem mark2_small (i k : Nat) : mark2 i k < 65536 := by unfold mark2; omega
theorem m1_at {i n k : Nat} (h : k < n) : (m1 i n)[k]? = some (mark1 i k) := by simp [m1, h]
theorem m2_at {i n k : Nat} (h : k < n) : (m2 i n)[k]? = some (mark2 i k) := by simp [m2, h]
/-- A letter more is marked. -/
theorem mark_step {xs : List Nat} {i k : Nat} (h : k < xs.length) : (m1 i k ++ xs.drop k).set k (mark1 i k) = m1 i (k + 1) ++ xs.drop (k + 1) := by
  rw [List.set_append_right _ _ (by rw [m1_len]; exact Nat.le_refl _), m1_len, Nat.sub_self, ← List.getElem_cons_drop h, List.set_cons_zero, m1_succ, List.append_assoc]
  rfl
/-- How far the letters are marked. -/
def Ph1 (W : World) (base : Nat) (vs : List Value) (xss : List (List Nat)) (i k : Nat) : Prop := ∃ cs, OwnAll W base vs cs ∧ ∀ (j : Nat) (xs : List Nat), xss[j]? = some xs → cs[j]? = some (if j < i then m1 j xs.length else if j = i then m1 i k ++ xs.drop k else xs)
theorem Ph1.start {W : World} {base : Nat} {vs : List Value} {xss : List (List Nat)} (h : OwnAll W base vs xss) : Ph1 W base vs xss 0 0 := ⟨xss, h, fun j xs hx => by
  rw [hx, if_neg (Nat.not_lt_zero j)]
  split <;> simp [m1]⟩
theorem Ph1.next {W : World} {base i : Nat} {vs : List Value} {xss : List (List Nat)} {xs : List Nat} (h : Ph1 W base vs xss i xs.length) (hx : xss[i]? = some xs) : Ph1 W base vs xss (i + 1) 0 := by
  obtain ⟨cs, h1, h2⟩ := h
  refine ⟨cs, h1, fun j ys hy => ?_⟩
  rw [h2 j ys hy]
  by_cases e1 : j < i
  · rw [if_pos e1, if_pos (by omega)]
  · rw [if_neg e1]
    by_cases e2 : j = i
    · subst e2
      rw [if_pos rfl, if_pos (by omega)]
      rw [hx] at hy
      cases hy
      rw [List.drop_length, List.append_nil]
    · rw [if_neg e2, if_neg (by omega)]
      split
      · rename_i e3; subst e3; simp [m1]
      · rfl
theorem Ph1.write {W : World} {base i k g n c : Nat} {vs : List Value} {xss : List (List Nat)} {xs : List Nat} (h : Ph1 W base vs xss i k) (hv : vs[i]? = some (.slice (some ⟨g, 0, none⟩) n c)) (hx : xss[i]? = some xs) (hk : k < xs.length) : Ph1 (W.setCell ⟨g, k, none⟩ (.int .u16 (mark1 i k : Nat))) base vs xss i (k + 1) := by
  obtain ⟨cs, h1, h2⟩ := h
  have hc : cs[i]? = some (m1 i k ++ xs.drop k) := by rw [h2 i xs hx, if_neg (Nat.lt_irrefl i), if_pos rfl]
  refine ⟨_, h1.write (x := mark1 i k) (k := k) hv hc, fun j ys hy => ?_⟩
  rw [List.getElem?_set]
  have hlt : i < cs.length := by
    rcases Nat.lt_or_ge i cs.length with h | h
    · exact h
    · rw [List.getElem?_eq_none h] at hc; cases hc
  by_cases e : i = j
  · subst e
    rw [if_pos rfl, if_pos hlt, if_neg (Nat.lt_irrefl i), if_pos rfl, mark_step hk]
    rw [hx] at hy
    cases hy
    rfl
  · rw [if_neg e, h2 j ys hy]
    have e' : ¬ j = i := fun e2 => e e2.symm
    simp only [e', if_false]
theorem Ph1.kept {W W' : World} {base i k : Nat} {vs : List Value} {xss : List (List Nat)} (h : Ph1 W base vs xss i k) (kk : Kept [] W W') : Ph1 W' base vs xss i k := by
  obtain ⟨cs, h1, h2⟩ := h
  exact ⟨cs, h1.kept kk, h2⟩
end Go.Proofs.YtbbfajbnklgncaaGreat
