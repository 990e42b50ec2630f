/- Letters in memory. No walk here. -/
import Derived.Test.YtbbfajbnklgncaaHA
import Derived.Test.YtbbfajbnklgncaaHB
import Derived.Maps.AppendAt
import Derived.Laws.AppendOwnNone
namespace Go.Proofs.Ytbbfajbnklgncaa
open Go.RowKit

/-- Only draws. -/
def Quiet (w w' : World) : Prop := ∃ q, w' = w.drewN q
theorem Quiet.refl (w : World) : Quiet w w := ⟨0, rfl⟩
theorem Quiet.kept {w w' : World} (h : Quiet w w') : Kept [] w w' := by
  obtain ⟨q, rfl⟩ := h
  exact (Kept.refl [] w).drewN q
/-- The letters xs are what v tells, in W: no slice, or one somewhere. -/
structure Lets (W : World) (v : Value) (xs : List Nat) : Prop where
  small : ∀ x ∈ xs, x < 65536
  few : xs.length ≤ 70368744177664
  lie : (v = .slice none 0 0 ∧ xs = []) ∨ ∃ b o c, v = .slice (some ⟨b, o, none⟩) xs.length c ∧ xs.length ≤ c ∧ c ≤ maxLen ∧ ∀ i, i < xs.length → W.cell? ⟨b, o + i, none⟩ = some (.int .u16 (xs.getD i 0 : Nat))
theorem Lets.kept {W W' : World} {v : Value} {xs : List Nat} (h : Lets W v xs) (k : Kept [] W W') : Lets W' v xs := by
  refine ⟨h.small, h.few, ?_⟩
  rcases h.lie with h1 | ⟨b, o, c, h1, h2, h3, h4⟩
  · exact .inl h1
  · exact .inr ⟨b, o, c, h1, h2, h3, fun i hi => cell_kept0 k (h4 i hi)⟩
theorem Lets.nil (W : World) : Lets W (.slice none 0 0) [] := ⟨by simp, by simp, .inl ⟨rfl, rfl⟩⟩
/-- A slice's form. -/
theorem Lets.form {W : World} {v : Value} {xs : List Nat} (h : Lets W v xs) : ∃ ad c, v = .slice ad xs.length c ∧ xs.length ≤ c ∧ c ≤ maxLen := by
  rcases h.lie with ⟨rfl, rfl⟩ | ⟨b, o, c, rfl, h2, h3, _⟩
  · exact ⟨none, 0, rfl, Nat.le_refl _, by unfold maxLen; omega⟩
  · exact ⟨_, c, rfl, h2, h3⟩
theorem Lets.there {W : World} {v : Value} {xs : List Nat} (h : Lets W v xs) (h0 : 0 < xs.length) : ∃ b o c, v = .slice (some ⟨b, o, none⟩) xs.length c ∧ xs.length ≤ c ∧ c ≤ maxLen ∧ ∀ i, i < xs.length → W.cell? ⟨b, o + i, none⟩ = some (.int .u16 (xs.getD i 0 : Nat)) := by
  rcases h.lie with ⟨_, rfl⟩ | h1
  · simp at h0
  · exact h1
/-- A part of a slice. -/
theorem Lets.part {W : World} {b o c : Nat} {xs : List Nat} (h : Lets W (.slice (some ⟨b, o, none⟩) xs.length c) xs) (lo hi : Nat) (h1 : lo ≤ hi) (h2 : hi ≤ xs.length) : Lets W (.slice (some ⟨b, o + lo, none⟩) (hi - lo) (c - lo)) ((xs.take hi).drop lo) := by
  have hl : ((xs.take hi).drop lo).length = hi - lo := by rw [List.length_drop, List.length_take]; omega
  have hf := h.few
  refine ⟨fun x hx => h.small x (List.mem_of_mem_take (List.mem_of_mem_drop hx)), by omega, .inr ?_⟩
  rcases h.lie with ⟨h3, _⟩ | ⟨b', o', c', h3, h4, h5, h6⟩
  · cases h3
  · simp only [Value.slice.injEq, Option.some.injEq, Addr.mk.injEq, and_true, true_and] at h3
    obtain ⟨⟨rfl, rfl⟩, rfl⟩ := h3
    refine ⟨b, o + lo, c - lo, by rw [hl], by omega, by omega, fun i hi' => ?_⟩
    rw [hl] at hi'
    rw [Nat.add_assoc, h6 (lo + i) (by omega)]
    simp [List.getD_eq_getElem?_getD, List.getElem?_drop, show lo + i < hi by omega]
theorem Lets.take {W : World} {b o c : Nat} {xs : List Nat} (h : Lets W (.slice (some ⟨b, o, none⟩) xs.length c) xs) (n : Nat) (h2 : n ≤ xs.length) : Lets W (.slice (some ⟨b, o, none⟩) n c) (xs.take n) := by
  have := h.part 0 n (Nat.zero_le _) h2
  simpa using this
theorem Lets.drop {W : World} {b o c : Nat} {xs : List Nat} (h : Lets W (.slice (some ⟨b, o, none⟩) xs.length c) xs) (n : Nat) (h2 : n ≤ xs.length) : Lets W (.slice (some ⟨b, o + n, none⟩) (xs.length - n) (c - n)) (xs.drop n) := by
  have := h.part n xs.length h2 (Nat.le_refl _)
  simpa using this
/-- What is cut off ahead, as the model writes it. -/
theorem Lets.dropI {W : World} {b o c : Nat} {xs : List Nat} (h : Lets W (.slice (some ⟨b, o, none⟩) xs.length c) xs) (n : Nat) (h2 : n ≤ xs.length) : Lets W (.slice (if c = n then some ⟨b, o, none⟩ else some ⟨b, o + n, none⟩) (xs.length - n) (c - n)) (xs.drop n) := by
  by_cases e : c = n
  · rw [if_pos e]
    obtain ⟨ad, c', e2, h3, h4⟩ := h.form
    cases e2
    have hl : (xs.drop n).length = 0 := by rw [List.length_drop]; omega
    have e0 : xs.drop n = [] := List.length_eq_zero_iff.1 hl
    rw [e0]
    refine ⟨by simp, by simp, .inr ⟨b, o, c - n, ?_, by simp, by unfold maxLen at *; omega, by simp⟩⟩
    rw [show xs.length - n = 0 by omega]; rfl
  · rw [if_neg e]; exact h.drop n h2
/-- The values of letters. -/
def u16s (xs : List Nat) : List Value := xs.map fun x => .int .u16 (x : Nat)
theorem u16s_len (xs : List Nat) : (u16s xs).length = xs.length := by simp [u16s]
theorem u16s_app (xs ys : List Nat) : u16s (xs ++ ys) = u16s xs ++ u16s ys := by simp [u16s]
theorem u16s_one (xs : List Nat) : ∀ u ∈ u16s xs, u.oneCell' = true := by
  intro u hu
  obtain ⟨x, _, rfl⟩ := List.mem_map.1 hu
  rfl
theorem u16s_at {xs : List Nat} {j : Nat} {u : Value} (h : (u16s xs)[j]? = some u) : j < xs.length ∧ u = .int .u16 (xs.getD j 0 : Nat) := by
  rcases Nat.lt_or_ge j xs.length with hj | hj
  · refine ⟨hj, ?_⟩
    simp [u16s, hj] at h
    rw [← h]; simp [List.getD_eq_getElem?_getD, hj]
  · rw [List.getElem?_eq_none (by simpa [u16s] using hj)] at h; cases h
theorem addr_add (b o j : Nat) : (⟨b, o, none⟩ : Addr).add j = ⟨b, o + j, none⟩ := by
  unfold Addr.add; simp
/-- What an append reads. -/
theorem lets_news {W : World} {b o : Nat} {xs : List Nat} (h : ∀ i, i < xs.length → W.cell? ⟨b, o + i, none⟩ = some (.int .u16 (xs.getD i 0 : Nat))) : ∀ j u, (u16s xs)[j]? = some u → W.cell? ((⟨b, o, none⟩ : Addr).add j) = some u := by
  intro j u hj
  obtain ⟨h1, rfl⟩ := u16s_at hj
  rw [addr_add]; exact h j h1
theorem Try.infoU16 : (Try.prog.info? 55).map (fun i => (i.zero, i.size, i.bytes)) = some (some (.int .u16 0), 1, 2) := by kernel_rfl
/-- A row of one's own tells its letters. -/
theorem lets_own {W : World} {base : Nat} {v : Value} {xs : List Nat} (h : W.ownsRow base 55 1 v xs.length (u16s xs)) (hs : ∀ x ∈ xs, x < 65536) (hf : xs.length ≤ 70368744177664) : Lets W v xs := by
  refine ⟨hs, hf, ?_⟩
  rcases h.2 with ⟨rfl, h0⟩ | ⟨g, cap, cur, rfl, h1, h2, h3, h4, h5, h6⟩
  · exact .inl ⟨rfl, List.length_eq_zero_iff.1 h0⟩
  · refine .inr ⟨g, 0, cap, rfl, h3, h4, fun i hi => ?_⟩
    rw [Nat.zero_add, h.cellAt i (by omega)]
    simp [u16s, hi]
end Go.Proofs.Ytbbfajbnklgncaa
