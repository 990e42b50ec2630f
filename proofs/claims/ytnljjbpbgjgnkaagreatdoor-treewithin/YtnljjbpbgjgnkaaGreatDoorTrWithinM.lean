/- What stands in a tree: smaller, and as right as the tree. -/
import Derived.Test.YtnljjbpbgjgnkaaGreatDoorTrRight
namespace Go.Proofs.YtnljjbpbgjgnkaaGreatDoor
open Go.RowKit Go.Shelf

theorem foldl_max_le {l : List Nat} : ∀ {a n : Nat}, (n ∈ l ∨ n ≤ a) → n ≤ l.foldl max a := by
  induction l with
  | nil => intro a n h; exact h.elim (fun h => by cases h) id
  | cons b l ih =>
    intro a n h
    rw [List.foldl_cons]
    refine ih ?_
    rcases h with h | h
    · rcases List.mem_cons.1 h with rfl | h
      · right; omega
      · exact .inl h
    · right; omega
theorem Tr.kid_depth {t k : Tr} (h : k ∈ t.kids) : k.depth < t.depth := by
  rw [Tr.depth_eq t]
  have := foldl_max_le (l := t.kids.map Tr.depth) (a := 0) (n := k.depth) (.inl (List.mem_map.2 ⟨k, h, rfl⟩))
  omega
theorem every_all {q : Tr → Bool} (t : Tr) : ∀ p, (∀ x ∈ t.parts p, q x.2 = true) → t.All (fun u => q u = true) := by
  induction t using Tr.ind with
  | h t ih =>
    intro p h
    refine (Tr.all_eq t).2 ⟨h (p, t) (by rw [Tr.parts_eq]; simp), fun k hk => ?_⟩
    obtain ⟨i, hi, rfl⟩ := List.getElem_of_mem hk
    refine ih _ hk (p ++ [i]) (fun x hx => h x ?_)
    exact (parts_step hi).subset (by simp [hx])
theorem all_every {q : Tr → Bool} {t : Tr} (h : t.All (fun u => q u = true)) : t.every q = true := by
  unfold Tr.every
  exact List.all_eq_true.2 fun x hx => h.part hx
theorem every_iff {q : Tr → Bool} {t : Tr} : t.every q = true ↔ t.All (fun u => q u = true) :=
  ⟨fun h => every_all t [] (fun x hx => List.all_eq_true.1 h x hx), all_every⟩
theorem part_sub (t : Tr) : ∀ p x, x ∈ t.parts p → x.2.size ≤ t.size ∧ x.2.depth ≤ t.depth ∧ (∀ q : Tr → Bool, t.every q = true → x.2.every q = true) ∧ (x.1 ≠ p → x.2.size < t.size ∧ x.2.depth < t.depth) := by
  induction t using Tr.ind with
  | h t ih =>
    intro p x hx
    rw [Tr.parts_eq] at hx
    rcases List.mem_cons.1 hx with rfl | hx
    · exact ⟨Nat.le_refl _, Nat.le_refl _, fun _ h => h, fun h => absurd rfl h⟩
    · obtain ⟨r, hr, q', hq⟩ := rowsFrom_mem hx
      obtain ⟨k, hk, rfl⟩ := List.mem_map.1 hr
      obtain ⟨h1, h2, h3, _⟩ := ih k hk q' x hq
      have s1 := Tr.kid_size hk
      have s2 := Tr.kid_depth hk
      exact ⟨by omega, by omega, fun q h => h3 q (every_iff.2 (((Tr.all_eq t).1 (every_iff.1 h)).2 k hk)), fun _ => ⟨by omega, by omega⟩⟩
theorem right_sub {ob : Nat → Bool} {t : Tr} {x : List Nat × Tr} (hx : x ∈ t.parts []) (h : rightN ob t = 0) : rightN ob x.2 = 0 := by
  obtain ⟨h1, h2, h3, _⟩ := part_sub t [] x hx
  unfold rightN at h ⊢
  split at h
  · next he =>
    rw [if_pos (h3 _ he)]
    split at h
    · next hd =>
      have hd' : t.size ≤ 1000 ∧ t.depth ≤ 100 := by simpa using hd
      rw [if_pos]
      simp; omega
    · cases h
  · cases h
theorem right_small {ob : Nat → Bool} {t : Tr} (h : rightN ob t = 0) : t.size ≤ 1000 ∧ t.depth ≤ 100 := by
  unfold rightN at h
  split at h
  · split at h
    · next hd => simpa using hd
    · cases h
  · cases h
end Go.Proofs.YtnljjbpbgjgnkaaGreatDoor
