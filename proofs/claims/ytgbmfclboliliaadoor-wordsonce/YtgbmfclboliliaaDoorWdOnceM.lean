/- The words that All goes through: which they are, and their order. Plain mathematics. -/
import Derived.Test.YtgbmfclboliliaaDoorWdAllX
import Derived.Test.YtgbmfclboliliaaDoorWdCheck
namespace Go.Proofs.YtgbmfclboliliaaDoor
open Go.RowKit

theorem mem_ext {below stem : Nat} {q : Wd} : ∀ (k : Nat) (row : List Nat), q ∈ ext below stem k row ↔ ∃ t : List Nat, t.length = k ∧ (∀ c ∈ t, c < below) ∧ q = wdOf stem (row ++ t) ∧ normB q = true := by
  intro k
  induction k with
  | zero =>
    intro row
    unfold ext
    constructor
    · intro h
      by_cases hn : normB (wdOf stem row) = true
      · rw [if_pos hn] at h
        obtain rfl := List.mem_singleton.1 h
        exact ⟨[], rfl, by simp, by rw [List.append_nil], hn⟩
      · rw [if_neg hn] at h; cases h
    · rintro ⟨t, ht, _, rfl, hn⟩
      obtain rfl : t = [] := List.length_eq_zero_iff.1 ht
      rw [List.append_nil] at hn ⊢
      rw [if_pos hn]; simp
  | succ k ih =>
    intro row
    unfold ext
    rw [List.mem_flatMap]
    constructor
    · rintro ⟨c, hc, hq⟩
      obtain ⟨t, h1, h2, h3, h4⟩ := (ih _).1 hq
      refine ⟨c :: t, by simp [h1], fun x hx => ?_, by rw [h3, List.append_assoc]; rfl, h4⟩
      rcases List.mem_cons.1 hx with rfl | hx
      · exact List.mem_range.1 hc
      · exact h2 x hx
    · rintro ⟨t, h1, h2, h3, h4⟩
      obtain ⟨c, t, rfl⟩ : ∃ c t', t = c :: t' := by cases t with | nil => simp at h1 | cons c t => exact ⟨c, t, rfl⟩
      refine ⟨c, List.mem_range.2 (h2 c (by simp)), (ih _).2 ⟨t, by simpa using h1, fun x hx => h2 x (by simp [hx]), by rw [h3, List.append_assoc]; rfl, h4⟩⟩
theorem wdOf_len {stem : Nat} {r : List Nat} (h : stem ≤ r.length) : (wdOf stem r).stem.length = stem ∧ (wdOf stem r).loop.length = r.length - stem := by
  constructor
  · show (r.take stem).length = stem; rw [List.length_take]; omega
  · show (r.drop stem).length = _; rw [List.length_drop]
theorem wdOf_at {stem i : Nat} {r : List Nat} (h : stem ≤ r.length) (hi : i < r.length) : (wdOf stem r).at i = r.getD i 0 := by
  obtain ⟨l1, l2⟩ := wdOf_len h
  unfold Wd.at
  rw [l1, l2]
  by_cases h1 : i < stem
  · rw [if_pos h1]
    show (r.take stem).getD i 0 = _
    simp [List.getD_eq_getElem?_getD, h1]
  · rw [if_neg h1, Nat.mod_eq_of_lt (by omega)]
    show (r.drop stem).getD (i - stem) 0 = _
    simp [List.getD_eq_getElem?_getD, List.getElem?_drop, show stem + (i - stem) = i by omega]
/-- Which word stands ahead, as All goes. -/
def AheadP (a b : Wd) : Prop :=
  a.stem.length + a.loop.length < b.stem.length + b.loop.length ∨ (a.stem.length + a.loop.length = b.stem.length + b.loop.length ∧
    (a.stem.length < b.stem.length ∨ (a.stem.length = b.stem.length ∧ ∃ i, i < a.stem.length + a.loop.length ∧ (∀ j, j < i → a.at j = b.at j) ∧ a.at i < b.at i)))
theorem ext_rises {below stem : Nat} : ∀ (k : Nat) (row : List Nat), stem ≤ row.length + k → (ext below stem k row).Pairwise AheadP := by
  intro k
  induction k with
  | zero =>
    intro row _
    unfold ext
    split
    · exact List.pairwise_singleton _ _
    · exact List.Pairwise.nil
  | succ k ih =>
    intro row hs
    unfold ext
    rw [List.pairwise_flatMap]
    refine ⟨fun c _ => ih _ (by simp; omega), List.pairwise_lt_range.imp fun {c c'} hc x hx y hy => ?_⟩
    obtain ⟨t, t1, _, rfl, _⟩ := (mem_ext _ _).1 hx
    obtain ⟨u, u1, _, rfl, _⟩ := (mem_ext _ _).1 hy
    have lx : (row ++ [c] ++ t).length = row.length + 1 + k := by simp [t1]; omega
    have ly : (row ++ [c'] ++ u).length = row.length + 1 + k := by simp [u1]; omega
    obtain ⟨a1, a2⟩ := wdOf_len (stem := stem) (r := row ++ [c] ++ t) (by omega)
    obtain ⟨b1, b2⟩ := wdOf_len (stem := stem) (r := row ++ [c'] ++ u) (by omega)
    refine .inr ⟨by omega, .inr ⟨by omega, row.length, by omega, fun j hj => ?_, ?_⟩⟩
    · rw [wdOf_at (by omega) (by omega), wdOf_at (by omega) (by omega)]
      simp [List.getD_eq_getElem?_getD, List.append_assoc, List.getElem?_append_left hj]
    · rw [wdOf_at (by omega) (by omega), wdOf_at (by omega) (by omega)]
      simpa [List.getD_eq_getElem?_getD, List.append_assoc, List.getElem?_append_right (Nat.le_refl row.length)] using hc
theorem mem_places {below p s : Nat} {q : Wd} (hs : s ≤ p) (h : q ∈ ofPlaces below p s) : q.stem.length + q.loop.length = p ∧ 0 < q.loop.length ∧ q.Norm ∧ (∀ c ∈ q.stem, c < below) ∧ ∀ c ∈ q.loop, c < below := by
  unfold ofPlaces at h
  obtain ⟨s', hs', hq⟩ := List.mem_flatMap.1 h
  have h1 := List.mem_range.1 hs'
  obtain ⟨t, t1, t2, rfl, t4⟩ := (mem_ext _ _).1 hq
  rw [List.nil_append] at t4 ⊢
  obtain ⟨l1, l2⟩ := wdOf_len (stem := s') (r := t) (by omega)
  have h0 : 0 < (wdOf s' t).loop.length := by omega
  exact ⟨by omega, h0, (normB_iff h0).1 t4, fun c hc => t2 c (List.mem_of_mem_take hc), fun c hc => t2 c (List.mem_of_mem_drop hc)⟩
theorem mem_all {props size : Nat} {q : Wd} : q ∈ allW props size ↔ q.Norm ∧ (∀ c ∈ q.stem, c < 2 ^ props) ∧ (∀ c ∈ q.loop, c < 2 ^ props) ∧ q.stem.length + q.loop.length ≤ size := by
  unfold allW allTo
  constructor
  · intro h
    obtain ⟨p, hp, hq⟩ := List.mem_flatMap.1 h
    have h1 := List.mem_range.1 hp
    obtain ⟨m1, m2, m3, m4, m5⟩ := mem_places (Nat.le_refl _) hq
    exact ⟨m3, m4, m5, by omega⟩
  · rintro ⟨hn, h1, h2, h3⟩
    have h0 := hn.1
    refine List.mem_flatMap.2 ⟨q.stem.length + q.loop.length - 1, List.mem_range.2 (by omega), ?_⟩
    unfold ofPlaces
    refine List.mem_flatMap.2 ⟨q.stem.length, List.mem_range.2 (by omega), (mem_ext _ _).2 ⟨q.stem ++ q.loop, by rw [List.length_append]; omega, fun c hc => (List.mem_append.1 hc).elim (h1 c) (h2 c), ?_, (normB_iff h0).2 hn⟩⟩
    unfold wdOf
    simp
theorem all_rises (props size : Nat) : (allW props size).Pairwise AheadP := by
  unfold allW allTo
  rw [List.pairwise_flatMap]
  refine ⟨fun p _ => ?_, List.pairwise_lt_range.imp fun {p p'} hp x hx y hy => ?_⟩
  · unfold ofPlaces
    rw [List.pairwise_flatMap]
    refine ⟨fun s hs => ext_rises _ _ (by have := List.mem_range.1 hs; simp; omega), ?_⟩
    have hr : (List.range (p + 1)).Pairwise (fun a b => a < b ∧ b < p + 1) := by
      rw [List.pairwise_iff_getElem]
      intro i j hi hj hij
      simp at hi hj ⊢
      omega
    refine hr.imp fun {s s'} hs x hx y hy => ?_
    obtain ⟨t, t1, _, rfl, _⟩ := (mem_ext _ _).1 hx
    obtain ⟨u, u1, _, rfl, _⟩ := (mem_ext _ _).1 hy
    rw [List.nil_append, List.nil_append]
    obtain ⟨a1, a2⟩ := wdOf_len (stem := s) (r := t) (by omega)
    obtain ⟨b1, b2⟩ := wdOf_len (stem := s') (r := u) (by omega)
    exact .inr ⟨by omega, .inl (by omega)⟩
  · have m := (mem_places (Nat.le_refl _) hx).1
    have m' := (mem_places (Nat.le_refl _) hy).1
    exact .inl (by omega)
/-- Each word stands behind the one before. -/
theorem all_next {props size : Nat} {pre : List Wd} {a b : Wd} (h : pre ++ [a] ++ [b] <+: allW props size) : AheadP a b := by
  have hp := (all_rises props size).sublist h.sublist
  rw [List.append_assoc, List.pairwise_append] at hp
  have := hp.2.1
  simpa using this
theorem at_below {q : Wd} {b : Nat} (h0 : 0 < q.loop.length) (h1 : ∀ c ∈ q.stem, c < b) (h2 : ∀ c ∈ q.loop, c < b) (i : Nat) : q.at i < b := by
  rcases Nat.lt_or_ge i q.stem.length with h | h
  · rw [Wd.at_lo h]
    refine h1 _ ?_
    rw [List.getD_eq_getElem?_getD, List.getElem?_eq_getElem h]
    exact List.getElem_mem _
  · rw [Wd.at_hi h]
    unfold cyc
    have hm := Nat.mod_lt (i - q.stem.length) h0
    refine h2 _ ?_
    rw [List.getD_eq_getElem?_getD, List.getElem?_eq_getElem hm]
    exact List.getElem_mem _
/-- A word's normal form is among them just if its letters are small and its places few. -/
theorem all_small {props n : Nat} {q r : Wd} (h : NormOf q r) (hp : props ≤ 8) : (r ∈ allW props n) ↔ (checkE q (props : Int) = 0 ∧ placesN r ≤ n) := by
  have hC : checkE q (props : Int) = 0 ↔ (0 < q.loop.length ∧ (∀ c ∈ q.stem, c < 2 ^ props) ∧ ∀ c ∈ q.loop, c < 2 ^ props) := by
    unfold checkE anyGreat
    rw [if_neg (by omega)]
    simp only [Int.toNat_natCast]
    constructor
    · intro hc
      by_cases hx : q.loop.length = 0 ∨ (q.stem.any fun x => decide (2 ^ props ≤ x)) = true ∨ (q.loop.any fun x => decide (2 ^ props ≤ x)) = true
      · rw [if_pos hx] at hc; cases hc
      · refine ⟨by omega, fun c hc' => ?_, fun c hc' => ?_⟩
        · rcases Nat.lt_or_ge c (2 ^ props) with h | h
          · exact h
          · exact absurd (.inr (.inl (List.any_eq_true.2 ⟨c, hc', by simpa using h⟩))) hx
        · rcases Nat.lt_or_ge c (2 ^ props) with h | h
          · exact h
          · exact absurd (.inr (.inr (List.any_eq_true.2 ⟨c, hc', by simpa using h⟩))) hx
    · rintro ⟨h1, h2, h3⟩
      rw [if_neg]
      rintro (hx | hx | hx)
      · omega
      · obtain ⟨c, hc, hx⟩ := List.any_eq_true.1 hx
        have := h2 c hc
        simp at hx; omega
      · obtain ⟨c, hc, hx⟩ := List.any_eq_true.1 hx
        have := h3 c hc
        simp at hx; omega
  rw [hC, mem_all]
  constructor
  · rintro ⟨hn, h1, h2, h3⟩
    have h0 := hn.1
    by_cases hq : q.loop = []
    · rw [h.1 hq] at h0; simp at h0
    · have hq0 : 0 < q.loop.length := List.length_pos_iff.2 hq
      obtain ⟨_, he⟩ := h.2 hq
      have hat : ∀ i, q.at i < 2 ^ props := fun i => by rw [← he]; exact at_below h0 h1 h2 i
      refine ⟨⟨hq0, fun c hc => ?_, fun c hc => ?_⟩, by unfold placesN; rw [if_neg (by omega)]; exact h3⟩
      · obtain ⟨j, hj, rfl⟩ := List.getElem_of_mem hc
        have := hat j
        rw [Wd.at_lo hj] at this
        simpa [List.getD_eq_getElem?_getD, hj] using this
      · obtain ⟨j, hj, rfl⟩ := List.getElem_of_mem hc
        have := hat (q.stem.length + j)
        rw [Wd.at_hi (by omega), show q.stem.length + j - q.stem.length = j by omega] at this
        unfold cyc at this
        rw [Nat.mod_eq_of_lt hj] at this
        simpa [List.getD_eq_getElem?_getD, hj] using this
  · rintro ⟨⟨hq0, h1, h2⟩, h3⟩
    have hq : q.loop ≠ [] := List.length_pos_iff.1 hq0
    obtain ⟨hn, he⟩ := h.2 hq
    have h0 := hn.1
    have hat : ∀ i, r.at i < 2 ^ props := fun i => by rw [he]; exact at_below hq0 h1 h2 i
    refine ⟨hn, fun c hc => ?_, fun c hc => ?_, by unfold placesN at h3; rw [if_neg (by omega)] at h3; exact h3⟩
    · obtain ⟨j, hj, rfl⟩ := List.getElem_of_mem hc
      have := hat j
      rw [Wd.at_lo hj] at this
      simpa [List.getD_eq_getElem?_getD, hj] using this
    · obtain ⟨j, hj, rfl⟩ := List.getElem_of_mem hc
      have := hat (r.stem.length + j)
      rw [Wd.at_hi (by omega), show r.stem.length + j - r.stem.length = j by omega] at this
      unfold cyc at this
      rw [Nat.mod_eq_of_lt hj] at this
      simpa [List.getD_eq_getElem?_getD, hj] using this
end Go.Proofs.YtgbmfclboliliaaDoor
