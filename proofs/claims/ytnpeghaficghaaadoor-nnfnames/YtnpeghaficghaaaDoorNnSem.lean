/- What N, D and S mean: N and S the same as the formula, D the contrary. No walk here. -/
import Derived.Test.YtnpeghaficghaaaDoorNnSimp
namespace Go.Proofs.YtnpeghaficghaaaDoor
open Go.RowKit Go.Shelf

section
variable (σ : Nat → Nat) (xs : List ByteArray)
theorem mean0 (o : Nat) : sat σ xs (nn0 o) = satOp σ xs o nE (fun _ => False) (fun _ => False) := sat_eq σ xs _
theorem mean1' (o : Nat) (a : Tr) : sat σ xs (nn1 o a) = satOp σ xs o nE (sat σ xs a) (sat σ xs a) := sat_eq σ xs _
theorem mean2' (o : Nat) (a b : Tr) : sat σ xs (nn2 o a b) = satOp σ xs o nE (sat σ xs a) (sat σ xs b) := sat_eq σ xs _
theorem so1 (s : ByteArray) (a b : Nat → Prop) (j : Nat) : satOp σ xs 1 s a b j ↔ True := Iff.rfl
theorem so2 (s : ByteArray) (a b : Nat → Prop) (j : Nat) : satOp σ xs 2 s a b j ↔ False := Iff.rfl
theorem so4 (s : ByteArray) (a b : Nat → Prop) (j : Nat) : satOp σ xs 4 s a b j ↔ ¬ a j := Iff.rfl
theorem so5 (s : ByteArray) (a b : Nat → Prop) (j : Nat) : satOp σ xs 5 s a b j ↔ a j ∧ b j := Iff.rfl
theorem so6 (s : ByteArray) (a b : Nat → Prop) (j : Nat) : satOp σ xs 6 s a b j ↔ a j ∨ b j := Iff.rfl
theorem so7 (s : ByteArray) (a b : Nat → Prop) (j : Nat) : satOp σ xs 7 s a b j ↔ b j ∨ ¬ a j := Iff.rfl
theorem so8 (s : ByteArray) (a b : Nat → Prop) (j : Nat) : satOp σ xs 8 s a b j ↔ (a j ↔ b j) := Iff.rfl
theorem so9 (s : ByteArray) (a b : Nat → Prop) (j : Nat) : satOp σ xs 9 s a b j ↔ a (j + 1) := Iff.rfl
theorem so10 (s : ByteArray) (a b : Nat → Prop) (j : Nat) : satOp σ xs 10 s a b j ↔ untilP (fun _ => True) a j := Iff.rfl
theorem so11 (s : ByteArray) (a b : Nat → Prop) (j : Nat) : satOp σ xs 11 s a b j ↔ ¬ untilP (fun _ => True) (fun j => ¬ a j) j := Iff.rfl
theorem so12 (s : ByteArray) (a b : Nat → Prop) (j : Nat) : satOp σ xs 12 s a b j ↔ untilP a b j := Iff.rfl
theorem so13 (s : ByteArray) (a b : Nat → Prop) (j : Nat) : satOp σ xs 13 s a b j ↔ ¬ untilP (fun j => ¬ a j) (fun j => ¬ b j) j := Iff.rfl
theorem so14 (s : ByteArray) (a b : Nat → Prop) (j : Nat) : satOp σ xs 14 s a b j ↔ ¬ untilP (fun j => ¬ b j) (fun j => ¬ (a j ∨ b j)) j := Iff.rfl
theorem so15 (s : ByteArray) (a b : Nat → Prop) (j : Nat) : satOp σ xs 15 s a b j ↔ untilP b (fun j => a j ∧ b j) j := Iff.rfl

/-- N means the same, D the contrary. -/
theorem nd_sat (t : Tr) (hG : t.Good) : (∀ i, sat σ xs (nd t).1 i ↔ sat σ xs t i) ∧ ∀ i, sat σ xs (nd t).2 i ↔ ¬ sat σ xs t i := by
  refine good_ind (p := fun t => (∀ i, sat σ xs (nd t).1 i ↔ sat σ xs t i) ∧ ∀ i, sat σ xs (nd t).2 i ↔ ¬ sat σ xs t i) ?_ ?_ ?_ t hG
  · intro o s ho hf
    rw [nd_0]
    rcases ho with rfl | rfl | rfl
    · have e : sat σ xs ⟨1, s, []⟩ = _ := sat_eq σ xs _
      refine ⟨fun i => ?_, fun i => ?_⟩
      · show sat σ xs (nn0 1) i ↔ _; rw [e, mean0, so1, so1]
      · show sat σ xs (nn0 2) i ↔ _; rw [e, mean0, so2, so1]; simp
    · have e : sat σ xs ⟨2, s, []⟩ = _ := sat_eq σ xs _
      refine ⟨fun i => ?_, fun i => ?_⟩
      · show sat σ xs (nn0 2) i ↔ _; rw [e, mean0, so2, so2]
      · show sat σ xs (nn0 1) i ↔ _; rw [e, mean0, so2, so1]; simp
    · exact ⟨fun i => Iff.rfl, fun i => by show sat σ xs (nn1 4 _) i ↔ _; rw [mean1', so4]⟩
  · intro o a ho _ ih
    obtain ⟨i1, i2⟩ := ih
    have e1 : sat σ xs (nd a).1 = sat σ xs a := funext fun i => propext (i1 i)
    have e2 : sat σ xs (nd a).2 = fun i => ¬ sat σ xs a i := funext fun i => propext (i2 i)
    have y1 : sat σ xs (nn0 1) = fun _ => True := by rw [mean0]; rfl
    have y2 : sat σ xs (nn0 2) = fun _ => False := by rw [mean0]; rfl
    rw [nd_1]
    rcases ho with rfl | rfl | rfl | rfl <;> refine ⟨fun i => ?_, fun i => ?_⟩ <;> simp only [ndOp, Nat.reduceEqDiff, if_true, if_false, mean1', mean2', e1, e2, y1, y2, so4, so9, so10, so11, so12, so13, Classical.not_not, not_false_eq_true]
  · intro o a b ho _ _ ih jh
    obtain ⟨i1, i2⟩ := ih
    obtain ⟨j1, j2⟩ := jh
    have e1 : sat σ xs (nd a).1 = sat σ xs a := funext fun i => propext (i1 i)
    have e2 : sat σ xs (nd a).2 = fun i => ¬ sat σ xs a i := funext fun i => propext (i2 i)
    have f1 : sat σ xs (nd b).1 = sat σ xs b := funext fun i => propext (j1 i)
    have f2 : sat σ xs (nd b).2 = fun i => ¬ sat σ xs b i := funext fun i => propext (j2 i)
    rw [nd_2]
    rcases ho with rfl | rfl | rfl | rfl | rfl | rfl | rfl | rfl <;> refine ⟨fun i => ?_, fun i => ?_⟩ <;> simp only [ndOp, Nat.reduceEqDiff, if_true, if_false, mean2', e1, e2, f1, f2, so5, so6, so7, so8, so12, so13, so14, so15, Classical.not_not]
    · exact Classical.not_and_iff_not_or_not.symm
    · exact not_or.symm
    · exact Or.comm
    · by_cases h : sat σ xs a i <;> by_cases k : sat σ xs b i <;> simp [h, k]
    · by_cases h : sat σ xs a i <;> by_cases k : sat σ xs b i <;> simp [h, k]
    · by_cases h : sat σ xs a i <;> by_cases k : sat σ xs b i <;> simp [h, k]
    · exact untilP_congr (fun _ => Iff.rfl) (fun j => by simp only [so5, not_or]) i
    · exact untilP_congr (fun _ => Iff.rfl) (fun j => by rw [so5]) i
    · exact not_congr (untilP_congr (fun _ => Iff.rfl) (fun j => by rw [not_or, Classical.not_not, Classical.not_not]) i)

/-- Until, where one side is nothing or all. -/
theorem until_now {b a : Nat → Prop} (h : ∀ j, ¬ b j) (i : Nat) : untilP b a i ↔ a i := by
  constructor
  · rintro ⟨k, ha, hb⟩
    rcases Nat.eq_zero_or_pos k with rfl | hk
    · exact ha
    · exact absurd (hb 0 hk) (h _)
  · exact fun ha => ⟨0, ha, fun j hj => by omega⟩
theorem until_same {a : Nat → Prop} (i : Nat) : untilP a a i ↔ a i := by
  constructor
  · rintro ⟨k, ha, hb⟩
    rcases Nat.eq_zero_or_pos k with rfl | hk
    · exact ha
    · exact hb 0 hk
  · exact fun ha => ⟨0, ha, fun j hj => by omega⟩
theorem until_all {b a : Nat → Prop} (h : ∀ j, a j) (i : Nat) : untilP b a i := ⟨0, h i, fun j hj => by omega⟩
theorem until_none {b a : Nat → Prop} (h : ∀ j, ¬ a j) (i : Nat) : ¬ untilP b a i := fun ⟨_, ha, _⟩ => h _ ha
theorem until_more {b b' a a' : Nat → Prop} (hb : ∀ j, b j → b' j) (ha : ∀ j, a j → a' j) {i : Nat} : untilP b a i → untilP b' a' i := fun ⟨k, h, g⟩ => ⟨k, ha _ h, fun j hj => hb _ (g j hj)⟩
/-- b that lasts: what is so sometime from where it is so sometime. -/
theorem event_event {a : Nat → Prop} {b : Nat → Prop} (i : Nat) : untilP b (fun j => untilP (fun _ => True) a j) i ↔ untilP (fun _ => True) a i := by
  constructor
  · rintro ⟨k, ⟨m, ha, _⟩, _⟩
    refine ⟨k + m, ?_, fun _ _ => trivial⟩
    have : i + (k + m) = i + k + m := by omega
    rw [this]; exact ha
  · intro h; exact ⟨0, h, fun j hj => by omega⟩
theorem later {a : Nat → Prop} {i k : Nat} (h : untilP (fun _ => True) a (i + k)) : untilP (fun _ => True) a i := by
  obtain ⟨m, ha, _⟩ := h
  refine ⟨k + m, ?_, fun _ _ => trivial⟩
  have : i + (k + m) = i + k + m := by omega
  rw [this]; exact ha

theorem sat_c1 {a : Tr} (h : a.op = 1) (i : Nat) : sat σ xs a i ↔ True := by rw [sat_eq, h, so1]
theorem sat_c2 {a : Tr} (h : a.op = 2) (i : Nat) : sat σ xs a i ↔ False := by rw [sat_eq, h, so2]
theorem no_sat {a : Tr} (hG : a.Good) (i : Nat) : sat σ xs (sNot a) i ↔ ¬ sat σ xs a i := by
  unfold sNot
  split
  · rename_i hc
    simp only [cstB, Bool.or_eq_true, beq_iff_eq] at hc
    rcases hc with e | e
    · rw [e, sat_c1 σ xs e]; show sat σ xs (nn0 2) i ↔ _; rw [mean0, so2]; simp
    · rw [e, sat_c2 σ xs e]; show sat σ xs (nn0 1) i ↔ _; rw [mean0, so1]; simp
  · split
    · obtain ⟨x, rfl, _⟩ := good_k ‹_› hG
      show sat σ xs x i ↔ _
      rw [mean1', so4, Classical.not_not]
    · rw [mean1', so4]
theorem cst_sat {a : Tr} (h : cstB a = true) : (∀ i, sat σ xs a i) ∨ ∀ i, ¬ sat σ xs a i := by
  simp only [cstB, Bool.or_eq_true, beq_iff_eq] at h
  rcases h with e | e
  · exact .inl fun i => (sat_c1 σ xs e i).2 trivial
  · exact .inr fun i h => (sat_c2 σ xs e i).1 h
theorem event_sat (a : Tr) (hG : a.Good) (i : Nat) : sat σ xs (sLast 10 a) i ↔ untilP (fun _ => True) (sat σ xs a) i := by
  unfold sLast
  split
  · rename_i hl
    simp only [lastB, Bool.or_eq_true, Bool.and_eq_true, beq_iff_eq] at hl
    rcases hl with (hl | hl) | hl
    · rcases cst_sat σ xs hl with h | h
      · exact iff_of_true (h i) (until_all h i)
      · exact iff_of_false (h i) (until_none h i)
    · obtain ⟨x, e, _⟩ := good_u (a := a) (by unfold Un; omega) hG
      rw [hl] at e
      have e2 : sat σ xs a = fun j => untilP (fun _ => True) (sat σ xs x) j := by rw [e, mean1']; funext j; exact propext (so10 σ xs _ _ _ j)
      rw [e2]
      exact (event_event i).symm
    · obtain ⟨h1, h2⟩ := hl
      replace h1 : a.op = 11 := h1
      obtain ⟨x, e, gx⟩ := good_u (a := a) (by unfold Un; omega) hG
      rw [h1] at e
      have hx : x.op = 10 := by rw [e] at h2; exact h2
      obtain ⟨y, ey, _⟩ := good_u (a := x) (by unfold Un; omega) gx
      rw [hx] at ey
      have e2 : ∀ j, sat σ xs a j ↔ ¬ untilP (fun _ => True) (fun j => ¬ untilP (fun _ => True) (sat σ xs y) j) j := fun j => by
        rw [e, mean1', so11]
        refine not_congr (untilP_congr (fun _ => Iff.rfl) (fun j => ?_) j)
        rw [ey, mean1', so10]
      constructor
      · intro h; exact ⟨0, h, fun j hj => by omega⟩
      · rintro ⟨k, h, _⟩
        rw [e2] at h ⊢
        rintro ⟨m, hm, _⟩
        refine h ⟨m, ?_, fun _ _ => trivial⟩
        intro hh
        refine hm (later (k := k) ?_)
        have : i + m + k = i + k + m := by omega
        rw [this]; exact hh
  · rw [mean1', so10]
theorem always_sat (a : Tr) (hG : a.Good) (i : Nat) : sat σ xs (sLast 11 a) i ↔ ¬ untilP (fun _ => True) (fun j => ¬ sat σ xs a j) i := by
  unfold sLast
  split
  · rename_i hl
    simp only [lastB, Bool.or_eq_true, Bool.and_eq_true, beq_iff_eq] at hl
    rcases hl with (hl | hl) | hl
    · rcases cst_sat σ xs hl with h | h
      · exact iff_of_true (h i) (until_none (fun j k => k (h j)) i)
      · exact iff_of_false (h i) (fun k => k (until_all h i))
    · obtain ⟨x, e, _⟩ := good_u (a := a) (by unfold Un; omega) hG
      rw [hl] at e
      have e2 : sat σ xs a = fun j => ¬ untilP (fun _ => True) (fun j => ¬ sat σ xs x j) j := by rw [e, mean1']; funext j; exact propext (so11 σ xs _ _ _ j)
      rw [e2]
      refine not_congr ?_
      refine Iff.trans (event_event (b := fun _ => True) i).symm (untilP_congr (fun _ => Iff.rfl) (fun j => Classical.not_not.symm) i)
    · obtain ⟨h1, h2⟩ := hl
      replace h1 : a.op = 10 := h1
      obtain ⟨x, e, gx⟩ := good_u (a := a) (by unfold Un; omega) hG
      rw [h1] at e
      have hx : x.op = 11 := by rw [e] at h2; exact h2
      obtain ⟨y, ey, _⟩ := good_u (a := x) (by unfold Un; omega) gx
      rw [hx] at ey
      have e2 : ∀ j, sat σ xs a j ↔ untilP (fun _ => True) (fun j => ¬ untilP (fun _ => True) (fun j => ¬ sat σ xs y j) j) j := fun j => by
        rw [e, mean1', so10]
        refine untilP_congr (fun _ => Iff.rfl) (fun j => ?_) j
        rw [ey, mean1', so11]
      constructor
      · intro h
        rw [e2] at h
        obtain ⟨m, hm, _⟩ := h
        rintro ⟨k, hk, _⟩
        refine hk ((e2 _).2 ⟨m, ?_, fun _ _ => trivial⟩)
        intro hh
        refine hm (later (k := k) ?_)
        have : i + m + k = i + k + m := by omega
        rw [this]; exact hh
      · intro h
        refine Classical.byContradiction fun hn => h ⟨0, hn, fun j hj => by omega⟩
  · rw [mean1', so11]
theorem ord_sat {o : Nat} (ho : o = 5 ∨ o = 6 ∨ o = 8) (a b : Tr) (i : Nat) : sat σ xs (sOrd o a b) i ↔ satOp σ xs o nE (sat σ xs a) (sat σ xs b) i := by
  unfold sOrd
  split
  · rw [mean2']
    rcases ho with rfl | rfl | rfl
    · rw [so5, so5]; exact And.comm
    · rw [so6, so6]; exact Or.comm
    · rw [so8, so8]; exact ⟨Iff.symm, Iff.symm⟩
  · rw [mean2']
theorem deny_sat {a b : Tr} (ga : a.Good) (gb : b.Good) (h : denyB a b = true) (i : Nat) : sat σ xs a i ↔ ¬ sat σ xs b i := by
  simp only [denyB, Bool.or_eq_true, Bool.and_eq_true, beq_iff_eq] at h
  rcases h with ⟨h, k⟩ | ⟨h, k⟩
  · obtain ⟨x, rfl, _⟩ := good_k h ga
    rw [sameT_iff] at k
    rw [show b = x from k.symm, mean1', so4]
  · obtain ⟨x, rfl, _⟩ := good_k h gb
    rw [sameT_iff] at k
    rw [show a = x from k.symm, mean1', so4, Classical.not_not]
theorem has_sat {a b : Tr} {o : Nat} (ho : o = 5 ∨ o = 6) (ga : a.Good) (h : hasB a o b = true) : ∃ x : Nat → Prop, ∀ i, sat σ xs a i ↔ satOp σ xs o nE (sat σ xs b) x i := by
  simp only [hasB, Bool.or_eq_true, Bool.and_eq_true, beq_iff_eq, sameT_iff] at h
  obtain ⟨h, k⟩ := h
  obtain ⟨x, y, e, _, _⟩ := good_b (a := a) (by unfold Bi; omega) ga
  rw [h] at e
  rcases k with k | k
  · have : x = b := by rw [e] at k; exact k
    exact ⟨sat σ xs y, fun i => by rw [e, mean2', this]⟩
  · have : y = b := by rw [e] at k; exact k
    refine ⟨sat σ xs x, fun i => ?_⟩
    rw [e, mean2', this]
    rcases ho with rfl | rfl
    · rw [so5, so5]; exact And.comm
    · rw [so6, so6]; exact Or.comm
theorem and_sat {a b : Tr} (ga : a.Good) (gb : b.Good) (i : Nat) : sat σ xs (sJun 5 2 a b) i ↔ (sat σ xs a i ∧ sat σ xs b i) := by
  unfold sJun
  split
  · rename_i h
    rw [mean0, so2]
    rcases h with h | h
    · rw [sat_c2 σ xs h]; simp
    · rw [sat_c2 σ xs h]; simp
  split
  · rename_i h; rw [sat_c1 σ xs (a := a) h]; simp
  split
  · rename_i h; rw [sat_c1 σ xs (a := b) h]; simp
  split
  · rename_i h; rw [sameT_iff] at h; subst h; simp
  split
  · rename_i h; rw [mean0, so2, deny_sat σ xs ga gb h]; simp
  split
  · rename_i h; obtain ⟨x, hx⟩ := has_sat σ xs (o := 6) (by omega) ga h; rw [hx, so6]; exact ⟨fun h => ⟨.inl h, h⟩, fun h => h.2⟩
  split
  · rename_i h; obtain ⟨x, hx⟩ := has_sat σ xs (o := 6) (by omega) gb h; rw [hx, so6]; exact ⟨fun h => ⟨h, .inl h⟩, fun h => h.1⟩
  · rw [ord_sat σ xs (by omega), so5]
theorem or_sat {a b : Tr} (ga : a.Good) (gb : b.Good) (i : Nat) : sat σ xs (sJun 6 1 a b) i ↔ (sat σ xs a i ∨ sat σ xs b i) := by
  unfold sJun
  split
  · rename_i h
    rw [mean0, so1]
    rcases h with h | h
    · rw [sat_c1 σ xs h]; simp
    · rw [sat_c1 σ xs h]; simp
  split
  · rename_i h; rw [sat_c2 σ xs (a := a) h]; simp
  split
  · rename_i h; rw [sat_c2 σ xs (a := b) h]; simp
  split
  · rename_i h; rw [sameT_iff] at h; subst h; simp
  split
  · rename_i h; rw [mean0, so1, deny_sat σ xs ga gb h]; simp only [true_iff]; exact Classical.or_iff_not_imp_right.2 (fun h => h)
  split
  · rename_i h; obtain ⟨x, hx⟩ := has_sat σ xs (o := 5) (by omega) ga h; rw [hx, so5]; exact ⟨fun h => .inr h, fun h => h.elim (fun h => h.1) id⟩
  split
  · rename_i h; obtain ⟨x, hx⟩ := has_sat σ xs (o := 5) (by omega) gb h; rw [hx, so5]; exact ⟨fun h => .inl h, fun h => h.elim id (fun h => h.1)⟩
  · rw [ord_sat σ xs (by omega), so6]
theorem imp_sat {a b : Tr} (ga : a.Good) (i : Nat) : sat σ xs (sImp a b) i ↔ (sat σ xs b i ∨ ¬ sat σ xs a i) := by
  unfold sImp
  split
  · rename_i h
    rw [mean0, so1]
    rcases h with h | h
    · rw [sat_c2 σ xs h]; simp
    · rw [sat_c1 σ xs h]; simp
  split
  · rename_i h; rw [sat_c1 σ xs (a := a) h]; simp
  split
  · rename_i h; rw [sat_c2 σ xs (a := b) h, no_sat σ xs ga]; simp
  split
  · rename_i h; rw [sameT_iff] at h; subst h; rw [mean0, so1]; simp only [true_iff]; exact Classical.em _
  · rw [mean2', so7]
theorem equ_sat {a b : Tr} (ga : a.Good) (gb : b.Good) (i : Nat) : sat σ xs (sEqu a b) i ↔ (sat σ xs a i ↔ sat σ xs b i) := by
  unfold sEqu
  split
  · rename_i h; rw [sat_c1 σ xs (a := a) h]; simp
  split
  · rename_i h; rw [sat_c1 σ xs (a := b) h]; simp
  split
  · rename_i h; rw [sat_c2 σ xs (a := a) h, no_sat σ xs gb]; simp
  split
  · rename_i h; rw [sat_c2 σ xs (a := b) h, no_sat σ xs ga]; simp
  split
  · rename_i h; rw [sameT_iff] at h; subst h; rw [mean0, so1]; simp
  · rw [ord_sat σ xs (by omega), so8]
theorem un_sat {o : Nat} {a : Tr} (b : Tr) (ho : Un o) (ga : a.Good) (i : Nat) : sat σ xs (sOp o a b) i ↔ satOp σ xs o nE (sat σ xs a) (sat σ xs a) i := by
  rcases ho with rfl | rfl | rfl | rfl
  · rw [so4]; exact no_sat σ xs ga i
  · rw [so9]; show sat σ xs (sNext a) i ↔ _; unfold sNext; split
    · rename_i h
      rcases cst_sat σ xs h with h | h
      · exact iff_of_true (h _) (h _)
      · exact iff_of_false (h _) (h _)
    · rw [mean1', so9]
  · rw [so10]; exact event_sat σ xs a ga i
  · rw [so11]; exact always_sat σ xs a ga i
theorem bi_sat {o : Nat} {a b : Tr} (ho : Bi o) (ga : a.Good) (gb : b.Good) (i : Nat) : sat σ xs (sOp o a b) i ↔ satOp σ xs o nE (sat σ xs a) (sat σ xs b) i := by
  rcases ho with rfl | rfl | rfl | rfl | rfl | rfl | rfl | rfl
  · rw [so5]; exact and_sat σ xs ga gb i
  · rw [so6]; exact or_sat σ xs ga gb i
  · rw [so7]; exact imp_sat σ xs ga i
  · rw [so8]; exact equ_sat σ xs ga gb i
  · rw [so12]
    show sat σ xs (sUnt 12 1 10 a b) i ↔ _
    unfold sUnt
    split
    · rename_i h
      rcases cst_sat σ xs h with h | h
      · exact iff_of_true (h i) (until_all h i)
      · exact iff_of_false (h i) (until_none h i)
    split
    · rename_i h; rw [event_sat σ xs b gb]; exact untilP_congr (fun j => by rw [sat_c1 σ xs h]) (fun _ => Iff.rfl) i
    split
    · rename_i h; exact (until_now (fun j k => (sat_c2 σ xs h j).1 k) i).symm
    split
    · rename_i h; rw [sameT_iff] at h; subst h; exact (until_same i).symm
    split
    · rename_i h
      obtain ⟨x, e, _⟩ := good_u (a := b) (by unfold Un; omega) gb
      rw [h] at e
      have e2 : sat σ xs b = fun j => untilP (fun _ => True) (sat σ xs x) j := by rw [e, mean1']; funext j; exact propext (so10 σ xs _ _ _ j)
      rw [e2]
      exact (event_event i).symm
    · rw [mean2', so12]
  · rw [so13]
    show sat σ xs (sUnt 13 2 11 a b) i ↔ _
    unfold sUnt
    split
    · rename_i h
      rcases cst_sat σ xs h with h | h
      · exact iff_of_true (h i) (until_none (fun j k => k (h j)) i)
      · exact iff_of_false (h i) (fun k => k (until_all h i))
    split
    · rename_i h; rw [always_sat σ xs b gb]; exact not_congr (untilP_congr (fun j => by rw [sat_c2 σ xs h]; simp) (fun _ => Iff.rfl) i)
    split
    · rename_i h; rw [until_now (fun j k => k ((sat_c1 σ xs h j).2 trivial)) i, Classical.not_not]
    split
    · rename_i h; rw [sameT_iff] at h; subst h; rw [until_same, Classical.not_not]
    split
    · rename_i h
      obtain ⟨x, e, _⟩ := good_u (a := b) (by unfold Un; omega) gb
      rw [h] at e
      have e2 : sat σ xs b = fun j => ¬ untilP (fun _ => True) (fun j => ¬ sat σ xs x j) j := by rw [e, mean1']; funext j; exact propext (so11 σ xs _ _ _ j)
      rw [e2]
      refine not_congr (Iff.trans (event_event (b := fun j => ¬ sat σ xs a j) i).symm (untilP_congr (fun _ => Iff.rfl) (fun j => Classical.not_not.symm) i))
    · rw [mean2', so13]
  · rw [so14]
    show sat σ xs (sWeak 14 1 11 a b) i ↔ _
    unfold sWeak
    split
    · rename_i h
      rw [mean0, so1, true_iff]
      rcases h with h | h
      · exact until_none (fun j k => k (.inl ((sat_c1 σ xs h j).2 trivial))) i
      · exact until_none (fun j k => k (.inr ((sat_c1 σ xs h j).2 trivial))) i
    split
    · rename_i h
      have e : ∀ j, ¬ (sat σ xs a j ∨ sat σ xs b j) ↔ ¬ sat σ xs b j := fun j => by rw [sat_c2 σ xs (a := a) h]; simp
      rw [untilP_congr (fun _ => Iff.rfl) e i, until_same, Classical.not_not]
    split
    · rename_i h
      rw [always_sat σ xs a ga]
      exact not_congr (untilP_congr (fun j => by rw [sat_c2 σ xs (a := b) h]; simp) (fun j => by rw [sat_c2 σ xs (a := b) h]; simp) i)
    split
    · rename_i h; rw [sameT_iff] at h; subst h
      rw [untilP_congr (fun _ => Iff.rfl) (fun j => by rw [or_self]) i, until_same, Classical.not_not]
    · rw [mean2', so14]
  · rw [so15]
    show sat σ xs (sWeak 15 2 10 a b) i ↔ _
    unfold sWeak
    split
    · rename_i h
      rw [mean0, so2, false_iff]
      rcases h with h | h
      · exact until_none (fun j k => (sat_c2 σ xs h j).1 k.1) i
      · exact until_none (fun j k => (sat_c2 σ xs h j).1 k.2) i
    split
    · rename_i h
      have e : ∀ j, (sat σ xs a j ∧ sat σ xs b j) ↔ sat σ xs b j := fun j => by rw [sat_c1 σ xs (a := a) h]; simp
      rw [untilP_congr (fun _ => Iff.rfl) e i, until_same]
    split
    · rename_i h
      rw [event_sat σ xs a ga]
      exact untilP_congr (fun j => by rw [sat_c1 σ xs (a := b) h]) (fun j => by rw [sat_c1 σ xs (a := b) h]; simp) i
    split
    · rename_i h; rw [sameT_iff] at h; subst h
      rw [untilP_congr (fun _ => Iff.rfl) (fun j => by rw [and_self]) i, until_same]
    · rw [mean2', so15]
/-- S means the same. -/
theorem simp_sat (t : Tr) (hG : t.Good) : ∀ i, sat σ xs (simpT t) i ↔ sat σ xs t i := by
  refine good_ind (p := fun t => ∀ i, sat σ xs (simpT t) i ↔ sat σ xs t i) ?_ ?_ ?_ t hG
  · intro o s _ _ i; rw [simpT_0]
  · intro o a ho ha ih i
    rw [simpT_1, un_sat σ xs (nn0 0) ho (simp_good a ha), mean1', show sat σ xs (simpT a) = sat σ xs a from funext fun i => propext (ih i)]
  · intro o a b ho ha hb ih jh i
    rw [simpT_2, bi_sat σ xs ho (simp_good a ha) (simp_good b hb), mean2', show sat σ xs (simpT a) = sat σ xs a from funext fun i => propext (ih i), show sat σ xs (simpT b) = sat σ xs b from funext fun i => propext (jh i)]
end
end Go.Proofs.YtnpeghaficghaaaDoor
