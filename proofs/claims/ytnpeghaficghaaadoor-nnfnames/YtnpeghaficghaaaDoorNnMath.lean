/- What package nnf makes of a formula, as plain trees: N and D, S. What they mean, that they are forms. No walk here. -/
import Derived.Test.YtnpeghaficghaaaDoorEvSat
import Derived.Test.YtnpeghaficghaaaDoorTrAlike
namespace Go.Proofs.YtnpeghaficghaaaDoor
open Go.RowKit Go.Shelf

def nE : ByteArray := ⟨#[]⟩
def nn0 (o : Nat) : Tr := ⟨o, nE, []⟩
def nn1 (o : Nat) (a : Tr) : Tr := ⟨o, nE, [a]⟩
def nn2 (o : Nat) (a b : Tr) : Tr := ⟨o, nE, [a, b]⟩
def nk0 (a : Tr) : Tr := a.kids.getD 0 (nn0 0)
def nk1 (a : Tr) : Tr := a.kids.getD 1 (nn0 0)
/-- What comes of a formula, from its leaves up. -/
def foldT {α : Type} (leaf : Tr → α) (f : Nat → α → α → α) (d : α) : Tr → α := Tr.para (fun t rs => if t.kids.length = 0 then leaf t else f t.op (rs.getD 0 d) (rs.getD 1 d))
theorem foldT_eq {α : Type} (leaf : Tr → α) (f : Nat → α → α → α) (d : α) (t : Tr) : foldT leaf f d t = if t.kids.length = 0 then leaf t else f t.op ((t.kids.map (foldT leaf f d)).getD 0 d) ((t.kids.map (foldT leaf f d)).getD 1 d) := Tr.para_eq _ t
theorem foldT_0 {α : Type} (leaf : Tr → α) (f : Nat → α → α → α) (d : α) (o : Nat) (s : ByteArray) : foldT leaf f d ⟨o, s, []⟩ = leaf ⟨o, s, []⟩ := by rw [foldT_eq]; rfl
theorem foldT_1 {α : Type} (leaf : Tr → α) (f : Nat → α → α → α) (d : α) (o : Nat) (a : Tr) : foldT leaf f d (nn1 o a) = f o (foldT leaf f d a) d := by rw [foldT_eq]; rfl
theorem foldT_2 {α : Type} (leaf : Tr → α) (f : Nat → α → α → α) (d : α) (o : Nat) (a b : Tr) : foldT leaf f d (nn2 o a b) = f o (foldT leaf f d a) (foldT leaf f d b) := by rw [foldT_eq]; rfl

def Un (o : Nat) : Prop := o = 4 ∨ o = 9 ∨ o = 10 ∨ o = 11
def Bi (o : Nat) : Prop := o = 5 ∨ o = 6 ∨ o = 7 ∨ o = 8 ∨ o = 12 ∨ o = 13 ∨ o = 14 ∨ o = 15
def Lf (o : Nat) : Prop := o = 1 ∨ o = 2 ∨ o = 3
theorem all0 {q : Tr → Prop} {o : Nat} {s : ByteArray} : (⟨o, s, []⟩ : Tr).All q ↔ q ⟨o, s, []⟩ := by
  rw [Tr.all_eq]; exact ⟨fun h => h.1, fun h => ⟨h, fun k hk => by cases hk⟩⟩
theorem all1 {q : Tr → Prop} {o : Nat} {a : Tr} : (nn1 o a).All q ↔ q (nn1 o a) ∧ a.All q := by
  rw [Tr.all_eq]; refine and_congr_right fun _ => ⟨fun h => h a (by simp [nn1]), fun h k hk => ?_⟩
  rw [show k = a from by simpa [nn1] using hk]; exact h
theorem all2 {q : Tr → Prop} {o : Nat} {a b : Tr} : (nn2 o a b).All q ↔ q (nn2 o a b) ∧ a.All q ∧ b.All q := by
  rw [Tr.all_eq]; refine and_congr_right fun _ => ⟨fun h => ⟨h a (by simp [nn2]), h b (by simp [nn2])⟩, fun h k hk => ?_⟩
  rcases (by simpa [nn2] using hk : k = a ∨ k = b) with rfl | rfl
  · exact h.1
  · exact h.2
theorem nEmpty {s : ByteArray} (h : s.toList.isEmpty = true) : s = nE := WideShapes.bytes_inj (by rw [← ByteArray.toList_eq, List.isEmpty_iff.1 h]; rfl)
theorem formed_name {t : Tr} (h : formedB t = true) (h3 : t.op ≠ 3) : t.name = nE := by
  simp only [formedB, Bool.and_eq_true] at h
  have := h.2
  rw [if_neg h3] at this
  exact nEmpty this
theorem kidsN_one {o : Nat} (h2 : o ≤ 15) (h : kidsN o = 1) : Un o := by
  unfold Un
  rcases (by omega : o = 0 ∨ o = 1 ∨ o = 2 ∨ o = 3 ∨ o = 4 ∨ o = 5 ∨ o = 6 ∨ o = 7 ∨ o = 8 ∨ o = 9 ∨ o = 10 ∨ o = 11 ∨ o = 12 ∨ o = 13 ∨ o = 14 ∨ o = 15) with rfl | rfl | rfl | rfl | rfl | rfl | rfl | rfl | rfl | rfl | rfl | rfl | rfl | rfl | rfl | rfl <;> first | decide | exact absurd h (by decide)
theorem kidsN_two {o : Nat} (h2 : o ≤ 15) (h : kidsN o = 2) : Bi o := by
  unfold Bi
  rcases (by omega : o = 0 ∨ o = 1 ∨ o = 2 ∨ o = 3 ∨ o = 4 ∨ o = 5 ∨ o = 6 ∨ o = 7 ∨ o = 8 ∨ o = 9 ∨ o = 10 ∨ o = 11 ∨ o = 12 ∨ o = 13 ∨ o = 14 ∨ o = 15) with rfl | rfl | rfl | rfl | rfl | rfl | rfl | rfl | rfl | rfl | rfl | rfl | rfl | rfl | rfl | rfl <;> first | decide | exact absurd h (by decide)
theorem kidsN_most {o : Nat} (h2 : o ≤ 15) : kidsN o ≤ 2 := by
  rcases (by omega : o = 0 ∨ o = 1 ∨ o = 2 ∨ o = 3 ∨ o = 4 ∨ o = 5 ∨ o = 6 ∨ o = 7 ∨ o = 8 ∨ o = 9 ∨ o = 10 ∨ o = 11 ∨ o = 12 ∨ o = 13 ∨ o = 14 ∨ o = 15) with rfl | rfl | rfl | rfl | rfl | rfl | rfl | rfl | rfl | rfl | rfl | rfl | rfl | rfl | rfl | rfl <;> decide
/-- A formula whose parts all have a meaning, by its shape. -/
theorem good_ind {p : Tr → Prop} (leaf : ∀ o s, Lf o → formedB ⟨o, s, []⟩ = true → p ⟨o, s, []⟩) (one : ∀ o a, Un o → a.Good → p a → p (nn1 o a)) (two : ∀ o a b, Bi o → a.Good → b.Good → p a → p b → p (nn2 o a b)) (t : Tr) : t.Good → p t := by
  induction t using Tr.ind with
  | h t ih =>
    intro hG
    obtain ⟨⟨hf, ho⟩, hk⟩ := (Tr.all_eq t).1 hG
    obtain ⟨hl, h1⟩ := formed_kids hf
    have hm := kidsN_most ho
    obtain ⟨o, s, ks⟩ := t
    cases ks with
    | nil => exact leaf o s (kidsN_zero h1 ho hl.symm) hf
    | cons a r =>
      have ga : a.Good := hk a (by simp)
      have pa := ih a (by simp) ga
      cases r with
      | nil =>
        have hu := kidsN_one ho hl.symm
        have := formed_name hf (by show o ≠ 3; unfold Un at hu; simp only at hu; omega)
        simp only at this
        subst this
        exact one o a hu ga pa
      | cons b r =>
        cases r with
        | nil =>
          have hu := kidsN_two ho hl.symm
          have := formed_name hf (by show o ≠ 3; unfold Bi at hu; simp only at hu; omega)
          simp only at this
          subst this
          have gb : b.Good := hk b (by simp)
          exact two o a b hu ga gb pa (ih b (by simp) gb)
        | cons c r => simp only [List.length_cons] at hl; simp only at hm; omega
theorem formed_nn {o : Nat} {ks : List Tr} (h1 : 1 ≤ o) (h2 : o ≤ 21) (h3 : o ≠ 3) (h4 : ks.length = kidsN o) : formedB ⟨o, nE, ks⟩ = true := by
  simp only [formedB, Bool.and_eq_true, decide_eq_true_eq, beq_iff_eq]
  refine ⟨⟨⟨h1, h2⟩, h4⟩, ?_⟩
  rw [if_neg h3, ByteArray.toList_eq]; rfl
theorem good0 {o : Nat} (h : o = 1 ∨ o = 2) : (nn0 o).Good := all0.2 ⟨formed_nn (by omega) (by show o ≤ 21; omega) (by omega) (by rcases h with rfl | rfl <;> rfl), by show o ≤ 15; omega⟩
theorem good1 {o : Nat} {a : Tr} (h : Un o) : (nn1 o a).Good ↔ a.Good := by
  unfold Tr.Good
  rw [all1]
  refine ⟨fun h => h.2, fun k => ⟨⟨formed_nn (by unfold Un at h; omega) (by unfold Un at h; omega) (by unfold Un at h; omega) ?_, by unfold Un at h; show o ≤ 15; omega⟩, k⟩⟩
  rcases h with rfl | rfl | rfl | rfl <;> rfl
theorem good2 {o : Nat} {a b : Tr} (h : Bi o) : (nn2 o a b).Good ↔ a.Good ∧ b.Good := by
  unfold Tr.Good
  rw [all2]
  refine ⟨fun h => h.2, fun k => ⟨⟨formed_nn (by unfold Bi at h; omega) (by unfold Bi at h; omega) (by unfold Bi at h; omega) ?_, by unfold Bi at h; show o ≤ 15; omega⟩, k⟩⟩
  rcases h with rfl | rfl | rfl | rfl | rfl | rfl | rfl | rfl <;> rfl

/-- N and D of an operator, by those of its kids; of a leaf; of a formula. -/
def ndOp (o : Nat) (a b : Tr × Tr) : Tr × Tr :=
  if o = 4 then (a.2, a.1) else if o = 5 then (nn2 5 a.1 b.1, nn2 6 a.2 b.2) else if o = 6 then (nn2 6 a.1 b.1, nn2 5 a.2 b.2) else if o = 7 then (nn2 6 a.2 b.1, nn2 5 a.1 b.2)
  else if o = 8 then (nn2 6 (nn2 5 a.1 b.1) (nn2 5 a.2 b.2), nn2 6 (nn2 5 a.1 b.2) (nn2 5 a.2 b.1)) else if o = 9 then (nn1 9 a.1, nn1 9 a.2)
  else if o = 10 then (nn2 12 (nn0 1) a.1, nn2 13 (nn0 2) a.2) else if o = 11 then (nn2 13 (nn0 2) a.1, nn2 12 (nn0 1) a.2)
  else if o = 12 then (nn2 12 a.1 b.1, nn2 13 a.2 b.2) else if o = 13 then (nn2 13 a.1 b.1, nn2 12 a.2 b.2)
  else if o = 14 then (nn2 13 b.1 (nn2 6 a.1 b.1), nn2 12 b.2 (nn2 5 a.2 b.2)) else (nn2 12 b.1 (nn2 5 a.1 b.1), nn2 13 b.2 (nn2 6 a.2 b.2))
def ndLeaf (t : Tr) : Tr × Tr := if t.op = 1 then (nn0 1, nn0 2) else if t.op = 2 then (nn0 2, nn0 1) else (⟨3, t.name, []⟩, nn1 4 ⟨3, t.name, []⟩)
def nd : Tr → Tr × Tr := foldT ndLeaf ndOp (nn0 0, nn0 0)
theorem nd_0 (o : Nat) (s : ByteArray) : nd ⟨o, s, []⟩ = ndLeaf ⟨o, s, []⟩ := foldT_0 _ _ _ o s
theorem nd_1 (o : Nat) (a : Tr) : nd (nn1 o a) = ndOp o (nd a) (nn0 0, nn0 0) := foldT_1 _ _ _ o a
theorem nd_2 (o : Nat) (a b : Tr) : nd (nn2 o a b) = ndOp o (nd a) (nd b) := foldT_2 _ _ _ o a b
/-- Both are of a kind that is closed. -/
theorem nd_all {Q : Tr → Prop} (hc : ∀ o, o = 1 ∨ o = 2 → Q (nn0 o)) (h1 : ∀ o a, o = 9 → Q a → Q (nn1 o a)) (h2 : ∀ o a b, (o = 5 ∨ o = 6 ∨ o = 12 ∨ o = 13) → Q a → Q b → Q (nn2 o a b)) (t : Tr) (hp : t.All (fun x => x.op = 3 → Q ⟨3, x.name, []⟩ ∧ Q (nn1 4 ⟨3, x.name, []⟩))) (hG : t.Good) : Q (nd t).1 ∧ Q (nd t).2 := by
  revert hp
  refine good_ind (p := fun t => t.All (fun x => x.op = 3 → Q ⟨3, x.name, []⟩ ∧ Q (nn1 4 ⟨3, x.name, []⟩)) → Q (nd t).1 ∧ Q (nd t).2) ?_ ?_ ?_ t hG
  · intro o s ho _ hp
    rw [nd_0]
    rcases ho with rfl | rfl | rfl
    · exact ⟨hc 1 (by omega), hc 2 (by omega)⟩
    · exact ⟨hc 2 (by omega), hc 1 (by omega)⟩
    · exact all0.1 hp rfl
  · intro o a ho _ ih hp
    obtain ⟨i1, i2⟩ := ih (all1.1 hp).2
    rw [nd_1]
    rcases ho with rfl | rfl | rfl | rfl
    · exact ⟨i2, i1⟩
    · exact ⟨h1 _ _ rfl i1, h1 _ _ rfl i2⟩
    · exact ⟨h2 _ _ _ (by omega) (hc 1 (by omega)) i1, h2 _ _ _ (by omega) (hc 2 (by omega)) i2⟩
    · exact ⟨h2 _ _ _ (by omega) (hc 2 (by omega)) i1, h2 _ _ _ (by omega) (hc 1 (by omega)) i2⟩
  · intro o a b ho _ _ iha ihb hp
    obtain ⟨i1, i2⟩ := iha (all2.1 hp).2.1
    obtain ⟨j1, j2⟩ := ihb (all2.1 hp).2.2
    rw [nd_2]
    rcases ho with rfl | rfl | rfl | rfl | rfl | rfl | rfl | rfl <;> constructor <;> simp only [ndOp, Nat.reduceEqDiff, if_true, if_false] <;> repeat (first | assumption | refine h2 _ _ _ (by omega) ?_ ?_)
/-- ! at names alone; true, false, &, |, X, U, R. -/
def nnfQ (x : Tr) : Prop := x.op = 1 ∨ x.op = 2 ∨ x.op = 3 ∨ x.op = 5 ∨ x.op = 6 ∨ x.op = 9 ∨ x.op = 12 ∨ x.op = 13 ∨ (x.op = 4 ∧ (nk0 x).op = 3)
theorem all_true {q : Tr → Prop} (h : ∀ t, q t) (t : Tr) : t.All q := by
  induction t using Tr.ind with
  | h t ih => exact (Tr.all_eq t).2 ⟨h t, ih⟩
theorem nd_nnf (t : Tr) (hG : t.Good) : (nd t).1.All nnfQ ∧ (nd t).2.All nnfQ := by
  refine nd_all (Q := fun t => t.All nnfQ) ?_ ?_ ?_ t (all_true (fun x _ => ?_) t) hG
  · rintro o (rfl | rfl) <;> refine all0.2 ?_ <;> simp [nnfQ]
  · rintro o a rfl h; exact all1.2 ⟨by simp [nnfQ, nn1], h⟩
  · rintro o a b ho h k; exact all2.2 ⟨by unfold nnfQ; simp only [nn2]; omega, h, k⟩
  · refine ⟨all0.2 (by simp [nnfQ]), all1.2 ⟨by simp [nnfQ, nn1, nk0], all0.2 (by simp [nnfQ])⟩⟩
theorem nd_good (t : Tr) (hG : t.Good) : (nd t).1.Good ∧ (nd t).2.Good := by
  have hp : t.All (fun x => x.op = 3 → (⟨3, x.name, []⟩ : Tr).Good ∧ (nn1 4 ⟨3, x.name, []⟩).Good) := by
    refine good_ind (p := fun t => t.All (fun x => x.op = 3 → (⟨3, x.name, []⟩ : Tr).Good ∧ (nn1 4 ⟨3, x.name, []⟩).Good)) ?_ ?_ ?_ t hG
    · intro o s _ hf
      refine all0.2 (fun e => ?_)
      simp only at e
      subst e
      have : (⟨3, s, []⟩ : Tr).Good := all0.2 ⟨hf, by show 3 ≤ 15; decide⟩
      exact ⟨this, (good1 (by unfold Un; omega)).2 this⟩
    · intro o a ho _ ih; exact all1.2 ⟨fun e => by unfold Un at ho; simp only [nn1] at e; omega, ih⟩
    · intro o a b ho _ _ ih jh; exact all2.2 ⟨fun e => by unfold Bi at ho; simp only [nn2] at e; omega, ih, jh⟩
  exact nd_all (Q := Tr.Good) (fun o h => good0 h) (fun o a h k => (good1 (by unfold Un; omega)).2 k) (fun o a b h k l => (good2 (by unfold Bi; omega)).2 ⟨k, l⟩) t hp hG
/-- N of what is in the form. -/
theorem nd_again (t : Tr) (hG : t.Good) : t.All nnfQ → (nd t).1 = t := by
  refine good_ind (p := fun t => t.All nnfQ → (nd t).1 = t) ?_ ?_ ?_ t hG
  · intro o s ho hf _
    rw [nd_0]
    rcases ho with rfl | rfl | rfl
    · have := formed_name hf (by show (1 : Nat) ≠ 3; decide); simp only at this; subst this; rfl
    · have := formed_name hf (by show (2 : Nat) ≠ 3; decide); simp only at this; subst this; rfl
    · rfl
  · intro o a ho _ ih hq
    obtain ⟨q1, q2⟩ := all1.1 hq
    have i := ih q2
    rw [nd_1]
    rcases ho with rfl | rfl | rfl | rfl
    · have h3 : a.op = 3 := by simpa [nnfQ, nn1, nk0] using q1
      have h0 : a.kids = [] := by
        have ga : a.Good := by assumption
        have := ((Tr.all_eq a).1 ga).1.1
        have := (formed_kids this).1
        rw [h3] at this
        exact List.eq_nil_of_length_eq_zero this
      obtain ⟨o, s, ks⟩ := a
      simp only at h3 h0
      subst h3; subst h0
      rw [nd_0]; rfl
    · show nn1 9 _ = _; rw [i]
    · simp [nnfQ, nn1] at q1
    · simp [nnfQ, nn1] at q1
  · intro o a b ho _ _ ih jh hq
    obtain ⟨q1, q2, q3⟩ := all2.1 hq
    have i := ih q2
    have j := jh q3
    rw [nd_2]
    rcases ho with rfl | rfl | rfl | rfl | rfl | rfl | rfl | rfl
    · show nn2 5 _ _ = _; rw [i, j]
    · show nn2 6 _ _ = _; rw [i, j]
    · simp [nnfQ, nn2] at q1
    · simp [nnfQ, nn2] at q1
    · show nn2 12 _ _ = _; rw [i, j]
    · show nn2 13 _ _ = _; rw [i, j]
    · simp [nnfQ, nn2] at q1
    · simp [nnfQ, nn2] at q1
/-- D of D, where no <-> stands. -/
theorem nd_dual (t : Tr) (hG : t.Good) : t.All (fun x => x.op ≠ 8) → (nd (nd t).2).2 = (nd t).1 ∧ (nd (nd t).1).2 = (nd t).2 := by
  refine good_ind (p := fun t => t.All (fun x => x.op ≠ 8) → (nd (nd t).2).2 = (nd t).1 ∧ (nd (nd t).1).2 = (nd t).2) ?_ ?_ ?_ t hG
  · intro o s ho hf _
    rw [nd_0]
    rcases ho with rfl | rfl | rfl
    · exact ⟨by rw [show (ndLeaf ⟨1, s, []⟩).2 = ⟨2, nE, []⟩ from rfl, nd_0]; rfl, by rw [show (ndLeaf ⟨1, s, []⟩).1 = ⟨1, nE, []⟩ from rfl, nd_0]; rfl⟩
    · exact ⟨by rw [show (ndLeaf ⟨2, s, []⟩).2 = ⟨1, nE, []⟩ from rfl, nd_0]; rfl, by rw [show (ndLeaf ⟨2, s, []⟩).1 = ⟨2, nE, []⟩ from rfl, nd_0]; rfl⟩
    · exact ⟨by rw [show (ndLeaf ⟨3, s, []⟩).2 = nn1 4 ⟨3, s, []⟩ from rfl, nd_1, nd_0]; rfl, by rw [show (ndLeaf ⟨3, s, []⟩).1 = ⟨3, s, []⟩ from rfl, nd_0]⟩
  · intro o a ho _ ih hq
    obtain ⟨i1, i2⟩ := ih (all1.1 hq).2
    have y1 : nd (nn0 1) = (nn0 1, nn0 2) := nd_0 1 nE
    have y2 : nd (nn0 2) = (nn0 2, nn0 1) := nd_0 2 nE
    rw [nd_1]
    rcases ho with rfl | rfl | rfl | rfl
    · exact ⟨i2, i1⟩
    · simp only [ndOp, Nat.reduceEqDiff, if_true, if_false, nd_1, i1, i2]; exact ⟨trivial, trivial⟩
    · simp only [ndOp, Nat.reduceEqDiff, if_true, if_false, nd_2, i1, i2, y1, y2]; exact ⟨trivial, trivial⟩
    · simp only [ndOp, Nat.reduceEqDiff, if_true, if_false, nd_2, i1, i2, y1, y2]; exact ⟨trivial, trivial⟩
  · intro o a b ho _ _ ih jh hq
    obtain ⟨q1, q2, q3⟩ := all2.1 hq
    obtain ⟨i1, i2⟩ := ih q2
    obtain ⟨j1, j2⟩ := jh q3
    rw [nd_2]
    rcases ho with rfl | rfl | rfl | rfl | rfl | rfl | rfl | rfl
    · simp only [ndOp, Nat.reduceEqDiff, if_true, if_false, nd_2, i1, i2, j1, j2]; exact ⟨trivial, trivial⟩
    · simp only [ndOp, Nat.reduceEqDiff, if_true, if_false, nd_2, i1, i2, j1, j2]; exact ⟨trivial, trivial⟩
    · simp only [ndOp, Nat.reduceEqDiff, if_true, if_false, nd_2, i1, i2, j1, j2]; exact ⟨trivial, trivial⟩
    · exact absurd rfl q1
    · simp only [ndOp, Nat.reduceEqDiff, if_true, if_false, nd_2, i1, i2, j1, j2]; exact ⟨trivial, trivial⟩
    · simp only [ndOp, Nat.reduceEqDiff, if_true, if_false, nd_2, i1, i2, j1, j2]; exact ⟨trivial, trivial⟩
    · simp only [ndOp, Nat.reduceEqDiff, if_true, if_false, nd_2, i1, i2, j1, j2]; exact ⟨trivial, trivial⟩
    · simp only [ndOp, Nat.reduceEqDiff, if_true, if_false, nd_2, i1, i2, j1, j2]; exact ⟨trivial, trivial⟩
/-- Both have f's names: whatever is asked of names. -/
def Nmd (P : ByteArray → Prop) (t : Tr) : Prop := t.All (fun x => x.op = 3 → P x.name)
theorem nmd0 {P : ByteArray → Prop} {o : Nat} (h : o ≠ 3) : Nmd P (nn0 o) := all0.2 (fun e => absurd e h)
theorem nmd1 {P : ByteArray → Prop} {o : Nat} {a : Tr} (h : o ≠ 3) : Nmd P (nn1 o a) ↔ Nmd P a := by
  unfold Nmd; rw [all1]; exact ⟨fun h => h.2, fun k => ⟨fun e => absurd e h, k⟩⟩
theorem nmd2 {P : ByteArray → Prop} {o : Nat} {a b : Tr} (h : o ≠ 3) : Nmd P (nn2 o a b) ↔ Nmd P a ∧ Nmd P b := by
  unfold Nmd; rw [all2]; exact ⟨fun h => h.2, fun k => ⟨fun e => absurd e h, k⟩⟩
theorem nd_names {P : ByteArray → Prop} (t : Tr) (hG : t.Good) : (Nmd P (nd t).1 ↔ Nmd P t) ∧ (Nmd P (nd t).2 ↔ Nmd P t) := by
  refine good_ind (p := fun t => (Nmd P (nd t).1 ↔ Nmd P t) ∧ (Nmd P (nd t).2 ↔ Nmd P t)) ?_ ?_ ?_ t hG
  · intro o s ho hf
    rw [nd_0]
    rcases ho with rfl | rfl | rfl
    · have h : Nmd P ⟨1, s, []⟩ := all0.2 (fun e => absurd (show (1 : Nat) = 3 from e) (by decide))
      exact ⟨iff_of_true (nmd0 (by decide)) h, iff_of_true (nmd0 (by decide)) h⟩
    · have h : Nmd P ⟨2, s, []⟩ := all0.2 (fun e => absurd (show (2 : Nat) = 3 from e) (by decide))
      exact ⟨iff_of_true (nmd0 (by decide)) h, iff_of_true (nmd0 (by decide)) h⟩
    · exact ⟨Iff.rfl, nmd1 (by decide)⟩
  · intro o a ho _ ih
    rw [nd_1]
    have z1 : Nmd P (nn0 1) := nmd0 (by decide)
    have z2 : Nmd P (nn0 2) := nmd0 (by decide)
    rcases ho with rfl | rfl | rfl | rfl <;> simp only [ndOp, Nat.reduceEqDiff, if_true, if_false, nmd1, nmd2, ne_eq, not_false_eq_true, ih.1, ih.2, z1, z2, true_and, and_self]
  · intro o a b ho _ _ ih jh
    rw [nd_2]
    rcases ho with rfl | rfl | rfl | rfl | rfl | rfl | rfl | rfl <;> simp only [ndOp, Nat.reduceEqDiff, if_true, if_false, nmd2, ne_eq, not_false_eq_true, ih.1, ih.2, jh.1, jh.2, and_self] <;> exact ⟨fun h => ⟨h.2.1, h.2.2⟩, fun h => ⟨h.2, h.1, h.2⟩⟩
end Go.Proofs.YtnpeghaficghaaaDoor
