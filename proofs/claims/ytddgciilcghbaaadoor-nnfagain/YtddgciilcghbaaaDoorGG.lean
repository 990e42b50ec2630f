/- What package nnf makes of a formula, as plain trees: N and D, S. What they mean, that they are forms. No walk here. -/
import Derived.Test.YtddgciilcghbaaaDoorEvSatM
import Derived.Test.YtddgciilcghbaaaDoorGE
namespace Go.Proofs.YtddgciilcghbaaaDoor
open Go.RowKit Go.Shelf

def nE : ByteArray := ⟨#[]⟩
def nn0 (o : Nat) : Tr := ⟨o, nE, []⟩
def nn1 (o : Nat) (a : Tr) : Tr := ⟨o, nE, [a]⟩
def nn2 (o : Nat) (a b : Tr) : Tr := ⟨o, nE, [a, b]⟩
def nk0 (a : Tr) : Tr := a.kids.getD 0 (nn0 0)
def nk1 (a : Tr) : Tr := a.kids.getD 1 (nn0 0)
/-- What comes of a formula, from its leaves up. -/
def foldT {α : Type} (leaf : Tr → α) (f : Nat → α → α → α) (d : α) : Tr → α := Tr.para (fun t rs => if t.kids.length = 0 then leaf t else f t.op (rs.getD 0 d) (rs.getD 1 d))
theorem foldT_eq {α : Type} (leaf : Tr → α) (f : Nat → α → α → α) (d : α) (t : Tr) : foldT leaf f d t = if t.kids.length = 0 then leaf t else f t.op ((t.kids.map (foldT leaf f d)).getD 0 d) ((t.kids.map (foldT leaf f d)).getD 1 d) := Tr.para_eq _ t
theorem foldT_0 {α : Type} (leaf : Tr → α) (f : Nat → α → α → α) (d : α) (o : Nat) (s : ByteArray) : foldT leaf f d ⟨o, s, []⟩ = leaf ⟨o, s, []⟩ := by rw [foldT_eq]; rfl
theorem foldT_1 {α : Type} (leaf : Tr → α) (f : Nat → α → α → α) (d : α) (o : Nat) (a : Tr) : foldT leaf f d (nn1 o a) = f o (foldT leaf f d a) d := by rw [foldT_eq]; rfl
theorem foldT_2 {α : Type} (leaf : Tr → α) (f : Nat → α → α → α) (d : α) (o : Nat) (a b : Tr) : foldT leaf f d (nn2 o a b) = f o (foldT leaf f d a) (foldT leaf f d b) := by rw [foldT_eq]; rfl

def Un (o : Nat) : Prop := o = 4 ∨ o = 9 ∨ o = 10 ∨ o = 11
def Bi (o : Nat) : Prop := o = 5 ∨ o = 6 ∨ o = 7 ∨ o = 8 ∨ o = 12 ∨ o = 13 ∨ o = 14 ∨ o = 15
def Lf (o : Nat) : Prop := o = 1 ∨ o = 2 ∨ o = 3
theorem all0 {q : Tr → Prop} {o : Nat} {s : ByteArray} : (⟨o, s, []⟩ : Tr).All q ↔ q ⟨o, s, []⟩ := by
  rw [Tr.all_eq]; exact ⟨fun h => h.1, fun h => ⟨h, fun k hk => by cases hk⟩⟩
theorem all1 {q : Tr → Prop} {o : Nat} {a : Tr} : (nn1 o a).All q ↔ q (nn1 o a) ∧ a.All q := by
  rw [Tr.all_eq]; refine and_congr_right fun _ => ⟨fun h => h a (by simp [nn1]), fun h k hk => ?_⟩
  rw [show k = a from by simpa [nn1] using hk]; exact h
theorem all2 {q : Tr → Prop} {o : Nat} {a b : Tr} : (nn2 o a b).All q ↔ q (nn2 o a b) ∧ a.All q ∧ b.All q := by
  rw [Tr.all_eq]; refine and_congr_right fun _ => ⟨fun h => ⟨h a (by simp [nn2]), h b (by simp [nn2])⟩, fun h k hk => ?_⟩
  rcases (by simpa [nn2] using hk : k = a ∨ k = b) with rfl | rfl
  · exact h.1
  · exact h.2
theorem nEmpty {s : ByteArray} (h : s.toList.isEmpty = true) : s = nE := WideShapes.bytes_inj (by rw [← ByteArray.toList_eq, List.isEmpty_iff.1 h]; rfl)
theorem formed_name {t : Tr} (h : formedB t = true) (h3 : t.op ≠ 3) : t.name = nE := by
  simp only [formedB, Bool.and_eq_true] at h
  have := h.2
  rw [if_neg h3] at this
  exact nEmpty this
theorem kidsN_one {o : Nat} (h2 : o ≤ 15) (h : kidsN o = 1) : Un o := by
  unfold Un
  rcases (by omega : o = 0 ∨ o = 1 ∨ o = 2 ∨ o = 3 ∨ o = 4 ∨ o = 5 ∨ o = 6 ∨ o = 7 ∨ o = 8 ∨ o = 9 ∨ o = 10 ∨ o = 11 ∨ o = 12 ∨ o = 13 ∨ o = 14 ∨ o = 15) with rfl | rfl | rfl | rfl | rfl | rfl | rfl | rfl | rfl | rfl | rfl | rfl | rfl | rfl | rfl | rfl <;> first | decide | exact absurd h (by decide)
theorem kidsN_two {o : Nat} (h2 : o ≤ 15) (h : kidsN o = 2) : Bi o := by
  unfold Bi
  rcases (by omega : o = 0 ∨ o = 1 ∨ o = 2 ∨ o = 3 ∨ o = 4 ∨ o = 5 ∨ o = 6 ∨ o = 7 ∨ o = 8 ∨ o = 9 ∨ o = 10 ∨ o = 11 ∨ o = 12 ∨ o = 13 ∨ o = 14 ∨ o = 15) with rfl | rfl | rfl | rfl | rfl | rfl | rfl | rfl | rfl | rfl | rfl | rfl | rfl | rfl | rfl | rfl <;> first | decide | exact absurd h (by decide)
theorem kidsN_most {o : Nat} (h2 : o ≤ 15) : kidsN o ≤ 2 := by
  rcases (by omega : o = 0 ∨ o = 1 ∨ o = 2 ∨ o = 3 ∨ o = 4 ∨ o = 5 ∨ o = 6 ∨ o = 7 ∨ o = 8 ∨ o = 9 ∨ o = 10 ∨ o = 11 ∨ o = 12 ∨ o = 13 ∨ o = 14 ∨ o = 15) with rfl | rfl | rfl | rfl | rfl | rfl | rfl | rfl | rfl | rfl | rfl | rfl | rfl | rfl | rfl | rfl <;> decide
/-- A formula whose parts all have a meaning, by its shape. -/
theorem good_ind {p : Tr → Prop} (leaf : ∀ o s, Lf o → formedB ⟨o, s, []⟩ = true → p ⟨o, s, []⟩) (one : ∀ o a, Un o → a.Good → p a → p (nn1 o a)) (two : ∀ o a b, Bi o → a.Good → b.Good → p a → p b → p (nn2 o a b)) (t : Tr) : t.Good → p t := by
  induction t using Tr.ind with
  | h t ih =>
    intro hG
    obtain ⟨⟨hf, ho⟩, hk⟩ := (Tr.all_eq t).1 hG
    obtain ⟨hl, h1⟩ := formed_kids hf
    have hm := kidsN_most ho
    obtain ⟨o, s, ks⟩ := t
    cases ks with
    | nil => exact leaf o s (kidsN_zero h1 ho hl.symm) hf
    | cons a r =>
      have ga : a.Good := hk a (by simp)
      have pa := ih a (by simp) ga
      cases r with
      | nil =>
        have hu := kidsN_one ho hl.symm
        have := formed_name hf (by show o ≠ 3; unfold Un at hu; simp only at hu; omega)
        simp only at this
        subst this
        exact one o a hu ga pa
      | cons b r =>
        cases r with
        | nil =>
          have hu := kidsN_two ho hl.symm
          have := formed_name hf (by show o ≠ 3; unfold Bi at hu; simp only at hu; omega)
          simp only at this
          subst this
          have gb : b.Good := hk b (by simp)
          exact two o a b hu ga gb pa (ih b (by simp) gb)
        | cons c r => simp only [List.length_cons] at hl; simp only at hm; omega
theorem formed_nn {o : Nat} {ks : List Tr} (h1 : 1 ≤ o) (h2 : o ≤ 21) (h3 : o ≠ 3) (h4 : ks.length = kidsN o) : formedB ⟨o, nE, ks⟩ = true := by
  simp only [formedB, Bool.and_eq_true, decide_eq_true_eq, beq_iff_eq]
  refine ⟨⟨⟨h1, h2⟩, h4⟩, ?_⟩
  rw [if_neg h3, ByteArray.toList_eq]; rfl
theorem good0 {o : Nat} (h : o = 1 ∨ o = 2) : (nn0 o).Good := all0.2 ⟨formed_nn (by omega) (by show o ≤ 21; omega) (by omega) (by rcases h with rfl | rfl <;> rfl), by show o ≤ 15; omega⟩
theorem good1 {o : Nat} {a : Tr} (h : Un o) : (nn1 o a).Good ↔ a.Good := by
  unfold Tr.Good
  rw [all1]
  refine ⟨fun h => h.2, fun k => ⟨⟨formed_nn (by unfold Un at h; omega) (by unfold Un at h; omega) (by unfold Un at h; omega) ?_, by unfold Un at h; show o ≤ 15; omega⟩, k⟩⟩
  rcases h with rfl | rfl | rfl | rfl <;> rfl
theorem good2 {o : Nat} {a b : Tr} (h : Bi o) : (nn2 o a b).Good ↔ a.Good ∧ b.Good := by
  unfold Tr.Good
  rw [all2]
  refine ⟨fun h => h.2, fun k => ⟨⟨formed_nn (by unfold Bi at h; omega) (by unfold Bi at h; omega) (by unfold Bi at h; omega) ?_, by unfold Bi at h; show o ≤ 15; omega⟩, k⟩⟩
  rcases h with rfl | rfl | rfl | rfl | rfl | rfl | rfl | rfl <;> rfl

/-- N and D of an operator, by those of its kids; of a leaf; of a formula. -/
def ndOp (o : Nat) (a b : Tr × Tr) : Tr × Tr :=
  if o = 4 then (a.2, a.1) else if o = 5 then (nn2 5 a.1 b.1, nn2 6 a.2 b.2) else if o = 6 then (nn2 6 a.1 b.1, nn2 5 a.2 b.2) else if o = 7 then (nn2 6 a.2 b.1, nn2 5 a.1 b.2)
  else if o = 8 then (nn2 6 (nn2 5 a.1 b.1) (nn2 5 a.2 b.2), nn2 6 (nn2 5 a.1 b.2) (nn2 5 a.2 b.1)) else if o = 9 then (nn1 9 a.1, nn1 9 a.2)
  else if o = 10 then (nn2 12 (nn0 1) a.1, nn2 13 (nn0 2) a.2) else if o = 11 then (nn2 13 (nn0 2) a.1, nn2 12 (nn0 1) a.2)
  else if o = 12 then (nn2 12 a.1 b.1, nn2 13 a.2 b.2) else if o = 13 then (nn2 13 a.1 b.1, nn2 12 a.2 b.2)
  else if o = 14 then (nn2 13 b.1 (nn2 6 a.1 b.1), nn2 12 b.2 (nn2 5 a.2 b.2)) else (nn2 12 b.1 (nn2 5 a.1 b.1), nn2 13 b.2 (nn2 6 a.2 b.2))
def ndLeaf (t : Tr) : Tr × Tr := if t.op = 1 then (nn0 1, nn0 2) else if t.op = 2 then (nn0 2, nn0 1) else (⟨3, t.name, []⟩, nn1 4 ⟨3, t.name, []⟩)
def nd : Tr → Tr × Tr := foldT ndLeaf ndOp (nn0 0, nn0 0)
theorem nd_0 (o : Nat) (s : ByteArray) : nd ⟨o, s, []⟩ = ndLeaf ⟨o, s, []⟩ := foldT_0 _ _ _ o s
theorem nd_1 (o : Nat) (a : Tr) : nd (nn1 o a) = ndOp o (nd a) (nn0 0, nn0 0) := foldT_1 _ _ _ o a
theorem nd_2 (o : Nat) (a b : Tr) : nd (nn2 o a b) = ndOp o (nd a) (nd b) := foldT_2 _ _ _ o a b
/-- Both are of a kind that is closed. -/
theorem nd_all {Q : Tr → Prop} (hc : ∀ o, o = 1 ∨ o = 2 → Q (nn0 o)) (h1 : ∀ o a, o = 9 → Q a → Q (nn1 o a)) (h2 : ∀ o a b, (o = 5 ∨ o = 6 ∨ o = 12 ∨ o = 13) → Q a → Q b → Q (nn2 o a b)) (t : Tr) (hp : t.All (fun x => x.op = 3 → Q ⟨3, x.name, []⟩ ∧ Q (nn1 4 ⟨3, x.name, []⟩))) (hG : t.Good) : Q (nd t).1 ∧ Q (nd t).2 := by
  revert hp
  refine good_ind (p := fun t => t.All (fun x => x.op = 3 → Q ⟨3, x.name, []⟩ ∧ Q (nn1 4 ⟨3, x.name, []⟩)) → Q (nd t).1 ∧ Q (nd t).2) ?_ ?_ ?_ t hG
  · intro o s ho _ hp
    rw [nd_0]
    rcases ho with rfl | rfl | rfl
    · exact ⟨hc 1 (by omega), hc 2 (by omega)⟩
    · exact ⟨hc 2 (by omega), hc 1 (by omega)⟩
    · exact all0.1 hp rfl
  · intro o a ho _ ih hp
    obtain ⟨i1, i2⟩ := ih (all1.1 hp).2
    rw [nd_1]
    rcases ho with rfl | rfl | rfl | rfl
    · exact ⟨i2, i1⟩
    · exact ⟨h1 _ _ rfl i1, h1 _ _ rfl i2⟩
    · exact ⟨h2 _ _ _ (by omega) (hc 1 (by omega)) i1, h2 _ _ _ (by omega) (hc 2 (by omega)) i2⟩
    · exact ⟨h2 _ _ _ (by omega) (hc 2 (by omega)) i1, h2 _ _ _ (by omega) (hc 1 (by omega)) i2⟩
  · intro o a b ho _ _ iha ihb hp
    obtain ⟨i1, i2⟩ := iha (all2.1 hp).2.1
    obtain ⟨j1, j2⟩ := ihb (all2.1 hp).2.2
    rw [nd_2]
    rcases ho with rfl | rfl | rfl | rfl | rfl | rfl | rfl | rfl <;> constructor <;> simp only [ndOp, Nat.reduceEqDiff, if_true, if_false] <;> repeat (first | assumption | refine h2 _ _ _ (by omega) ?_ ?_)
/-- ! at names alone; true, false, &, |, X, U, R. -/
def nnfQ (x : Tr) : Prop := x.op = 1 ∨ x.op = 2 ∨ x.op = 3 ∨ x.op = 5 ∨ x.op = 6 ∨ x.op = 9 ∨ x.op = 12 ∨ x.op = 13 ∨ (x.op = 4 ∧ (nk0 x).op = 3)
theorem all_true {q : Tr → Prop} (h : ∀ t, q t) (t : Tr) : t.All q := by
  induction t using Tr.ind with
  | h t ih => exact (Tr.all_eq t).2 ⟨h t, ih⟩
theorem nd_nnf (t : Tr) (hG : t.Good) : (nd t).1.All nnfQ ∧ (nd t).2.All nnfQ := by
  refine nd_all (Q := fun t => t.All nnfQ) ?_ ?_ ?_ t (all_true (fun x _ => ?_) t) hG
  · rintro o (rfl | rfl) <;> refine all0.2 ?_ <;> simp [nnfQ]
  · rintro o a rfl h; exact all1.2 ⟨by simp [nnfQ, nn1], h⟩
  · rintro o a b ho h k; exact all2.2 ⟨by unfold nnfQ; simp only [nn2]; omega, h, k⟩
  · refine ⟨all0.2 (by simp [nnfQ]), all1.2 ⟨by simp [nnfQ, nn1, nk0], all0.2 (by simp [nnfQ])⟩⟩
theorem nd_good (t : Tr) (hG : t.Good) : (nd t).1.Good ∧ (nd t).2.Good := by
  have hp : t.All (fun x => x.op = 3 → (⟨3, x.name, []⟩ : Tr).Good ∧ (nn1 4 ⟨3, x.name, []⟩).Good) := by
    refine good_ind (p := fun t => t.All (fun x => x.op = 3 → (⟨3, x.name, []⟩ : Tr).Good ∧ (nn1 4 ⟨3, x.name, []⟩).Good)) ?_ ?_ ?_ t hG
    · intro o s _ hf
      refine all0.2 (fun e => ?_)
      simp only at e
      subst e
      have : (⟨3, s, []⟩ : Tr).Good := all0.2 ⟨hf, by show 3 ≤ 15; decide⟩
      exact ⟨this, (good1 (by unfold Un; omega)).2 this⟩
    · intro o a ho _ ih; exact all1.2 ⟨fun e => by unfold Un at ho; simp only [nn1] at e; omega, ih⟩
    · intro o a b ho _ _ ih jh; exact all2.2 ⟨fun e => by unfold Bi at ho; simp only [nn2] at e; omega, ih, jh⟩
  exact nd_all (Q := Tr.Good) (fun o h => good0 h) (fun o a h k => (good1 (by unfold Un; omega)).2 k) (fun o a b h k l => (good2 (by unfold Bi; omega)).2 ⟨k, l⟩) t hp hG
/-- N of what is in the form. -/
theorem nd_again (t : Tr) (hG : t.Good) : t.All nnfQ → (nd t).1 = t := by
  refine good_ind (p := fun t => t.All nnfQ → (nd t).1 = t) ?_ ?_ ?_ t hG
  · intro o s ho hf _
    rw [nd_0]
    rcases ho with rfl | rfl | rfl
    · have := formed_name hf (by show (1 : Nat) ≠ 3; decide); simp only at this; subst this; rfl
    · have := formed_name hf (by show (2 : Nat) ≠ 3; decide); simp only at this; subst this; rfl
    · rfl
  · intro o a ho _ ih hq
    obtain ⟨q1, q2⟩ := all1.1 hq
    have i := ih q2
    rw [nd_1]
    rcases ho with rfl | rfl | rfl | rfl
    · have h3 : a.op = 3 := by simpa [nnfQ, nn1, nk0] using q1
      have h0 : a.kids = [] := by
        have ga : a.Good := by assumption
        have := ((Tr.all_eq a).1 ga).1.1
        have := (formed_kids this).1
        rw [h3] at this
        exact List.eq_nil_of_length_eq_zero this
      obtain ⟨o, s, ks⟩ := a
      simp only at h3 h0
      subst h3; subst h0
      rw [nd_0]; rfl
    · show nn1 9 _ = _; rw [i]
    · simp [nnfQ, nn1] at q1
    · simp [nnfQ, nn1] at q1
  · intro o a b ho _ _ ih jh hq
    obtain ⟨q1, q2, q3⟩ := all2.1 hq
    have i := ih q2
    have j := jh q3
    rw [nd_2]
    rcases ho with rfl | rfl | rfl | rfl | rfl | rfl | rfl | rfl
    · show nn2 5 _ _ = _; rw [i, j]
    · show nn2 6 _ _ = _; rw [i, j]
    · simp [nnfQ, nn2] at q1
    · simp [nnfQ, nn2] at q1
    · show nn2 12 _ _ = _; rw [i, j]
    · show nn2 13 _ _ = _; rw [i, j]
    · simp [nnfQ, nn2] at q1
    · simp [nnfQ, nn2] at q1
/-- D of D, where no <-> stands. -/
theorem nd_dual (t : Tr) (hG : t.Good) : t.All (fun x => x.op ≠ 8) → (nd (nd t).2).2 = (nd t).1 ∧ (nd (nd t).1).2 = (nd t).2 := by
  refine good_ind (p := fun t => t.All (fun x => x.op ≠ 8) → (nd (nd t).2).2 = (nd t).1 ∧ (nd (nd t).1).2 = (nd t).2) ?_ ?_ ?_ t hG
  · intro o s ho hf _
    rw [nd_0]
    rcases ho with rfl | rfl | rfl
    · exact ⟨by rw [show (ndLeaf ⟨1, s, []⟩).2 = ⟨2, nE, []⟩ from rfl, nd_0]; rfl, by rw [show (ndLeaf ⟨1, s, []⟩).1 = ⟨1, nE, []⟩ from rfl, nd_0]; rfl⟩
    · exact ⟨by rw [show (ndLeaf ⟨2, s, []⟩).2 = ⟨1, nE, []⟩ from rfl, nd_0]; rfl, by rw [show (ndLeaf ⟨2, s, []⟩).1 = ⟨2, nE, []⟩ from rfl, nd_0]; rfl⟩
    · exact ⟨by rw [show (ndLeaf ⟨3, s, []⟩).2 = nn1 4 ⟨3, s, []⟩ from rfl, nd_1, nd_0]; rfl, by rw [show (ndLeaf ⟨3, s, []⟩).1 = ⟨3, s, []⟩ from rfl, nd_0]⟩
  · intro o a ho _ ih hq
    obtain ⟨i1, i2⟩ := ih (all1.1 hq).2
    have y1 : nd (nn0 1) = (nn0 1, nn0 2) := nd_0 1 nE
    have y2 : nd (nn0 2) = (nn0 2, nn0 1) := nd_0 2 nE
    rw [nd_1]
    rcases ho with rfl | rfl | rfl | rfl
    · exact ⟨i2, i1⟩
    · simp only [ndOp, Nat.reduceEqDiff, if_true, if_false, nd_1, i1, i2]; exact ⟨trivial, trivial⟩
    · simp only [ndOp, Nat.reduceEqDiff, if_true, if_false, nd_2, i1, i2, y1, y2]; exact ⟨trivial, trivial⟩
    · simp only [ndOp, Nat.reduceEqDiff, if_true, if_false, nd_2, i1, i2, y1, y2]; exact ⟨trivial, trivial⟩
  · intro o a b ho _ _ ih jh hq
    obtain ⟨q1, q2, q3⟩ := all2.1 hq
    obtain ⟨i1, i2⟩ := ih q2
    obtain ⟨j1, j2⟩ := jh q3
    rw [nd_2]
    rcases ho with rfl | rfl | rfl | rfl | rfl | rfl | rfl | rfl
    · simp only [ndOp, Nat.reduceEqDiff, if_true, if_false, nd_2, i1, i2, j1, j2]; exact ⟨trivial, trivial⟩
    · simp only [ndOp, Nat.reduceEqDiff, if_true, if_false, nd_2, i1, i2, j1, j2]; exact ⟨trivial, trivial⟩
    · simp only [ndOp, Nat.reduceEqDiff, if_true, if_false, nd_2, i1, i2, j1, j2]; exact ⟨trivial, trivial⟩
    · exact absurd rfl q1
    · simp only [ndOp, Nat.reduceEqDiff, if_true, if_false, nd_2, i1, i2, j1, j2]; exact ⟨trivial, trivial⟩
    · simp only [ndOp, Nat.reduceEqDiff, if_true, if_false, nd_2, i1, i2, j1, j2]; exact ⟨trivial, trivial⟩
    · simp only [ndOp, Nat.reduceEqDiff, if_true, if_false, nd_2, i1, i2, j1, j2]; exact ⟨trivial, trivial⟩
    · simp only [ndOp, Nat.reduceEqDiff, if_true, if_false, nd_2, i1, i2, j1, j2]; exact ⟨trivial, trivial⟩
/-- Both have f's names: whatever is asked of names. -/
def Nmd (P : ByteArray → Prop) (t : Tr) : Prop := t.All (fun x => x.op = 3 → P x.name)
theorem nmd0 {P : ByteArray → Prop} {o : Nat} (h : o ≠ 3) : Nmd P (nn0 o) := all0.2 (fun e => absurd e h)
theorem nmd1 {P : ByteArray → Prop} {o : Nat} {a : Tr} (h : o ≠ 3) : Nmd P (nn1 o a) ↔ Nmd P a := by
  unfold Nmd; rw [all1]; exact ⟨fun h => h.2, fun k => ⟨fun e => absurd e h, k⟩⟩
theorem nmd2 {P : ByteArray → Prop} {o : Nat} {a b : Tr} (h : o ≠ 3) : Nmd P (nn2 o a b) ↔ Nmd P a ∧ Nmd P b := by
  unfold Nmd; rw [all2]; exact ⟨fun h => h.2, fun k => ⟨fun e => absurd e h, k⟩⟩
theorem nd_names {P : ByteArray → Prop} (t : Tr) (hG : t.Good) : (Nmd P (nd t).1 ↔ Nmd P t) ∧ (Nmd P (nd t).2 ↔ Nmd P t) := by
  refine good_ind (p := fun t => (Nmd P (nd t).1 ↔ Nmd P t) ∧ (Nmd P (nd t).2 ↔ Nmd P t)) ?_ ?_ ?_ t hG
  · intro o s ho hf
    rw [nd_0]
    rcases ho with rfl | rfl | rfl
    · have h : Nmd P ⟨1, s, []⟩ := all0.2 (fun e => absurd (show (1 : Nat) = 3 from e) (by decide))
      exact ⟨iff_of_true (nmd0 (by decide)) h, iff_of_true (nmd0 (by decide)) h⟩
    · have h : Nmd P ⟨2, s, []⟩ := all0.2 (fun e => absurd (show (2 : Nat) = 3 from e) (by decide))
      exact ⟨iff_of_true (nmd0 (by decide)) h, iff_of_true (nmd0 (by decide)) h⟩
    · exact ⟨Iff.rfl, nmd1 (by decide)⟩
  · intro o a ho _ ih
    rw [nd_1]
    have z1 : Nmd P (nn0 1) := nmd0 (by decide)
    have z2 : Nmd P (nn0 2) := nmd0 (by decide)
    rcases ho with rfl | rfl | rfl | rfl <;> simp only [ndOp, Nat.reduceEqDiff, if_true, if_false, nmd1, nmd2, ne_eq, not_false_eq_true, ih.1, ih.2, z1, z2, true_and, and_self]
  · intro o a b ho _ _ ih jh
    rw [nd_2]
    rcases ho with rfl | rfl | rfl | rfl | rfl | rfl | rfl | rfl <;> simp only [ndOp, Nat.reduceEqDiff, if_true, if_false, nmd2, ne_eq, not_false_eq_true, ih.1, ih.2, jh.1, jh.2, and_self] <;> exact ⟨fun h => ⟨h.2.1, h.2.2⟩, fun h => ⟨h.2, h.1, h.2⟩⟩
end Go.Proofs.YtddgciilcghbaaaDoor

/- S of a formula, as plain trees; what N, D and S mean; that S is a form, no greater. No walk here. -/
namespace Go.Proofs.YtddgciilcghbaaaDoor
open Go.RowKit Go.Shelf

def sameT (a b : Tr) : Bool := cmpT a b == 0
theorem sameT_iff {a b : Tr} : sameT a b = true ↔ a = b := by
  unfold sameT
  rw [beq_iff_eq]
  exact ⟨cmpT_zero a b, fun e => by rw [e]; exact preT.self b⟩
def turnO (o : Nat) : Nat := if o = 1 then 2 else if o = 2 then 1 else if o = 5 then 6 else if o = 6 then 5 else if o = 10 then 11 else if o = 11 then 10 else 0
def cstB (a : Tr) : Bool := a.op == 1 || a.op == 2
def denyB (a b : Tr) : Bool := (a.op == 4 && sameT (nk0 a) b) || (b.op == 4 && sameT (nk0 b) a)
def hasB (f : Tr) (o : Nat) (k : Tr) : Bool := f.op == o && (sameT (nk0 f) k || sameT (nk1 f) k)
def sNot (a : Tr) : Tr := if cstB a then nn0 (turnO a.op) else if a.op = 4 then nk0 a else nn1 4 a
def sOrd (o : Nat) (a b : Tr) : Tr := if cmpT b a < 0 then nn2 o b a else nn2 o a b
def sJun (o l : Nat) (a b : Tr) : Tr :=
  if a.op = l ∨ b.op = l then nn0 l else if a.op = turnO l then b else if b.op = turnO l then a else if sameT a b then a else if denyB a b then nn0 l
  else if hasB a (turnO o) b then b else if hasB b (turnO o) a then a else sOrd o a b
def sImp (a b : Tr) : Tr := if a.op = 2 ∨ b.op = 1 then nn0 1 else if a.op = 1 then b else if b.op = 2 then sNot a else if sameT a b then nn0 1 else nn2 7 a b
def sEqu (a b : Tr) : Tr := if a.op = 1 then b else if b.op = 1 then a else if a.op = 2 then sNot b else if b.op = 2 then sNot a else if sameT a b then nn0 1 else sOrd 8 a b
def sNext (a : Tr) : Tr := if cstB a then a else nn1 9 a
def lastB (o : Nat) (a : Tr) : Bool := cstB a || a.op == o || (a.op == turnO o && (nk0 a).op == o)
def sLast (o : Nat) (a : Tr) : Tr := if lastB o a then a else nn1 o a
def sUnt (o f s : Nat) (a b : Tr) : Tr := if cstB b then b else if a.op = f then sLast s b else if a.op = turnO f then b else if sameT a b then a else if b.op = s then b else nn2 o a b
def sWeak (o c s : Nat) (a b : Tr) : Tr := if a.op = c ∨ b.op = c then nn0 c else if a.op = turnO c then b else if b.op = turnO c then sLast s a else if sameT a b then a else nn2 o a b
def sOp (o : Nat) (a b : Tr) : Tr :=
  if o = 4 then sNot a else if o = 5 then sJun 5 2 a b else if o = 6 then sJun 6 1 a b else if o = 7 then sImp a b else if o = 8 then sEqu a b else if o = 9 then sNext a
  else if o = 10 then sLast 10 a else if o = 11 then sLast 11 a else if o = 12 then sUnt 12 1 10 a b else if o = 13 then sUnt 13 2 11 a b else if o = 14 then sWeak 14 1 11 a b else sWeak 15 2 10 a b
def leafS (t : Tr) : Tr := ⟨t.op, t.name, []⟩
def simpT : Tr → Tr := foldT leafS sOp (nn0 0)
theorem simpT_0 (o : Nat) (s : ByteArray) : simpT ⟨o, s, []⟩ = ⟨o, s, []⟩ := foldT_0 _ _ _ o s
theorem simpT_1 (o : Nat) (a : Tr) : simpT (nn1 o a) = sOp o (simpT a) (nn0 0) := foldT_1 _ _ _ o a
theorem simpT_2 (o : Nat) (a b : Tr) : simpT (nn2 o a b) = sOp o (simpT a) (simpT b) := foldT_2 _ _ _ o a b

/-- A kind that is closed: S leads from it into it. -/
structure Clo (Q : Tr → Prop) : Prop where
  c : ∀ o, o = 1 ∨ o = 2 → Q (nn0 o)
  k : ∀ a, a.op = 4 → Q a → Q (nk0 a)
  h1 : ∀ o a, Un o → Q a → Q (nn1 o a)
  h2 : ∀ o a b, Bi o → Q a → Q b → Q (nn2 o a b)
theorem Clo.no {Q : Tr → Prop} (C : Clo Q) {a : Tr} (h : Q a) : Q (sNot a) := by
  unfold sNot
  split
  · rename_i hc
    simp only [cstB, Bool.or_eq_true, beq_iff_eq] at hc
    refine C.c _ ?_
    rcases hc with e | e <;> rw [e]
    · exact .inr rfl
    · exact .inl rfl
  · split
    · exact C.k a ‹_› h
    · exact C.h1 4 a (by unfold Un; omega) h
theorem Clo.la {Q : Tr → Prop} (C : Clo Q) {o : Nat} {a : Tr} (ho : o = 10 ∨ o = 11) (h : Q a) : Q (sLast o a) := by
  unfold sLast; split
  · exact h
  · exact C.h1 o a (by unfold Un; omega) h
theorem Clo.ord {Q : Tr → Prop} (C : Clo Q) {o : Nat} {a b : Tr} (ho : Bi o) (h : Q a) (k : Q b) : Q (sOrd o a b) := by
  unfold sOrd; split
  · exact C.h2 o b a ho k h
  · exact C.h2 o a b ho h k
theorem Clo.un {Q : Tr → Prop} (C : Clo Q) {o : Nat} {a b : Tr} (ho : Un o) (h : Q a) : Q (sOp o a b) := by
  rcases ho with rfl | rfl | rfl | rfl
  · exact C.no h
  · show Q (sNext a); unfold sNext; split
    · exact h
    · exact C.h1 9 a (by unfold Un; omega) h
  · exact C.la (o := 10) (.inl rfl) h
  · exact C.la (o := 11) (.inr rfl) h
theorem Clo.bi {Q : Tr → Prop} (C : Clo Q) {o : Nat} {a b : Tr} (ho : Bi o) (h : Q a) (k : Q b) : Q (sOp o a b) := by
  have hB : ∀ o, o = 5 ∨ o = 6 ∨ o = 7 ∨ o = 8 ∨ o = 12 ∨ o = 13 ∨ o = 14 ∨ o = 15 → Bi o := fun o h => h
  rcases ho with rfl | rfl | rfl | rfl | rfl | rfl | rfl | rfl
  · show Q (sJun 5 2 a b); unfold sJun; repeat' split
    all_goals (first | assumption | exact C.c _ (by omega) | exact C.ord (hB _ (by omega)) h k)
  · show Q (sJun 6 1 a b); unfold sJun; repeat' split
    all_goals (first | assumption | exact C.c _ (by omega) | exact C.ord (hB _ (by omega)) h k)
  · show Q (sImp a b); unfold sImp; repeat' split
    all_goals (first | assumption | exact C.c _ (by omega) | exact C.no h | exact C.h2 _ _ _ (hB _ (by omega)) h k)
  · show Q (sEqu a b); unfold sEqu; repeat' split
    all_goals (first | assumption | exact C.c _ (by omega) | exact C.no h | exact C.no k | exact C.ord (hB _ (by omega)) h k)
  · show Q (sUnt 12 1 10 a b); unfold sUnt; repeat' split
    all_goals (first | assumption | exact C.la (by omega) k | exact C.h2 _ _ _ (hB _ (by omega)) h k)
  · show Q (sUnt 13 2 11 a b); unfold sUnt; repeat' split
    all_goals (first | assumption | exact C.la (by omega) k | exact C.h2 _ _ _ (hB _ (by omega)) h k)
  · show Q (sWeak 14 1 11 a b); unfold sWeak; repeat' split
    all_goals (first | assumption | exact C.c _ (by omega) | exact C.la (by omega) h | exact C.h2 _ _ _ (hB _ (by omega)) h k)
  · show Q (sWeak 15 2 10 a b); unfold sWeak; repeat' split
    all_goals (first | assumption | exact C.c _ (by omega) | exact C.la (by omega) h | exact C.h2 _ _ _ (hB _ (by omega)) h k)
theorem good_k {a : Tr} (h4 : a.op = 4) (h : a.Good) : ∃ x, a = nn1 4 x ∧ x.Good := by
  refine good_ind (p := fun a => a.op = 4 → ∃ x, a = nn1 4 x ∧ x.Good) ?_ ?_ ?_ a h h4
  · intro o s ho _ e; unfold Lf at ho; simp only at e; omega
  · intro o x ho hx _ e; simp only [nn1] at e; subst e; exact ⟨x, rfl, hx⟩
  · intro o x y ho _ _ _ _ e; unfold Bi at ho; simp only [nn2] at e; omega
theorem good_b {a : Tr} (h4 : Bi a.op) (h : a.Good) : ∃ x y, a = nn2 a.op x y ∧ x.Good ∧ y.Good := by
  refine good_ind (p := fun a => Bi a.op → ∃ x y, a = nn2 a.op x y ∧ x.Good ∧ y.Good) ?_ ?_ ?_ a h h4
  · intro o s ho _ e; unfold Lf at ho; unfold Bi at e; simp only at e; omega
  · intro o x ho hx _ e; unfold Un at ho; unfold Bi at e; simp only [nn1] at e; omega
  · intro o x y ho hx hy _ _ e; exact ⟨x, y, rfl, hx, hy⟩
theorem good_u {a : Tr} (h4 : Un a.op) (h : a.Good) : ∃ x, a = nn1 a.op x ∧ x.Good := by
  refine good_ind (p := fun a => Un a.op → ∃ x, a = nn1 a.op x ∧ x.Good) ?_ ?_ ?_ a h h4
  · intro o s ho _ e; unfold Lf at ho; unfold Un at e; simp only at e; omega
  · intro o x ho hx _ e; exact ⟨x, rfl, hx⟩
  · intro o x y ho _ _ _ _ e; unfold Bi at ho; unfold Un at e; simp only [nn2] at e; omega
theorem good_c {a : Tr} (h4 : a.op = 1 ∨ a.op = 2) (h : a.Good) : a = nn0 a.op := by
  refine good_ind (p := fun a => (a.op = 1 ∨ a.op = 2) → a = nn0 a.op) ?_ ?_ ?_ a h h4
  · intro o s ho hf e
    have := formed_name hf (by simp only at e ⊢; omega)
    simp only at this; subst this; rfl
  · intro o x ho hx _ e; unfold Un at ho; simp only [nn1] at e; omega
  · intro o x y ho _ _ _ _ e; unfold Bi at ho; simp only [nn2] at e; omega
theorem clo_good : Clo Tr.Good where
  c o h := good0 h
  k a h4 h := by obtain ⟨x, rfl, hx⟩ := good_k h4 h; exact hx
  h1 o a ho h := (good1 ho).2 h
  h2 o a b ho h k := (good2 ho).2 ⟨h, k⟩
theorem clo_names (P : ByteArray → Prop) : Clo (fun t => t.Good ∧ Nmd P t) where
  c o h := ⟨good0 h, nmd0 (by omega)⟩
  k a h4 h := by obtain ⟨x, rfl, hx⟩ := good_k h4 h.1; exact ⟨hx, (nmd1 (by decide)).1 h.2⟩
  h1 o a ho h := ⟨(good1 ho).2 h.1, (nmd1 (by unfold Un at ho; omega)).2 h.2⟩
  h2 o a b ho h k := ⟨(good2 ho).2 ⟨h.1, k.1⟩, (nmd2 (by unfold Bi at ho; omega)).2 ⟨h.2, k.2⟩⟩
theorem simp_names {P : ByteArray → Prop} (t : Tr) (hG : t.Good) : Nmd P t → (simpT t).Good ∧ Nmd P (simpT t) := by
  refine good_ind (p := fun t => Nmd P t → (simpT t).Good ∧ Nmd P (simpT t)) ?_ ?_ ?_ t hG
  · intro o s ho hf h
    rw [simpT_0]
    exact ⟨all0.2 ⟨hf, by unfold Lf at ho; show o ≤ 15; omega⟩, h⟩
  · intro o a ho _ ih h
    rw [simpT_1]
    exact (clo_names P).un ho (ih ((nmd1 (by unfold Un at ho; omega)).1 h))
  · intro o a b ho _ _ ih jh h
    rw [simpT_2]
    obtain ⟨h1, h2⟩ := (nmd2 (by unfold Bi at ho; omega)).1 h
    exact (clo_names P).bi ho (ih h1) (jh h2)
theorem simp_good (t : Tr) (hG : t.Good) : (simpT t).Good := (simp_names (P := fun _ => True) t hG (all_true (fun _ _ => trivial) t)).1
theorem sz0 (o : Nat) (s : ByteArray) : (⟨o, s, []⟩ : Tr).size = 1 ∧ (⟨o, s, []⟩ : Tr).depth = 1 := by rw [Tr.size_eq, Tr.depth_eq]; exact ⟨rfl, rfl⟩
theorem sz1 (o : Nat) (a : Tr) : (nn1 o a).size = 1 + a.size ∧ (nn1 o a).depth = 1 + a.depth := by rw [Tr.size_eq, Tr.depth_eq]; simp [nn1]
theorem sz2 (o : Nat) (a b : Tr) : (nn2 o a b).size = 1 + (a.size + b.size) ∧ (nn2 o a b).depth = 1 + max a.depth b.depth := by rw [Tr.size_eq, Tr.depth_eq]; simp [nn2]
theorem depth_pos (t : Tr) : 1 ≤ t.depth := by rw [Tr.depth_eq]; omega
theorem no_less {a : Tr} (h : a.Good) : (sNot a).size ≤ 1 + a.size ∧ (sNot a).depth ≤ 1 + a.depth := by
  unfold sNot
  repeat' split
  · have := sz0 (turnO a.op) nE; simp only [nn0]; omega
  · obtain ⟨x, rfl, _⟩ := good_k ‹_› h
    have := sz1 4 x
    show x.size ≤ _ ∧ x.depth ≤ _
    omega
  · have := sz1 4 a; omega
theorem la_less (o : Nat) (a : Tr) : (sLast o a).size ≤ 1 + a.size ∧ (sLast o a).depth ≤ 1 + a.depth := by
  unfold sLast
  split
  · omega
  · have := sz1 o a; omega
theorem ord_less (o : Nat) (a b : Tr) : (sOrd o a b).size ≤ 1 + (a.size + b.size) ∧ (sOrd o a b).depth ≤ 1 + max a.depth b.depth := by
  unfold sOrd
  split
  · have := sz2 o b a; omega
  · have := sz2 o a b; omega
theorem un_less {o : Nat} {a : Tr} (b : Tr) (ho : Un o) (h : a.Good) : (sOp o a b).size ≤ 1 + a.size ∧ (sOp o a b).depth ≤ 1 + a.depth := by
  rcases ho with rfl | rfl | rfl | rfl
  · exact no_less h
  · show (sNext a).size ≤ _ ∧ (sNext a).depth ≤ _; unfold sNext; split
    · omega
    · have := sz1 9 a; omega
  · exact la_less 10 a
  · exact la_less 11 a
theorem bi_less {o : Nat} {a b : Tr} (ho : Bi o) (h : a.Good) (k : b.Good) : (sOp o a b).size ≤ 1 + (a.size + b.size) ∧ (sOp o a b).depth ≤ 1 + max a.depth b.depth := by
  have z0 : ∀ l, (nn0 l).size ≤ 1 + (a.size + b.size) ∧ (nn0 l).depth ≤ 1 + max a.depth b.depth := fun l => by have := sz0 l nE; simp only [nn0]; omega
  have za : a.size ≤ 1 + (a.size + b.size) ∧ a.depth ≤ 1 + max a.depth b.depth := by omega
  have zb : b.size ≤ 1 + (a.size + b.size) ∧ b.depth ≤ 1 + max a.depth b.depth := by omega
  have na := no_less h
  have nb := no_less k
  have zna : (sNot a).size ≤ 1 + (a.size + b.size) ∧ (sNot a).depth ≤ 1 + max a.depth b.depth := by omega
  have znb : (sNot b).size ≤ 1 + (a.size + b.size) ∧ (sNot b).depth ≤ 1 + max a.depth b.depth := by omega
  have zla : ∀ o, (sLast o a).size ≤ 1 + (a.size + b.size) ∧ (sLast o a).depth ≤ 1 + max a.depth b.depth := fun o => by have := la_less o a; omega
  have zlb : ∀ o, (sLast o b).size ≤ 1 + (a.size + b.size) ∧ (sLast o b).depth ≤ 1 + max a.depth b.depth := fun o => by have := la_less o b; omega
  have z2 : ∀ o, (nn2 o a b).size ≤ 1 + (a.size + b.size) ∧ (nn2 o a b).depth ≤ 1 + max a.depth b.depth := fun o => by have := sz2 o a b; omega
  rcases ho with rfl | rfl | rfl | rfl | rfl | rfl | rfl | rfl
  · show (sJun 5 2 a b).size ≤ _ ∧ (sJun 5 2 a b).depth ≤ _; unfold sJun; repeat' split
    all_goals (first | exact za | exact zb | exact z0 _ | exact ord_less _ a b)
  · show (sJun 6 1 a b).size ≤ _ ∧ (sJun 6 1 a b).depth ≤ _; unfold sJun; repeat' split
    all_goals (first | exact za | exact zb | exact z0 _ | exact ord_less _ a b)
  · show (sImp a b).size ≤ _ ∧ (sImp a b).depth ≤ _; unfold sImp; repeat' split
    all_goals (first | exact za | exact zb | exact z0 _ | exact zna | exact z2 _)
  · show (sEqu a b).size ≤ _ ∧ (sEqu a b).depth ≤ _; unfold sEqu; repeat' split
    all_goals (first | exact za | exact zb | exact z0 _ | exact zna | exact znb | exact ord_less _ a b)
  · show (sUnt 12 1 10 a b).size ≤ _ ∧ (sUnt 12 1 10 a b).depth ≤ _; unfold sUnt; repeat' split
    all_goals (first | exact za | exact zb | exact zlb _ | exact z2 _)
  · show (sUnt 13 2 11 a b).size ≤ _ ∧ (sUnt 13 2 11 a b).depth ≤ _; unfold sUnt; repeat' split
    all_goals (first | exact za | exact zb | exact zlb _ | exact z2 _)
  · show (sWeak 14 1 11 a b).size ≤ _ ∧ (sWeak 14 1 11 a b).depth ≤ _; unfold sWeak; repeat' split
    all_goals (first | exact za | exact zb | exact z0 _ | exact zla _ | exact z2 _)
  · show (sWeak 15 2 10 a b).size ≤ _ ∧ (sWeak 15 2 10 a b).depth ≤ _; unfold sWeak; repeat' split
    all_goals (first | exact za | exact zb | exact z0 _ | exact zla _ | exact z2 _)
/-- S is no greater, no deeper. -/
theorem simp_less (t : Tr) (hG : t.Good) : (simpT t).size ≤ t.size ∧ (simpT t).depth ≤ t.depth := by
  refine good_ind (p := fun t => (simpT t).size ≤ t.size ∧ (simpT t).depth ≤ t.depth) ?_ ?_ ?_ t hG
  · intro o s _ _; rw [simpT_0]; omega
  · intro o a ho ha ih
    rw [simpT_1]
    have := un_less (nn0 0) ho (simp_good a ha)
    have := sz1 o a
    omega
  · intro o a b ho ha hb ih jh
    rw [simpT_2]
    have := bi_less ho (simp_good a ha) (simp_good b hb)
    have := sz2 o a b
    omega
/-- What S leaves as it is. -/
def smQ (x : Tr) : Prop := x.kids.length = 0 ∨ sOp x.op (nk0 x) (nk1 x) = x
theorem sm1 {o : Nat} {a : Tr} (h : a.All smQ) (e : sOp o a (nn0 0) = nn1 o a) : (nn1 o a).All smQ := all1.2 ⟨.inr e, h⟩
theorem sm2 {o : Nat} {a b : Tr} (h : a.All smQ) (k : b.All smQ) (e : sOp o a b = nn2 o a b) : (nn2 o a b).All smQ := all2.2 ⟨.inr e, h, k⟩
theorem sm_id (t : Tr) (hG : t.Good) : t.All smQ → simpT t = t := by
  refine good_ind (p := fun t => t.All smQ → simpT t = t) ?_ ?_ ?_ t hG
  · intro o s _ _ _; exact simpT_0 o s
  · intro o a ho _ ih h
    obtain ⟨q, h⟩ := all1.1 h
    rw [simpT_1, ih h]
    exact q.resolve_left (by simp [nn1])
  · intro o a b ho _ _ ih jh h
    obtain ⟨q, h, k⟩ := all2.1 h
    rw [simpT_2, ih h, jh k]
    exact q.resolve_left (by simp [nn2])
theorem sm_c (o : Nat) : (nn0 o).All smQ := all0.2 (.inl rfl)
theorem sm_no {a : Tr} (hG : a.Good) (h : a.All smQ) : (sNot a).All smQ := by
  by_cases e : sNot a = nn1 4 a
  · rw [e]; exact sm1 h e
  · unfold sNot at e ⊢
    split
    · exact sm_c _
    · rename_i hc
      split
      · obtain ⟨x, rfl, _⟩ := good_k ‹_› hG
        exact (all1.1 h).2
      · rename_i h4; rw [if_neg hc, if_neg h4] at e; exact absurd rfl e
theorem sm_la {o : Nat} {a : Tr} (ho : o = 10 ∨ o = 11) (h : a.All smQ) : (sLast o a).All smQ := by
  by_cases e : sLast o a = nn1 o a
  · rw [e]; refine sm1 h ?_; rcases ho with rfl | rfl <;> exact e
  · unfold sLast at e ⊢
    split
    · exact h
    · rename_i hl; rw [if_neg hl] at e; exact absurd rfl e
theorem sm_un {o : Nat} {a b : Tr} (ho : Un o) (hG : a.Good) (h : a.All smQ) : (sOp o a b).All smQ := by
  rcases ho with rfl | rfl | rfl | rfl
  · exact sm_no hG h
  · by_cases e : sNext a = nn1 9 a
    · show (sNext a).All smQ; rw [e]; exact sm1 h e
    · show (sNext a).All smQ
      unfold sNext at e ⊢
      split
      · exact h
      · rename_i hc; rw [if_neg hc] at e; exact absurd rfl e
  · exact sm_la (o := 10) (.inl rfl) h
  · exact sm_la (o := 11) (.inr rfl) h
theorem deny_swap (a b : Tr) : denyB b a = denyB a b := by unfold denyB; exact Bool.or_comm _ _
theorem same_swap {a b : Tr} (h : sameT a b = false) : sameT b a = false := by
  cases e : sameT b a with
  | false => rfl
  | true => rw [sameT_iff] at e; subst e; rw [sameT_iff.2 rfl] at h; cases h
theorem cmp_flip {a b : Tr} (h : cmpT b a < 0) : ¬ cmpT a b < 0 := by
  intro k
  have := (preT.flip a b).1 k
  omega
theorem sJun_swap {o l : Nat} {a b : Tr} (h : cmpT b a < 0) (d : ¬ (a.op = l ∨ b.op = l) ∧ ¬ a.op = turnO l ∧ ¬ b.op = turnO l ∧ ¬ sameT a b = true ∧ ¬ denyB a b = true ∧ ¬ hasB a (turnO o) b = true ∧ ¬ hasB b (turnO o) a = true) : sJun o l b a = nn2 o b a := by
  obtain ⟨d1, d2, d3, d4, d5, d6, d7⟩ := d
  unfold sJun
  rw [if_neg (fun h => d1 h.symm), if_neg d3, if_neg d2, if_neg (by rw [same_swap (by simpa using d4)]; simp), if_neg (by rw [deny_swap]; exact d5), if_neg d7, if_neg d6]
  unfold sOrd
  rw [if_neg (cmp_flip h)]
theorem sm_jun {o l : Nat} {a b : Tr} (ho : ∀ x y, sOp o x y = sJun o l x y) (h : a.All smQ) (k : b.All smQ) : (sJun o l a b).All smQ := by
  by_cases d : ¬ (a.op = l ∨ b.op = l) ∧ ¬ a.op = turnO l ∧ ¬ b.op = turnO l ∧ ¬ sameT a b = true ∧ ¬ denyB a b = true ∧ ¬ hasB a (turnO o) b = true ∧ ¬ hasB b (turnO o) a = true
  · have e : sJun o l a b = sOrd o a b := by
      obtain ⟨d1, d2, d3, d4, d5, d6, d7⟩ := d
      unfold sJun; rw [if_neg d1, if_neg d2, if_neg d3, if_neg d4, if_neg d5, if_neg d6, if_neg d7]
    by_cases hc : cmpT b a < 0
    · have e2 : sOrd o a b = nn2 o b a := by unfold sOrd; rw [if_pos hc]
      rw [e, e2]
      exact sm2 k h (by rw [ho]; exact sJun_swap hc d)
    · have e2 : sOrd o a b = nn2 o a b := by unfold sOrd; rw [if_neg hc]
      rw [e, e2]
      exact sm2 h k (by rw [ho, e, e2])
  · unfold sJun
    repeat' split
    all_goals (first | exact sm_c _ | assumption | exact absurd ⟨‹_›, ‹_›, ‹_›, ‹_›, ‹_›, ‹_›, ‹_›⟩ d)
theorem sm_bi {o : Nat} {a b : Tr} (ho : Bi o) (ga : a.Good) (gb : b.Good) (h : a.All smQ) (k : b.All smQ) : (sOp o a b).All smQ := by
  rcases ho with rfl | rfl | rfl | rfl | rfl | rfl | rfl | rfl
  · exact sm_jun (o := 5) (l := 2) (fun _ _ => rfl) h k
  · exact sm_jun (o := 6) (l := 1) (fun _ _ => rfl) h k
  · by_cases e : sImp a b = nn2 7 a b
    · show (sImp a b).All smQ; rw [e]; exact sm2 h k e
    · show (sImp a b).All smQ
      unfold sImp at e ⊢
      repeat' split
      all_goals (first | exact sm_c _ | assumption | exact sm_no ga h | skip)
      rename_i h1 h2 h3 h4
      rw [if_neg h1, if_neg h2, if_neg h3, if_neg h4] at e; exact absurd rfl e
  · show (sEqu a b).All smQ
    by_cases d : ¬ a.op = 1 ∧ ¬ b.op = 1 ∧ ¬ a.op = 2 ∧ ¬ b.op = 2 ∧ ¬ sameT a b = true
    · obtain ⟨d1, d2, d3, d4, d5⟩ := d
      have e : sEqu a b = sOrd 8 a b := by unfold sEqu; rw [if_neg d1, if_neg d2, if_neg d3, if_neg d4, if_neg d5]
      have e' : sEqu b a = sOrd 8 b a := by unfold sEqu; rw [if_neg d2, if_neg d1, if_neg d4, if_neg d3, if_neg (by rw [same_swap (by simpa using d5)]; simp)]
      by_cases hc : cmpT b a < 0
      · have e2 : sOrd 8 a b = nn2 8 b a := by unfold sOrd; rw [if_pos hc]
        rw [e, e2]
        refine sm2 k h ?_
        show sEqu b a = _
        rw [e']; unfold sOrd; rw [if_neg (cmp_flip hc)]
      · have e2 : sOrd 8 a b = nn2 8 a b := by unfold sOrd; rw [if_neg hc]
        rw [e, e2]
        refine sm2 h k ?_
        show sEqu a b = _
        rw [e, e2]
    · unfold sEqu
      repeat' split
      all_goals (first | exact sm_c _ | assumption | exact sm_no ga h | exact sm_no gb k | exact absurd ⟨‹_›, ‹_›, ‹_›, ‹_›, ‹_›⟩ d)
  · by_cases e : sUnt 12 1 10 a b = nn2 12 a b
    · show (sUnt 12 1 10 a b).All smQ; rw [e]; exact sm2 h k e
    · show (sUnt 12 1 10 a b).All smQ
      unfold sUnt at e ⊢
      repeat' split
      all_goals (first | assumption | exact sm_la (by omega) k | skip)
      rename_i h1 h2 h3 h4 h5
      rw [if_neg h1, if_neg h2, if_neg h3, if_neg h4, if_neg h5] at e; exact absurd rfl e
  · by_cases e : sUnt 13 2 11 a b = nn2 13 a b
    · show (sUnt 13 2 11 a b).All smQ; rw [e]; exact sm2 h k e
    · show (sUnt 13 2 11 a b).All smQ
      unfold sUnt at e ⊢
      repeat' split
      all_goals (first | assumption | exact sm_la (by omega) k | skip)
      rename_i h1 h2 h3 h4 h5
      rw [if_neg h1, if_neg h2, if_neg h3, if_neg h4, if_neg h5] at e; exact absurd rfl e
  · by_cases e : sWeak 14 1 11 a b = nn2 14 a b
    · show (sWeak 14 1 11 a b).All smQ; rw [e]; exact sm2 h k e
    · show (sWeak 14 1 11 a b).All smQ
      unfold sWeak at e ⊢
      repeat' split
      all_goals (first | exact sm_c _ | assumption | exact sm_la (by omega) h | skip)
      rename_i h1 h2 h3 h4
      rw [if_neg h1, if_neg h2, if_neg h3, if_neg h4] at e; exact absurd rfl e
  · by_cases e : sWeak 15 2 10 a b = nn2 15 a b
    · show (sWeak 15 2 10 a b).All smQ; rw [e]; exact sm2 h k e
    · show (sWeak 15 2 10 a b).All smQ
      unfold sWeak at e ⊢
      repeat' split
      all_goals (first | exact sm_c _ | assumption | exact sm_la (by omega) h | skip)
      rename_i h1 h2 h3 h4
      rw [if_neg h1, if_neg h2, if_neg h3, if_neg h4] at e; exact absurd rfl e
/-- S of S is it. -/
theorem simp_again (t : Tr) (hG : t.Good) : simpT (simpT t) = simpT t := by
  refine sm_id _ (simp_good t hG) ?_
  refine good_ind (p := fun t => (simpT t).All smQ) ?_ ?_ ?_ t hG
  · intro o s _ _; rw [simpT_0]; exact all0.2 (.inl rfl)
  · intro o a ho ha ih; rw [simpT_1]; exact sm_un ho (simp_good a ha) ih
  · intro o a b ho ha hb ih jh; rw [simpT_2]; exact sm_bi ho (simp_good a ha) (simp_good b hb) ih jh
end Go.Proofs.YtddgciilcghbaaaDoor

/- What N, D and S mean: N and S the same as the formula, D the contrary. No walk here. -/
namespace Go.Proofs.YtddgciilcghbaaaDoor
open Go.RowKit Go.Shelf

section
variable (σ : Nat → Nat) (xs : List ByteArray)
theorem mean0 (o : Nat) : sat σ xs (nn0 o) = satOp σ xs o nE (fun _ => False) (fun _ => False) := sat_eq σ xs _
theorem mean1' (o : Nat) (a : Tr) : sat σ xs (nn1 o a) = satOp σ xs o nE (sat σ xs a) (sat σ xs a) := sat_eq σ xs _
theorem mean2' (o : Nat) (a b : Tr) : sat σ xs (nn2 o a b) = satOp σ xs o nE (sat σ xs a) (sat σ xs b) := sat_eq σ xs _
theorem so1 (s : ByteArray) (a b : Nat → Prop) (j : Nat) : satOp σ xs 1 s a b j ↔ True := Iff.rfl
theorem so2 (s : ByteArray) (a b : Nat → Prop) (j : Nat) : satOp σ xs 2 s a b j ↔ False := Iff.rfl
theorem so4 (s : ByteArray) (a b : Nat → Prop) (j : Nat) : satOp σ xs 4 s a b j ↔ ¬ a j := Iff.rfl
theorem so5 (s : ByteArray) (a b : Nat → Prop) (j : Nat) : satOp σ xs 5 s a b j ↔ a j ∧ b j := Iff.rfl
theorem so6 (s : ByteArray) (a b : Nat → Prop) (j : Nat) : satOp σ xs 6 s a b j ↔ a j ∨ b j := Iff.rfl
theorem so7 (s : ByteArray) (a b : Nat → Prop) (j : Nat) : satOp σ xs 7 s a b j ↔ b j ∨ ¬ a j := Iff.rfl
theorem so8 (s : ByteArray) (a b : Nat → Prop) (j : Nat) : satOp σ xs 8 s a b j ↔ (a j ↔ b j) := Iff.rfl
theorem so9 (s : ByteArray) (a b : Nat → Prop) (j : Nat) : satOp σ xs 9 s a b j ↔ a (j + 1) := Iff.rfl
theorem so10 (s : ByteArray) (a b : Nat → Prop) (j : Nat) : satOp σ xs 10 s a b j ↔ untilP (fun _ => True) a j := Iff.rfl
theorem so11 (s : ByteArray) (a b : Nat → Prop) (j : Nat) : satOp σ xs 11 s a b j ↔ ¬ untilP (fun _ => True) (fun j => ¬ a j) j := Iff.rfl
theorem so12 (s : ByteArray) (a b : Nat → Prop) (j : Nat) : satOp σ xs 12 s a b j ↔ untilP a b j := Iff.rfl
theorem so13 (s : ByteArray) (a b : Nat → Prop) (j : Nat) : satOp σ xs 13 s a b j ↔ ¬ untilP (fun j => ¬ a j) (fun j => ¬ b j) j := Iff.rfl
theorem so14 (s : ByteArray) (a b : Nat → Prop) (j : Nat) : satOp σ xs 14 s a b j ↔ ¬ untilP (fun j => ¬ b j) (fun j => ¬ (a j ∨ b j)) j := Iff.rfl
theorem so15 (s : ByteArray) (a b : Nat → Prop) (j : Nat) : satOp σ xs 15 s a b j ↔ untilP b (fun j => a j ∧ b j) j := Iff.rfl

/-- N means the same, D the contrary. -/
theorem nd_sat (t : Tr) (hG : t.Good) : (∀ i, sat σ xs (nd t).1 i ↔ sat σ xs t i) ∧ ∀ i, sat σ xs (nd t).2 i ↔ ¬ sat σ xs t i := by
  refine good_ind (p := fun t => (∀ i, sat σ xs (nd t).1 i ↔ sat σ xs t i) ∧ ∀ i, sat σ xs (nd t).2 i ↔ ¬ sat σ xs t i) ?_ ?_ ?_ t hG
  · intro o s ho hf
    rw [nd_0]
    rcases ho with rfl | rfl | rfl
    · have e : sat σ xs ⟨1, s, []⟩ = _ := sat_eq σ xs _
      refine ⟨fun i => ?_, fun i => ?_⟩
      · show sat σ xs (nn0 1) i ↔ _; rw [e, mean0, so1, so1]
      · show sat σ xs (nn0 2) i ↔ _; rw [e, mean0, so2, so1]; simp
    · have e : sat σ xs ⟨2, s, []⟩ = _ := sat_eq σ xs _
      refine ⟨fun i => ?_, fun i => ?_⟩
      · show sat σ xs (nn0 2) i ↔ _; rw [e, mean0, so2, so2]
      · show sat σ xs (nn0 1) i ↔ _; rw [e, mean0, so2, so1]; simp
    · exact ⟨fun i => Iff.rfl, fun i => by show sat σ xs (nn1 4 _) i ↔ _; rw [mean1', so4]⟩
  · intro o a ho _ ih
    obtain ⟨i1, i2⟩ := ih
    have e1 : sat σ xs (nd a).1 = sat σ xs a := funext fun i => propext (i1 i)
    have e2 : sat σ xs (nd a).2 = fun i => ¬ sat σ xs a i := funext fun i => propext (i2 i)
    have y1 : sat σ xs (nn0 1) = fun _ => True := by rw [mean0]; rfl
    have y2 : sat σ xs (nn0 2) = fun _ => False := by rw [mean0]; rfl
    rw [nd_1]
    rcases ho with rfl | rfl | rfl | rfl <;> refine ⟨fun i => ?_, fun i => ?_⟩ <;> simp only [ndOp, Nat.reduceEqDiff, if_true, if_false, mean1', mean2', e1, e2, y1, y2, so4, so9, so10, so11, so12, so13, Classical.not_not, not_false_eq_true]
  · intro o a b ho _ _ ih jh
    obtain ⟨i1, i2⟩ := ih
    obtain ⟨j1, j2⟩ := jh
    have e1 : sat σ xs (nd a).1 = sat σ xs a := funext fun i => propext (i1 i)
    have e2 : sat σ xs (nd a).2 = fun i => ¬ sat σ xs a i := funext fun i => propext (i2 i)
    have f1 : sat σ xs (nd b).1 = sat σ xs b := funext fun i => propext (j1 i)
    have f2 : sat σ xs (nd b).2 = fun i => ¬ sat σ xs b i := funext fun i => propext (j2 i)
    rw [nd_2]
    rcases ho with rfl | rfl | rfl | rfl | rfl | rfl | rfl | rfl <;> refine ⟨fun i => ?_, fun i => ?_⟩ <;> simp only [ndOp, Nat.reduceEqDiff, if_true, if_false, mean2', e1, e2, f1, f2, so5, so6, so7, so8, so12, so13, so14, so15, Classical.not_not]
    · exact Classical.not_and_iff_not_or_not.symm
    · exact not_or.symm
    · exact Or.comm
    · by_cases h : sat σ xs a i <;> by_cases k : sat σ xs b i <;> simp [h, k]
    · by_cases h : sat σ xs a i <;> by_cases k : sat σ xs b i <;> simp [h, k]
    · by_cases h : sat σ xs a i <;> by_cases k : sat σ xs b i <;> simp [h, k]
    · exact untilP_congr (fun _ => Iff.rfl) (fun j => by simp only [so5, not_or]) i
    · exact untilP_congr (fun _ => Iff.rfl) (fun j => by rw [so5]) i
    · exact not_congr (untilP_congr (fun _ => Iff.rfl) (fun j => by rw [not_or, Classical.not_not, Classical.not_not]) i)

/-- Until, where one side is nothing or all. -/
theorem until_now {b a : Nat → Prop} (h : ∀ j, ¬ b j) (i : Nat) : untilP b a i ↔ a i := by
  constructor
  · rintro ⟨k, ha, hb⟩
    rcases Nat.eq_zero_or_pos k with rfl | hk
    · exact ha
    · exact absurd (hb 0 hk) (h _)
  · exact fun ha => ⟨0, ha, fun j hj => by omega⟩
theorem until_same {a : Nat → Prop} (i : Nat) : untilP a a i ↔ a i := by
  constructor
  · rintro ⟨k, ha, hb⟩
    rcases Nat.eq_zero_or_pos k with rfl | hk
    · exact ha
    · exact hb 0 hk
  · exact fun ha => ⟨0, ha, fun j hj => by omega⟩
theorem until_all {b a : Nat → Prop} (h : ∀ j, a j) (i : Nat) : untilP b a i := ⟨0, h i, fun j hj => by omega⟩
theorem until_none {b a : Nat → Prop} (h : ∀ j, ¬ a j) (i : Nat) : ¬ untilP b a i := fun ⟨_, ha, _⟩ => h _ ha
theorem until_more {b b' a a' : Nat → Prop} (hb : ∀ j, b j → b' j) (ha : ∀ j, a j → a' j) {i : Nat} : untilP b a i → untilP b' a' i := fun ⟨k, h, g⟩ => ⟨k, ha _ h, fun j hj => hb _ (g j hj)⟩
/-- b that lasts: what is so sometime from where it is so sometime. -/
theorem event_event {a : Nat → Prop} {b : Nat → Prop} (i : Nat) : untilP b (fun j => untilP (fun _ => True) a j) i ↔ untilP (fun _ => True) a i := by
  constructor
  · rintro ⟨k, ⟨m, ha, _⟩, _⟩
    refine ⟨k + m, ?_, fun _ _ => trivial⟩
    have : i + (k + m) = i + k + m := by omega
    rw [this]; exact ha
  · intro h; exact ⟨0, h, fun j hj => by omega⟩
theorem later {a : Nat → Prop} {i k : Nat} (h : untilP (fun _ => True) a (i + k)) : untilP (fun _ => True) a i := by
  obtain ⟨m, ha, _⟩ := h
  refine ⟨k + m, ?_, fun _ _ => trivial⟩
  have : i + (k + m) = i + k + m := by omega
  rw [this]; exact ha

theorem sat_c1 {a : Tr} (h : a.op = 1) (i : Nat) : sat σ xs a i ↔ True := by rw [sat_eq, h, so1]
theorem sat_c2 {a : Tr} (h : a.op = 2) (i : Nat) : sat σ xs a i ↔ False := by rw [sat_eq, h, so2]
theorem no_sat {a : Tr} (hG : a.Good) (i : Nat) : sat σ xs (sNot a) i ↔ ¬ sat σ xs a i := by
  unfold sNot
  split
  · rename_i hc
    simp only [cstB, Bool.or_eq_true, beq_iff_eq] at hc
    rcases hc with e | e
    · rw [e, sat_c1 σ xs e]; show sat σ xs (nn0 2) i ↔ _; rw [mean0, so2]; simp
    · rw [e, sat_c2 σ xs e]; show sat σ xs (nn0 1) i ↔ _; rw [mean0, so1]; simp
  · split
    · obtain ⟨x, rfl, _⟩ := good_k ‹_› hG
      show sat σ xs x i ↔ _
      rw [mean1', so4, Classical.not_not]
    · rw [mean1', so4]
theorem cst_sat {a : Tr} (h : cstB a = true) : (∀ i, sat σ xs a i) ∨ ∀ i, ¬ sat σ xs a i := by
  simp only [cstB, Bool.or_eq_true, beq_iff_eq] at h
  rcases h with e | e
  · exact .inl fun i => (sat_c1 σ xs e i).2 trivial
  · exact .inr fun i h => (sat_c2 σ xs e i).1 h
theorem event_sat (a : Tr) (hG : a.Good) (i : Nat) : sat σ xs (sLast 10 a) i ↔ untilP (fun _ => True) (sat σ xs a) i := by
  unfold sLast
  split
  · rename_i hl
    simp only [lastB, Bool.or_eq_true, Bool.and_eq_true, beq_iff_eq] at hl
    rcases hl with (hl | hl) | hl
    · rcases cst_sat σ xs hl with h | h
      · exact iff_of_true (h i) (until_all h i)
      · exact iff_of_false (h i) (until_none h i)
    · obtain ⟨x, e, _⟩ := good_u (a := a) (by unfold Un; omega) hG
      rw [hl] at e
      have e2 : sat σ xs a = fun j => untilP (fun _ => True) (sat σ xs x) j := by rw [e, mean1']; funext j; exact propext (so10 σ xs _ _ _ j)
      rw [e2]
      exact (event_event i).symm
    · obtain ⟨h1, h2⟩ := hl
      replace h1 : a.op = 11 := h1
      obtain ⟨x, e, gx⟩ := good_u (a := a) (by unfold Un; omega) hG
      rw [h1] at e
      have hx : x.op = 10 := by rw [e] at h2; exact h2
      obtain ⟨y, ey, _⟩ := good_u (a := x) (by unfold Un; omega) gx
      rw [hx] at ey
      have e2 : ∀ j, sat σ xs a j ↔ ¬ untilP (fun _ => True) (fun j => ¬ untilP (fun _ => True) (sat σ xs y) j) j := fun j => by
        rw [e, mean1', so11]
        refine not_congr (untilP_congr (fun _ => Iff.rfl) (fun j => ?_) j)
        rw [ey, mean1', so10]
      constructor
      · intro h; exact ⟨0, h, fun j hj => by omega⟩
      · rintro ⟨k, h, _⟩
        rw [e2] at h ⊢
        rintro ⟨m, hm, _⟩
        refine h ⟨m, ?_, fun _ _ => trivial⟩
        intro hh
        refine hm (later (k := k) ?_)
        have : i + m + k = i + k + m := by omega
        rw [this]; exact hh
  · rw [mean1', so10]
theorem always_sat (a : Tr) (hG : a.Good) (i : Nat) : sat σ xs (sLast 11 a) i ↔ ¬ untilP (fun _ => True) (fun j => ¬ sat σ xs a j) i := by
  unfold sLast
  split
  · rename_i hl
    simp only [lastB, Bool.or_eq_true, Bool.and_eq_true, beq_iff_eq] at hl
    rcases hl with (hl | hl) | hl
    · rcases cst_sat σ xs hl with h | h
      · exact iff_of_true (h i) (until_none (fun j k => k (h j)) i)
      · exact iff_of_false (h i) (fun k => k (until_all h i))
    · obtain ⟨x, e, _⟩ := good_u (a := a) (by unfold Un; omega) hG
      rw [hl] at e
      have e2 : sat σ xs a = fun j => ¬ untilP (fun _ => True) (fun j => ¬ sat σ xs x j) j := by rw [e, mean1']; funext j; exact propext (so11 σ xs _ _ _ j)
      rw [e2]
      refine not_congr ?_
      refine Iff.trans (event_event (b := fun _ => True) i).symm (untilP_congr (fun _ => Iff.rfl) (fun j => Classical.not_not.symm) i)
    · obtain ⟨h1, h2⟩ := hl
      replace h1 : a.op = 10 := h1
      obtain ⟨x, e, gx⟩ := good_u (a := a) (by unfold Un; omega) hG
      rw [h1] at e
      have hx : x.op = 11 := by rw [e] at h2; exact h2
      obtain ⟨y, ey, _⟩ := good_u (a := x) (by unfold Un; omega) gx
      rw [hx] at ey
      have e2 : ∀ j, sat σ xs a j ↔ untilP (fun _ => True) (fun j => ¬ untilP (fun _ => True) (fun j => ¬ sat σ xs y j) j) j := fun j => by
        rw [e, mean1', so10]
        refine untilP_congr (fun _ => Iff.rfl) (fun j => ?_) j
        rw [ey, mean1', so11]
      constructor
      · intro h
        rw [e2] at h
        obtain ⟨m, hm, _⟩ := h
        rintro ⟨k, hk, _⟩
        refine hk ((e2 _).2 ⟨m, ?_, fun _ _ => trivial⟩)
        intro hh
        refine hm (later (k := k) ?_)
        have : i + m + k = i + k + m := by omega
        rw [this]; exact hh
      · intro h
        refine Classical.byContradiction fun hn => h ⟨0, hn, fun j hj => by omega⟩
  · rw [mean1', so11]
theorem ord_sat {o : Nat} (ho : o = 5 ∨ o = 6 ∨ o = 8) (a b : Tr) (i : Nat) : sat σ xs (sOrd o a b) i ↔ satOp σ xs o nE (sat σ xs a) (sat σ xs b) i := by
  unfold sOrd
  split
  · rw [mean2']
    rcases ho with rfl | rfl | rfl
    · rw [so5, so5]; exact And.comm
    · rw [so6, so6]; exact Or.comm
    · rw [so8, so8]; exact ⟨Iff.symm, Iff.symm⟩
  · rw [mean2']
theorem deny_sat {a b : Tr} (ga : a.Good) (gb : b.Good) (h : denyB a b = true) (i : Nat) : sat σ xs a i ↔ ¬ sat σ xs b i := by
  simp only [denyB, Bool.or_eq_true, Bool.and_eq_true, beq_iff_eq] at h
  rcases h with ⟨h, k⟩ | ⟨h, k⟩
  · obtain ⟨x, rfl, _⟩ := good_k h ga
    rw [sameT_iff] at k
    rw [show b = x from k.symm, mean1', so4]
  · obtain ⟨x, rfl, _⟩ := good_k h gb
    rw [sameT_iff] at k
    rw [show a = x from k.symm, mean1', so4, Classical.not_not]
theorem has_sat {a b : Tr} {o : Nat} (ho : o = 5 ∨ o = 6) (ga : a.Good) (h : hasB a o b = true) : ∃ x : Nat → Prop, ∀ i, sat σ xs a i ↔ satOp σ xs o nE (sat σ xs b) x i := by
  simp only [hasB, Bool.or_eq_true, Bool.and_eq_true, beq_iff_eq, sameT_iff] at h
  obtain ⟨h, k⟩ := h
  obtain ⟨x, y, e, _, _⟩ := good_b (a := a) (by unfold Bi; omega) ga
  rw [h] at e
  rcases k with k | k
  · have : x = b := by rw [e] at k; exact k
    exact ⟨sat σ xs y, fun i => by rw [e, mean2', this]⟩
  · have : y = b := by rw [e] at k; exact k
    refine ⟨sat σ xs x, fun i => ?_⟩
    rw [e, mean2', this]
    rcases ho with rfl | rfl
    · rw [so5, so5]; exact And.comm
    · rw [so6, so6]; exact Or.comm
theorem and_sat {a b : Tr} (ga : a.Good) (gb : b.Good) (i : Nat) : sat σ xs (sJun 5 2 a b) i ↔ (sat σ xs a i ∧ sat σ xs b i) := by
  unfold sJun
  split
  · rename_i h
    rw [mean0, so2]
    rcases h with h | h
    · rw [sat_c2 σ xs h]; simp
    · rw [sat_c2 σ xs h]; simp
  split
  · rename_i h; rw [sat_c1 σ xs (a := a) h]; simp
  split
  · rename_i h; rw [sat_c1 σ xs (a := b) h]; simp
  split
  · rename_i h; rw [sameT_iff] at h; subst h; simp
  split
  · rename_i h; rw [mean0, so2, deny_sat σ xs ga gb h]; simp
  split
  · rename_i h; obtain ⟨x, hx⟩ := has_sat σ xs (o := 6) (by omega) ga h; rw [hx, so6]; exact ⟨fun h => ⟨.inl h, h⟩, fun h => h.2⟩
  split
  · rename_i h; obtain ⟨x, hx⟩ := has_sat σ xs (o := 6) (by omega) gb h; rw [hx, so6]; exact ⟨fun h => ⟨h, .inl h⟩, fun h => h.1⟩
  · rw [ord_sat σ xs (by omega), so5]
theorem or_sat {a b : Tr} (ga : a.Good) (gb : b.Good) (i : Nat) : sat σ xs (sJun 6 1 a b) i ↔ (sat σ xs a i ∨ sat σ xs b i) := by
  unfold sJun
  split
  · rename_i h
    rw [mean0, so1]
    rcases h with h | h
    · rw [sat_c1 σ xs h]; simp
    · rw [sat_c1 σ xs h]; simp
  split
  · rename_i h; rw [sat_c2 σ xs (a := a) h]; simp
  split
  · rename_i h; rw [sat_c2 σ xs (a := b) h]; simp
  split
  · rename_i h; rw [sameT_iff] at h; subst h; simp
  split
  · rename_i h; rw [mean0, so1, deny_sat σ xs ga gb h]; simp only [true_iff]; exact Classical.or_iff_not_imp_right.2 (fun h => h)
  split
  · rename_i h; obtain ⟨x, hx⟩ := has_sat σ xs (o := 5) (by omega) ga h; rw [hx, so5]; exact ⟨fun h => .inr h, fun h => h.elim (fun h => h.1) id⟩
  split
  · rename_i h; obtain ⟨x, hx⟩ := has_sat σ xs (o := 5) (by omega) gb h; rw [hx, so5]; exact ⟨fun h => .inl h, fun h => h.elim id (fun h => h.1)⟩
  · rw [ord_sat σ xs (by omega), so6]
theorem imp_sat {a b : Tr} (ga : a.Good) (i : Nat) : sat σ xs (sImp a b) i ↔ (sat σ xs b i ∨ ¬ sat σ xs a i) := by
  unfold sImp
  split
  · rename_i h
    rw [mean0, so1]
    rcases h with h | h
    · rw [sat_c2 σ xs h]; simp
    · rw [sat_c1 σ xs h]; simp
  split
  · rename_i h; rw [sat_c1 σ xs (a := a) h]; simp
  split
  · rename_i h; rw [sat_c2 σ xs (a := b) h, no_sat σ xs ga]; simp
  split
  · rename_i h; rw [sameT_iff] at h; subst h; rw [mean0, so1]; simp only [true_iff]; exact Classical.em _
  · rw [mean2', so7]
theorem equ_sat {a b : Tr} (ga : a.Good) (gb : b.Good) (i : Nat) : sat σ xs (sEqu a b) i ↔ (sat σ xs a i ↔ sat σ xs b i) := by
  unfold sEqu
  split
  · rename_i h; rw [sat_c1 σ xs (a := a) h]; simp
  split
  · rename_i h; rw [sat_c1 σ xs (a := b) h]; simp
  split
  · rename_i h; rw [sat_c2 σ xs (a := a) h, no_sat σ xs gb]; simp
  split
  · rename_i h; rw [sat_c2 σ xs (a := b) h, no_sat σ xs ga]; simp
  split
  · rename_i h; rw [sameT_iff] at h; subst h; rw [mean0, so1]; simp
  · rw [ord_sat σ xs (by omega), so8]
theorem un_sat {o : Nat} {a : Tr} (b : Tr) (ho : Un o) (ga : a.Good) (i : Nat) : sat σ xs (sOp o a b) i ↔ satOp σ xs o nE (sat σ xs a) (sat σ xs a) i := by
  rcases ho with rfl | rfl | rfl | rfl
  · rw [so4]; exact no_sat σ xs ga i
  · rw [so9]; show sat σ xs (sNext a) i ↔ _; unfold sNext; split
    · rename_i h
      rcases cst_sat σ xs h with h | h
      · exact iff_of_true (h _) (h _)
      · exact iff_of_false (h _) (h _)
    · rw [mean1', so9]
  · rw [so10]; exact event_sat σ xs a ga i
  · rw [so11]; exact always_sat σ xs a ga i
theorem bi_sat {o : Nat} {a b : Tr} (ho : Bi o) (ga : a.Good) (gb : b.Good) (i : Nat) : sat σ xs (sOp o a b) i ↔ satOp σ xs o nE (sat σ xs a) (sat σ xs b) i := by
  rcases ho with rfl | rfl | rfl | rfl | rfl | rfl | rfl | rfl
  · rw [so5]; exact and_sat σ xs ga gb i
  · rw [so6]; exact or_sat σ xs ga gb i
  · rw [so7]; exact imp_sat σ xs ga i
  · rw [so8]; exact equ_sat σ xs ga gb i
  · rw [so12]
    show sat σ xs (sUnt 12 1 10 a b) i ↔ _
    unfold sUnt
    split
    · rename_i h
      rcases cst_sat σ xs h with h | h
      · exact iff_of_true (h i) (until_all h i)
      · exact iff_of_false (h i) (until_none h i)
    split
    · rename_i h; rw [event_sat σ xs b gb]; exact untilP_congr (fun j => by rw [sat_c1 σ xs h]) (fun _ => Iff.rfl) i
    split
    · rename_i h; exact (until_now (fun j k => (sat_c2 σ xs h j).1 k) i).symm
    split
    · rename_i h; rw [sameT_iff] at h; subst h; exact (until_same i).symm
    split
    · rename_i h
      obtain ⟨x, e, _⟩ := good_u (a := b) (by unfold Un; omega) gb
      rw [h] at e
      have e2 : sat σ xs b = fun j => untilP (fun _ => True) (sat σ xs x) j := by rw [e, mean1']; funext j; exact propext (so10 σ xs _ _ _ j)
      rw [e2]
      exact (event_event i).symm
    · rw [mean2', so12]
  · rw [so13]
    show sat σ xs (sUnt 13 2 11 a b) i ↔ _
    unfold sUnt
    split
    · rename_i h
      rcases cst_sat σ xs h with h | h
      · exact iff_of_true (h i) (until_none (fun j k => k (h j)) i)
      · exact iff_of_false (h i) (fun k => k (until_all h i))
    split
    · rename_i h; rw [always_sat σ xs b gb]; exact not_congr (untilP_congr (fun j => by rw [sat_c2 σ xs h]; simp) (fun _ => Iff.rfl) i)
    split
    · rename_i h; rw [until_now (fun j k => k ((sat_c1 σ xs h j).2 trivial)) i, Classical.not_not]
    split
    · rename_i h; rw [sameT_iff] at h; subst h; rw [until_same, Classical.not_not]
    split
    · rename_i h
      obtain ⟨x, e, _⟩ := good_u (a := b) (by unfold Un; omega) gb
      rw [h] at e
      have e2 : sat σ xs b = fun j => ¬ untilP (fun _ => True) (fun j => ¬ sat σ xs x j) j := by rw [e, mean1']; funext j; exact propext (so11 σ xs _ _ _ j)
      rw [e2]
      refine not_congr (Iff.trans (event_event (b := fun j => ¬ sat σ xs a j) i).symm (untilP_congr (fun _ => Iff.rfl) (fun j => Classical.not_not.symm) i))
    · rw [mean2', so13]
  · rw [so14]
    show sat σ xs (sWeak 14 1 11 a b) i ↔ _
    unfold sWeak
    split
    · rename_i h
      rw [mean0, so1, true_iff]
      rcases h with h | h
      · exact until_none (fun j k => k (.inl ((sat_c1 σ xs h j).2 trivial))) i
      · exact until_none (fun j k => k (.inr ((sat_c1 σ xs h j).2 trivial))) i
    split
    · rename_i h
      have e : ∀ j, ¬ (sat σ xs a j ∨ sat σ xs b j) ↔ ¬ sat σ xs b j := fun j => by rw [sat_c2 σ xs (a := a) h]; simp
      rw [untilP_congr (fun _ => Iff.rfl) e i, until_same, Classical.not_not]
    split
    · rename_i h
      rw [always_sat σ xs a ga]
      exact not_congr (untilP_congr (fun j => by rw [sat_c2 σ xs (a := b) h]; simp) (fun j => by rw [sat_c2 σ xs (a := b) h]; simp) i)
    split
    · rename_i h; rw [sameT_iff] at h; subst h
      rw [untilP_congr (fun _ => Iff.rfl) (fun j => by rw [or_self]) i, until_same, Classical.not_not]
    · rw [mean2', so14]
  · rw [so15]
    show sat σ xs (sWeak 15 2 10 a b) i ↔ _
    unfold sWeak
    split
    · rename_i h
      rw [mean0, so2, false_iff]
      rcases h with h | h
      · exact until_none (fun j k => (sat_c2 σ xs h j).1 k.1) i
      · exact until_none (fun j k => (sat_c2 σ xs h j).1 k.2) i
    split
    · rename_i h
      have e : ∀ j, (sat σ xs a j ∧ sat σ xs b j) ↔ sat σ xs b j := fun j => by rw [sat_c1 σ xs (a := a) h]; simp
      rw [untilP_congr (fun _ => Iff.rfl) e i, until_same]
    split
    · rename_i h
      rw [event_sat σ xs a ga]
      exact untilP_congr (fun j => by rw [sat_c1 σ xs (a := b) h]) (fun j => by rw [sat_c1 σ xs (a := b) h]; simp) i
    split
    · rename_i h; rw [sameT_iff] at h; subst h
      rw [untilP_congr (fun _ => Iff.rfl) (fun j => by rw [and_self]) i, until_same]
    · rw [mean2', so15]
/-- S means the same. -/
theorem simp_sat (t : Tr) (hG : t.Good) : ∀ i, sat σ xs (simpT t) i ↔ sat σ xs t i := by
  refine good_ind (p := fun t => ∀ i, sat σ xs (simpT t) i ↔ sat σ xs t i) ?_ ?_ ?_ t hG
  · intro o s _ _ i; rw [simpT_0]
  · intro o a ho ha ih i
    rw [simpT_1, un_sat σ xs (nn0 0) ho (simp_good a ha), mean1', show sat σ xs (simpT a) = sat σ xs a from funext fun i => propext (ih i)]
  · intro o a b ho ha hb ih jh i
    rw [simpT_2, bi_sat σ xs ho (simp_good a ha) (simp_good b hb), mean2', show sat σ xs (simpT a) = sat σ xs a from funext fun i => propext (ih i), show sat σ xs (simpT b) = sat σ xs b from funext fun i => propext (jh i)]
end
end Go.Proofs.YtddgciilcghbaaaDoor
