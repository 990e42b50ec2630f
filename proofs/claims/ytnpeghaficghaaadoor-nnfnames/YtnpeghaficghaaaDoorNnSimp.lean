/- S of a formula, as plain trees; what N, D and S mean; that S is a form, no greater. No walk here. -/
import Derived.Test.YtnpeghaficghaaaDoorNnMath
namespace Go.Proofs.YtnpeghaficghaaaDoor
open Go.RowKit Go.Shelf

def sameT (a b : Tr) : Bool := cmpT a b == 0
theorem sameT_iff {a b : Tr} : sameT a b = true ↔ a = b := by
  unfold sameT
  rw [beq_iff_eq]
  exact ⟨cmpT_zero a b, fun e => by rw [e]; exact preT.self b⟩
def turnO (o : Nat) : Nat := if o = 1 then 2 else if o = 2 then 1 else if o = 5 then 6 else if o = 6 then 5 else if o = 10 then 11 else if o = 11 then 10 else 0
def cstB (a : Tr) : Bool := a.op == 1 || a.op == 2
def denyB (a b : Tr) : Bool := (a.op == 4 && sameT (nk0 a) b) || (b.op == 4 && sameT (nk0 b) a)
def hasB (f : Tr) (o : Nat) (k : Tr) : Bool := f.op == o && (sameT (nk0 f) k || sameT (nk1 f) k)
def sNot (a : Tr) : Tr := if cstB a then nn0 (turnO a.op) else if a.op = 4 then nk0 a else nn1 4 a
def sOrd (o : Nat) (a b : Tr) : Tr := if cmpT b a < 0 then nn2 o b a else nn2 o a b
def sJun (o l : Nat) (a b : Tr) : Tr :=
  if a.op = l ∨ b.op = l then nn0 l else if a.op = turnO l then b else if b.op = turnO l then a else if sameT a b then a else if denyB a b then nn0 l
  else if hasB a (turnO o) b then b else if hasB b (turnO o) a then a else sOrd o a b
def sImp (a b : Tr) : Tr := if a.op = 2 ∨ b.op = 1 then nn0 1 else if a.op = 1 then b else if b.op = 2 then sNot a else if sameT a b then nn0 1 else nn2 7 a b
def sEqu (a b : Tr) : Tr := if a.op = 1 then b else if b.op = 1 then a else if a.op = 2 then sNot b else if b.op = 2 then sNot a else if sameT a b then nn0 1 else sOrd 8 a b
def sNext (a : Tr) : Tr := if cstB a then a else nn1 9 a
def lastB (o : Nat) (a : Tr) : Bool := cstB a || a.op == o || (a.op == turnO o && (nk0 a).op == o)
def sLast (o : Nat) (a : Tr) : Tr := if lastB o a then a else nn1 o a
def sUnt (o f s : Nat) (a b : Tr) : Tr := if cstB b then b else if a.op = f then sLast s b else if a.op = turnO f then b else if sameT a b then a else if b.op = s then b else nn2 o a b
def sWeak (o c s : Nat) (a b : Tr) : Tr := if a.op = c ∨ b.op = c then nn0 c else if a.op = turnO c then b else if b.op = turnO c then sLast s a else if sameT a b then a else nn2 o a b
def sOp (o : Nat) (a b : Tr) : Tr :=
  if o = 4 then sNot a else if o = 5 then sJun 5 2 a b else if o = 6 then sJun 6 1 a b else if o = 7 then sImp a b else if o = 8 then sEqu a b else if o = 9 then sNext a
  else if o = 10 then sLast 10 a else if o = 11 then sLast 11 a else if o = 12 then sUnt 12 1 10 a b else if o = 13 then sUnt 13 2 11 a b else if o = 14 then sWeak 14 1 11 a b else sWeak 15 2 10 a b
def leafS (t : Tr) : Tr := ⟨t.op, t.name, []⟩
def simpT : Tr → Tr := foldT leafS sOp (nn0 0)
theorem simpT_0 (o : Nat) (s : ByteArray) : simpT ⟨o, s, []⟩ = ⟨o, s, []⟩ := foldT_0 _ _ _ o s
theorem simpT_1 (o : Nat) (a : Tr) : simpT (nn1 o a) = sOp o (simpT a) (nn0 0) := foldT_1 _ _ _ o a
theorem simpT_2 (o : Nat) (a b : Tr) : simpT (nn2 o a b) = sOp o (simpT a) (simpT b) := foldT_2 _ _ _ o a b

/-- A kind that is closed: S leads from it into it. -/
structure Clo (Q : Tr → Prop) : Prop where
  c : ∀ o, o = 1 ∨ o = 2 → Q (nn0 o)
  k : ∀ a, a.op = 4 → Q a → Q (nk0 a)
  h1 : ∀ o a, Un o → Q a → Q (nn1 o a)
  h2 : ∀ o a b, Bi o → Q a → Q b → Q (nn2 o a b)
theorem Clo.no {Q : Tr → Prop} (C : Clo Q) {a : Tr} (h : Q a) : Q (sNot a) := by
  unfold sNot
  split
  · rename_i hc
    simp only [cstB, Bool.or_eq_true, beq_iff_eq] at hc
    refine C.c _ ?_
    rcases hc with e | e <;> rw [e]
    · exact .inr rfl
    · exact .inl rfl
  · split
    · exact C.k a ‹_› h
    · exact C.h1 4 a (by unfold Un; omega) h
theorem Clo.la {Q : Tr → Prop} (C : Clo Q) {o : Nat} {a : Tr} (ho : o = 10 ∨ o = 11) (h : Q a) : Q (sLast o a) := by
  unfold sLast; split
  · exact h
  · exact C.h1 o a (by unfold Un; omega) h
theorem Clo.ord {Q : Tr → Prop} (C : Clo Q) {o : Nat} {a b : Tr} (ho : Bi o) (h : Q a) (k : Q b) : Q (sOrd o a b) := by
  unfold sOrd; split
  · exact C.h2 o b a ho k h
  · exact C.h2 o a b ho h k
theorem Clo.un {Q : Tr → Prop} (C : Clo Q) {o : Nat} {a b : Tr} (ho : Un o) (h : Q a) : Q (sOp o a b) := by
  rcases ho with rfl | rfl | rfl | rfl
  · exact C.no h
  · show Q (sNext a); unfold sNext; split
    · exact h
    · exact C.h1 9 a (by unfold Un; omega) h
  · exact C.la (o := 10) (.inl rfl) h
  · exact C.la (o := 11) (.inr rfl) h
theorem Clo.bi {Q : Tr → Prop} (C : Clo Q) {o : Nat} {a b : Tr} (ho : Bi o) (h : Q a) (k : Q b) : Q (sOp o a b) := by
  have hB : ∀ o, o = 5 ∨ o = 6 ∨ o = 7 ∨ o = 8 ∨ o = 12 ∨ o = 13 ∨ o = 14 ∨ o = 15 → Bi o := fun o h => h
  rcases ho with rfl | rfl | rfl | rfl | rfl | rfl | rfl | rfl
  · show Q (sJun 5 2 a b); unfold sJun; repeat' split
    all_goals (first | assumption | exact C.c _ (by omega) | exact C.ord (hB _ (by omega)) h k)
  · show Q (sJun 6 1 a b); unfold sJun; repeat' split
    all_goals (first | assumption | exact C.c _ (by omega) | exact C.ord (hB _ (by omega)) h k)
  · show Q (sImp a b); unfold sImp; repeat' split
    all_goals (first | assumption | exact C.c _ (by omega) | exact C.no h | exact C.h2 _ _ _ (hB _ (by omega)) h k)
  · show Q (sEqu a b); unfold sEqu; repeat' split
    all_goals (first | assumption | exact C.c _ (by omega) | exact C.no h | exact C.no k | exact C.ord (hB _ (by omega)) h k)
  · show Q (sUnt 12 1 10 a b); unfold sUnt; repeat' split
    all_goals (first | assumption | exact C.la (by omega) k | exact C.h2 _ _ _ (hB _ (by omega)) h k)
  · show Q (sUnt 13 2 11 a b); unfold sUnt; repeat' split
    all_goals (first | assumption | exact C.la (by omega) k | exact C.h2 _ _ _ (hB _ (by omega)) h k)
  · show Q (sWeak 14 1 11 a b); unfold sWeak; repeat' split
    all_goals (first | assumption | exact C.c _ (by omega) | exact C.la (by omega) h | exact C.h2 _ _ _ (hB _ (by omega)) h k)
  · show Q (sWeak 15 2 10 a b); unfold sWeak; repeat' split
    all_goals (first | assumption | exact C.c _ (by omega) | exact C.la (by omega) h | exact C.h2 _ _ _ (hB _ (by omega)) h k)
theorem good_k {a : Tr} (h4 : a.op = 4) (h : a.Good) : ∃ x, a = nn1 4 x ∧ x.Good := by
  refine good_ind (p := fun a => a.op = 4 → ∃ x, a = nn1 4 x ∧ x.Good) ?_ ?_ ?_ a h h4
  · intro o s ho _ e; unfold Lf at ho; simp only at e; omega
  · intro o x ho hx _ e; simp only [nn1] at e; subst e; exact ⟨x, rfl, hx⟩
  · intro o x y ho _ _ _ _ e; unfold Bi at ho; simp only [nn2] at e; omega
theorem good_b {a : Tr} (h4 : Bi a.op) (h : a.Good) : ∃ x y, a = nn2 a.op x y ∧ x.Good ∧ y.Good := by
  refine good_ind (p := fun a => Bi a.op → ∃ x y, a = nn2 a.op x y ∧ x.Good ∧ y.Good) ?_ ?_ ?_ a h h4
  · intro o s ho _ e; unfold Lf at ho; unfold Bi at e; simp only at e; omega
  · intro o x ho hx _ e; unfold Un at ho; unfold Bi at e; simp only [nn1] at e; omega
  · intro o x y ho hx hy _ _ e; exact ⟨x, y, rfl, hx, hy⟩
theorem good_u {a : Tr} (h4 : Un a.op) (h : a.Good) : ∃ x, a = nn1 a.op x ∧ x.Good := by
  refine good_ind (p := fun a => Un a.op → ∃ x, a = nn1 a.op x ∧ x.Good) ?_ ?_ ?_ a h h4
  · intro o s ho _ e; unfold Lf at ho; unfold Un at e; simp only at e; omega
  · intro o x ho hx _ e; exact ⟨x, rfl, hx⟩
  · intro o x y ho _ _ _ _ e; unfold Bi at ho; unfold Un at e; simp only [nn2] at e; omega
theorem good_c {a : Tr} (h4 : a.op = 1 ∨ a.op = 2) (h : a.Good) : a = nn0 a.op := by
  refine good_ind (p := fun a => (a.op = 1 ∨ a.op = 2) → a = nn0 a.op) ?_ ?_ ?_ a h h4
  · intro o s ho hf e
    have := formed_name hf (by simp only at e ⊢; omega)
    simp only at this; subst this; rfl
  · intro o x ho hx _ e; unfold Un at ho; simp only [nn1] at e; omega
  · intro o x y ho _ _ _ _ e; unfold Bi at ho; simp only [nn2] at e; omega
theorem clo_good : Clo Tr.Good where
  c o h := good0 h
  k a h4 h := by obtain ⟨x, rfl, hx⟩ := good_k h4 h; exact hx
  h1 o a ho h := (good1 ho).2 h
  h2 o a b ho h k := (good2 ho).2 ⟨h, k⟩
theorem clo_names (P : ByteArray → Prop) : Clo (fun t => t.Good ∧ Nmd P t) where
  c o h := ⟨good0 h, nmd0 (by omega)⟩
  k a h4 h := by obtain ⟨x, rfl, hx⟩ := good_k h4 h.1; exact ⟨hx, (nmd1 (by decide)).1 h.2⟩
  h1 o a ho h := ⟨(good1 ho).2 h.1, (nmd1 (by unfold Un at ho; omega)).2 h.2⟩
  h2 o a b ho h k := ⟨(good2 ho).2 ⟨h.1, k.1⟩, (nmd2 (by unfold Bi at ho; omega)).2 ⟨h.2, k.2⟩⟩
theorem simp_names {P : ByteArray → Prop} (t : Tr) (hG : t.Good) : Nmd P t → (simpT t).Good ∧ Nmd P (simpT t) := by
  refine good_ind (p := fun t => Nmd P t → (simpT t).Good ∧ Nmd P (simpT t)) ?_ ?_ ?_ t hG
  · intro o s ho hf h
    rw [simpT_0]
    exact ⟨all0.2 ⟨hf, by unfold Lf at ho; show o ≤ 15; omega⟩, h⟩
  · intro o a ho _ ih h
    rw [simpT_1]
    exact (clo_names P).un ho (ih ((nmd1 (by unfold Un at ho; omega)).1 h))
  · intro o a b ho _ _ ih jh h
    rw [simpT_2]
    obtain ⟨h1, h2⟩ := (nmd2 (by unfold Bi at ho; omega)).1 h
    exact (clo_names P).bi ho (ih h1) (jh h2)
theorem simp_good (t : Tr) (hG : t.Good) : (simpT t).Good := (simp_names (P := fun _ => True) t hG (all_true (fun _ _ => trivial) t)).1
theorem sz0 (o : Nat) (s : ByteArray) : (⟨o, s, []⟩ : Tr).size = 1 ∧ (⟨o, s, []⟩ : Tr).depth = 1 := by rw [Tr.size_eq, Tr.depth_eq]; exact ⟨rfl, rfl⟩
theorem sz1 (o : Nat) (a : Tr) : (nn1 o a).size = 1 + a.size ∧ (nn1 o a).depth = 1 + a.depth := by rw [Tr.size_eq, Tr.depth_eq]; simp [nn1]
theorem sz2 (o : Nat) (a b : Tr) : (nn2 o a b).size = 1 + (a.size + b.size) ∧ (nn2 o a b).depth = 1 + max a.depth b.depth := by rw [Tr.size_eq, Tr.depth_eq]; simp [nn2]
theorem depth_pos (t : Tr) : 1 ≤ t.depth := by rw [Tr.depth_eq]; omega
theorem no_less {a : Tr} (h : a.Good) : (sNot a).size ≤ 1 + a.size ∧ (sNot a).depth ≤ 1 + a.depth := by
  unfold sNot
  repeat' split
  · have := sz0 (turnO a.op) nE; simp only [nn0]; omega
  · obtain ⟨x, rfl, _⟩ := good_k ‹_› h
    have := sz1 4 x
    show x.size ≤ _ ∧ x.depth ≤ _
    omega
  · have := sz1 4 a; omega
theorem la_less (o : Nat) (a : Tr) : (sLast o a).size ≤ 1 + a.size ∧ (sLast o a).depth ≤ 1 + a.depth := by
  unfold sLast
  split
  · omega
  · have := sz1 o a; omega
theorem ord_less (o : Nat) (a b : Tr) : (sOrd o a b).size ≤ 1 + (a.size + b.size) ∧ (sOrd o a b).depth ≤ 1 + max a.depth b.depth := by
  unfold sOrd
  split
  · have := sz2 o b a; omega
  · have := sz2 o a b; omega
theorem un_less {o : Nat} {a : Tr} (b : Tr) (ho : Un o) (h : a.Good) : (sOp o a b).size ≤ 1 + a.size ∧ (sOp o a b).depth ≤ 1 + a.depth := by
  rcases ho with rfl | rfl | rfl | rfl
  · exact no_less h
  · show (sNext a).size ≤ _ ∧ (sNext a).depth ≤ _; unfold sNext; split
    · omega
    · have := sz1 9 a; omega
  · exact la_less 10 a
  · exact la_less 11 a
theorem bi_less {o : Nat} {a b : Tr} (ho : Bi o) (h : a.Good) (k : b.Good) : (sOp o a b).size ≤ 1 + (a.size + b.size) ∧ (sOp o a b).depth ≤ 1 + max a.depth b.depth := by
  have z0 : ∀ l, (nn0 l).size ≤ 1 + (a.size + b.size) ∧ (nn0 l).depth ≤ 1 + max a.depth b.depth := fun l => by have := sz0 l nE; simp only [nn0]; omega
  have za : a.size ≤ 1 + (a.size + b.size) ∧ a.depth ≤ 1 + max a.depth b.depth := by omega
  have zb : b.size ≤ 1 + (a.size + b.size) ∧ b.depth ≤ 1 + max a.depth b.depth := by omega
  have na := no_less h
  have nb := no_less k
  have zna : (sNot a).size ≤ 1 + (a.size + b.size) ∧ (sNot a).depth ≤ 1 + max a.depth b.depth := by omega
  have znb : (sNot b).size ≤ 1 + (a.size + b.size) ∧ (sNot b).depth ≤ 1 + max a.depth b.depth := by omega
  have zla : ∀ o, (sLast o a).size ≤ 1 + (a.size + b.size) ∧ (sLast o a).depth ≤ 1 + max a.depth b.depth := fun o => by have := la_less o a; omega
  have zlb : ∀ o, (sLast o b).size ≤ 1 + (a.size + b.size) ∧ (sLast o b).depth ≤ 1 + max a.depth b.depth := fun o => by have := la_less o b; omega
  have z2 : ∀ o, (nn2 o a b).size ≤ 1 + (a.size + b.size) ∧ (nn2 o a b).depth ≤ 1 + max a.depth b.depth := fun o => by have := sz2 o a b; omega
  rcases ho with rfl | rfl | rfl | rfl | rfl | rfl | rfl | rfl
  · show (sJun 5 2 a b).size ≤ _ ∧ (sJun 5 2 a b).depth ≤ _; unfold sJun; repeat' split
    all_goals (first | exact za | exact zb | exact z0 _ | exact ord_less _ a b)
  · show (sJun 6 1 a b).size ≤ _ ∧ (sJun 6 1 a b).depth ≤ _; unfold sJun; repeat' split
    all_goals (first | exact za | exact zb | exact z0 _ | exact ord_less _ a b)
  · show (sImp a b).size ≤ _ ∧ (sImp a b).depth ≤ _; unfold sImp; repeat' split
    all_goals (first | exact za | exact zb | exact z0 _ | exact zna | exact z2 _)
  · show (sEqu a b).size ≤ _ ∧ (sEqu a b).depth ≤ _; unfold sEqu; repeat' split
    all_goals (first | exact za | exact zb | exact z0 _ | exact zna | exact znb | exact ord_less _ a b)
  · show (sUnt 12 1 10 a b).size ≤ _ ∧ (sUnt 12 1 10 a b).depth ≤ _; unfold sUnt; repeat' split
    all_goals (first | exact za | exact zb | exact zlb _ | exact z2 _)
  · show (sUnt 13 2 11 a b).size ≤ _ ∧ (sUnt 13 2 11 a b).depth ≤ _; unfold sUnt; repeat' split
    all_goals (first | exact za | exact zb | exact zlb _ | exact z2 _)
  · show (sWeak 14 1 11 a b).size ≤ _ ∧ (sWeak 14 1 11 a b).depth ≤ _; unfold sWeak; repeat' split
    all_goals (first | exact za | exact zb | exact z0 _ | exact zla _ | exact z2 _)
  · show (sWeak 15 2 10 a b).size ≤ _ ∧ (sWeak 15 2 10 a b).depth ≤ _; unfold sWeak; repeat' split
    all_goals (first | exact za | exact zb | exact z0 _ | exact zla _ | exact z2 _)
/-- S is no greater, no deeper. -/
theorem simp_less (t : Tr) (hG : t.Good) : (simpT t).size ≤ t.size ∧ (simpT t).depth ≤ t.depth := by
  refine good_ind (p := fun t => (simpT t).size ≤ t.size ∧ (simpT t).depth ≤ t.depth) ?_ ?_ ?_ t hG
  · intro o s _ _; rw [simpT_0]; omega
  · intro o a ho ha ih
    rw [simpT_1]
    have := un_less (nn0 0) ho (simp_good a ha)
    have := sz1 o a
    omega
  · intro o a b ho ha hb ih jh
    rw [simpT_2]
    have := bi_less ho (simp_good a ha) (simp_good b hb)
    have := sz2 o a b
    omega
/-- What S leaves as it is. -/
def smQ (x : Tr) : Prop := x.kids.length = 0 ∨ sOp x.op (nk0 x) (nk1 x) = x
theorem sm1 {o : Nat} {a : Tr} (h : a.All smQ) (e : sOp o a (nn0 0) = nn1 o a) : (nn1 o a).All smQ := all1.2 ⟨.inr e, h⟩
theorem sm2 {o : Nat} {a b : Tr} (h : a.All smQ) (k : b.All smQ) (e : sOp o a b = nn2 o a b) : (nn2 o a b).All smQ := all2.2 ⟨.inr e, h, k⟩
theorem sm_id (t : Tr) (hG : t.Good) : t.All smQ → simpT t = t := by
  refine good_ind (p := fun t => t.All smQ → simpT t = t) ?_ ?_ ?_ t hG
  · intro o s _ _ _; exact simpT_0 o s
  · intro o a ho _ ih h
    obtain ⟨q, h⟩ := all1.1 h
    rw [simpT_1, ih h]
    exact q.resolve_left (by simp [nn1])
  · intro o a b ho _ _ ih jh h
    obtain ⟨q, h, k⟩ := all2.1 h
    rw [simpT_2, ih h, jh k]
    exact q.resolve_left (by simp [nn2])
theorem sm_c (o : Nat) : (nn0 o).All smQ := all0.2 (.inl rfl)
theorem sm_no {a : Tr} (hG : a.Good) (h : a.All smQ) : (sNot a).All smQ := by
  by_cases e : sNot a = nn1 4 a
  · rw [e]; exact sm1 h e
  · unfold sNot at e ⊢
    split
    · exact sm_c _
    · rename_i hc
      split
      · obtain ⟨x, rfl, _⟩ := good_k ‹_› hG
        exact (all1.1 h).2
      · rename_i h4; rw [if_neg hc, if_neg h4] at e; exact absurd rfl e
theorem sm_la {o : Nat} {a : Tr} (ho : o = 10 ∨ o = 11) (h : a.All smQ) : (sLast o a).All smQ := by
  by_cases e : sLast o a = nn1 o a
  · rw [e]; refine sm1 h ?_; rcases ho with rfl | rfl <;> exact e
  · unfold sLast at e ⊢
    split
    · exact h
    · rename_i hl; rw [if_neg hl] at e; exact absurd rfl e
theorem sm_un {o : Nat} {a b : Tr} (ho : Un o) (hG : a.Good) (h : a.All smQ) : (sOp o a b).All smQ := by
  rcases ho with rfl | rfl | rfl | rfl
  · exact sm_no hG h
  · by_cases e : sNext a = nn1 9 a
    · show (sNext a).All smQ; rw [e]; exact sm1 h e
    · show (sNext a).All smQ
      unfold sNext at e ⊢
      split
      · exact h
      · rename_i hc; rw [if_neg hc] at e; exact absurd rfl e
  · exact sm_la (o := 10) (.inl rfl) h
  · exact sm_la (o := 11) (.inr rfl) h
theorem deny_swap (a b : Tr) : denyB b a = denyB a b := by unfold denyB; exact Bool.or_comm _ _
theorem same_swap {a b : Tr} (h : sameT a b = false) : sameT b a = false := by
  cases e : sameT b a with
  | false => rfl
  | true => rw [sameT_iff] at e; subst e; rw [sameT_iff.2 rfl] at h; cases h
theorem cmp_flip {a b : Tr} (h : cmpT b a < 0) : ¬ cmpT a b < 0 := by
  intro k
  have := (preT.flip a b).1 k
  omega
theorem sJun_swap {o l : Nat} {a b : Tr} (h : cmpT b a < 0) (d : ¬ (a.op = l ∨ b.op = l) ∧ ¬ a.op = turnO l ∧ ¬ b.op = turnO l ∧ ¬ sameT a b = true ∧ ¬ denyB a b = true ∧ ¬ hasB a (turnO o) b = true ∧ ¬ hasB b (turnO o) a = true) : sJun o l b a = nn2 o b a := by
  obtain ⟨d1, d2, d3, d4, d5, d6, d7⟩ := d
  unfold sJun
  rw [if_neg (fun h => d1 h.symm), if_neg d3, if_neg d2, if_neg (by rw [same_swap (by simpa using d4)]; simp), if_neg (by rw [deny_swap]; exact d5), if_neg d7, if_neg d6]
  unfold sOrd
  rw [if_neg (cmp_flip h)]
theorem sm_jun {o l : Nat} {a b : Tr} (ho : ∀ x y, sOp o x y = sJun o l x y) (h : a.All smQ) (k : b.All smQ) : (sJun o l a b).All smQ := by
  by_cases d : ¬ (a.op = l ∨ b.op = l) ∧ ¬ a.op = turnO l ∧ ¬ b.op = turnO l ∧ ¬ sameT a b = true ∧ ¬ denyB a b = true ∧ ¬ hasB a (turnO o) b = true ∧ ¬ hasB b (turnO o) a = true
  · have e : sJun o l a b = sOrd o a b := by
      obtain ⟨d1, d2, d3, d4, d5, d6, d7⟩ := d
      unfold sJun; rw [if_neg d1, if_neg d2, if_neg d3, if_neg d4, if_neg d5, if_neg d6, if_neg d7]
    by_cases hc : cmpT b a < 0
    · have e2 : sOrd o a b = nn2 o b a := by unfold sOrd; rw [if_pos hc]
      rw [e, e2]
      exact sm2 k h (by rw [ho]; exact sJun_swap hc d)
    · have e2 : sOrd o a b = nn2 o a b := by unfold sOrd; rw [if_neg hc]
      rw [e, e2]
      exact sm2 h k (by rw [ho, e, e2])
  · unfold sJun
    repeat' split
    all_goals (first | exact sm_c _ | assumption | exact absurd ⟨‹_›, ‹_›, ‹_›, ‹_›, ‹_›, ‹_›, ‹_›⟩ d)
theorem sm_bi {o : Nat} {a b : Tr} (ho : Bi o) (ga : a.Good) (gb : b.Good) (h : a.All smQ) (k : b.All smQ) : (sOp o a b).All smQ := by
  rcases ho with rfl | rfl | rfl | rfl | rfl | rfl | rfl | rfl
  · exact sm_jun (o := 5) (l := 2) (fun _ _ => rfl) h k
  · exact sm_jun (o := 6) (l := 1) (fun _ _ => rfl) h k
  · by_cases e : sImp a b = nn2 7 a b
    · show (sImp a b).All smQ; rw [e]; exact sm2 h k e
    · show (sImp a b).All smQ
      unfold sImp at e ⊢
      repeat' split
      all_goals (first | exact sm_c _ | assumption | exact sm_no ga h | skip)
      rename_i h1 h2 h3 h4
      rw [if_neg h1, if_neg h2, if_neg h3, if_neg h4] at e; exact absurd rfl e
  · show (sEqu a b).All smQ
    by_cases d : ¬ a.op = 1 ∧ ¬ b.op = 1 ∧ ¬ a.op = 2 ∧ ¬ b.op = 2 ∧ ¬ sameT a b = true
    · obtain ⟨d1, d2, d3, d4, d5⟩ := d
      have e : sEqu a b = sOrd 8 a b := by unfold sEqu; rw [if_neg d1, if_neg d2, if_neg d3, if_neg d4, if_neg d5]
      have e' : sEqu b a = sOrd 8 b a := by unfold sEqu; rw [if_neg d2, if_neg d1, if_neg d4, if_neg d3, if_neg (by rw [same_swap (by simpa using d5)]; simp)]
      by_cases hc : cmpT b a < 0
      · have e2 : sOrd 8 a b = nn2 8 b a := by unfold sOrd; rw [if_pos hc]
        rw [e, e2]
        refine sm2 k h ?_
        show sEqu b a = _
        rw [e']; unfold sOrd; rw [if_neg (cmp_flip hc)]
      · have e2 : sOrd 8 a b = nn2 8 a b := by unfold sOrd; rw [if_neg hc]
        rw [e, e2]
        refine sm2 h k ?_
        show sEqu a b = _
        rw [e, e2]
    · unfold sEqu
      repeat' split
      all_goals (first | exact sm_c _ | assumption | exact sm_no ga h | exact sm_no gb k | exact absurd ⟨‹_›, ‹_›, ‹_›, ‹_›, ‹_›⟩ d)
  · by_cases e : sUnt 12 1 10 a b = nn2 12 a b
    · show (sUnt 12 1 10 a b).All smQ; rw [e]; exact sm2 h k e
    · show (sUnt 12 1 10 a b).All smQ
      unfold sUnt at e ⊢
      repeat' split
      all_goals (first | assumption | exact sm_la (by omega) k | skip)
      rename_i h1 h2 h3 h4 h5
      rw [if_neg h1, if_neg h2, if_neg h3, if_neg h4, if_neg h5] at e; exact absurd rfl e
  · by_cases e : sUnt 13 2 11 a b = nn2 13 a b
    · show (sUnt 13 2 11 a b).All smQ; rw [e]; exact sm2 h k e
    · show (sUnt 13 2 11 a b).All smQ
      unfold sUnt at e ⊢
      repeat' split
      all_goals (first | assumption | exact sm_la (by omega) k | skip)
      rename_i h1 h2 h3 h4 h5
      rw [if_neg h1, if_neg h2, if_neg h3, if_neg h4, if_neg h5] at e; exact absurd rfl e
  · by_cases e : sWeak 14 1 11 a b = nn2 14 a b
    · show (sWeak 14 1 11 a b).All smQ; rw [e]; exact sm2 h k e
    · show (sWeak 14 1 11 a b).All smQ
      unfold sWeak at e ⊢
      repeat' split
      all_goals (first | exact sm_c _ | assumption | exact sm_la (by omega) h | skip)
      rename_i h1 h2 h3 h4
      rw [if_neg h1, if_neg h2, if_neg h3, if_neg h4] at e; exact absurd rfl e
  · by_cases e : sWeak 15 2 10 a b = nn2 15 a b
    · show (sWeak 15 2 10 a b).All smQ; rw [e]; exact sm2 h k e
    · show (sWeak 15 2 10 a b).All smQ
      unfold sWeak at e ⊢
      repeat' split
      all_goals (first | exact sm_c _ | assumption | exact sm_la (by omega) h | skip)
      rename_i h1 h2 h3 h4
      rw [if_neg h1, if_neg h2, if_neg h3, if_neg h4] at e; exact absurd rfl e
/-- S of S is it. -/
theorem simp_again (t : Tr) (hG : t.Good) : simpT (simpT t) = simpT t := by
  refine sm_id _ (simp_good t hG) ?_
  refine good_ind (p := fun t => (simpT t).All smQ) ?_ ?_ ?_ t hG
  · intro o s _ _; rw [simpT_0]; exact all0.2 (.inl rfl)
  · intro o a ho ha ih; rw [simpT_1]; exact sm_un ho (simp_good a ha) ih
  · intro o a b ho ha hb ih jh; rw [simpT_2]; exact sm_bi ho (simp_good a ha) (simp_good b hb) ih jh
end Go.Proofs.YtnpeghaficghaaaDoor
