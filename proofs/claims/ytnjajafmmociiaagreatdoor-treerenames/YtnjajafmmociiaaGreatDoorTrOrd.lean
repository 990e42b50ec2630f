/- Cmp sets all trees in one row. No walk here. -/
import Derived.Test.YtnjajafmmociiaaGreatDoorTrCmp
import Derived.Shelf.SlSortCmp.Insertion
namespace Go.Proofs.YtnjajafmmociiaaGreatDoor
open Go.RowKit Go.Shelf

/-- A comparison that sets things in a row, alike ones side by side. -/
structure Pre {α : Type} (c : α → α → Int) : Prop where
  self : ∀ x, c x x = 0
  flip : ∀ x y, c x y < 0 ↔ 0 < c y x
  trans : ∀ x y z, c x y < 0 → c y z < 0 → c x z < 0
  same : ∀ x y z, c x y = 0 → c x z = c y z ∧ c z x = c z y
theorem Pre.sym {α : Type} {c : α → α → Int} (h : Pre c) {x y : α} (e : c x y = 0) : c y x = 0 := by
  have := (h.same x y x e).1
  rw [h.self] at this
  exact this.symm
theorem Pre.pull {α β : Type} {c : α → α → Int} (h : Pre c) (f : β → α) : Pre (fun x y => c (f x) (f y)) :=
  ⟨fun _ => h.self _, fun _ _ => h.flip _ _, fun _ _ _ => h.trans _ _ _, fun _ _ _ => h.same _ _ _⟩
def lex2 {α : Type} (c d : α → α → Int) (x y : α) : Int := if c x y = 0 then d x y else c x y
theorem Pre.lex {α : Type} {c d : α → α → Int} (h : Pre c) (k : Pre d) : Pre (lex2 c d) := by
  refine ⟨fun x => ?_, fun x y => ?_, fun x y z h1 h2 => ?_, fun x y z e => ?_⟩
  · unfold lex2; rw [if_pos (h.self x)]; exact k.self x
  · unfold lex2
    by_cases e : c x y = 0
    · rw [if_pos e, if_pos (h.sym e)]; exact k.flip x y
    · rw [if_neg e, if_neg (fun e' => e (h.sym e'))]; exact h.flip x y
  · unfold lex2 at *
    by_cases e : c x y = 0
    · rw [if_pos e] at h1
      obtain ⟨q1, _⟩ := h.same x y z e
      rw [q1]
      by_cases e2 : c y z = 0
      · rw [if_pos e2] at h2 ⊢; exact k.trans x y z h1 h2
      · rw [if_neg e2] at h2 ⊢; exact h2
    · rw [if_neg e] at h1
      by_cases e2 : c y z = 0
      · have q := (h.same y z x e2).2
        rw [← q, if_neg e]; exact h1
      · rw [if_neg e2] at h2
        have := h.trans x y z h1 h2
        rw [if_neg (by omega)]; exact this
  · unfold lex2 at *
    by_cases e1 : c x y = 0
    · rw [if_pos e1] at e
      obtain ⟨q1, q2⟩ := h.same x y z e1
      obtain ⟨r1, r2⟩ := k.same x y z e
      rw [q1, q2, r1, r2]; exact ⟨rfl, rfl⟩
    · rw [if_neg e1] at e; exact absurd e e1
theorem preN : Pre cmpN := by
  refine ⟨fun x => ?_, fun x y => ?_, fun x y z => ?_, fun x y z e => ?_⟩
  · simp [cmpN]
  · unfold cmpN; split <;> split <;> (try split) <;> (try split) <;> omega
  · unfold cmpN; intro h1 h2
    have a1 : x < y := by
      by_cases q : x < y
      · exact q
      · rw [if_neg q] at h1; split at h1 <;> omega
    have a2 : y < z := by
      by_cases q : y < z
      · exact q
      · rw [if_neg q] at h2; split at h2 <;> omega
    rw [if_pos (by omega)]; omega
  · have : x = y := by
      unfold cmpN at e
      by_cases q : x < y
      · rw [if_pos q] at e; omega
      · rw [if_neg q] at e
        by_cases q2 : y < x
        · rw [if_pos q2] at e; omega
        · omega
    subst this; exact ⟨rfl, rfl⟩
/-- Rows, one against the other. -/
def rowL {α : Type} (c : α → α → Int) : List α → List α → Int
  | [], [] => 0
  | [], _ :: _ => -1
  | _ :: _, [] => 1
  | x :: xs, y :: ys => if c x y = 0 then rowL c xs ys else c x y
theorem preL {α : Type} {c : α → α → Int} (h : Pre c) : Pre (rowL c) := by
  refine ⟨fun x => ?_, fun x => ?_, fun x => ?_, fun x => ?_⟩
  · induction x with
    | nil => rfl
    | cons a r ih => unfold rowL; rw [if_pos (h.self a)]; exact ih
  · induction x with
    | nil => intro y; cases y <;> simp [rowL]
    | cons a r ih =>
      intro y
      cases y with
      | nil => simp [rowL]
      | cons b s =>
        unfold rowL
        by_cases e : c a b = 0
        · rw [if_pos e, if_pos (h.sym e)]; exact ih s
        · rw [if_neg e, if_neg (fun e' => e (h.sym e'))]; exact h.flip a b
  · induction x with
    | nil =>
      intro y z
      cases y with
      | nil => intro h1; simp [rowL] at h1
      | cons b s => cases z <;> simp [rowL]
    | cons a r ih =>
      intro y z
      cases y with
      | nil => intro h1; simp [rowL] at h1
      | cons b s =>
        cases z with
        | nil => intro _ h2; simp [rowL] at h2
        | cons d u =>
          unfold rowL
          intro h1 h2
          by_cases e : c a b = 0
          · rw [if_pos e] at h1
            obtain ⟨q1, _⟩ := h.same a b d e
            rw [q1]
            by_cases e2 : c b d = 0
            · rw [if_pos e2] at h2 ⊢; exact ih s u h1 h2
            · rw [if_neg e2] at h2 ⊢; exact h2
          · rw [if_neg e] at h1
            by_cases e2 : c b d = 0
            · have q := (h.same b d a e2).2
              rw [← q, if_neg e]; exact h1
            · rw [if_neg e2] at h2
              have := h.trans a b d h1 h2
              rw [if_neg (by omega)]; exact this
  · induction x with
    | nil =>
      intro y z e
      cases y with
      | nil => exact ⟨rfl, rfl⟩
      | cons b s => simp [rowL] at e
    | cons a r ih =>
      intro y z e
      cases y with
      | nil => simp [rowL] at e
      | cons b s =>
        unfold rowL at e
        by_cases e1 : c a b = 0
        · rw [if_pos e1] at e
          cases z with
          | nil => exact ⟨rfl, rfl⟩
          | cons d u =>
            obtain ⟨q1, q2⟩ := h.same a b d e1
            obtain ⟨r1, r2⟩ := ih s u e
            unfold rowL
            rw [q1, q2, r1, r2]; exact ⟨rfl, rfl⟩
        · rw [if_neg e1] at e; exact absurd e e1
def bytC (x y : UInt8) : Int := cmpN x.toNat y.toNat
theorem cmpN_zero {a b : Nat} : cmpN a b = 0 ↔ a = b := by
  unfold cmpN
  constructor
  · intro e
    by_cases q : a < b
    · rw [if_pos q] at e; omega
    · rw [if_neg q] at e
      by_cases q2 : b < a
      · rw [if_pos q2] at e; omega
      · omega
  · rintro rfl; simp
theorem cmpS_row : ∀ x y : List UInt8, (if Op.bytesLess x y then (-1 : Int) else if x == y then 0 else 1) = rowL bytC x y
  | [], [] => rfl
  | [], _ :: _ => rfl
  | _ :: _, [] => rfl
  | a :: x, b :: y => by
    have ih := cmpS_row x y
    unfold rowL
    by_cases e : a = b
    · subst e
      rw [if_pos (show bytC a a = 0 from cmpN_zero.2 rfl), ← ih]
      have h1 : Op.bytesLess (a :: x) (a :: y) = Op.bytesLess x y := by simp [Op.bytesLess]
      have h2 : ((a :: x) == (a :: y)) = (x == y) := by simp
      rw [h1, h2]
    · have hn : a.toNat ≠ b.toNat := fun q => e (UInt8.toNat_inj.1 q)
      rw [if_neg (show ¬ bytC a b = 0 from fun q => hn (cmpN_zero.1 q))]
      have h2 : ((a :: x) == (b :: y)) = false := by simp [e]
      have h1 : Op.bytesLess (a :: x) (b :: y) = decide (a < b) := by simp [Op.bytesLess, e]
      rw [h1, h2]
      unfold bytC cmpN
      by_cases q : a < b
      · have q' : a.toNat < b.toNat := q
        rw [if_pos q', decide_eq_true q]; rfl
      · have q' : ¬ a.toNat < b.toNat := q
        rw [decide_eq_false q, if_neg q', if_pos (show b.toNat < a.toNat by omega)]; rfl
theorem preS : Pre cmpS := by
  have h : cmpS = fun a b : ByteArray => rowL bytC a.toList b.toList := by
    funext a b
    exact cmpS_row a.toList b.toList
  rw [h]
  exact (preL (preN.pull UInt8.toNat)).pull ByteArray.toList
theorem cmpHead_lex : cmpHead = lex2 (fun a b : Tr => cmpN a.op b.op) (lex2 (fun a b : Tr => cmpS a.name b.name) (fun a b : Tr => cmpN a.kids.length b.kids.length)) := by
  funext a b
  unfold cmpHead or3 lex2
  by_cases e : cmpN a.op b.op = 0
  · by_cases e2 : cmpS a.name b.name = 0
    · simp [e, e2]
    · simp [e, e2]
  · simp [e]
theorem preHead : Pre cmpHead := by
  rw [cmpHead_lex]
  exact (preN.pull Tr.op).lex ((preS.pull Tr.name).lex (preN.pull (fun t : Tr => t.kids.length)))
theorem head_len {a b : Tr} (h : cmpHead a b = 0) : a.kids.length = b.kids.length := by
  rw [cmpHead_lex] at h
  unfold lex2 at h
  by_cases e : cmpN a.op b.op = 0
  · rw [if_pos e] at h
    by_cases e2 : cmpS a.name b.name = 0
    · rw [if_pos e2] at h; exact cmpN_zero.1 h
    · rw [if_neg e2] at h; exact absurd h e2
  · rw [if_neg e] at h; exact absurd h e
/-- Cmp, as deep as n. -/
def cmpD : Nat → Tr → Tr → Int
  | 0 => fun _ _ => 0
  | n + 1 => lex2 cmpHead (fun t u => rowL (cmpD n) t.kids u.kids)
theorem preD : ∀ n, Pre (cmpD n)
  | 0 => ⟨fun _ => rfl, fun _ _ => by simp [cmpD], fun _ _ _ h => by simp [cmpD] at h, fun _ _ _ _ => ⟨rfl, rfl⟩⟩
  | n + 1 => preHead.lex ((preL (preD n)).pull Tr.kids)
theorem rowCmp_row {c : Tr → Tr → Int} : ∀ (ks us : List Tr), ks.length = us.length → (∀ k ∈ ks, ∀ u, cmpT k u = c k u) → rowCmp (ks.map cmpT) us = rowL c ks us
  | [], [], _, _ => rfl
  | [], _ :: _, h, _ => by simp at h
  | _ :: _, [], h, _ => by simp at h
  | k :: ks, u :: us, h, hc => by
    rw [List.map_cons]
    unfold rowCmp rowL
    rw [hc k (by simp) u, rowCmp_row ks us (by simpa using h) (fun x hx => hc x (by simp [hx]))]
theorem cmpT_D : ∀ (n : Nat) (t u : Tr), t.size ≤ n → cmpT t u = cmpD n t u
  | 0, t, _, h => by have := Tr.size_pos t; omega
  | n + 1, t, u, h => by
    rw [cmpT_eq]
    show _ = lex2 cmpHead _ t u
    unfold lex2
    by_cases e : cmpHead t u = 0
    · rw [if_pos e, if_pos e]
      exact rowCmp_row t.kids u.kids (head_len e) (fun k hk v => cmpT_D n k v (by have := Tr.kid_size hk; omega))
    · rw [if_neg e, if_neg e]
theorem preT : Pre cmpT := by
  refine ⟨fun x => ?_, fun x y => ?_, fun x y z => ?_, fun x y z => ?_⟩
  · rw [cmpT_D x.size x x (Nat.le_refl _)]; exact (preD _).self x
  · rw [cmpT_D (x.size + y.size) x y (by omega), cmpT_D (x.size + y.size) y x (by omega)]; exact (preD _).flip x y
  · rw [cmpT_D (x.size + y.size) x y (by omega), cmpT_D (x.size + y.size) y z (by omega), cmpT_D (x.size + y.size) x z (by omega)]; exact (preD _).trans x y z
  · rw [cmpT_D (x.size + y.size + z.size) x y (by omega), cmpT_D (x.size + y.size + z.size) x z (by omega), cmpT_D (x.size + y.size + z.size) y z (by omega), cmpT_D (x.size + y.size + z.size) z x (by omega), cmpT_D (x.size + y.size + z.size) z y (by omega)]; exact (preD _).same x y z
theorem Pre.swo {α : Type} {c : α → α → Int} (h : Pre c) : Go.Sort.SWO (ltOf c) where
  irrefl x := by simp [ltOf, h.self]
  trans x y z h1 h2 := by
    simp only [ltOf, decide_eq_true_eq] at *
    exact h.trans x y z h1 h2
  ntrans x y z h1 h2 := by
    simp only [ltOf, decide_eq_false_iff_not] at *
    intro h3
    by_cases e : c x y = 0
    · rw [(h.same x y z e).1] at h3; exact h2 h3
    · have p1 : c y x < 0 := (h.flip y x).2 (by omega)
      exact h2 (h.trans y x z p1 h3)
end Go.Proofs.YtnjajafmmociiaaGreatDoor
