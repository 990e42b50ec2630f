/- tree.Cmp and what it calls. -/
import Derived.Test.YtddgciilcghbaaaDoorGF
import Derived.Deep.RegionHeld3
import Derived.Laws.Cover1
import Derived.Shelf.SlSortCmp.Insertion
import Derived.Deep.CutRange
import Derived.Sort.Grow
namespace Go.Proofs.YtddgciilcghbaaaDoor
open Go.RowKit Go.Shelf

set_option maxHeartbeats 400000 in
theorem nanOp (o : Nat) (w : World) : Calls Tryd.prog 98 #[.int .u8 (o : Nat)] w fun e w' => e = .returned (.bool false) ∧ w' = w := by
  go_enter Tryd.func98, Tryd.ntmps98
  go_wp2
  go_ret
  exact ⟨rfl, rfl⟩
set_option maxHeartbeats 400000 in
theorem nanInt (o : Int) (w : World) : Calls Tryd.prog 100 #[.int .i64 o] w fun e w' => e = .returned (.bool false) ∧ w' = w := by
  go_enter Tryd.func100, Tryd.ntmps100
  go_wp2
  go_ret
  exact ⟨rfl, rfl⟩
set_option maxHeartbeats 400000 in
theorem nanStr (s : ByteArray) (w : World) : Calls Tryd.prog 99 #[.string s] w fun e w' => e = .returned (.bool false) ∧ w' = w := by
  go_enter Tryd.func99, Tryd.ntmps99
  go_wp2
  go_ret
  exact ⟨rfl, rfl⟩
/-- Which comes first, as numbers; as texts. -/
def cmpN (a b : Nat) : Int := if a < b then -1 else if b < a then 1 else 0
def cmpS (a b : ByteArray) : Int := if Op.bytesLess a.toList b.toList then -1 else if a.toList == b.toList then 0 else 1
set_option maxHeartbeats 400000 in
theorem compareStr (a b : ByteArray) (w : World) : Calls Tryd.prog 53 #[.string a, .string b] w fun e w' => e = .returned (.int .i64 (cmpS a b)) ∧ w' = w := by
  obtain ⟨r, hr⟩ : ∃ r, cmpS a b = r := ⟨_, rfl⟩
  rw [hr]
  unfold cmpS at hr
  have HR : Hid _ := hr
  clear hr
  cases h1 : Op.bytesLess a.toList b.toList with
  | true =>
    rw [h1] at HR
    go_enter Tryd.func53, Tryd.ntmps53
    go_wp2_with (go_at_call 99; refine (nanStr _ _).mono ?_; rintro e w' ⟨rfl, rfl⟩)
    go_ret
    exact ⟨ret_int HR.out, rfl⟩
  | false =>
    rw [h1] at HR
    cases h2 : a.toList == b.toList with
    | true =>
      rw [h2] at HR
      go_enter Tryd.func53, Tryd.ntmps53
      go_wp2_with (go_at_call 99; refine (nanStr _ _).mono ?_; rintro e w' ⟨rfl, rfl⟩)
      go_ret
      exact ⟨ret_int HR.out, rfl⟩
    | false =>
      rw [h2] at HR
      go_enter Tryd.func53, Tryd.ntmps53
      go_wp2_with (go_at_call 99; refine (nanStr _ _).mono ?_; rintro e w' ⟨rfl, rfl⟩)
      go_ret
      exact ⟨ret_int HR.out, rfl⟩
set_option maxHeartbeats 400000 in
theorem compareOp (a b : Nat) (w : World) : Calls Tryd.prog 52 #[.int .u8 (a : Nat), .int .u8 (b : Nat)] w fun e w' => e = .returned (.int .i64 (cmpN a b)) ∧ w' = w := by
  obtain ⟨r, hr⟩ : ∃ r, cmpN a b = r := ⟨_, rfl⟩
  rw [hr]
  unfold cmpN at hr
  have HR : Hid _ := hr
  clear hr
  by_cases h1 : (a : Int) < (b : Int)
  · rw [if_pos (by omega)] at HR
    go_enter Tryd.func52, Tryd.ntmps52
    go_wp2_with (go_at_call 98; refine (nanOp _ _).mono ?_; rintro e w' ⟨rfl, rfl⟩)
    go_ret
    exact ⟨ret_int HR.out, rfl⟩
  · rw [if_neg (by omega)] at HR
    by_cases h2 : (b : Int) < (a : Int)
    · rw [if_pos (by omega)] at HR
      go_enter Tryd.func52, Tryd.ntmps52
      go_wp2_with (go_at_call 98; refine (nanOp _ _).mono ?_; rintro e w' ⟨rfl, rfl⟩)
      go_ret
      exact ⟨ret_int HR.out, rfl⟩
    · rw [if_neg (by omega)] at HR
      go_enter Tryd.func52, Tryd.ntmps52
      go_wp2_with (go_at_call 98; refine (nanOp _ _).mono ?_; rintro e w' ⟨rfl, rfl⟩)
      go_ret
      exact ⟨ret_int HR.out, rfl⟩
set_option maxHeartbeats 400000 in
theorem compareInt (a b : Nat) (w : World) : Calls Tryd.prog 54 #[.int .i64 (a : Nat), .int .i64 (b : Nat)] w fun e w' => e = .returned (.int .i64 (cmpN a b)) ∧ w' = w := by
  obtain ⟨r, hr⟩ : ∃ r, cmpN a b = r := ⟨_, rfl⟩
  rw [hr]
  unfold cmpN at hr
  have HR : Hid _ := hr
  clear hr
  by_cases h1 : (a : Int) < (b : Int)
  · rw [if_pos (by omega)] at HR
    go_enter Tryd.func54, Tryd.ntmps54
    go_wp2_with (go_at_call 100; refine (nanInt _ _).mono ?_; rintro e w' ⟨rfl, rfl⟩)
    go_ret
    exact ⟨ret_int HR.out, rfl⟩
  · rw [if_neg (by omega)] at HR
    by_cases h2 : (b : Int) < (a : Int)
    · rw [if_pos (by omega)] at HR
      go_enter Tryd.func54, Tryd.ntmps54
      go_wp2_with (go_at_call 100; refine (nanInt _ _).mono ?_; rintro e w' ⟨rfl, rfl⟩)
      go_ret
      exact ⟨ret_int HR.out, rfl⟩
    · rw [if_neg (by omega)] at HR
      go_enter Tryd.func54, Tryd.ntmps54
      go_wp2_with (go_at_call 100; refine (nanInt _ _).mono ?_; rintro e w' ⟨rfl, rfl⟩)
      go_ret
      exact ⟨ret_int HR.out, rfl⟩

/-- The first that is not 0. -/
def or3 (x y z : Int) : Int := if x ≠ 0 then x else if y ≠ 0 then y else z
set_option maxHeartbeats 1000000 in
theorem or_any (x y z : Int) (b : Nat) (w : World) (c0 : w.cell? ⟨b, 0, none⟩ = some (.int .i64 x)) (c1 : w.cell? ⟨b, 1, none⟩ = some (.int .i64 y)) (c2 : w.cell? ⟨b, 2, none⟩ = some (.int .i64 z)) :
    Calls Tryd.prog 51 #[.slice (some ⟨b, 0, none⟩) 3 3] w fun e w' => e = .returned (.int .i64 (or3 x y z)) ∧ w' = w := by
  obtain ⟨r, hr⟩ : ∃ r, or3 x y z = r := ⟨_, rfl⟩
  rw [hr]
  unfold or3 at hr
  have HR : Hid _ := hr
  clear hr
  go_enter Tryd.func51, Tryd.ntmps51
  go_wp2
  go_loop [8] (fun v => ∃ k : Nat, k ≤ 3 ∧ v = .int .i64 (k : Nat) ∧ (1 ≤ k → x = 0) ∧ (2 ≤ k → y = 0) ∧ (3 ≤ k → z = 0)) (fun v => 3 - (intOf v).toNat)
  case atStart => exact ⟨0, by omega, rfl, by omega, by omega, by omega⟩
  case round =>
    obtain ⟨k, hk, rfl, h1, h2, h3⟩ := hrel
    have hcase : k = 0 ∨ k = 1 ∨ k = 2 ∨ k = 3 := by omega
    rcases hcase with rfl | rfl | rfl | rfl
    · clear h1 h2 h3
      by_cases hx : x = 0
      · have hb : (x != 0) = false := by simp [hx]
        have HX : Hid _ := hx
        clear hx
        go_wp2
        go_round
        case rel => exact ⟨1, by omega, rfl, fun _ => HX.out, by omega, by omega⟩
        case measure => simp [intOf]
      · have hb : (x != 0) = true := by simp [hx]
        have HX : Hid _ := hx
        clear hx
        go_wp2
        go_ret
        exact ⟨ret_int (by rw [← HR.out, if_pos HX.out]), rfl⟩
    · have HX : Hid (x = 0) := h1 (by omega)
      clear h1 h2 h3
      by_cases hx : y = 0
      · have hb : (y != 0) = false := by simp [hx]
        have HY : Hid _ := hx
        clear hx
        go_wp2
        go_round
        case rel => exact ⟨2, by omega, rfl, fun _ => HX.out, fun _ => HY.out, by omega⟩
        case measure => simp [intOf]
      · have hb : (y != 0) = true := by simp [hx]
        have HY : Hid _ := hx
        clear hx
        go_wp2
        go_ret
        exact ⟨ret_int (by rw [← HR.out, if_neg (by simp [HX.out]), if_pos HY.out]), rfl⟩
    · have HX : Hid (x = 0) := h1 (by omega)
      have HY : Hid (y = 0) := h2 (by omega)
      clear h1 h2 h3
      by_cases hx : z = 0
      · have hb : (z != 0) = false := by simp [hx]
        have HZ : Hid _ := hx
        clear hx
        go_wp2
        go_round
        case rel => exact ⟨3, by omega, rfl, fun _ => HX.out, fun _ => HY.out, fun _ => HZ.out⟩
        case measure => simp [intOf]
      · have hb : (z != 0) = true := by simp [hx]
        clear hx
        go_wp2
        go_ret
        exact ⟨ret_int (by rw [← HR.out, if_neg (by simp [HX.out]), if_neg (by simp [HY.out])]), rfl⟩
    · have HX : Hid (x = 0) := h1 (by omega)
      have HY : Hid (y = 0) := h2 (by omega)
      have HZ : Hid (z = 0) := h3 (by omega)
      clear h1 h2 h3
      go_wp2
      go_ret
      exact ⟨ret_int (by rw [← HR.out, if_neg (by simp [HX.out]), if_neg (by simp [HY.out]), HZ.out]), rfl⟩

/-- The order of trees. -/
def cmpHead (a b : Tr) : Int := or3 (cmpN a.op b.op) (cmpS a.name b.name) (cmpN a.kids.length b.kids.length)
def rowCmp : List (Tr → Int) → List Tr → Int
  | r :: rs, u :: us => if r u = 0 then rowCmp rs us else r u
  | _, _ => 0
def cmpT : Tr → Tr → Int := Tr.para (fun t rs u => if cmpHead t u = 0 then rowCmp rs u.kids else cmpHead t u)
theorem cmpT_eq (t u : Tr) : cmpT t u = if cmpHead t u = 0 then rowCmp (t.kids.map cmpT) u.kids else cmpHead t u := congrFun (Tr.para_eq _ t) u
theorem rowCmp_zero : ∀ (rs : List (Tr → Int)) (us : List Tr), (∀ j (h : j < rs.length) (h' : j < us.length), rs[j] us[j] = 0) → rowCmp rs us = 0
  | [], _, _ => by simp [rowCmp]
  | _ :: _, [], _ => by simp [rowCmp]
  | r :: rs, u :: us, h => by
    rw [rowCmp, if_pos (show r u = 0 from h 0 (by simp) (by simp))]
    exact rowCmp_zero rs us (fun j h1 h2 => h (j + 1) (by simpa using h1) (by simpa using h2))
theorem rowCmp_at : ∀ (i : Nat) (rs : List (Tr → Int)) (us : List Tr) (h : i < rs.length) (h' : i < us.length), (∀ j (h : j < rs.length) (h' : j < us.length), j < i → rs[j] us[j] = 0) → rs[i] us[i] ≠ 0 → rowCmp rs us = rs[i] us[i]
  | _, [], _, h, _, _, _ => by simp at h
  | _, _ :: _, [], _, h', _, _ => by simp at h'
  | 0, r :: rs, u :: us, _, _, _, hne => by
    rw [rowCmp]; exact if_neg hne
  | i + 1, r :: rs, u :: us, h, h', hz, hne => by
    rw [rowCmp, if_pos (show r u = 0 from hz 0 (by simp) (by simp) (by omega))]
    exact rowCmp_at i rs us (by simpa using h) (by simpa using h') (fun j h1 h2 hj => hz (j + 1) (by simpa using h1) (by simpa using h2) (by omega)) hne
end Go.Proofs.YtddgciilcghbaaaDoor

/- Cmp sets all trees in one row. No walk here. -/
namespace Go.Proofs.YtddgciilcghbaaaDoor
open Go.RowKit Go.Shelf

/-- A comparison that sets things in a row, alike ones side by side. -/
structure Pre {α : Type} (c : α → α → Int) : Prop where
  self : ∀ x, c x x = 0
  flip : ∀ x y, c x y < 0 ↔ 0 < c y x
  trans : ∀ x y z, c x y < 0 → c y z < 0 → c x z < 0
  same : ∀ x y z, c x y = 0 → c x z = c y z ∧ c z x = c z y
theorem Pre.sym {α : Type} {c : α → α → Int} (h : Pre c) {x y : α} (e : c x y = 0) : c y x = 0 := by
  have := (h.same x y x e).1
  rw [h.self] at this
  exact this.symm
theorem Pre.pull {α β : Type} {c : α → α → Int} (h : Pre c) (f : β → α) : Pre (fun x y => c (f x) (f y)) :=
  ⟨fun _ => h.self _, fun _ _ => h.flip _ _, fun _ _ _ => h.trans _ _ _, fun _ _ _ => h.same _ _ _⟩
def lex2 {α : Type} (c d : α → α → Int) (x y : α) : Int := if c x y = 0 then d x y else c x y
theorem Pre.lex {α : Type} {c d : α → α → Int} (h : Pre c) (k : Pre d) : Pre (lex2 c d) := by
  refine ⟨fun x => ?_, fun x y => ?_, fun x y z h1 h2 => ?_, fun x y z e => ?_⟩
  · unfold lex2; rw [if_pos (h.self x)]; exact k.self x
  · unfold lex2
    by_cases e : c x y = 0
    · rw [if_pos e, if_pos (h.sym e)]; exact k.flip x y
    · rw [if_neg e, if_neg (fun e' => e (h.sym e'))]; exact h.flip x y
  · unfold lex2 at *
    by_cases e : c x y = 0
    · rw [if_pos e] at h1
      obtain ⟨q1, _⟩ := h.same x y z e
      rw [q1]
      by_cases e2 : c y z = 0
      · rw [if_pos e2] at h2 ⊢; exact k.trans x y z h1 h2
      · rw [if_neg e2] at h2 ⊢; exact h2
    · rw [if_neg e] at h1
      by_cases e2 : c y z = 0
      · have q := (h.same y z x e2).2
        rw [← q, if_neg e]; exact h1
      · rw [if_neg e2] at h2
        have := h.trans x y z h1 h2
        rw [if_neg (by omega)]; exact this
  · unfold lex2 at *
    by_cases e1 : c x y = 0
    · rw [if_pos e1] at e
      obtain ⟨q1, q2⟩ := h.same x y z e1
      obtain ⟨r1, r2⟩ := k.same x y z e
      rw [q1, q2, r1, r2]; exact ⟨rfl, rfl⟩
    · rw [if_neg e1] at e; exact absurd e e1
theorem preN : Pre cmpN := by
  refine ⟨fun x => ?_, fun x y => ?_, fun x y z => ?_, fun x y z e => ?_⟩
  · simp [cmpN]
  · unfold cmpN; split <;> split <;> (try split) <;> (try split) <;> omega
  · unfold cmpN; intro h1 h2
    have a1 : x < y := by
      by_cases q : x < y
      · exact q
      · rw [if_neg q] at h1; split at h1 <;> omega
    have a2 : y < z := by
      by_cases q : y < z
      · exact q
      · rw [if_neg q] at h2; split at h2 <;> omega
    rw [if_pos (by omega)]; omega
  · have : x = y := by
      unfold cmpN at e
      by_cases q : x < y
      · rw [if_pos q] at e; omega
      · rw [if_neg q] at e
        by_cases q2 : y < x
        · rw [if_pos q2] at e; omega
        · omega
    subst this; exact ⟨rfl, rfl⟩
/-- Rows, one against the other. -/
def rowL {α : Type} (c : α → α → Int) : List α → List α → Int
  | [], [] => 0
  | [], _ :: _ => -1
  | _ :: _, [] => 1
  | x :: xs, y :: ys => if c x y = 0 then rowL c xs ys else c x y
theorem preL {α : Type} {c : α → α → Int} (h : Pre c) : Pre (rowL c) := by
  refine ⟨fun x => ?_, fun x => ?_, fun x => ?_, fun x => ?_⟩
  · induction x with
    | nil => rfl
    | cons a r ih => unfold rowL; rw [if_pos (h.self a)]; exact ih
  · induction x with
    | nil => intro y; cases y <;> simp [rowL]
    | cons a r ih =>
      intro y
      cases y with
      | nil => simp [rowL]
      | cons b s =>
        unfold rowL
        by_cases e : c a b = 0
        · rw [if_pos e, if_pos (h.sym e)]; exact ih s
        · rw [if_neg e, if_neg (fun e' => e (h.sym e'))]; exact h.flip a b
  · induction x with
    | nil =>
      intro y z
      cases y with
      | nil => intro h1; simp [rowL] at h1
      | cons b s => cases z <;> simp [rowL]
    | cons a r ih =>
      intro y z
      cases y with
      | nil => intro h1; simp [rowL] at h1
      | cons b s =>
        cases z with
        | nil => intro _ h2; simp [rowL] at h2
        | cons d u =>
          unfold rowL
          intro h1 h2
          by_cases e : c a b = 0
          · rw [if_pos e] at h1
            obtain ⟨q1, _⟩ := h.same a b d e
            rw [q1]
            by_cases e2 : c b d = 0
            · rw [if_pos e2] at h2 ⊢; exact ih s u h1 h2
            · rw [if_neg e2] at h2 ⊢; exact h2
          · rw [if_neg e] at h1
            by_cases e2 : c b d = 0
            · have q := (h.same b d a e2).2
              rw [← q, if_neg e]; exact h1
            · rw [if_neg e2] at h2
              have := h.trans a b d h1 h2
              rw [if_neg (by omega)]; exact this
  · induction x with
    | nil =>
      intro y z e
      cases y with
      | nil => exact ⟨rfl, rfl⟩
      | cons b s => simp [rowL] at e
    | cons a r ih =>
      intro y z e
      cases y with
      | nil => simp [rowL] at e
      | cons b s =>
        unfold rowL at e
        by_cases e1 : c a b = 0
        · rw [if_pos e1] at e
          cases z with
          | nil => exact ⟨rfl, rfl⟩
          | cons d u =>
            obtain ⟨q1, q2⟩ := h.same a b d e1
            obtain ⟨r1, r2⟩ := ih s u e
            unfold rowL
            rw [q1, q2, r1, r2]; exact ⟨rfl, rfl⟩
        · rw [if_neg e1] at e; exact absurd e e1
def bytC (x y : UInt8) : Int := cmpN x.toNat y.toNat
theorem cmpN_zero {a b : Nat} : cmpN a b = 0 ↔ a = b := by
  unfold cmpN
  constructor
  · intro e
    by_cases q : a < b
    · rw [if_pos q] at e; omega
    · rw [if_neg q] at e
      by_cases q2 : b < a
      · rw [if_pos q2] at e; omega
      · omega
  · rintro rfl; simp
theorem cmpS_row : ∀ x y : List UInt8, (if Op.bytesLess x y then (-1 : Int) else if x == y then 0 else 1) = rowL bytC x y
  | [], [] => rfl
  | [], _ :: _ => rfl
  | _ :: _, [] => rfl
  | a :: x, b :: y => by
    have ih := cmpS_row x y
    unfold rowL
    by_cases e : a = b
    · subst e
      rw [if_pos (show bytC a a = 0 from cmpN_zero.2 rfl), ← ih]
      have h1 : Op.bytesLess (a :: x) (a :: y) = Op.bytesLess x y := by simp [Op.bytesLess]
      have h2 : ((a :: x) == (a :: y)) = (x == y) := by simp
      rw [h1, h2]
    · have hn : a.toNat ≠ b.toNat := fun q => e (UInt8.toNat_inj.1 q)
      rw [if_neg (show ¬ bytC a b = 0 from fun q => hn (cmpN_zero.1 q))]
      have h2 : ((a :: x) == (b :: y)) = false := by simp [e]
      have h1 : Op.bytesLess (a :: x) (b :: y) = decide (a < b) := by simp [Op.bytesLess, e]
      rw [h1, h2]
      unfold bytC cmpN
      by_cases q : a < b
      · have q' : a.toNat < b.toNat := q
        rw [if_pos q', decide_eq_true q]; rfl
      · have q' : ¬ a.toNat < b.toNat := q
        rw [decide_eq_false q, if_neg q', if_pos (show b.toNat < a.toNat by omega)]; rfl
theorem preS : Pre cmpS := by
  have h : cmpS = fun a b : ByteArray => rowL bytC a.toList b.toList := by
    funext a b
    exact cmpS_row a.toList b.toList
  rw [h]
  exact (preL (preN.pull UInt8.toNat)).pull ByteArray.toList
theorem cmpHead_lex : cmpHead = lex2 (fun a b : Tr => cmpN a.op b.op) (lex2 (fun a b : Tr => cmpS a.name b.name) (fun a b : Tr => cmpN a.kids.length b.kids.length)) := by
  funext a b
  unfold cmpHead or3 lex2
  by_cases e : cmpN a.op b.op = 0
  · by_cases e2 : cmpS a.name b.name = 0
    · simp [e, e2]
    · simp [e, e2]
  · simp [e]
theorem preHead : Pre cmpHead := by
  rw [cmpHead_lex]
  exact (preN.pull Tr.op).lex ((preS.pull Tr.name).lex (preN.pull (fun t : Tr => t.kids.length)))
theorem head_len {a b : Tr} (h : cmpHead a b = 0) : a.kids.length = b.kids.length := by
  rw [cmpHead_lex] at h
  unfold lex2 at h
  by_cases e : cmpN a.op b.op = 0
  · rw [if_pos e] at h
    by_cases e2 : cmpS a.name b.name = 0
    · rw [if_pos e2] at h; exact cmpN_zero.1 h
    · rw [if_neg e2] at h; exact absurd h e2
  · rw [if_neg e] at h; exact absurd h e
/-- Cmp, as deep as n. -/
def cmpD : Nat → Tr → Tr → Int
  | 0 => fun _ _ => 0
  | n + 1 => lex2 cmpHead (fun t u => rowL (cmpD n) t.kids u.kids)
theorem preD : ∀ n, Pre (cmpD n)
  | 0 => ⟨fun _ => rfl, fun _ _ => by simp [cmpD], fun _ _ _ h => by simp [cmpD] at h, fun _ _ _ _ => ⟨rfl, rfl⟩⟩
  | n + 1 => preHead.lex ((preL (preD n)).pull Tr.kids)
theorem rowCmp_row {c : Tr → Tr → Int} : ∀ (ks us : List Tr), ks.length = us.length → (∀ k ∈ ks, ∀ u, cmpT k u = c k u) → rowCmp (ks.map cmpT) us = rowL c ks us
  | [], [], _, _ => rfl
  | [], _ :: _, h, _ => by simp at h
  | _ :: _, [], h, _ => by simp at h
  | k :: ks, u :: us, h, hc => by
    rw [List.map_cons]
    unfold rowCmp rowL
    rw [hc k (by simp) u, rowCmp_row ks us (by simpa using h) (fun x hx => hc x (by simp [hx]))]
theorem cmpT_D : ∀ (n : Nat) (t u : Tr), t.size ≤ n → cmpT t u = cmpD n t u
  | 0, t, _, h => by have := Tr.size_pos t; omega
  | n + 1, t, u, h => by
    rw [cmpT_eq]
    show _ = lex2 cmpHead _ t u
    unfold lex2
    by_cases e : cmpHead t u = 0
    · rw [if_pos e, if_pos e]
      exact rowCmp_row t.kids u.kids (head_len e) (fun k hk v => cmpT_D n k v (by have := Tr.kid_size hk; omega))
    · rw [if_neg e, if_neg e]
theorem preT : Pre cmpT := by
  refine ⟨fun x => ?_, fun x y => ?_, fun x y z => ?_, fun x y z => ?_⟩
  · rw [cmpT_D x.size x x (Nat.le_refl _)]; exact (preD _).self x
  · rw [cmpT_D (x.size + y.size) x y (by omega), cmpT_D (x.size + y.size) y x (by omega)]; exact (preD _).flip x y
  · rw [cmpT_D (x.size + y.size) x y (by omega), cmpT_D (x.size + y.size) y z (by omega), cmpT_D (x.size + y.size) x z (by omega)]; exact (preD _).trans x y z
  · rw [cmpT_D (x.size + y.size + z.size) x y (by omega), cmpT_D (x.size + y.size + z.size) x z (by omega), cmpT_D (x.size + y.size + z.size) y z (by omega), cmpT_D (x.size + y.size + z.size) z x (by omega), cmpT_D (x.size + y.size + z.size) z y (by omega)]; exact (preD _).same x y z
theorem Pre.swo {α : Type} {c : α → α → Int} (h : Pre c) : Go.Sort.SWO (ltOf c) where
  irrefl x := by simp [ltOf, h.self]
  trans x y z h1 h2 := by
    simp only [ltOf, decide_eq_true_eq] at *
    exact h.trans x y z h1 h2
  ntrans x y z h1 h2 := by
    simp only [ltOf, decide_eq_false_iff_not] at *
    intro h3
    by_cases e : c x y = 0
    · rw [(h.same x y z e).1] at h3; exact h2 h3
    · have p1 : c y x < 0 := (h.flip y x).2 (by omega)
      exact h2 (h.trans y x z p1 h3)
end Go.Proofs.YtddgciilcghbaaaDoor

/- Trees that Cmp finds alike are one tree. -/
namespace Go.Proofs.YtddgciilcghbaaaDoor
open Go.RowKit Go.Shelf

theorem cmpS_zero {a b : ByteArray} (h : cmpS a b = 0) : a = b := by
  unfold cmpS at h
  split at h
  · simp at h
  · split at h
    · rename_i e
      have e' : a.toList = b.toList := by simpa using e
      rw [ByteArray.toList_eq, ByteArray.toList_eq] at e'
      exact ByteArray.ext (Array.toList_inj.1 e')
    · simp at h
theorem rowCmp_each : ∀ (rs : List (Tr → Int)) (us : List Tr), rs.length = us.length → rowCmp rs us = 0 → ∀ i (h : i < rs.length) (h' : i < us.length), rs[i] us[i] = 0
  | [], _, _, _, i, h, _ => by simp at h
  | r :: rs, [], h, _, _, _, _ => by simp at h
  | r :: rs, u :: us, hl, h, i, hi, hj => by
    rw [rowCmp] at h
    split at h
    · rename_i e
      cases i with
      | zero => exact e
      | succ i => exact rowCmp_each rs us (by simpa using hl) h i (by simpa using hi) (by simpa using hj)
    · rename_i e; exact absurd h e
theorem or3_zero {x y z : Int} (h : or3 x y z = 0) : x = 0 ∧ y = 0 ∧ z = 0 := by
  unfold or3 at h
  split at h
  · rename_i e; exact absurd h e
  · split at h
    · rename_i e; exact absurd h e
    · rename_i e1 e2
      exact ⟨by simpa using e1, by simpa using e2, h⟩
theorem cmpT_zero (t : Tr) : ∀ u, cmpT t u = 0 → t = u := by
  induction t using Tr.ind with
  | h t ih =>
    intro u h
    rw [cmpT_eq] at h
    by_cases hh : cmpHead t u = 0
    · rw [if_pos hh] at h
      obtain ⟨h1, h2, h3⟩ := or3_zero hh
      have e1 := cmpN_zero.1 h1
      have e2 := cmpS_zero h2
      have e3 := cmpN_zero.1 h3
      have e4 : t.kids = u.kids := by
        refine List.ext_getElem e3 fun i hi hj => ?_
        have hr := rowCmp_each (t.kids.map cmpT) u.kids (by simpa using e3) h i (by simpa using hi) hj
        rw [List.getElem_map] at hr
        exact ih _ (List.getElem_mem hi) _ hr
      cases t; cases u
      simp only at e1 e2 e4
      subst e1 e2 e4
      rfl
    · rw [if_neg hh] at h
      exact absurd h hh
end Go.Proofs.YtddgciilcghbaaaDoor

/- tree.Cmp: of any two trees. -/
namespace Go.Proofs.YtddgciilcghbaaaDoor
open Go.RowKit Go.Shelf

/-- Nothing has turned: draws and new blocks alone. -/
def Grew (w w' : World) : Prop := ∃ (q : Nat) (os : Array Obj), w' = Go.Sort.grow (w.drewN q) os
theorem Grew.refl (w : World) : Grew w w := ⟨0, #[], by simp [World.drewN]⟩
theorem Grew.alloc {w w' : World} (h : Grew w w') (o : Obj) : Grew w (w'.alloc o) := by
  obtain ⟨q, os, rfl⟩ := h
  exact ⟨q, os ++ #[o], by rw [Go.Sort.alloc_eq_grow, Go.Sort.grow_grow]⟩
theorem Grew.drew {w w' : World} (h : Grew w w') : Grew w w'.drew := by
  obtain ⟨q, os, rfl⟩ := h
  exact ⟨q + 1, os, rfl⟩
theorem Grew.trans {a b c : World} (h : Grew a b) (k : Grew b c) : Grew a c := by
  obtain ⟨q, os, rfl⟩ := h
  obtain ⟨r, os', rfl⟩ := k
  exact ⟨q + r, os ++ os', by simp [Go.Sort.grow, World.drewN, Array.append_assoc, Nat.add_assoc]⟩
theorem Grew.kept {w w' : World} (h : Grew w w') : Kept [] w w' := by
  obtain ⟨q, os, rfl⟩ := h
  exact ⟨rfl, rfl, rfl, by simp [Go.Sort.grow, World.drewN], fun i hi _ => by
    show ((w.heap ++ os)[i]?) = _
    rw [Array.getElem?_append_left hi]⟩
/-- What Cmp does of t, in each world. -/
def CmpDoes (t : Tr) : Prop := ∀ (u : Tr) (kv lv : Value) (w : World), IsF w t kv → IsF w u lv → t.size ≤ 1099511627776 → u.size ≤ 1099511627776 →
  Calls Tryd.prog 20 #[.agg #[.int .u8 (t.op : Nat), .string t.name, kv], .agg #[.int .u8 (u.op : Nat), .string u.name, lv]] w fun e w' => e = .returned (.int .i64 (cmpT t u)) ∧ Grew w w'

set_option maxHeartbeats 1000000 in
set_option maxRecDepth 20000 in
theorem compareRow (t u : Tr) (kv lv : Value) (w : World) (hI : IsF w t kv) (hJ : IsF w u lv) (hs : t.size ≤ 1099511627776) (hsu : u.size ≤ 1099511627776) (hl : t.kids.length = u.kids.length) (ih : ∀ k ∈ t.kids, CmpDoes k) :
    Calls Tryd.prog 55 #[kv, lv, .func (.func 20) #[] #[]] w fun e w' => e = .returned (.int .i64 (rowCmp (t.kids.map cmpT) u.kids)) ∧ Grew w w' := by
  obtain ⟨r, hr⟩ : ∃ r, rowCmp (t.kids.map cmpT) u.kids = r := ⟨_, rfl⟩
  rw [hr]
  obtain ⟨kad, kcap, rfl⟩ := hI.slice
  obtain ⟨lad, lcap, rfl⟩ := hJ.slice
  rw [← hl] at hJ ⊢
  have hen : ∀ args w, (callFunc 20 args).run Tryd.prog w = .ok (.enter 20 args) w := enters_of Tryd.func20 (by kernel_rfl) rfl
  have HR : Hid _ := hr
  have HL : Hid _ := hl
  have HIH : Hid _ := ih
  have HI : Hid (IsT (fun k => k < w.heap.size) w t (.slice kad t.kids.length kcap)) := hI
  have HJ : Hid (IsT (fun k => k < w.heap.size) w u (.slice lad t.kids.length lcap)) := hJ
  have hlen : t.kids.length ≤ 1099511627776 := by have := t.kids_size; omega
  clear hr hl ih hI hJ
  go_enter Tryd.func55, Tryd.ntmps55
  go_wp2
  go_loopw [13] (fun v wr => ∃ i : Nat, v = .int .i64 (i : Nat) ∧ i ≤ t.kids.length ∧ Hid (Grew w wr ∧ ∀ j (h : j < t.kids.length) (h' : j < u.kids.length), j < i → cmpT t.kids[j] u.kids[j] = 0)) (fun v _ => t.kids.length - (intOf v).toNat)
  case atStart => exact ⟨0, rfl, Nat.zero_le _, Grew.refl w, fun j _ _ h => by omega⟩
  case round =>
    obtain ⟨i, rfl, hi, HW⟩ := hrel
    by_cases hlt : i < t.kids.length
    · have hlu : i < u.kids.length := by have := HL.out; omega
      obtain ⟨kb, koff, rfl, _, hkid⟩ := HI.out.kid (by omega)
      obtain ⟨lb, loff, rfl, _, hlid⟩ := HJ.out.kid (by omega)
      obtain ⟨kv, c0, c1, c2, hIk⟩ := hkid i hlt
      obtain ⟨lv, e0, e1, e2, hIl⟩ := hlid i hlu
      obtain ⟨ckad, ckcap, rfl⟩ := hIk.slice
      obtain ⟨clad, clcap, rfl⟩ := hIl.slice
      obtain ⟨k, hk⟩ : ∃ k, t.kids[i] = k := ⟨_, rfl⟩
      obtain ⟨l, hll⟩ : ∃ l, u.kids[i] = l := ⟨_, rfl⟩
      have hkm : k ∈ t.kids := by rw [← hk]; exact List.getElem_mem _
      have hlm : l ∈ u.kids := by rw [← hll]; exact List.getElem_mem _
      rw [hk] at c0 c1 c2 hIk
      rw [hll] at e0 e1 e2 hIl
      have kw := HW.out.1
      have c0 := cell_kept0 kw.kept c0
      have c1 := cell_kept0 kw.kept c1
      have c2 := cell_kept0 kw.kept c2
      have e0 := cell_kept0 kw.kept e0
      have e1 := cell_kept0 kw.kept e1
      have e2 := cell_kept0 kw.kept e2
      have lk : kb < wr.heap.size := World.block_lt_of_cell? wr _ c0
      have ll : lb < wr.heap.size := World.block_lt_of_cell? wr _ e0
      have nk1 : ¬ kb = wr.heap.size := by omega
      have nk2 : ¬ wr.heap.size = kb := by omega
      have nl1 : ¬ lb = wr.heap.size := by omega
      have nl2 : ¬ wr.heap.size = lb := by omega
      have a0 := fun o => cell_kept0 ((Grew.refl wr).alloc o).kept e0
      have a1 := fun o => cell_kept0 ((Grew.refl wr).alloc o).kept e1
      have a2 := fun o => cell_kept0 ((Grew.refl wr).alloc o).kept e2
      obtain ⟨c, hc⟩ : ∃ c, cmpT k l = c := ⟨_, rfl⟩
      have hrec := fun W (kk : Grew wr W) => HIH.out k hkm l (.slice ckad k.kids.length ckcap) (.slice clad l.kids.length clcap) W (IsF.kept (IsF.kept hIk kw.kept) kk.kept) (IsF.kept (IsF.kept hIl kw.kept) kk.kept) (by have := Tr.kid_size hkm; omega) (by have := Tr.kid_size hlm; omega)
      rw [hc] at hrec
      have HREC : Hid _ := hrec
      have HC : Hid (cmpT t.kids[i] u.kids[i] = c) := by show cmpT t.kids[i] u.kids[i] = c; rw [hk, hll]; exact hc
      have hii : (i : Int) < (t.kids.length : Int) := by omega
      clear hIk hIl hkid hlid hrec hc hk hll kw
      by_cases hz : c = 0
      · have hb : (c != 0) = false := by simp [hz]
        have HZ : Hid _ := hz
        clear hz
        go_wp2_with (go_at_fn 20; refine (HREC.out _ (((Grew.refl wr).alloc _).alloc _)).mono ?_; rintro e W5 ⟨rfl, hk5⟩)
        go_roundw
        case rel =>
          refine ⟨i + 1, by go_num, by omega, (HW.out.1.trans (((Grew.refl wr).alloc _).alloc _)).trans hk5, fun j h h' hj => ?_⟩
          rcases Nat.lt_or_ge j i with hh | hh
          · exact HW.out.2 j h h' hh
          · obtain rfl : j = i := by omega
            exact HC.out.trans HZ.out
        case measure => simp [intOf]; omega
      · have hb : (c != 0) = true := by simp [hz]
        have HZ : Hid _ := hz
        clear hz
        go_wp2_with (go_at_fn 20; refine (HREC.out _ (((Grew.refl wr).alloc _).alloc _)).mono ?_; rintro e W5 ⟨rfl, hk5⟩)
        go_ret
        refine ⟨ret_int ?_, (HW.out.1.trans (((Grew.refl wr).alloc _).alloc _)).trans hk5⟩
        rw [← HR.out, rowCmp_at i (t.kids.map cmpT) u.kids (by simpa using hlt) hlu (fun j h h' hj => by simpa using HW.out.2 j (by simpa using h) h' hj) (by simpa using (fun h => HZ.out (HC.out.symm.trans h)))]
        simpa using HC.out.symm
    · have he : i = t.kids.length := by omega
      have hz : rowCmp (t.kids.map cmpT) u.kids = 0 := rowCmp_zero _ _ (fun j h h' => by simpa using HW.out.2 j (by simpa using h) h' (by rw [he]; simpa using h))
      have hlt' : ¬ ((t.kids.length : Int) < (t.kids.length : Int)) := by omega
      clear hlt
      subst he
      go_wp2
      go_ret
      exact ⟨ret_int (hz.symm.trans HR.out), HW.out.1⟩

set_option maxHeartbeats 2000000 in
set_option maxRecDepth 20000 in
theorem cmp_any (t : Tr) : CmpDoes t := by
  induction t using Tr.ind with
  | h t ih =>
    intro u kv lv w hI hJ hs hsu
    obtain ⟨r, hr⟩ : ∃ r, cmpT t u = r := ⟨_, rfl⟩
    rw [hr]
    have hrow := fun (hl : t.kids.length = u.kids.length) W (k : Grew w W) => compareRow t u kv lv W (hI.kept k.kept) (hJ.kept k.kept) hs hsu hl ih
    obtain ⟨kad, kcap, rfl⟩ := hI.slice
    obtain ⟨lad, lcap, rfl⟩ := hJ.slice
    rw [cmpT_eq] at hr
    have HR : Hid _ := hr
    have HROW : Hid _ := hrow
    have hlt : t.kids.length ≤ 1099511627776 := by have := t.kids_size; omega
    have hlu : u.kids.length ≤ 1099511627776 := by have := u.kids_size; omega
    clear hr hrow ih hI hJ
    obtain ⟨x, hx⟩ : ∃ x, cmpN t.op u.op = x := ⟨_, rfl⟩
    obtain ⟨y, hy⟩ : ∃ y, cmpS t.name u.name = y := ⟨_, rfl⟩
    obtain ⟨z, hz⟩ : ∃ z, cmpN t.kids.length u.kids.length = z := ⟨_, rfl⟩
    have HX : Hid _ := fun W => compareOp t.op u.op W
    have HY : Hid _ := fun W => compareStr t.name u.name W
    have HZ : Hid _ := fun W => compareInt t.kids.length u.kids.length W
    simp only [hx] at HX
    simp only [hy] at HY
    simp only [hz] at HZ
    have HH : Hid (cmpHead t u = or3 x y z) := by show cmpHead t u = _; unfold cmpHead; rw [hx, hy, hz]
    have HZZ : Hid _ := hz
    clear hx hy hz
    obtain ⟨V, hV⟩ : ∃ V, (w.alloc (.cells #[.int .u8 (t.op : Nat), .string t.name, .slice kad t.kids.length kcap] 25)).alloc (.cells #[.int .u8 (u.op : Nat), .string u.name, .slice lad u.kids.length lcap] 25) = V := ⟨_, rfl⟩
    have kV : Grew w V := by rw [← hV]; exact ((Grew.refl w).alloc _).alloc _
    have v0 : For3 V w.heap.size (.int .u8 (t.op : Nat)) (.string t.name) (.slice kad t.kids.length kcap) := by rw [← hV]; exact alUp (al0 _ _) _
    have v1 : For3 V (w.heap.size + 1) (.int .u8 (u.op : Nat)) (.string u.name) (.slice lad u.kids.length lcap) := by rw [← hV]; exact al1 _ _ _
    obtain ⟨c0, c1, c2, _⟩ := v0.cells
    obtain ⟨e0, e1, e2, _⟩ := v1.cells
    have l0 := lt_of v0
    have l1 := lt_of v1
    have n1 : ¬ w.heap.size = V.heap.size := by omega
    have n2 : ¬ V.heap.size = w.heap.size := by omega
    have n3 : ¬ w.heap.size + 1 = V.heap.size := by omega
    have n4 : ¬ V.heap.size = w.heap.size + 1 := by omega
    have HK : Hid (Grew w V) := kV
    have HV : Hid _ := hV
    have HV0 : Hid (For3 V w.heap.size (.int .u8 (t.op : Nat)) (.string t.name) (.slice kad t.kids.length kcap)) := v0
    have HV1 : Hid (For3 V (w.heap.size + 1) (.int .u8 (u.op : Nat)) (.string u.name) (.slice lad u.kids.length lcap)) := v1
    clear hV kV v0 v1
    go_enter Tryd.func20, Tryd.ntmps20
    go_wp2
    rw [HV.out]
    go_cut [5] from 6 to 24 (fun s5 wc => s5 = .int .i64 (or3 x y z) ∧ Hid (Grew V wc))
    case first =>
      clear HR HROW HH HZZ
      go_region_held3 (fun w' => w'.cell? ⟨w.heap.size, 0, none⟩ = some (.int .u8 (t.op : Nat)) ∧ w'.cell? ⟨w.heap.size, 1, none⟩ = some (.string t.name) ∧ w'.cell? ⟨w.heap.size, 2, none⟩ = some (.slice kad t.kids.length kcap) ∧ w'.cell? ⟨w.heap.size + 1, 0, none⟩ = some (.int .u8 (u.op : Nat)) ∧ w'.cell? ⟨w.heap.size + 1, 1, none⟩ = some (.string u.name) ∧ w'.cell? ⟨w.heap.size + 1, 2, none⟩ = some (.slice lad u.kids.length lcap))
        (go_keep)
        (first
        | (go_at_call 52; refine (HX.out _).mono ?_; rintro e w' ⟨rfl, rfl⟩)
        | (go_at_call 53; refine (HY.out _).mono ?_; rintro e w' ⟨rfl, rfl⟩)
        | (go_at_call 54; refine (HZ.out _).mono ?_; rintro e w' ⟨rfl, rfl⟩)
        | (go_at_call 51; refine (or_any x y z V.heap.size _ (by simp) (by simp) (by simp)).mono ?_; rintro e w' ⟨rfl, rfl⟩))
      all_goals (go_wp2_with fail; go_meet)
      all_goals exact ⟨rfl, ((Grew.refl V).alloc _).drew⟩
    case rest =>
      obtain ⟨rfl, HC⟩ := hcut
      obtain ⟨c0, c1, c2, _⟩ := (HV0.out.kept HC.out.kept).cells
      obtain ⟨e0, e1, e2, _⟩ := (HV1.out.kept HC.out.kept).cells
      have HKW : Hid (Grew w wc) := HK.out.trans HC.out
      by_cases ho : or3 x y z = 0
      · have hb : (or3 x y z != 0) = false := by simp [ho]
        have hl : t.kids.length = u.kids.length := by
          have hz0 : z = 0 := by
            unfold or3 at ho
            split at ho
            · rename_i h; exact absurd ho h
            · split at ho
              · rename_i h; exact absurd ho h
              · exact ho
          have := HZZ.out
          rw [hz0] at this
          unfold cmpN at this
          split at this
          · cases this
          · split at this
            · cases this
            · omega
        have HRW : Hid _ := HROW.out hl
        have HRR : Hid (rowCmp (t.kids.map cmpT) u.kids = r) := by
          show _ = r
          have := HR.out
          rwa [if_pos (HH.out.trans ho)] at this
        have HO : Hid _ := ho
        clear ho hl HROW
        rw [HRR.out] at HRW
        generalize hq : or3 x y z = q at hb ⊢
        clear hq
        go_wp2_with (go_at_call 55; refine (HRW.out _ HKW.out).mono ?_; rintro e w5 ⟨rfl, hk5⟩)
        go_ret
        exact ⟨rfl, HKW.out.trans hk5⟩
      · have hb : (or3 x y z != 0) = true := by simp [ho]
        have HRR : Hid (or3 x y z = r) := by
          show _ = r
          have := HR.out
          rwa [if_neg (fun h => ho (HH.out.symm.trans h)), HH.out] at this
        clear ho HROW
        rw [HRR.out] at hb ⊢
        go_wp2
        go_ret
        exact ⟨rfl, HKW.out⟩
end Go.Proofs.YtddgciilcghbaaaDoor
