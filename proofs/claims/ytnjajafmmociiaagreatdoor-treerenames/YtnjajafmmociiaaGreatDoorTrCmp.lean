/- tree.Cmp and what it calls. -/
import Derived.Test.YtnjajafmmociiaaGreatDoorTrCopy
import Derived.Deep.RegionHeld3
import Derived.Laws.Cover1
namespace Go.Proofs.YtnjajafmmociiaaGreatDoor
open Go.RowKit Go.Shelf

set_option maxHeartbeats 400000 in
theorem nanOp (o : Nat) (w : World) : Calls Tryz.prog 118 #[.int .u8 (o : Nat)] w fun e w' => e = .returned (.bool false) ∧ w' = w := by
  go_enter Tryz.func118, Tryz.ntmps118
  go_wp2
  go_ret
  exact ⟨rfl, rfl⟩
set_option maxHeartbeats 400000 in
theorem nanInt (o : Int) (w : World) : Calls Tryz.prog 95 #[.int .i64 o] w fun e w' => e = .returned (.bool false) ∧ w' = w := by
  go_enter Tryz.func95, Tryz.ntmps95
  go_wp2
  go_ret
  exact ⟨rfl, rfl⟩
set_option maxHeartbeats 400000 in
theorem nanStr (s : ByteArray) (w : World) : Calls Tryz.prog 119 #[.string s] w fun e w' => e = .returned (.bool false) ∧ w' = w := by
  go_enter Tryz.func119, Tryz.ntmps119
  go_wp2
  go_ret
  exact ⟨rfl, rfl⟩
/-- Which comes first, as numbers; as texts. -/
def cmpN (a b : Nat) : Int := if a < b then -1 else if b < a then 1 else 0
def cmpS (a b : ByteArray) : Int := if Op.bytesLess a.toList b.toList then -1 else if a.toList == b.toList then 0 else 1
set_option maxHeartbeats 400000 in
theorem compareStr (a b : ByteArray) (w : World) : Calls Tryz.prog 98 #[.string a, .string b] w fun e w' => e = .returned (.int .i64 (cmpS a b)) ∧ w' = w := by
  obtain ⟨r, hr⟩ : ∃ r, cmpS a b = r := ⟨_, rfl⟩
  rw [hr]
  unfold cmpS at hr
  have HR : Hid _ := hr
  clear hr
  cases h1 : Op.bytesLess a.toList b.toList with
  | true =>
    rw [h1] at HR
    go_enter Tryz.func98, Tryz.ntmps98
    go_wp2_with (go_at_call 119; refine (nanStr _ _).mono ?_; rintro e w' ⟨rfl, rfl⟩)
    go_ret
    exact ⟨ret_int HR.out, rfl⟩
  | false =>
    rw [h1] at HR
    cases h2 : a.toList == b.toList with
    | true =>
      rw [h2] at HR
      go_enter Tryz.func98, Tryz.ntmps98
      go_wp2_with (go_at_call 119; refine (nanStr _ _).mono ?_; rintro e w' ⟨rfl, rfl⟩)
      go_ret
      exact ⟨ret_int HR.out, rfl⟩
    | false =>
      rw [h2] at HR
      go_enter Tryz.func98, Tryz.ntmps98
      go_wp2_with (go_at_call 119; refine (nanStr _ _).mono ?_; rintro e w' ⟨rfl, rfl⟩)
      go_ret
      exact ⟨ret_int HR.out, rfl⟩
set_option maxHeartbeats 400000 in
theorem compareOp (a b : Nat) (w : World) : Calls Tryz.prog 97 #[.int .u8 (a : Nat), .int .u8 (b : Nat)] w fun e w' => e = .returned (.int .i64 (cmpN a b)) ∧ w' = w := by
  obtain ⟨r, hr⟩ : ∃ r, cmpN a b = r := ⟨_, rfl⟩
  rw [hr]
  unfold cmpN at hr
  have HR : Hid _ := hr
  clear hr
  by_cases h1 : (a : Int) < (b : Int)
  · rw [if_pos (by omega)] at HR
    go_enter Tryz.func97, Tryz.ntmps97
    go_wp2_with (go_at_call 118; refine (nanOp _ _).mono ?_; rintro e w' ⟨rfl, rfl⟩)
    go_ret
    exact ⟨ret_int HR.out, rfl⟩
  · rw [if_neg (by omega)] at HR
    by_cases h2 : (b : Int) < (a : Int)
    · rw [if_pos (by omega)] at HR
      go_enter Tryz.func97, Tryz.ntmps97
      go_wp2_with (go_at_call 118; refine (nanOp _ _).mono ?_; rintro e w' ⟨rfl, rfl⟩)
      go_ret
      exact ⟨ret_int HR.out, rfl⟩
    · rw [if_neg (by omega)] at HR
      go_enter Tryz.func97, Tryz.ntmps97
      go_wp2_with (go_at_call 118; refine (nanOp _ _).mono ?_; rintro e w' ⟨rfl, rfl⟩)
      go_ret
      exact ⟨ret_int HR.out, rfl⟩
set_option maxHeartbeats 400000 in
theorem compareInt (a b : Nat) (w : World) : Calls Tryz.prog 71 #[.int .i64 (a : Nat), .int .i64 (b : Nat)] w fun e w' => e = .returned (.int .i64 (cmpN a b)) ∧ w' = w := by
  obtain ⟨r, hr⟩ : ∃ r, cmpN a b = r := ⟨_, rfl⟩
  rw [hr]
  unfold cmpN at hr
  have HR : Hid _ := hr
  clear hr
  by_cases h1 : (a : Int) < (b : Int)
  · rw [if_pos (by omega)] at HR
    go_enter Tryz.func71, Tryz.ntmps71
    go_wp2_with (go_at_call 95; refine (nanInt _ _).mono ?_; rintro e w' ⟨rfl, rfl⟩)
    go_ret
    exact ⟨ret_int HR.out, rfl⟩
  · rw [if_neg (by omega)] at HR
    by_cases h2 : (b : Int) < (a : Int)
    · rw [if_pos (by omega)] at HR
      go_enter Tryz.func71, Tryz.ntmps71
      go_wp2_with (go_at_call 95; refine (nanInt _ _).mono ?_; rintro e w' ⟨rfl, rfl⟩)
      go_ret
      exact ⟨ret_int HR.out, rfl⟩
    · rw [if_neg (by omega)] at HR
      go_enter Tryz.func71, Tryz.ntmps71
      go_wp2_with (go_at_call 95; refine (nanInt _ _).mono ?_; rintro e w' ⟨rfl, rfl⟩)
      go_ret
      exact ⟨ret_int HR.out, rfl⟩

/-- The first that is not 0. -/
def or3 (x y z : Int) : Int := if x ≠ 0 then x else if y ≠ 0 then y else z
set_option maxHeartbeats 1000000 in
theorem or_any (x y z : Int) (b : Nat) (w : World) (c0 : w.cell? ⟨b, 0, none⟩ = some (.int .i64 x)) (c1 : w.cell? ⟨b, 1, none⟩ = some (.int .i64 y)) (c2 : w.cell? ⟨b, 2, none⟩ = some (.int .i64 z)) :
    Calls Tryz.prog 96 #[.slice (some ⟨b, 0, none⟩) 3 3] w fun e w' => e = .returned (.int .i64 (or3 x y z)) ∧ w' = w := by
  obtain ⟨r, hr⟩ : ∃ r, or3 x y z = r := ⟨_, rfl⟩
  rw [hr]
  unfold or3 at hr
  have HR : Hid _ := hr
  clear hr
  go_enter Tryz.func96, Tryz.ntmps96
  go_wp2
  go_loop [8] (fun v => ∃ k : Nat, k ≤ 3 ∧ v = .int .i64 (k : Nat) ∧ (1 ≤ k → x = 0) ∧ (2 ≤ k → y = 0) ∧ (3 ≤ k → z = 0)) (fun v => 3 - (intOf v).toNat)
  case atStart => exact ⟨0, by omega, rfl, by omega, by omega, by omega⟩
  case round =>
    obtain ⟨k, hk, rfl, h1, h2, h3⟩ := hrel
    have hcase : k = 0 ∨ k = 1 ∨ k = 2 ∨ k = 3 := by omega
    rcases hcase with rfl | rfl | rfl | rfl
    · clear h1 h2 h3
      by_cases hx : x = 0
      · have hb : (x != 0) = false := by simp [hx]
        have HX : Hid _ := hx
        clear hx
        go_wp2
        go_round
        case rel => exact ⟨1, by omega, rfl, fun _ => HX.out, by omega, by omega⟩
        case measure => simp [intOf]
      · have hb : (x != 0) = true := by simp [hx]
        have HX : Hid _ := hx
        clear hx
        go_wp2
        go_ret
        exact ⟨ret_int (by rw [← HR.out, if_pos HX.out]), rfl⟩
    · have HX : Hid (x = 0) := h1 (by omega)
      clear h1 h2 h3
      by_cases hx : y = 0
      · have hb : (y != 0) = false := by simp [hx]
        have HY : Hid _ := hx
        clear hx
        go_wp2
        go_round
        case rel => exact ⟨2, by omega, rfl, fun _ => HX.out, fun _ => HY.out, by omega⟩
        case measure => simp [intOf]
      · have hb : (y != 0) = true := by simp [hx]
        have HY : Hid _ := hx
        clear hx
        go_wp2
        go_ret
        exact ⟨ret_int (by rw [← HR.out, if_neg (by simp [HX.out]), if_pos HY.out]), rfl⟩
    · have HX : Hid (x = 0) := h1 (by omega)
      have HY : Hid (y = 0) := h2 (by omega)
      clear h1 h2 h3
      by_cases hx : z = 0
      · have hb : (z != 0) = false := by simp [hx]
        have HZ : Hid _ := hx
        clear hx
        go_wp2
        go_round
        case rel => exact ⟨3, by omega, rfl, fun _ => HX.out, fun _ => HY.out, fun _ => HZ.out⟩
        case measure => simp [intOf]
      · have hb : (z != 0) = true := by simp [hx]
        clear hx
        go_wp2
        go_ret
        exact ⟨ret_int (by rw [← HR.out, if_neg (by simp [HX.out]), if_neg (by simp [HY.out])]), rfl⟩
    · have HX : Hid (x = 0) := h1 (by omega)
      have HY : Hid (y = 0) := h2 (by omega)
      have HZ : Hid (z = 0) := h3 (by omega)
      clear h1 h2 h3
      go_wp2
      go_ret
      exact ⟨ret_int (by rw [← HR.out, if_neg (by simp [HX.out]), if_neg (by simp [HY.out]), HZ.out]), rfl⟩

/-- The order of trees. -/
def cmpHead (a b : Tr) : Int := or3 (cmpN a.op b.op) (cmpS a.name b.name) (cmpN a.kids.length b.kids.length)
def rowCmp : List (Tr → Int) → List Tr → Int
  | r :: rs, u :: us => if r u = 0 then rowCmp rs us else r u
  | _, _ => 0
def cmpT : Tr → Tr → Int := Tr.para (fun t rs u => if cmpHead t u = 0 then rowCmp rs u.kids else cmpHead t u)
theorem cmpT_eq (t u : Tr) : cmpT t u = if cmpHead t u = 0 then rowCmp (t.kids.map cmpT) u.kids else cmpHead t u := congrFun (Tr.para_eq _ t) u
theorem rowCmp_zero : ∀ (rs : List (Tr → Int)) (us : List Tr), (∀ j (h : j < rs.length) (h' : j < us.length), rs[j] us[j] = 0) → rowCmp rs us = 0
  | [], _, _ => by simp [rowCmp]
  | _ :: _, [], _ => by simp [rowCmp]
  | r :: rs, u :: us, h => by
    rw [rowCmp, if_pos (show r u = 0 from h 0 (by simp) (by simp))]
    exact rowCmp_zero rs us (fun j h1 h2 => h (j + 1) (by simpa using h1) (by simpa using h2))
theorem rowCmp_at : ∀ (i : Nat) (rs : List (Tr → Int)) (us : List Tr) (h : i < rs.length) (h' : i < us.length), (∀ j (h : j < rs.length) (h' : j < us.length), j < i → rs[j] us[j] = 0) → rs[i] us[i] ≠ 0 → rowCmp rs us = rs[i] us[i]
  | _, [], _, h, _, _, _ => by simp at h
  | _, _ :: _, [], _, h', _, _ => by simp at h'
  | 0, r :: rs, u :: us, _, _, _, hne => by
    rw [rowCmp]; exact if_neg hne
  | i + 1, r :: rs, u :: us, h, h', hz, hne => by
    rw [rowCmp, if_pos (show r u = 0 from hz 0 (by simp) (by simp) (by omega))]
    exact rowCmp_at i rs us (by simpa using h) (by simpa using h') (fun j h1 h2 hj => hz (j + 1) (by simpa using h1) (by simpa using h2) (by omega)) hne
end Go.Proofs.YtnjajafmmociiaaGreatDoor
