/- The small callees of package bits (goodWidth, bit, inside, Put, Cut), each by its contract. -/
import Derived.Test.YtkkhilgcjaigcaaDoorBaseK
import Derived.WalkLawsBesides
import Derived.Deep.RegionHeld3
import Derived.Deep.DrawnRows
import Derived.BigRegion
import Derived.Laws.BitsAllLaws
import Derived.Deep.RegionWith
namespace Go.Proofs.YtkkhilgcjaigcaaDoor
open Go.RowKit
attribute [local go_sem ↓] Go.wp_at_zero Go.wp_at_succ

set_option maxHeartbeats 400000 in
theorem goodWidth_any (n : Int) (w : World) :
    Calls Tryd.prog 52 #[.int .i64 n] w fun e w' => e = .returned (.bool (decide (0 ≤ n) && decide (n ≤ 65536))) ∧ w' = w := by
  go_enter Tryd.func52, Tryd.ntmps52
  go_wp2
  · go_ret
    exact ⟨ret_bool (by simp [*]), rfl⟩
  · go_ret
    exact ⟨ret_bool (by simp; omega), rfl⟩

theorem wrap_bit (i : Nat) : IntKind.u64.wrap (2 ^ (i % 64)) = ((bitN i : Nat) : Int) := by
  have h := bitN_lt i
  rw [IntKind.wrap_u64]
  have e : (2 ^ (i % 64) : Int) = ((bitN i : Nat) : Int) := by unfold bitN; simp
  rw [e]; omega

set_option maxHeartbeats 400000 in
theorem bit_any (i : Nat) (w : World) (hi : i < 65536) :
    Calls Tryd.prog 33 #[.int .i64 i] w fun e w' => e = .returned (.int .u64 (bitN i : Nat)) ∧ w' = w := by
  go_enter Tryd.func33, Tryd.ntmps33
  go_wp2
  go_ret
  exact ⟨ret_int (wrap_bit i), rfl⟩

set_option maxHeartbeats 400000 in
theorem inside_any (b g c n : Nat) (ws : List Nat) (i : Int) (w : World) (hs : IsSet w b g c n ws) :
    Calls Tryd.prog 32 #[.pointer (some ⟨b, 0, none⟩), .int .i64 i] w fun e w' => e = .returned (.bool (decide (0 ≤ i) && decide (i < n))) ∧ w' = w := by
  have hc := hs.c0
  clear hs
  go_enter Tryd.func32, Tryd.ntmps32
  go_wp2
  · go_ret
    exact ⟨ret_bool (by simp [*]), rfl⟩
  · go_ret
    exact ⟨ret_bool (by simp; omega), rfl⟩

theorem inside_yes (b g c n : Nat) (ws : List Nat) (i : Nat) (w : World) (hs : IsSet w b g c n ws) (hi : i < n) :
    Calls Tryd.prog 32 #[.pointer (some ⟨b, 0, none⟩), .int .i64 i] w fun e w' => e = .returned (.bool true) ∧ w' = w := by
  have H := inside_any b g c n ws i w hs
  have e : (decide ((0 : Int) ≤ (i : Int)) && decide ((i : Int) < (n : Int))) = true := by simp; omega
  rw [e] at H; exact H
theorem inside_no (b g c n : Nat) (ws : List Nat) (i : Int) (w : World) (hs : IsSet w b g c n ws) (hi : i < 0 ∨ (n : Int) ≤ i) :
    Calls Tryd.prog 32 #[.pointer (some ⟨b, 0, none⟩), .int .i64 i] w fun e w' => e = .returned (.bool false) ∧ w' = w := by
  have H := inside_any b g c n ws i w hs
  have e : (decide ((0 : Int) ≤ (i : Int)) && decide ((i : Int) < (n : Int))) = false := by simp; omega
  rw [e] at H; exact H

theorem quo64 (i : Nat) (hi : i < 9223372036854775808) : ∃ k : Nat, k = i / 64 ∧ (i : Int).tdiv 64 = (k : Int) ∧ (i : Int) / 64 = (k : Int) ∧ IntKind.i64.wrap (k : Int) = (k : Int) := by
  refine ⟨i / 64, rfl, ?_, by omega, ?_⟩
  · rw [Int.tdiv_eq_ediv_of_nonneg (by omega)]; omega
  · simp only [IntKind.wrap, IntKind.bits, IntKind.signed]; simp; omega

theorem getD_get {ws : List Nat} {k : Nat} (h : k < ws.length) : ws[k] = ws.getD k 0 := by
  rw [List.getD_eq_getElem?_getD, List.getElem?_eq_getElem h]; rfl

set_option maxHeartbeats 800000 in
theorem put_in (b g c n : Nat) (ws : List Nat) (i : Nat) (w : World) (hs : IsSet w b g c n ws) (hG : Good n ws) (hi : i < n) :
    Calls Tryd.prog 40 #[.pointer (some ⟨b, 0, none⟩), .int .i64 i] w fun e w' => e = .returned (.tuple #[]) ∧ IsSet w' b g c n (putW ws i) ∧ Kept [g] w w' := by
  have hn := hG.top
  have hl := hG.len
  obtain ⟨k, hk, q1, q2, q3⟩ := quo64 i (by omega)
  have hlt : k < ws.length := by omega
  have h1 := hs.c1
  have h2 := hs.cw k hlt
  have h3 := hs.fw k
  have b0 : (0 : Int) ≤ (k : Int) := by omega
  have b1 : (k : Int) < (ws.length : Int) := by omega
  have b2 : (i : Int) < 65536 := by omega
  have hx := hG.word k
  rw [getD_get hlt] at h2
  have HW : Hid (putW ws i = ws.set k (ws.getD k 0 ||| bitN i)) := by unfold putW; rw [hk]; rfl
  have HX : Hid (IsSet w b g c n ws) := hs
  generalize ws.getD k 0 = x at h2 hx HW
  have HB : Hid (bits .or .u64 (x : Int) (bitN i : Int) = ((x ||| bitN i : Nat) : Int)) := bits_or_u64_nat _ _ hx (bitN_lt i)
  clear hl hG hk hx
  go_enter Tryd.func40, Tryd.ntmps40
  go_wp2_with (first | (go_at_call 32; refine (inside_yes b g c n ws i _ hs hi).mono ?_; rintro e w' ⟨rfl, rfl⟩))
  go_region_with (first | (go_at_call 33; refine (bit_any i _ (by omega)).mono ?_; rintro e w' ⟨rfl, rfl⟩))
  all_goals go_end0
  all_goals
    rw [HB.out, HW.out]
    exact ⟨rfl, (HX.out.set k _).drew, ((Kept.refl _ _).setCell (by simp) _).drew⟩

set_option maxHeartbeats 800000 in
theorem cut_in (b g c n : Nat) (ws : List Nat) (i : Nat) (w : World) (hs : IsSet w b g c n ws) (hG : Good n ws) (hi : i < n) :
    Calls Tryd.prog 16 #[.pointer (some ⟨b, 0, none⟩), .int .i64 i] w fun e w' => e = .returned (.tuple #[]) ∧ IsSet w' b g c n (cutW ws i) ∧ Kept [g] w w' := by
  have hn := hG.top
  have hl := hG.len
  obtain ⟨k, hk, q1, q2, q3⟩ := quo64 i (by omega)
  have hlt : k < ws.length := by omega
  have h1 := hs.c1
  have h2 := hs.cw k hlt
  have h3 := hs.fw k
  have b0 : (0 : Int) ≤ (k : Int) := by omega
  have b1 : (k : Int) < (ws.length : Int) := by omega
  have b2 : (i : Int) < 65536 := by omega
  have hx := hG.word k
  rw [getD_get hlt] at h2
  have HW : Hid (cutW ws i = ws.set k (ws.getD k 0 &&& (18446744073709551615 - bitN i))) := by unfold cutW; rw [hk]; rfl
  have HX : Hid (IsSet w b g c n ws) := hs
  generalize ws.getD k 0 = x at h2 hx HW
  have HB : Hid (bits .andNot .u64 (x : Int) (bitN i : Int) = ((x &&& (18446744073709551615 - bitN i) : Nat) : Int)) := u64_andNot_nat _ _ hx (bitN_lt i)
  clear hl hG hk hx
  go_enter Tryd.func16, Tryd.ntmps16
  go_wp2_with (first | (go_at_call 32; refine (inside_yes b g c n ws i _ hs hi).mono ?_; rintro e w' ⟨rfl, rfl⟩))
  go_region_with (first | (go_at_call 33; refine (bit_any i _ (by omega)).mono ?_; rintro e w' ⟨rfl, rfl⟩))
  all_goals go_end0
  all_goals
    rw [HB.out, HW.out]
    exact ⟨rfl, (HX.out.set k _).drew, ((Kept.refl _ _).setCell (by simp) _).drew⟩

set_option maxHeartbeats 400000 in
theorem put_out (b g c n : Nat) (ws : List Nat) (i : Int) (w : World) (hs : IsSet w b g c n ws) (hi : i < 0 ∨ (n : Int) ≤ i) :
    Calls Tryd.prog 40 #[.pointer (some ⟨b, 0, none⟩), .int .i64 i] w fun e w' => e = .returned (.tuple #[]) ∧ w' = w := by
  go_enter Tryd.func40, Tryd.ntmps40
  go_wp2_with (first | (go_at_call 32; refine (inside_no b g c n ws i _ hs hi).mono ?_; rintro e w' ⟨rfl, rfl⟩))
  go_end0
  exact ⟨rfl, rfl⟩
set_option maxHeartbeats 400000 in
theorem cut_out (b g c n : Nat) (ws : List Nat) (i : Int) (w : World) (hs : IsSet w b g c n ws) (hi : i < 0 ∨ (n : Int) ≤ i) :
    Calls Tryd.prog 16 #[.pointer (some ⟨b, 0, none⟩), .int .i64 i] w fun e w' => e = .returned (.tuple #[]) ∧ w' = w := by
  go_enter Tryd.func16, Tryd.ntmps16
  go_wp2_with (first | (go_at_call 32; refine (inside_no b g c n ws i _ hs hi).mono ?_; rintro e w' ⟨rfl, rfl⟩))
  go_end0
  exact ⟨rfl, rfl⟩

/-- Put of any number: a number outside is let by. -/
theorem put_any (b g c n : Nat) (ws : List Nat) (i : Int) (w : World) (hs : IsSet w b g c n ws) (hG : Good n ws) :
    Calls Tryd.prog 40 #[.pointer (some ⟨b, 0, none⟩), .int .i64 i] w fun e w' => e = .returned (.tuple #[]) ∧ IsSet w' b g c n (putI n ws i) ∧ Kept [g] w w' := by
  unfold putI
  by_cases h : 0 ≤ i ∧ i < n
  · rw [if_pos h]
    have e : i = ((i.toNat : Nat) : Int) := by omega
    have H := put_in b g c n ws i.toNat w hs hG (by omega)
    rw [← e] at H; exact H
  · rw [if_neg h]
    exact (put_out b g c n ws i w hs (by omega)).mono fun e w' ⟨h1, h2⟩ => by subst h2; exact ⟨h1, hs, Kept.refl _ _⟩
/-- Cut of any number. -/
theorem cut_any (b g c n : Nat) (ws : List Nat) (i : Int) (w : World) (hs : IsSet w b g c n ws) (hG : Good n ws) :
    Calls Tryd.prog 16 #[.pointer (some ⟨b, 0, none⟩), .int .i64 i] w fun e w' => e = .returned (.tuple #[]) ∧ IsSet w' b g c n (cutI n ws i) ∧ Kept [g] w w' := by
  unfold cutI
  by_cases h : 0 ≤ i ∧ i < n
  · rw [if_pos h]
    have e : i = ((i.toNat : Nat) : Int) := by omega
    have H := cut_in b g c n ws i.toNat w hs hG (by omega)
    rw [← e] at H; exact H
  · rw [if_neg h]
    exact (cut_out b g c n ws i w hs (by omega)).mono fun e w' ⟨h1, h2⟩ => by subst h2; exact ⟨h1, hs, Kept.refl _ _⟩
end Go.Proofs.YtkkhilgcjaigcaaDoor
