/- Set.from, First, After: the least number from a place on. -/
import Derived.Test.YtkkhilgcjaigcaaDoorSmallK
import Derived.Test.YtkkhilgcjaigcaaDoorTzK
import Derived.Deep.QuietTactic
import Derived.BigQuiet
namespace Go.Proofs.YtkkhilgcjaigcaaDoor
open Go.RowKit

/-- r is the least number of the set that is not below i; -1: there is none. -/
def LeastK (ws : List Nat) (i : Nat) (r : Int) : Prop :=
  (r = -1 ∧ ∀ j, i ≤ j → mem ws j = false) ∨ ∃ j : Nat, r = (j : Int) ∧ i ≤ j ∧ mem ws j = true ∧ ∀ k, i ≤ k → k < j → mem ws k = false

theorem ctz_spec (x : Nat) (h0 : x ≠ 0) (hx : x < 18446744073709551616) : Lib.ctz 64 x < 64 ∧ x.testBit (Lib.ctz 64 x) = true ∧ ∀ j, j < Lib.ctz 64 x → x.testBit j = false := by
  obtain ⟨m, hm, hk⟩ := Lib.ctzFrom_spec 64 x (by omega) hx
  have e : Lib.ctz 64 x = Lib.ctzFrom 64 x := by simp [Lib.ctz, h0]
  rw [e]
  generalize Lib.ctzFrom 64 x = c at hm hk
  refine ⟨hk, ?_, ?_⟩
  · rw [hm, Nat.testBit_two_pow_mul]; simp
  · intro j hj
    rw [hm, Nat.testBit_two_pow_mul]
    have : ¬ c ≤ j := by omega
    simp [this]

/-- What the search holds at word k with 'left' of it: no number of the set from i on lies ahead of word k; 'left' is what of word k is not below i. -/
structure Seek (ws : List Nat) (i k left : Nat) : Prop where
  lt : k < ws.length
  small : left < 18446744073709551616
  none : ∀ j, i ≤ j → j < 64 * k → mem ws j = false
  here : ∀ j, j < 64 → left.testBit j = (mem ws (64 * k + j) && decide (i ≤ 64 * k + j))

theorem seek_start {n : Nat} {ws : List Nat} (hG : Good n ws) {i : Nat} (hi : i < n) : Seek ws i (i / 64) (ws.getD (i / 64) 0 &&& (18446744073709551615 - (bitN i - 1))) := by
  have hl := hG.len
  refine ⟨by omega, and_small (hG.word _), fun j h1 h2 => by omega, fun j hj => ?_⟩
  have hb := bitN_lt i
  rw [Nat.testBit_and, testBit_not _ _ hj (by omega), testBit_below, mem_at _ _ _ hj]
  congr 1
  by_cases h : j < i % 64
  · have h' : ¬ i ≤ 64 * (i / 64) + j := by omega
    simp [h, h']
  · have h' : i ≤ 64 * (i / 64) + j := by omega
    simp [h, h']

theorem seek_empty {ws : List Nat} {i k left : Nat} (h : Seek ws i k left) (h0 : left = 0) : ∀ j, i ≤ j → j < 64 * (k + 1) → mem ws j = false := by
  intro j h1 h2
  by_cases hj : j < 64 * k
  · exact h.none j h1 hj
  · have := h.here (j - 64 * k) (by omega)
    have e : 64 * k + (j - 64 * k) = j := by omega
    rw [h0, e] at this
    simp [h1] at this
    exact this

theorem seek_next {n : Nat} {ws : List Nat} (hG : Good n ws) {i k left : Nat} (h : Seek ws i k left) (h0 : left = 0) (hi : i / 64 ≤ k) (hk : k + 1 < ws.length) : Seek ws i (k + 1) (ws.getD (k + 1) 0) := by
  refine ⟨hk, hG.word _, seek_empty h h0, fun j hj => ?_⟩
  rw [mem_at _ _ _ hj]
  have : i ≤ 64 * (k + 1) + j := by omega
  simp [this]

theorem seek_none {ws : List Nat} {i k left : Nat} (h : Seek ws i k left) (h0 : left = 0) (hk : k + 1 = ws.length) : LeastK ws i (-1) := by
  refine Or.inl ⟨rfl, fun j hj => ?_⟩
  by_cases h2 : j < 64 * (k + 1)
  · exact seek_empty h h0 j hj h2
  · unfold mem
    have : ws.length ≤ j / 64 := by omega
    rw [List.getD_eq_getElem?_getD, List.getElem?_eq_none this]; simp

theorem seek_found {ws : List Nat} {i k left : Nat} (h : Seek ws i k left) (h0 : left ≠ 0) : LeastK ws i ((k : Int) * 64 + (Lib.ctz 64 left : Nat)) := by
  obtain ⟨c1, c2, c3⟩ := ctz_spec left h0 h.small
  generalize Lib.ctz 64 left = c at c1 c2 c3
  have hh := h.here c c1
  rw [c2] at hh
  have hh' : mem ws (64 * k + c) = true ∧ i ≤ 64 * k + c := by simpa using hh.symm
  refine Or.inr ⟨64 * k + c, by omega, hh'.2, hh'.1, fun j h1 h2 => ?_⟩
  by_cases hj : j < 64 * k
  · exact h.none j h1 hj
  · have hb := c3 (j - 64 * k) (by omega)
    have := h.here (j - 64 * k) (by omega)
    have e : 64 * k + (j - 64 * k) = j := by omega
    rw [hb, e] at this
    simp [h1] at this
    exact this

set_option maxHeartbeats 1600000 in
theorem from_in (b g c n : Nat) (ws : List Nat) (i : Nat) (w : World) (hs : IsSet w b g c n ws) (hG : Good n ws) (hT : Tab w) (hi : i < n) :
    Calls Tryd.prog 72 #[.pointer (some ⟨b, 0, none⟩), .int .i64 i] w fun e w' => ∃ r, e = .returned (.int .i64 r) ∧ LeastK ws i r ∧ ∃ q, w' = w.drewN q := by
  have hn := hG.top
  have hl := hG.len
  obtain ⟨k0, hk, q1, q2, q3⟩ := quo64 i (by omega)
  have hlt : k0 < ws.length := by omega
  have h0 := hs.c0
  have h1 := hs.c1
  have h2 := hs.cw k0 hlt
  have b0 : (0 : Int) ≤ (k0 : Int) := by omega
  have b1 : (k0 : Int) < (ws.length : Int) := by omega
  have b2 : (i : Int) < 65536 := by omega
  have b3 : ¬ (n : Int) ≤ (i : Int) := by omega
  have hx := hG.word k0
  have hst := seek_start hG hi
  rw [← hk] at hst
  rw [getD_get hlt] at h2
  generalize ws.getD k0 0 = x at h2 hx hst
  have hbl := bitN_lt i
  have hbp : 0 < bitN i := Nat.two_pow_pos _
  have HB : Hid (bits .andNot .u64 (x : Int) (IntKind.u64.wrap ((bitN i : Int) - 1)) = ((x &&& (18446744073709551615 - (bitN i - 1)) : Nat) : Int)) := by
    have e : IntKind.u64.wrap ((bitN i : Int) - 1) = ((bitN i - 1 : Nat) : Int) := by rw [IntKind.wrap_u64]; omega
    rw [e]; exact u64_andNot_nat _ _ hx (by omega)
  have HK : Hid (k0 = i / 64) := hk
  have HL : Hid (ws.length = (n + 63) / 64) := hl
  have HT : Hid (Tab w) := hT
  have HG : Hid (Good n ws) := hG
  have hcell : ∀ j, j < ws.length → w.cell? ⟨g, j, none⟩ = some (.int .u64 (ws.getD j 0 : Nat)) := fun j hj => by rw [hs.cw j hj, getD_get hj]
  have HC : Hid _ := hcell
  clear hk hbl hbp hx hl hT hG hs hcell
  go_enter Tryd.func72, Tryd.ntmps72
  go_wp2_with fail
  go_quiet ((go_at_call 33; exact Calls.quiet_of_same (bit_any i _ (by omega))))
  go_wp2_with fail
  rw [HB.out]
  go_loop [5, 6] (fun k left => ∃ kk x : Nat, k = .int .i64 kk ∧ left = .int .u64 x ∧ i / 64 ≤ kk ∧ Seek ws i kk x) (fun k _ => ws.length - (intOf k).toNat)
  case atStart => exact ⟨k0, _, rfl, rfl, by rw [HK.out]; exact Nat.le_refl _, hst⟩
  case round =>
    clear h2 b0 b1 q1 q2 q3 hlt hst HB
    obtain ⟨k, y, rfl, rfl, hik, hsk⟩ := hrel
    have hkl := hsk.lt
    have hys := hsk.small
    have hkb : (k : Int) < 65536 := by have := HL.out; omega
    by_cases hy : y = 0
    · have hye : ((y : Int) == 0) = true := by simp [hy]
      by_cases hend : k + 1 = ws.length
      · have hee : ((k : Int) + 1 == (ws.length : Int)) = true := by simp; omega
        have HR : Hid (LeastK ws i (-1)) := seek_none hsk hy hend
        clear hsk hy hend hys
        go_wp2
        go_ret
        exact ⟨_, rfl, HR.out, _, rfl⟩
      · have hee : ((k : Int) + 1 == (ws.length : Int)) = false := by simp; omega
        have hlt1 : (k : Int) + 1 < (ws.length : Int) := by omega
        have hn0 : (0 : Int) ≤ (k : Int) + 1 := by omega
        have hc2 := HC.out (k + 1) (by omega)
        have HR : Hid (Seek ws i (k + 1) (ws.getD (k + 1) 0)) := seek_next HG.out hsk hy hik (by omega)
        clear hsk hy hend hys
        generalize ws.getD (k + 1) 0 = z at hc2 HR
        go_wp2
        go_round
        case rel => exact ⟨k + 1, z, by go_num, rfl, by omega, HR.out⟩
        case measure => simp [intOf]; omega
    · have hye : ((y : Int) == 0) = false := by simp [hy]
      have HR : Hid (LeastK ws i ((k : Int) * 64 + (Lib.ctz 64 y : Nat))) := seek_found hsk hy
      have hcz := (ctz_spec y hy hys).1
      clear hsk
      go_wp2_with fail
      refine (tz_any y _ hy hys (HT.out.kept ((Kept.refl [] w).drewN _) (by simp))).mono ?_
      rintro e w' ⟨rfl, rfl⟩
      generalize Lib.ctz 64 y = cz at HR hcz
      go_wp2
      go_ret
      exact ⟨_, rfl, HR.out, _, rfl⟩
end Go.Proofs.YtkkhilgcjaigcaaDoor
