/- Of: a set out of a width and a list of numbers. -/
import Derived.Test.YtkkhilgcjaigcaaDoorMakeK
namespace Go.Proofs.YtkkhilgcjaigcaaDoor
open Go.RowKit

/-- The words of Of(n, zs..). -/
def ofW (n : Nat) (zs : List Int) : List Nat := zs.foldl (putI n) (List.replicate ((n + 63) / 64) 0)
theorem ofW_nil (n : Nat) : ofW n [] = List.replicate ((n + 63) / 64) 0 := rfl
theorem ofW_snoc (n : Nat) (zs : List Int) (z : Int) : ofW n (zs ++ [z]) = putI n (ofW n zs) z := by simp [ofW]
theorem Good.ofW {n : Nat} (h : n ≤ 65536) (zs : List Int) : Good n (ofW n zs) := by
  unfold Go.Proofs.YtkkhilgcjaigcaaDoor.ofW
  have : ∀ (zs : List Int) (ws : List Nat), Good n ws → Good n (zs.foldl (Go.Proofs.YtkkhilgcjaigcaaDoor.putI n) ws) := by
    intro zs
    induction zs with
    | nil => intro ws hw; exact hw
    | cons z r ih => intro ws hw; exact ih _ (hw.putI z)
  exact this zs _ (Good.zero h)

set_option maxHeartbeats 800000 in
theorem of_in (n : Nat) (lb lo cap : Nat) (zs : List Int) (w : World) (hn : n ≤ 65536) (hz : zs.length ≤ maxLen) (hlb : lb < w.heap.size)
    (hc : ∀ i (h : i < zs.length), w.cell? ⟨lb, lo + i, none⟩ = some (.int .i64 zs[i])) :
    Calls Tryd.prog 20 #[.int .i64 n, .slice (some ⟨lb, lo, none⟩) zs.length cap] w (Makes w n (ofW n zs)) := by
  unfold maxLen at hz
  go_enter Tryd.func20, Tryd.ntmps20
  go_wp2_with fail
  refine (new_in n _ hn).mono ?_
  rintro e w1 ⟨b, g, c, rfl, hset, hb, hg, hkept⟩
  have HS : Hid (IsSet w1 b g c n (List.replicate ((n + 63) / 64) 0)) := hset
  clear hset
  go_wp2_with fail
  go_loopw [14] (fun i wr => ∃ k : Nat, k ≤ zs.length ∧ i = .int .i64 k ∧ IsSet wr b g c n (ofW n (zs.take k)) ∧ Kept [] w wr) (fun i _ => zs.length - (intOf i).toNat)
  case atStart => exact ⟨0, Nat.zero_le _, rfl, HS.out, hkept⟩
  case round =>
    obtain ⟨k, hk, rfl, hs, hkw⟩ := hrel
    by_cases hlt : k < zs.length
    · have hcell : wr.cell? ⟨lb, lo + k, none⟩ = some (.int .i64 zs[k]) := (hkw.below.cell (p := ⟨lb, lo + k, none⟩) hlb).trans (hc k hlt)
      have HE : Hid (ofW n (zs.take (k + 1)) = putI n (ofW n (zs.take k)) zs[k]) := by rw [List.take_succ_eq_append_getElem hlt]; exact ofW_snoc _ _ _
      have hlt' : (k : Int) < (zs.length : Int) := by omega
      generalize zs[k] = z at hcell HE
      clear hc
      go_wp2_with (first | (go_at_call 40; refine (put_any b g c n _ z _ hs (Good.ofW hn _)).mono ?_; rintro e w2 ⟨rfl, hs2, hk2⟩))
      go_roundw
      case rel => exact ⟨k + 1, by omega, by go_num, by rw [HE.out]; exact hs2, hkw.trans (H := []) hk2 (by simp) (by simpa using hg)⟩
      case measure => simp [intOf]; omega
    · have hlt' : ¬ (k : Int) < (zs.length : Int) := by omega
      have e : zs.take k = zs := List.take_of_length_le (by omega)
      rw [e] at hs
      clear e
      go_wp2
      go_ret
      exact ⟨b, g, c, rfl, hs, hb, hg, hkw⟩

set_option maxHeartbeats 400000 in
theorem of_out (n : Int) (v : Value) (w : World) (hn : n < 0 ∨ 65536 < n) :
    Calls Tryd.prog 20 #[.int .i64 n, v] w fun e w' => e = .returned (.pointer none) ∧ w' = w := by
  go_enter Tryd.func20, Tryd.ntmps20
  go_wp2_with fail
  refine (new_out n _ hn).mono ?_
  rintro e w' ⟨rfl, rfl⟩
  go_wp2
  go_ret
  exact ⟨rfl, rfl⟩

set_option maxHeartbeats 800000 in
theorem of_nil (n : Nat) (ad : Option Addr) (cap : Nat) (w : World) (hn : n ≤ 65536) :
    Calls Tryd.prog 20 #[.int .i64 n, .slice ad 0 cap] w (Makes w n (ofW n [])) := by
  rw [ofW_nil]
  go_enter Tryd.func20, Tryd.ntmps20
  go_wp2_with fail
  refine (new_in n _ hn).mono ?_
  rintro e w1 ⟨b, g, c, rfl, hset, hb, hg, hkept⟩
  have HS : Hid (IsSet w1 b g c n (List.replicate ((n + 63) / 64) 0)) := hset
  clear hset
  go_wp2_with fail
  go_loopw [14] (fun i wr => i = .int .i64 0 ∧ wr = w1) (fun _ _ => 0)
  case atStart => exact ⟨rfl, rfl⟩
  case round =>
    obtain ⟨rfl, rfl⟩ := hrel
    go_wp2
    go_ret
    exact ⟨b, g, c, rfl, HS.out, hb, hg, hkept⟩

/-- v is a slice of int, and reads as zs. -/
def IsSl (w : World) (v : Value) (zs : List Int) : Prop :=
  ∃ ad cap, v = .slice ad zs.length cap ∧ (zs = [] ∨ ∃ lb lo, ad = some ⟨lb, lo, none⟩ ∧ lb < w.heap.size ∧ ∀ i (h : i < zs.length), w.cell? ⟨lb, lo + i, none⟩ = some (.int .i64 zs[i]))
theorem IsSl.kept {w w' : World} {v : Value} {zs : List Int} (h : IsSl w v zs) (k : Kept [] w w') : IsSl w' v zs := by
  obtain ⟨ad, cap, h1, h2 | ⟨lb, lo, h2, h3, h4⟩⟩ := h
  · exact ⟨ad, cap, h1, Or.inl h2⟩
  · exact ⟨ad, cap, h1, Or.inr ⟨lb, lo, h2, Nat.lt_of_lt_of_le h3 k.size, fun i hi => (k.below.cell (p := ⟨lb, lo + i, none⟩) h3).trans (h4 i hi)⟩⟩
theorem of_sl (n : Nat) (v : Value) (zs : List Int) (w : World) (hn : n ≤ 65536) (hz : zs.length ≤ maxLen) (h : IsSl w v zs) :
    Calls Tryd.prog 20 #[.int .i64 n, v] w (Makes w n (ofW n zs)) := by
  obtain ⟨ad, cap, rfl, rfl | ⟨lb, lo, rfl, h3, h4⟩⟩ := h
  · exact of_nil n ad cap w hn
  · exact of_in n lb lo cap zs w hn hz h3 h4
end Go.Proofs.YtkkhilgcjaigcaaDoor
