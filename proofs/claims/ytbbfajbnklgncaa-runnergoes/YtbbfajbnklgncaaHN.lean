/- The document's own tests: augurref02.Named, augurref10 Rising, Ahead. -/
import Derived.Test.YtbbfajbnklgncaaHD
import Derived.BigQuiet
import Derived.Test.YtbbfajbnklgncaaHF
import Derived.Deep.RegionHeld3
namespace Go.Proofs.Ytbbfajbnklgncaa
open Go.RowKit Go.Shelf

set_option maxHeartbeats 2000000 in
theorem refNamedB_any (s : ByteArray) (w : World) (hs : s.size ≤ maxLen) :
    Calls Try.prog 71 #[.string s] w fun e w' => e = .returned (.bool (nameB s.data.toList)) ∧ w' = w := by
  have hl : s.size = s.data.toList.length := rfl
  unfold maxLen at hs
  obtain ⟨r, hr⟩ : ∃ r, nameB s.data.toList = r := ⟨_, rfl⟩
  rw [hr]
  have HR : Hid (nameB s.data.toList = r) := hr
  have HL : Hid (s.size = s.data.toList.length) := hl
  clear hr hl
  go_enter Try.func71, Try.ntmps71
  go_wp2
  go_loop [3] (fun v => ∃ k : Nat, k ≤ s.size ∧ k ≤ 33 ∧ v = .int .i64 (k : Nat) ∧ Hid (∀ j (h : j < s.data.toList.length), j < k → okB (s.data.toList[j]).toNat = true)) (fun v => s.size - (intOf v).toNat)
  case atStart => exact ⟨0, Nat.zero_le _, by omega, rfl, fun j _ h => by omega⟩
  case round =>
    obtain ⟨k, hk, hk33, rfl, HA⟩ := hrel
    by_cases hlt : k < s.size
    · have hki : (k : Int) < (s.size : Int) := by omega
      by_cases h33 : k < 33
      · obtain ⟨c, hc⟩ : ∃ c : UInt8, s[k] = c := ⟨_, rfl⟩
        have hcd : s.data.toList[k]'(by rw [← HL.out]; exact hlt) = c := hc
        have HC : Hid (s.data.toList[k]'(by rw [← HL.out]; exact hlt) = c) := hcd
        have h33i : (k : Int) < 33 := by omega
        have hbad : okB c.toNat = false → false = r := fun h => (nameB_bad (by rw [← HC.out]; exact List.getElem_mem _) h).symm.trans HR.out
        have HB : Hid (okB c.toNat = false → false = r) := hbad
        clear hcd hbad
        by_cases c1 : (c.toNat : Int) < 32
        · go_wp2
          go_ret
          exact ⟨ret_bool (HB.out (okB_no (by omega))), rfl⟩
        by_cases c2 : (126 : Int) < (c.toNat : Int)
        · go_wp2
          go_ret
          exact ⟨ret_bool (HB.out (okB_no (by omega))), rfl⟩
        by_cases c3 : (c.toNat : Int) = 34
        · have c3' : ((c.toNat : Int) == 34) = true := by rw [beq_iff_eq]; exact c3
          have HC3 : Hid ((c.toNat : Int) = 34) := c3
          clear c3
          go_wp2
          go_ret
          exact ⟨ret_bool (HB.out (okB_no (by have := HC3.out; omega))), rfl⟩
        have c3' : ((c.toNat : Int) == 34) = false := by rw [beq_eq_false_iff_ne]; exact c3
        by_cases c4 : (c.toNat : Int) = 92
        · have c4' : ((c.toNat : Int) == 92) = true := by rw [beq_iff_eq]; exact c4
          have HC4 : Hid ((c.toNat : Int) = 92) := c4
          clear c4
          go_wp2
          go_ret
          exact ⟨ret_bool (HB.out (okB_no (by have := HC4.out; omega))), rfl⟩
        have c4' : ((c.toNat : Int) == 92) = false := by rw [beq_eq_false_iff_ne]; exact c4
        have HG : Hid (okB c.toNat = true) := okB_yes (by omega) (by omega) (by omega) (by omega)
        go_wp2
        go_round
        case rel =>
          refine ⟨k + 1, by omega, by omega, by go_num, fun j hj hjk => ?_⟩
          rcases Nat.lt_or_ge j k with q | q
          · exact HA.out j hj q
          · obtain rfl : j = k := by omega
            rw [HC.out]; exact HG.out
        case measure => simp [intOf]; omega
      · have h33i : ¬ (k : Int) < 33 := by omega
        have h0i : (0 : Int) < (s.size : Int) := by omega
        have h32i : ¬ (s.size : Int) ≤ 32 := by omega
        go_wp2
        go_ret
        exact ⟨ret_bool ((nameB_long (by rw [← HL.out]; omega)).symm.trans HR.out), rfl⟩
    · have hki : ¬ (k : Int) < (s.size : Int) := by omega
      by_cases h0 : s.size = 0
      · have h0i : ¬ (0 : Int) < (s.size : Int) := by omega
        go_wp2
        go_ret
        exact ⟨ret_bool ((nameB_short (HL.out.symm.trans h0)).symm.trans HR.out), rfl⟩
      · have h0i : (0 : Int) < (s.size : Int) := by omega
        by_cases h32 : s.size ≤ 32
        · have h32i : (s.size : Int) ≤ 32 := by omega
          go_wp2
          go_ret
          exact ⟨ret_bool ((nameB_good (by rw [← HL.out]; omega) (by rw [← HL.out]; exact h32) (fun j hj => HA.out j hj (by rw [← HL.out] at hj; omega))).symm.trans HR.out), rfl⟩
        · have h32i : ¬ (s.size : Int) ≤ 32 := by omega
          go_wp2
          go_ret
          exact ⟨ret_bool ((nameB_long (by rw [← HL.out]; omega)).symm.trans HR.out), rfl⟩
end Go.Proofs.Ytbbfajbnklgncaa

/- The document's own tests: augurref10 Rising, Names. -/
namespace Go.Proofs.Ytbbfajbnklgncaa
open Go.RowKit Go.Shelf

end Go.Proofs.Ytbbfajbnklgncaa

/- The document's own tests: augurref10.Names. -/
namespace Go.Proofs.Ytbbfajbnklgncaa
open Go.RowKit Go.Shelf

theorem sameN_comm (a b : ByteArray) : sameN a b = sameN b a := by
  unfold sameN
  rw [Bool.eq_iff_iff]
  simp only [beq_iff_eq]
  exact eq_comm
theorem take_get {xs : List ByteArray} {k j : Nat} (hj : j < (xs.take k).length) : (xs.take k)[j] = xs[j]'(by rw [List.length_take] at hj; omega) := by simp
end Go.Proofs.Ytbbfajbnklgncaa

/- augurref13.Check, Run, Has at any deterministic automaton: the document's answers are the program's. -/
namespace Go.Proofs.Ytbbfajbnklgncaa
open Go.RowKit Go.Shelf

theorem rightD_no {ps : List ByteArray} {next : List (List Int)} {ll i : Nat} (hi : i < next.length) (h : wrongB ps.length next.length next[i] = true) : rightD ps next ll = false := by
  unfold rightD
  rw [List.any_eq_true.2 ⟨next[i], List.getElem_mem hi, h⟩]
  simp
theorem rightD_yes {ps : List ByteArray} {next : List (List Int)} {ll : Nat} (h1 : listB ps = true) (h2 : next.length ≠ 0) (h3 : ll = next.length) (h : ∀ i (hi : i < next.length), wrongB ps.length next.length next[i] = false) : rightD ps next ll = true := by
  unfold rightD
  rw [h1, any_no h, decide_eq_false h2, decide_eq_true h3]
  rfl
theorem rowsD_get {W : World} {ad : Option Addr} {c : Nat} {ss : List (List Int)} (h : Rowss W (.slice ad ss.length c) ss) (i : Nat) (hi : i < ss.length) : ∃ b o u, ad = some ⟨b, o, none⟩ ∧ W.cell? ⟨b, o + i, none⟩ = some u ∧ Ints W u ss[i] := by
  rcases h.lie with ⟨_, rfl⟩ | ⟨b, o, c, e, _, _, h4⟩
  · simp at hi
  · cases e
    obtain ⟨u, h5, h6⟩ := h4 i hi
    exact ⟨b, o, u, rfl, h5, h6⟩
theorem ret_errD {a b : Nat} (h : a = b) : Ending.returned (.int .i64 (a : Nat)) = Ending.returned (.int .i64 (b : Nat)) := by rw [h]
end Go.Proofs.Ytbbfajbnklgncaa

/- augurref13.Run, Has at any deterministic automaton: the document's answers are the program's. -/
namespace Go.Proofs.Ytbbfajbnklgncaa
open Go.RowKit Go.Shelf

theorem pow_small {pn tp : Nat} (h8 : pn ≤ 8) (htp : 2 ^ pn = tp) : tp ≤ 256 := by
  rw [← htp]
  exact Nat.pow_le_pow_right (by omega) h8
theorem wrap_pow {pn tp : Nat} (h8 : pn ≤ 8) (htp : 2 ^ pn = tp) : wrap64 ((2 : Int) ^ pn) = (tp : Int) ∧ IntKind.i64.wrap ((2 : Int) ^ pn) = (tp : Int) := by
  have htb : tp ≤ 256 := pow_small h8 htp
  rw [show ((2 : Int) ^ pn) = ((2 ^ pn : Nat) : Int) by norm_cast, htp, IntKind.wrap_i64]
  clear htp
  unfold wrap64
  omega
theorem wrap_lt {lt : Nat} (h : lt < 65536) : IntKind.i64.wrap (lt : Int) = (lt : Int) := by
  rw [IntKind.wrap_i64]
  omega
end Go.Proofs.Ytbbfajbnklgncaa
