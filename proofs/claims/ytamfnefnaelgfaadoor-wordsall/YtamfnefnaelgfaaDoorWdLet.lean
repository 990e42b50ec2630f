/- The reader: letter. -/
import Derived.Test.YtamfnefnaelgfaaDoorWdRd
namespace Go.Proofs.YtamfnefnaelgfaaDoor
open Go.RowKit
attribute [local go_sem ↓] Go.wp_at_zero Go.wp_at_succ

theorem letter_step {v : Nat} {f : Bool} {x : UInt8} {r : List UInt8} {d : Nat} (hd : x.toNat = 48 + d) (h9 : d ≤ 9) :
    letterN v f (x :: r) = if 65535 < v * 10 + d ∨ (v = 0 ∧ f = false) then (v, 0) else ((letterN (v * 10 + d) false r).1, (letterN (v * 10 + d) false r).2 + 1) := by
  have h1 : isDig x = true := by unfold isDig; rw [hd]; simp; omega
  have h2 : x.toNat - 48 = d := by omega
  rw [letterN, if_pos h1, h2]
theorem dig_of {s : ByteArray} {k : Nat} (h : headDig (rest s k) = true) : ∃ (hk : k < s.size) (d : Nat), s[k].toNat = 48 + d ∧ d ≤ 9 := by
  rcases Nat.lt_or_ge k s.size with hlt | hge
  · refine ⟨hlt, s[k].toNat - 48, ?_⟩
    rw [rest_cons hlt] at h
    have h' : isDig s[k] = true := h
    unfold isDig at h'
    simp at h'
    omega
  · rw [rest_end hge] at h; cases h
set_option maxHeartbeats 2000000 in
theorem letter_any (R k : Nat) (s : ByteArray) (w : World) (h : Rd w R s k) (hk : k ≤ s.size) (hs : s.size ≤ 65536) :
    Calls Tryd.prog 72 #[.pointer (some ⟨R, 0, none⟩)] w fun e w' => e = .returned (.int .u16 ((letterN 0 true (rest s k)).1 : Nat)) ∧ Kept [R] w w' ∧ Rd w' R s (k + (letterN 0 true (rest s k)).2) := by
  obtain ⟨c0, c1, _⟩ := h.cells
  have HR : Hid (Rd w R s k) := h
  clear h
  go_enter Tryd.func72, Tryd.ntmps72
  go_wp2_with fail
  go_loopg [3, 5] (s.size - k) (fun g a _ wr => ∃ v j : Nat, a = .int .i64 (v : Nat) ∧ v ≤ 65535 ∧ g + k + j = s.size ∧ Hid (Rd wr R s (k + j)) ∧ Hid (Kept [R] w wr) ∧ Hid (letterN 0 true (rest s k) = ((letterN v (decide (j = 0)) (rest s (k + j))).1, (letterN v (decide (j = 0)) (rest s (k + j))).2 + j)))
  case atStart => exact ⟨0, 0, rfl, by omega, by omega, HR.out, Kept.refl _ _, rfl⟩
  case round =>
    obtain ⟨v, j, rfl, hv, hj, HR2, HK2, HL⟩ := hrel
    have HT : Hid (Calls Tryd.prog 71 #[.pointer (some ⟨R, 0, none⟩)] wr fun e w' => e = .returned (.bool (headDig (rest s (k + j)))) ∧ Quiet wr w') := atDigit_any R (k + j) s wr HR2.out (by omega) hs
    clear c0 c1
    cases hq : headDig (rest s (k + j)) with
    | true =>
      obtain ⟨p, hp⟩ : ∃ p, k + j = p := ⟨_, rfl⟩
      rw [hp] at hq HR2
      rw [hp, hq] at HT
      obtain ⟨hlt, d, hd, hd9⟩ := dig_of hq
      have hLS := letter_step (v := v) (f := decide (j = 0)) (r := rest s (p + 1)) hd hd9
      rw [← rest_cons hlt] at hLS
      have HLS : Hid (letterN v (decide (j = 0)) (rest s p) = if 65535 < v * 10 + d ∨ (v = 0 ∧ decide (j = 0) = false) then (v, 0) else ((letterN (v * 10 + d) false (rest s (p + 1))).1, (letterN (v * 10 + d) false (rest s (p + 1))).2 + 1)) := hLS
      clear hLS hq
      obtain ⟨n, hn⟩ : ∃ n, s[p].toNat = n := ⟨_, rfl⟩
      have e0 : n = 48 + d := by rw [← hn]; exact hd
      have HP : Hid (k + j = p) := hp
      obtain ⟨L, hL⟩ : ∃ L, v * 10 + d = L := ⟨_, rfl⟩
      have e1 : (n : Int) - 48 = (d : Int) := by omega
      have e2 : IntKind.u8.wrap ((n : Int) - 48) = (d : Int) := by rw [e1]; simp only [IntKind.wrap, IntKind.bits, IntKind.signed]; simp; omega
      have e3 : (v : Int) * 10 + (d : Int) = (L : Int) := by omega
      have e4 : IntKind.u8.wrap (d : Int) = (d : Int) := by simp only [IntKind.wrap, IntKind.bits, IntKind.signed]; simp; omega
      have b0 : (0 : Int) ≤ (p : Int) := by omega
      have b1 : (p : Int) < (s.size : Int) := by omega
      have b5 : IntKind.u16.wrap (v : Int) = (v : Int) := by simp only [IntKind.wrap, IntKind.bits, IntKind.signed]; simp; omega
      have HDe : Hid (n = 48 + d ∧ v * 10 + d = L) := ⟨e0, hL⟩
      have HAD : Hid (Calls Tryd.prog 71 #[.pointer (some ⟨R, 0, none⟩)] wr fun e w' => e = .returned (.bool true) ∧ Hid (Quiet wr w') ∧ w'.cell? ⟨R, 0, none⟩ = some (.string s) ∧ w'.cell? ⟨R, 1, none⟩ = some (.int .i64 (p : Nat)) ∧ w'.frozen? ⟨R, 1, none⟩ = false) := HT.out.mono fun e w' ⟨h1, h2⟩ => ⟨h1, h2, (HR2.out.kept h2.kept).cells⟩
      clear hd e0 hL hp HT
      by_cases hA : 65535 < L
      · have a1 : (65535 : Int) < (L : Int) := by omega
        have HE : Hid (letterN 0 true (rest s k) = (v, j)) := by show _ = _; rw [HL.out, HP.out, HLS.out, if_pos (.inl (by rw [HDe.out.2]; exact hA)), Nat.zero_add]
        clear HL HLS
        go_wp2_with (go_at_call 71; refine HAD.out.mono ?_; rintro e w2 ⟨rfl, HQ, d0, d1, d2⟩)
        go_quiet (fail)
        go_wp2
        go_ret
        exact ⟨ret_int (by rw [HE.out]), kept_same HK2.out ((HQ.out.kept.drewN _).mono (by simp)), by rw [HE.out, HP.out]; exact HR2.out.kept (HQ.out.kept.drewN _)⟩
      · have a1 : ¬ (65535 : Int) < (L : Int) := by omega
        by_cases hB : v = 0 ∧ 0 < j
        · obtain ⟨hv0, hj0⟩ := hB
          have HE : Hid (letterN 0 true (rest s k) = (v, j)) := by show _ = _; rw [HL.out, HP.out, HLS.out, if_pos (.inr ⟨hv0, by simp; omega⟩), Nat.zero_add]
          have a2 : ((v : Int) == 0) = true := by simp; exact hv0
          have a3 : (k : Int) < (p : Int) := by have := HP.out; omega
          clear HL HLS hv0
          go_wp2_with (go_at_call 71; refine HAD.out.mono ?_; rintro e w2 ⟨rfl, HQ, d0, d1, d2⟩)
          go_quiet (fail)
          go_wp2
          go_ret
          exact ⟨ret_int (by rw [HE.out]), kept_same HK2.out ((HQ.out.kept.drewN _).mono (by simp)), by rw [HE.out, HP.out]; exact HR2.out.kept (HQ.out.kept.drewN _)⟩
        · have HE : Hid (letterN 0 true (rest s k) = ((letterN L (decide (j + 1 = 0)) (rest s (k + (j + 1)))).1, (letterN L (decide (j + 1 = 0)) (rest s (k + (j + 1)))).2 + (j + 1))) := by
            show _ = _
            rw [HL.out, HP.out, HLS.out, if_neg (by rw [HDe.out.2]; simp; omega), HDe.out.2, show decide (j + 1 = 0) = false by simp, show k + (j + 1) = p + 1 by have := HP.out; omega]
            simp only [Prod.mk.injEq, true_and]
            omega
          have hLb : L ≤ 65535 := by omega
          have hgk : k + j < s.size := by have := HP.out; omega
          have HSZ : Hid (p + 1 = k + (j + 1)) := by have := HP.out; show _ = _; omega
          clear HL HLS
          by_cases hv0 : v = 0
          · have a2 : ((v : Int) == 0) = true := by simp; exact hv0
            have a3 : ¬ (k : Int) < (p : Int) := by have := HP.out; omega
            clear hv0 hB
            go_wp2_with (go_at_call 71; refine HAD.out.mono ?_; rintro e w2 ⟨rfl, HQ, d0, d1, d2⟩)
            go_quiet (fail)
            go_wp2
            go_roundg (s.size - k - (j + 1))
            case measure => omega
            case rel => exact ⟨L, j + 1, rfl, hLb, by omega, by rw [← HSZ.out]; exact (HR2.out.kept (HQ.out.kept.drewN _)).set (p + 1), kept_same HK2.out (((HQ.out.kept.drewN _).mono (by simp)).setCell (.inl (by simp)) _), HE.out⟩
          · have a2 : ((v : Int) == 0) = false := by simp; exact hv0
            clear hv0 hB
            go_wp2_with (go_at_call 71; refine HAD.out.mono ?_; rintro e w2 ⟨rfl, HQ, d0, d1, d2⟩)
            go_quiet (fail)
            go_wp2
            go_roundg (s.size - k - (j + 1))
            case measure => omega
            case rel => exact ⟨L, j + 1, rfl, hLb, by omega, by rw [← HSZ.out]; exact (HR2.out.kept (HQ.out.kept.drewN _)).set (p + 1), kept_same HK2.out (((HQ.out.kept.drewN _).mono (by simp)).setCell (.inl (by simp)) _), HE.out⟩
    | false =>
      have HE : Hid (letterN 0 true (rest s k) = (v, j)) := by show _ = _; rw [HL.out, letterN_end _ _ _ hq, Nat.zero_add]
      rw [hq] at HT
      have b5 : IntKind.u16.wrap (v : Int) = (v : Int) := by simp only [IntKind.wrap, IntKind.bits, IntKind.signed]; simp; omega
      clear hq HL
      go_wp2_with (go_at_call 71; refine HT.out.mono ?_; rintro e w2 ⟨rfl, q2⟩; have HQ : Hid (Quiet wr w2) := q2; clear q2)
      go_ret
      exact ⟨ret_int (by rw [HE.out]), kept_same HK2.out (HQ.out.kept.mono (by simp)), by rw [HE.out]; exact HR2.out.kept HQ.out.kept⟩
end Go.Proofs.YtamfnefnaelgfaaDoor
