/- The reader: take, blanks, atDigit, letter. -/
import Derived.Test.YtamfnefnaelgfaaDoorWdCheck
import Derived.Test.YtamfnefnaelgfaaDoorWdText
import Derived.Deep.LoopGhost
namespace Go.Proofs.YtamfnefnaelgfaaDoor
open Go.RowKit
attribute [local go_sem ↓] Go.wp_at_zero Go.wp_at_succ

/-- A reader in memory: the text, and how far it is read. -/
def Rd (W : World) (R : Nat) (s : ByteArray) (k : Nat) : Prop := W.heap[R]? = some (.cells #[.string s, .int .i64 (k : Nat)] 90 (0, 0))
theorem Rd.cells {W : World} {R : Nat} {s : ByteArray} {k : Nat} (h : Rd W R s k) : W.cell? ⟨R, 0, none⟩ = some (.string s) ∧ W.cell? ⟨R, 1, none⟩ = some (.int .i64 (k : Nat)) ∧ W.frozen? ⟨R, 1, none⟩ = false :=
  ⟨(cell_of h 0).trans rfl, (cell_of h 1).trans rfl, free_of h 1⟩
theorem Rd.kept {W W' : World} {R : Nat} {s : ByteArray} {k : Nat} (h : Rd W R s k) (q : Kept [] W W') : Rd W' R s k := q.at h (by simp)
theorem Rd.set {W : World} {R : Nat} {s : ByteArray} {k : Nat} (h : Rd W R s k) (j : Nat) : Rd (W.setCell ⟨R, 1, none⟩ (.int .i64 (j : Nat))) R s j := by
  unfold Rd; rw [row_set h]; rfl
/-- What is left of the text. -/
def rest (s : ByteArray) (k : Nat) : List UInt8 := s.data.toList.drop k
theorem rest_cons {s : ByteArray} {k : Nat} (h : k < s.size) : rest s k = s[k] :: rest s (k + 1) := by
  unfold rest
  rw [List.drop_eq_getElem_cons (by simpa using h)]
  rfl
theorem rest_end {s : ByteArray} {k : Nat} (h : s.size ≤ k) : rest s k = [] := by
  unfold rest
  rw [List.drop_eq_nil_iff]
  simpa using h
theorem rest_drop (s : ByteArray) (k j : Nat) : (rest s k).drop j = rest s (k + j) := by unfold rest; rw [List.drop_drop]
theorem rest_len (s : ByteArray) (k : Nat) : (rest s k).length = s.size - k := by unfold rest; rw [List.length_drop]; rfl

def tookN (s : ByteArray) (k : Nat) (c : UInt8) : Nat := if headIs (rest s k) c = true then k + 1 else k
set_option maxHeartbeats 1000000 in
theorem take_any (R k : Nat) (s : ByteArray) (c : UInt8) (w : World) (h : Rd w R s k) (hk : k ≤ s.size) (hs : s.size ≤ 65536) :
    Calls Tryd.prog 61 #[.pointer (some ⟨R, 0, none⟩), .int .u8 (c.toNat : Nat)] w fun e w' => e = .returned (.bool (headIs (rest s k) c)) ∧ Kept [R] w w' ∧ Rd w' R s (tookN s k c) := by
  obtain ⟨c0, c1, f1⟩ := h.cells
  have HR : Hid (Rd w R s k) := h
  have b0 : (0 : Int) ≤ (k : Int) := by omega
  obtain ⟨m, hm⟩ : ∃ m, c.toNat = m := ⟨_, rfl⟩
  unfold tookN
  rcases Nat.lt_or_ge k s.size with hlt | hge
  · have b1 : (k : Int) < (s.size : Int) := by omega
    have b2 : ((k : Int) == (s.size : Int)) = false := by simp; omega
    obtain ⟨x, hx⟩ : ∃ x : UInt8, s[k]'hlt = x := ⟨_, rfl⟩
    obtain ⟨n, hn⟩ : ∃ n, x.toNat = n := ⟨_, rfl⟩
    have hn2 : s[k].toNat = n := by rw [hx]; exact hn
    have hh : headIs (rest s k) c = decide (x = c) := by rw [rest_cons hlt, hx]; rfl
    rw [hh]
    by_cases he : x = c
    · rw [decide_eq_true he]
      have hnm : n = m := by rw [← hn, ← hm, he]
      subst hnm
      have b3 : ((n : Int) != (n : Int)) = false := by simp
      clear h hn hx hh he
      rw [hm]
      clear hm
      go_enter Tryd.func61, Tryd.ntmps61
      go_wp2_with fail
      go_quiet (fail)
      go_wp2
      go_ret
      exact ⟨rfl, ((Kept.refl [R] w).drewN _).setCell (.inl (by simp)) _, (HR.out.kept ((Kept.refl [] w).drewN _)).set (k + 1)⟩
    · rw [decide_eq_false he]
      have b3 : ((n : Int) != (m : Int)) = true := by
        simp
        intro e
        exact he (UInt8.toNat_inj.1 (by omega))
      clear h hn hx hh he
      rw [hm]
      clear hm
      go_enter Tryd.func61, Tryd.ntmps61
      go_wp2_with fail
      go_quiet (fail)
      go_wp2
      go_ret
      exact ⟨rfl, (Kept.refl [R] w).drewN _, HR.out.kept ((Kept.refl [] w).drewN _)⟩
  · obtain rfl : k = s.size := by omega
    have b2 : ((s.size : Int) == (s.size : Int)) = true := by simp
    have hh : headIs (rest s s.size) c = false := by rw [rest_end (Nat.le_refl _)]; rfl
    rw [hh]
    clear h hh
    rw [hm]
    clear hm
    go_enter Tryd.func61, Tryd.ntmps61
    go_wp2_with fail
    go_quiet (fail)
    go_wp2
    go_ret
    exact ⟨rfl, (Kept.refl [R] w).drewN _, HR.out.kept ((Kept.refl [] w).drewN _)⟩

theorem kept_same {F : List Nat} {a b c : World} (h : Kept F a b) (k : Kept F b c) : Kept F a c := h.trans k (fun _ h => h) (fun _ h => .inl h)
theorem headIs_blank {s : ByteArray} {k : Nat} (h : headIs (rest s k) 32 = true) : k < s.size ∧ blanksN (rest s k) = blanksN (rest s (k + 1)) + 1 := by
  rcases Nat.lt_or_ge k s.size with hlt | hge
  · refine ⟨hlt, ?_⟩
    rw [rest_cons hlt] at h ⊢
    have e : s[k] = 32 := by simpa [headIs] using h
    rw [e, blanks_one]
  · rw [rest_end hge] at h; cases h
theorem headIs_not {s : ByteArray} {k : Nat} (h : headIs (rest s k) 32 = false) : blanksN (rest s k) = 0 := by
  rcases Nat.lt_or_ge k s.size with hlt | hge
  · rw [rest_cons hlt] at h ⊢
    have e : s[k] ≠ 32 := by simpa [headIs] using h
    unfold blanksN
    rw [if_neg e]
  · rw [rest_end hge]; rfl
set_option maxHeartbeats 1000000 in
theorem blanks_any (R k : Nat) (s : ByteArray) (w : World) (h : Rd w R s k) (hk : k ≤ s.size) (hs : s.size ≤ 65536) :
    Calls Tryd.prog 62 #[.pointer (some ⟨R, 0, none⟩)] w fun e w' => e = .returned (.tuple #[]) ∧ Kept [R] w w' ∧ Rd w' R s (k + blanksN (rest s k)) := by
  have HR : Hid (Rd w R s k) := h
  clear h
  go_enter Tryd.func62, Tryd.ntmps62
  go_wp2_with fail
  go_loopg [3] (s.size - k) (fun g _ wr => ∃ j : Nat, g + k + j = s.size ∧ Hid (Rd wr R s (k + j)) ∧ Hid (Kept [R] w wr) ∧ Hid (blanksN (rest s k) = j + blanksN (rest s (k + j))))
  case atStart => exact ⟨0, by omega, HR.out, Kept.refl _ _, by show _ = _; rw [Nat.zero_add]; rfl⟩
  case round =>
    obtain ⟨j, hj, HR2, HK2, HB⟩ := hrel
    have HT : Hid (Calls Tryd.prog 61 #[.pointer (some ⟨R, 0, none⟩), .int .u8 32] wr fun e w' => e = .returned (.bool (headIs (rest s (k + j)) 32)) ∧ Kept [R] wr w' ∧ Rd w' R s (tookN s (k + j) 32)) := take_any R (k + j) s 32 wr HR2.out (by omega) hs
    cases hq : headIs (rest s (k + j)) 32 with
    | true =>
      obtain ⟨q1, q2⟩ := headIs_blank hq
      unfold tookN at HT
      rw [hq, if_pos rfl] at HT
      have HB2 : Hid (blanksN (rest s k) = j + 1 + blanksN (rest s (k + (j + 1)))) := by show _ = _; rw [HB.out, q2, show k + (j + 1) = k + j + 1 by omega]; omega
      clear hq q2 HB
      go_wp2_with (go_at_call 61; refine HT.out.mono ?_; rintro e w2 ⟨rfl, k2, r2⟩; have HK3 : Hid (Kept [R] wr w2) := k2; have HR3 : Hid (Rd w2 R s (k + j + 1)) := r2; clear k2 r2)
      go_roundg (s.size - k - (j + 1))
      case measure => omega
      case rel => exact ⟨j + 1, by omega, HR3.out, kept_same HK2.out HK3.out, HB2.out⟩
    | false =>
      have q2 := headIs_not hq
      unfold tookN at HT
      rw [hq, if_neg (by simp)] at HT
      have HB2 : Hid (k + blanksN (rest s k) = k + j) := by show _ = _; rw [HB.out, q2]; rfl
      clear hq q2 HB
      go_wp2_with (go_at_call 61; refine HT.out.mono ?_; rintro e w2 ⟨rfl, k2, r2⟩; have HK3 : Hid (Kept [R] wr w2) := k2; have HR3 : Hid (Rd w2 R s (k + j)) := r2; clear k2 r2)
      go_end0
      exact ⟨rfl, kept_same HK2.out HK3.out, by rw [HB2.out]; exact HR3.out⟩

set_option maxHeartbeats 1000000 in
theorem atDigit_any (R k : Nat) (s : ByteArray) (w : World) (h : Rd w R s k) (hk : k ≤ s.size) (_hs : s.size ≤ 65536) :
    Calls Tryd.prog 71 #[.pointer (some ⟨R, 0, none⟩)] w fun e w' => e = .returned (.bool (headDig (rest s k))) ∧ Quiet w w' := by
  obtain ⟨c0, c1, _⟩ := h.cells
  have b0 : (0 : Int) ≤ (k : Int) := by omega
  rcases Nat.lt_or_ge k s.size with hlt | hge
  · have b1 : (k : Int) < (s.size : Int) := by omega
    obtain ⟨x, hx⟩ : ∃ x : UInt8, s[k]'hlt = x := ⟨_, rfl⟩
    obtain ⟨n, hn⟩ : ∃ n, x.toNat = n := ⟨_, rfl⟩
    have hn2 : s[k].toNat = n := by rw [hx]; exact hn
    have hh : headDig (rest s k) = (decide (48 ≤ n) && decide (n ≤ 57)) := by rw [rest_cons hlt, hx, ← hn]; rfl
    rw [hh]
    clear h hn hx hh
    by_cases h1 : 48 ≤ n
    · by_cases h2 : n ≤ 57
      · rw [decide_eq_true h1, decide_eq_true h2]
        have d1 : decide ((48 : Int) ≤ (n : Int)) = true := by simp; omega
        have d2 : decide ((n : Int) ≤ 57) = true := by simp; omega
        go_enter Tryd.func71, Tryd.ntmps71
        go_wp2_with fail
        go_quiet (fail)
        go_wp2
        go_ret
        exact ⟨rfl, _, rfl⟩
      · rw [decide_eq_true h1, decide_eq_false h2]
        have d1 : decide ((48 : Int) ≤ (n : Int)) = true := by simp; omega
        have d2 : decide ((n : Int) ≤ 57) = false := by simp; omega
        go_enter Tryd.func71, Tryd.ntmps71
        go_wp2_with fail
        go_quiet (fail)
        go_wp2
        go_ret
        exact ⟨rfl, _, rfl⟩
    · rw [decide_eq_false h1]
      have d1 : decide ((48 : Int) ≤ (n : Int)) = false := by simp; omega
      go_enter Tryd.func71, Tryd.ntmps71
      go_wp2_with fail
      go_quiet (fail)
      go_wp2
      go_ret
      exact ⟨rfl, _, rfl⟩
  · obtain rfl : k = s.size := by omega
    have b1 : ¬ ((s.size : Int) < (s.size : Int)) := by omega
    have d1 : decide ((s.size : Int) < (s.size : Int)) = false := by simp
    rw [show headDig (rest s s.size) = false by rw [rest_end (Nat.le_refl _)]; rfl]
    clear h
    go_enter Tryd.func71, Tryd.ntmps71
    go_wp2_with fail
    go_quiet (fail)
    go_wp2
    go_ret
    exact ⟨rfl, _, rfl⟩
end Go.Proofs.YtamfnefnaelgfaaDoor
