/- The functions that Table.found hands in. -/
import Derived.Test.YtddgciilcghbaaaDoorEvMean
import Derived.Test.YtddgciilcghbaaaDoorEvStr
import Derived.Laws.BitsAllLaws
import Derived.Deep.QuietTactic
import Derived.BigQuiet
import Derived.Test.YtddgciilcghbaaaDoorWdCheck
namespace Go.Proofs.YtddgciilcghbaaaDoor
open Go.RowKit Go.Shelf

set_option maxHeartbeats 400000 in
theorem found1_any (op B : Nat) (i : Nat) (l : Bool) (w : World) (hb : w.cell? ⟨B, 0, none⟩ = some (.int .u8 (op : Nat))) :
    Calls Tryd.prog 119 #[.int .i64 (i : Nat), .bool l, .pointer (some ⟨B, 0, none⟩)] w fun e w' => e = .returned (.bool (op == 1)) ∧ Kept [] w w' := by
  have e : ((op : Int) == 1) = (op == 1) := by rw [Bool.eq_iff_iff, beq_iff_eq, beq_iff_eq]; omega
  have HE : Hid _ := e
  clear e
  go_enter Tryd.func119, Tryd.ntmps119
  go_wp2
  go_ret
  exact ⟨ret_bool HE.out, Kept.refl [] w⟩
theorem bit_bool (x n b : Nat) (hx : x < 65536) (hn : n < 16) (hb : 2 ^ n = b) : (bits .and .u16 (x : Int) (b : Int) != 0) = bitB x n := by
  have h16 : b < 65536 := by rw [← hb]; exact Nat.pow_lt_pow_right (by omega) hn
  rw [u16_and_nat x b hx h16, ← hb]
  unfold bitB
  cases h : x.testBit n with
  | false =>
    have e : x &&& 2 ^ n = 0 := Nat.eq_of_testBit_eq fun j => by
      rw [Nat.testBit_and, Nat.testBit_two_pow, Nat.zero_testBit]
      by_cases hj : n = j
      · subst hj; rw [h]; rfl
      · simp [hj]
    rw [e]; rfl
  | true =>
    have e : x &&& 2 ^ n ≠ 0 := fun e => by
      have := Nat.testBit_and x (2 ^ n) n
      rw [e, Nat.zero_testBit, h, Nat.testBit_two_pow] at this
      simp at this
    rw [bne_iff_ne]
    exact fun q => e (by exact_mod_cast q)
set_option maxHeartbeats 1000000 in
theorem found2_any (B3 B7 p : Nat) (nv sv lv rv mv : Value) (q : Wd) (n i b : Nat) (l : Bool) (w : World) (hT : Tab5 w p nv sv lv rv mv) (hW : IsW w sv lv q) (h0 : 0 < q.loop.length) (hi : i < q.len) (hn : n < 16) (hb : 2 ^ n = b) (h3 : w.cell? ⟨B3, 0, none⟩ = some (.pointer (some ⟨p, 0, none⟩))) (h7 : w.cell? ⟨B7, 0, none⟩ = some (.int .u16 (b : Nat))) :
    Calls Tryd.prog 120 #[.int .i64 (i : Nat), .bool l, .pointer (some ⟨B3, 0, none⟩), .pointer (some ⟨B7, 0, none⟩)] w fun e w' => e = .returned (.bool (bitB (q.at i) n)) ∧ Kept [] w w' := by
  have hl : q.len ≤ 70368744177664 := hW.few
  have hxs := at_small hW.st.small hW.lp.small i
  have HA : Hid (∀ W, Kept [] w W → Calls Tryd.prog 121 #[.agg #[sv, lv], .int .i64 (i : Nat)] W fun e w' => e = .returned (.int .u16 (q.at i : Nat)) ∧ Kept [] W w') := fun W k => by
    have := at_any sv lv q i W (hW.kept k) (by omega)
    rw [show atI q i = q.at i from by unfold atI; rw [if_neg (by omega)]; simp] at this
    exact this
  obtain ⟨c0, c1, c2, c3, c4, _⟩ := hT.cells
  obtain ⟨x, hx⟩ : ∃ x, q.at i = x := ⟨_, rfl⟩
  rw [hx] at HA hxs ⊢
  have HBB : Hid ((bits .and .u16 (x : Int) (b : Int) != 0) = bitB x n) := bit_bool x n b hxs hn hb
  have g7 := fun W (k : Kept [] w W) => cell_kept0 k h7
  have G7 : Hid _ := g7
  clear hT hW c0 c3 c4 hx hb g7 hxs
  go_enter Tryd.func120, Tryd.ntmps120
  go_wp2_with fail
  go_region_with (go_at_call 121; refine (HA.out _ (by first | exact Kept.refl [] w | exact (Kept.refl [] w).drew | exact (Kept.refl [] w).drewN _)).mono ?_; rintro e W ⟨rfl, hk⟩; have HKW : Hid (Kept [] w W) := (by first | exact hk | exact ((Kept.refl [] w).drew).trans hk (by simp) (by simp)); have d7 := G7.out W HKW.out; clear hk)
  all_goals
    go_wp2_with fail
    go_ret
    exact ⟨ret_bool HBB.out, HKW.out⟩
set_option maxHeartbeats 1000000 in
theorem found3_any (B5 B3 p kb kc nk gb : Nat) (nv sv lv rv mv : Value) (q : Wd) (i : Nat) (l : Bool) (r : Nat → Bool) (w : World) (hT : Tab5 w p nv sv lv rv mv) (hW : IsW w sv lv q) (h0 : 0 < q.loop.length) (hi : i < q.len) (h3 : w.cell? ⟨B3, 0, none⟩ = some (.pointer (some ⟨p, 0, none⟩))) (h5 : w.cell? ⟨B5, 0, none⟩ = some (.slice (some ⟨kb, 0, none⟩) nk kc)) (hnk : 0 < nk) (hg : w.cell? ⟨kb, 0, none⟩ = some (.slice (some ⟨gb, 0, none⟩) q.len q.len)) (hr : RowB w gb q.len r) :
    Calls Tryd.prog 122 #[.int .i64 (i : Nat), .bool l, .pointer (some ⟨B5, 0, none⟩), .pointer (some ⟨B3, 0, none⟩)] w fun e w' => e = .returned (.bool (r (nxt q i))) ∧ Kept [] w w' := by
  have hl : q.len ≤ 70368744177664 := hW.few
  have HA : Hid (∀ W, Kept [] w W → Calls Tryd.prog 123 #[.agg #[sv, lv], .int .i64 (i : Nat)] W fun e w' => e = .returned (.int .i64 (nxt q i : Nat)) ∧ Kept [] W w') := fun W k => by
    have := behind_any sv lv q i W (hW.kept k)
    rw [behind_nxt h0 hi] at this
    exact this
  have hj := nxt_lt h0 hi
  obtain ⟨c0, c1, c2, c3, c4, _⟩ := hT.cells
  obtain ⟨j, hje⟩ : ∃ j, nxt q i = j := ⟨_, rfl⟩
  rw [hje] at HA hj ⊢
  obtain ⟨n, hn⟩ : ∃ n, q.len = n := ⟨_, rfl⟩
  rw [hn] at hl hj hg hr hi
  have G1 : Hid (∀ W, Kept [] w W → W.cell? ⟨gb, j, none⟩ = some (.bool (r j))) := fun W k => cell_kept0 k (hr.cell hj)
  have G2 : Hid (∀ W, Kept [] w W → W.cell? ⟨kb, 0, none⟩ = some (.slice (some ⟨gb, 0, none⟩) n n)) := fun W k => cell_kept0 k hg
  have G3 : Hid (∀ W, Kept [] w W → W.cell? ⟨B5, 0, none⟩ = some (.slice (some ⟨kb, 0, none⟩) nk kc)) := fun W k => cell_kept0 k h5
  have hnki : (0 : Int) < (nk : Int) := by omega
  clear hT hW c0 c3 c4 hje hr hn
  generalize r j = x at G1
  go_enter Tryd.func122, Tryd.ntmps122
  go_wp2_with fail
  go_region_with (go_at_call 123; refine (HA.out _ (by first | exact Kept.refl [] w | exact (Kept.refl [] w).drew | exact (Kept.refl [] w).drewN _)).mono ?_; rintro e W ⟨rfl, hk⟩; have HKW : Hid (Kept [] w W) := (by first | exact hk | exact ((Kept.refl [] w).drew).trans hk (by simp) (by simp)); have d1 := G1.out W HKW.out; have d2 := G2.out W HKW.out; have d3 := G3.out W HKW.out; clear hk)
  all_goals
    go_wp2_with fail
    go_ret
    exact ⟨rfl, HKW.out⟩
set_option maxHeartbeats 1000000 in
theorem found4_any {op : Nat} (ho : TabOp op) (B10 B8 B9 gb hb n i : Nat) (l : Bool) (g h : Nat → Bool) (w : World) (hi : i < n) (h10 : w.cell? ⟨B10, 1, none⟩ = some (.func (.func (fnOp op)) #[] #[])) (h8 : w.cell? ⟨B8, 0, none⟩ = some (.slice (some ⟨gb, 0, none⟩) n n)) (h9 : w.cell? ⟨B9, 0, none⟩ = some (.slice (some ⟨hb, 0, none⟩) n n)) (hg : RowB w gb n g) (hh : RowB w hb n h) :
    Calls Tryd.prog 125 #[.int .i64 (i : Nat), .bool l, .pointer (some ⟨B10, 0, none⟩), .pointer (some ⟨B8, 0, none⟩), .pointer (some ⟨B9, 0, none⟩)] w fun e w' => e = .returned (.bool (holdOp op (g i) (h i) l)) ∧ Kept [] w w' := by
  have HA : Hid (∀ W, Calls Tryd.prog (fnOp op) #[.bool (g i), .bool (h i), .bool l] W fun e w' => e = .returned (.bool (holdOp op (g i) (h i) l)) ∧ w' = W) := fun W => mean_any ho _ _ _ W
  have hen := mean_enters ho
  have c1 := hg.cell hi
  have c2 := hh.cell hi
  obtain ⟨F, hF⟩ : ∃ F, fnOp op = F := ⟨_, rfl⟩
  rw [hF] at HA hen h10
  generalize holdOp op (g i) (h i) l = y at HA
  generalize g i = x at HA c1
  generalize h i = z at HA c2
  have hii : (i : Int) < (n : Int) := by omega
  clear hg hh hF ho
  go_enter Tryd.func125, Tryd.ntmps125
  go_wp2_with fail
  go_quiet ((go_at_fn F; exact Calls.quiet_of_same (HA.out _)))
  go_wp2
  go_ret
  exact ⟨rfl, (Kept.refl [] w).drewN _⟩
end Go.Proofs.YtddgciilcghbaaaDoor
