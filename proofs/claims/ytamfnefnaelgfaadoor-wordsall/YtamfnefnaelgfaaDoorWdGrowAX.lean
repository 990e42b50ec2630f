/- words.All: the closure, of whatever row. -/
import Derived.Test.YtamfnefnaelgfaaDoorWdGrowSX
namespace Go.Proofs.YtamfnefnaelgfaaDoor
open Go.RowKit Go.Shelf
attribute [local go_sem ↓] Go.wp_at_zero Go.wp_at_succ
variable {l Br Bp Bs By Bb Bg base stem places below N : Nat} {T : Nat → Prop} {L : List Wd} {J Jx : (Nat → Prop) → List Nw → World → Prop}

set_option maxHeartbeats 4000000 in
set_option maxRecDepth 20000 in
theorem rows_any (hJ : Abide J)
    (hY : ∀ m X pre x W1, J X pre W1 → NwAt L X x W1 → (∀ k, X k → k < W1.heap.size) → pre.length < N → (∃ W0, J X pre W0 ∧ FrNw W0.heap.size x) → YieldAt Fence.wide m Tryd.prog l (nwV x) W1 fun e W' =>
      (e = .returned (.bool true) ∧ J X (pre ++ [x]) W' ∧ KpX (orT T X) W1 W') ∨ (e = .returned (.bool false) ∧ Jx X (pre ++ [x]) W' ∧ KpX (orT T X) W1 W'))
    (hT : ∀ k, T k → k < base) (hB : Apart Br Bp Bs By Bb Bg base) (hst : stem < places) (hpl : places ≤ 1000) (hbl : below ≤ 256) :
    ∀ (k : Nat) (row : List Nat) (X : Nat → Prop) (pre : List Nw) (W : World), GrowAt l Br Bp Bs By Bb Bg base stem places below X row W → J X pre W → (∀ k, X k → k < W.heap.size) → base ≤ W.heap.size → row.length + k = places → (∀ x ∈ row, x < 65536) →
      pre.length + (ext below stem k row).length ≤ N → (∀ y ∈ ext below stem k row, y ∈ L) →
      Calls Tryd.prog 54 #[.pointer (some ⟨Br, 0, none⟩), .pointer (some ⟨Bp, 0, none⟩), .pointer (some ⟨Bs, 0, none⟩), .pointer (some ⟨By, 0, none⟩), .pointer (some ⟨Bb, 0, none⟩), .pointer (some ⟨Bg, 0, none⟩)] W
        (GrowEnds l Br Bp Bs By Bb Bg base stem places below T J Jx k row pre X W) := by
  intro k
  induction k with
  | zero =>
    intro row X pre W hA hj hX hbase hlen hsm hN hL
    exact grow_end hJ hY row X pre W hA hj hX (by omega) hst hpl hsm hN hL
  | succ k ih =>
    intro row X pre W hA hj hX hbase hlen hsm hN hL
    have HIH : Hid _ := ih
    have HJ : Hid (Abide J) := hJ
    have HT : Hid _ := hT
    have HB : Hid (Apart Br Bp Bs By Bb Bg base) := hB
    have HN : Hid (pre.length + (ext below stem (k + 1) row).length ≤ N) := hN
    have HL : Hid (∀ y ∈ ext below stem (k + 1) row, y ∈ L) := hL
    have HX : Hid _ := hX
    have Hj : Hid (J X pre W) := hj
    have HSM : Hid (∀ x ∈ row, x < 65536) := hsm
    have HA : Hid (GrowAt l Br Bp Bs By Bb Bg base stem places below X row W) := hA
    obtain ⟨v, hbr, hown, hvx⟩ := hA.row
    obtain ⟨ad, cap, hv⟩ := own_form hown
    subst hv
    have cr := hbr.cell
    have cp := hA.bp.cell
    have cb := hA.bb.cell
    have e1 : ((row.length : Int) == (places : Int)) = false := by simp; omega
    clear hY ih hJ hT hB hN hL hX hj hsm hA hbr hown hvx
    go_enter Tryd.func54, Tryd.ntmps54
    go_wp2_with fail
    go_loopw [8, 35] (fun _ i wr => ∃ c : Nat, i = .int .u16 (c : Nat) ∧ c ≤ below ∧ Hid (∃ X' xs, (∀ k, X k → X' k) ∧ GrowAt l Br Bp Bs By Bb Bg base stem places below X' row wr ∧ KpX T W wr ∧ J X' (pre ++ xs) wr ∧ (∀ k, X' k → k < wr.heap.size) ∧ base ≤ wr.heap.size ∧ xs.map Nw.q = (List.range c).flatMap (fun c => ext below stem k (row ++ [c])))) (fun _ i _ => below - (intOf i).toNat)
    case atStart => exact ⟨0, rfl, Nat.zero_le _, ⟨X, [], fun _ h => h, HA.out, KpX.refl _ _, by rw [List.append_nil]; exact Hj.out, HX.out, hbase, rfl⟩⟩
    case round =>
      obtain ⟨c, rfl, hc, HR⟩ := hrel
      clear cr cp cb HA Hj HX
      by_cases hlt : c < below
      · obtain ⟨X2, xs, hX2, hA2, hT2, hJ2, hXL2, hb2, hxs⟩ := HR.out
        obtain ⟨v, hbr, hown, hvx⟩ := hA2.row
        obtain ⟨v1, w1, hr, cr1, fr1, ⟨ad1, cap1, hv1⟩, hgq, X4, hX4, hA4, hT4, hXL4, hJ4⟩ := row_grown (c := c) hA2 hbr hown hvx hXL2 HT.out HB.out (by omega) (by omega) hb2
        subst hv1
        have cr := hbr.cell
        have hext := ext_prefix below stem k row (c + 1) (by omega)
        rw [ext_take] at hext
        have HEX : Hid ((List.range c).flatMap (fun c => ext below stem k (row ++ [c])) ++ ext below stem k (row ++ [c]) <+: ext below stem (k + 1) row) := hext
        have HXS : Hid (xs.map Nw.q = (List.range c).flatMap (fun c => ext below stem k (row ++ [c]))) := hxs
        have hlen4 : (pre ++ xs).length + (ext below stem k (row ++ [c])).length ≤ N := by
          have q1 := hext.length_le
          have q2 := HN.out
          rw [List.length_append, ← hxs, List.length_map] at q1
          rw [List.length_append]
          omega
        have hsm4 : ∀ x ∈ row ++ [c], x < 65536 := fun x hx => (List.mem_append.1 hx).elim (HSM.out x) (fun h => by rw [List.mem_singleton.1 h]; omega)
        have HC : Hid (Calls Tryd.prog 54 #[.pointer (some ⟨Br, 0, none⟩), .pointer (some ⟨Bp, 0, none⟩), .pointer (some ⟨Bs, 0, none⟩), .pointer (some ⟨By, 0, none⟩), .pointer (some ⟨Bb, 0, none⟩), .pointer (some ⟨Bg, 0, none⟩)] (w1.setCell ⟨Br, 0, none⟩ (.slice ad1 (row.length + 1) cap1)) (GrowEnds l Br Bp Bs By Bb Bg base stem places below T J Jx k (row ++ [c]) (pre ++ xs) X4 (w1.setCell ⟨Br, 0, none⟩ (.slice ad1 (row.length + 1) cap1)))) :=
          HIH.out (row ++ [c]) X4 (pre ++ xs) _ hA4 (hJ4 J _ HJ.out hJ2) hXL4 (Nat.le_trans hb2 hT4.size) (by rw [List.length_append, List.length_singleton]; omega) hsm4 hlen4 (fun y hy => HL.out y (hext.subset (List.mem_append_right _ hy)))
        have HRN : Hid (∀ ty, (Builtin.append_ #[45, 45] ty #[v, .slice (some ⟨wr.heap.size, 0, none⟩) 1 1]).run Tryd.prog (wr.alloc (.cells #[.int .u16 (c : Nat)] 51)) = .ok (.slice ad1 (row.length + 1) cap1) w1) := hr
        have cg4 := hA4.self.cell
        have HT4 : Hid _ := hT4
        have HX24 : Hid (∀ k, X k → X4 k) := fun k h => hX4 k (hX2 k h)
        have HT2 : Hid _ := hT2
        have z1 : (c : Int) < (below : Int) := by omega
        have z2 : (0 : Int) ≤ (c : Int) := by omega
        have z3 : IntKind.u16.wrap ((c : Int) + 1) = (c : Int) + 1 := by simp only [IntKind.wrap, IntKind.bits, IntKind.signed]; simp; omega
        clear hA2 hbr hown hvx hr hgq hA4 hT4 hXL4 hJ4 hX4 hX2 hT2 hJ2 hXL2 hxs hext hlen4 hsm4 HR
        go_wp2_with (at_builtin; refine Lib.wpList_append_run _ rfl _ _ _ _ rfl _ _ rfl rfl _ _ (HRN.out _) ?_)
        refine HC.out.mono ?_
        rintro e W5 (⟨rfl, X5, ys, hX5, hA5, hT5, hJ5, hXL5, hys⟩ | ⟨rfl, X5, ys, hJx5, hys⟩)
        · obtain ⟨v5, hv5, hown5, hpx5⟩ := hA5.row
          obtain ⟨g5, cap5, e5⟩ : ∃ g cap, v5 = .slice (some ⟨g, 0, none⟩) (row.length + 1) cap := by
            rcases hown5.2 with ⟨_, h0⟩ | ⟨g, cap, cur, e, _⟩
            · rw [List.length_append, List.length_singleton] at h0; omega
            · exact ⟨g, cap, by rw [e, List.length_append]; rfl⟩
          subst e5
          have hc5 := row_cut (T := T) hA5 hv5 hown5 (hpx5 _ rfl) HT.out HB.out
          have cp5 := hv5.cell
          have fp5 := hv5.frozen
          have hle5 : row.length + 1 ≤ cap5 := by
            rcases hown5.2 with ⟨e, _⟩ | ⟨g, cap, cur, e, _, _, q, _⟩
            · cases e
            · simp only [Value.slice.injEq] at e
              obtain ⟨_, _, rfl⟩ := e
              simpa using q
          have hle6 : cap5 ≤ 9223372036854775807 := by
            rcases hown5.2 with ⟨e, _⟩ | ⟨g, cap, cur, e, _, _, _, q, _⟩
            · cases e
            · simp only [Value.slice.injEq] at e
              obtain ⟨_, _, rfl⟩ := e
              unfold maxLen at q
              omega
          obtain ⟨hA6, hT6, hz6, hJ6⟩ := hc5
          have hTr := (HT4.out.trans hT5).trans hT6
          have HREL : Hid (∃ X' xs', (∀ k, X k → X' k) ∧ GrowAt l Br Bp Bs By Bb Bg base stem places below X' row (W5.setCell ⟨Br, 0, none⟩ (.slice (some ⟨g5, 0, none⟩) row.length cap5)) ∧ KpX T W (W5.setCell ⟨Br, 0, none⟩ (.slice (some ⟨g5, 0, none⟩) row.length cap5)) ∧ J X' (pre ++ xs') (W5.setCell ⟨Br, 0, none⟩ (.slice (some ⟨g5, 0, none⟩) row.length cap5)) ∧ (∀ k, X' k → k < (W5.setCell ⟨Br, 0, none⟩ (.slice (some ⟨g5, 0, none⟩) row.length cap5)).heap.size) ∧ base ≤ (W5.setCell ⟨Br, 0, none⟩ (.slice (some ⟨g5, 0, none⟩) row.length cap5)).heap.size ∧ xs'.map Nw.q = (List.range (c + 1)).flatMap (fun c => ext below stem k (row ++ [c]))) := by
            refine ⟨X5, xs ++ ys, fun k h => hX5 k (HX24.out k h), hA6, HT2.out.trans hTr, by rw [← List.append_assoc]; exact hJ6 J _ HJ.out hJ5, fun k h => by rw [hz6]; exact hXL5 k h, Nat.le_trans hb2 hTr.size, ?_⟩
            rw [List.map_append, HXS.out, hys, ext_take]
          have z5 : ((row.length + 1 : Nat) : Int) - 1 = (row.length : Int) := by omega
          have z6 : (row.length : Int) ≤ (cap5 : Int) := by omega
          have z7 : (0 : Int) ≤ (row.length : Int) := by omega
          clear hA5 hX5 hT5 hJ5 hXL5 hys hv5 hown5 hpx5 hA6 hT6 hz6 hJ6 hTr cr cr1 fr1 cg4
          go_wp2
          go_roundw
          case rel => exact ⟨c + 1, by go_num, by omega, HREL.out⟩
          case measure => simp [intOf]; omega
        · have HPF : Hid ((xs ++ ys).map Nw.q <+: ext below stem (k + 1) row) := by
            refine List.IsPrefix.trans ?_ HEX.out
            rw [List.map_append, HXS.out, List.prefix_append_right_inj]
            exact hys
          have HJX : Hid (Jx X5 (pre ++ (xs ++ ys)) W5) := by rw [← List.append_assoc]; exact hJx5
          clear hys hJx5
          go_wp2
          go_ret
          exact .inr ⟨rfl, X5, xs ++ ys, HJX.out, HPF.out⟩
      · obtain rfl : c = below := by omega
        have z1 : ¬ ((c : Int) < (c : Int)) := by omega
        go_wp2
        go_ret
        obtain ⟨X2, xs, q1, q2, q3, q4, q5, _, q6⟩ := HR.out
        exact .inl ⟨rfl, X2, xs, q1, q2, q3, q4, q5, q6⟩
end Go.Proofs.YtamfnefnaelgfaaDoor
