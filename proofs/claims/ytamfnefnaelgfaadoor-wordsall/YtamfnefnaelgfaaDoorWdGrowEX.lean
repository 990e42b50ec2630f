/- words.All: a row that is full. -/
import Derived.Test.YtamfnefnaelgfaaDoorWdGrowX
namespace Go.Proofs.YtamfnefnaelgfaaDoor
open Go.RowKit Go.Shelf
variable {l Br Bp Bs By Bb Bg base stem places below N : Nat} {T : Nat → Prop} {L : List Wd} {J Jx : (Nat → Prop) → List Nw → World → Prop}
set_option maxHeartbeats 4000000 in
set_option maxRecDepth 20000 in
theorem grow_end (hJ : Abide J)
    (hY : ∀ m X pre x W1, J X pre W1 → NwAt L X x W1 → (∀ k, X k → k < W1.heap.size) → pre.length < N → (∃ W0, J X pre W0 ∧ FrNw W0.heap.size x) → YieldAt Fence.wide m Tryd.prog l (nwV x) W1 fun e W' =>
      (e = .returned (.bool true) ∧ J X (pre ++ [x]) W' ∧ KpX (orT T X) W1 W') ∨ (e = .returned (.bool false) ∧ Jx X (pre ++ [x]) W' ∧ KpX (orT T X) W1 W'))
    (row : List Nat) (X : Nat → Prop) (pre : List Nw) (W : World) (hA : GrowAt l Br Bp Bs By Bb Bg base stem places below X row W) (hj : J X pre W) (hX : ∀ k, X k → k < W.heap.size) (hlen : row.length = places) (hst : stem < places) (hpl : places ≤ 1000) (hsm : ∀ x ∈ row, x < 65536)
    (hN : pre.length + (ext below stem 0 row).length ≤ N) (hL : ∀ y ∈ ext below stem 0 row, y ∈ L) :
    Calls Tryd.prog 54 #[.pointer (some ⟨Br, 0, none⟩), .pointer (some ⟨Bp, 0, none⟩), .pointer (some ⟨Bs, 0, none⟩), .pointer (some ⟨By, 0, none⟩), .pointer (some ⟨Bb, 0, none⟩), .pointer (some ⟨Bg, 0, none⟩)] W
      (GrowEnds l Br Bp Bs By Bb Bg base stem places below T J Jx 0 row pre X W) := by
  subst hlen
  obtain ⟨v, hbr, hown, hvx⟩ := hA.row
  obtain ⟨g, cap, hv⟩ : ∃ g cap, v = .slice (some ⟨g, 0, none⟩) row.length cap := by
    rcases hown.2 with ⟨_, h0⟩ | ⟨g, cap, cur, e, _⟩
    · omega
    · exact ⟨g, cap, e⟩
  subst hv
  have hcap : row.length ≤ cap ∧ cap ≤ 9223372036854775807 := by
    obtain ⟨_, h1, h2⟩ := lets_form (lets_own hown hsm (by omega))
    exact ⟨h1, h2⟩
  obtain ⟨hc1, hc2⟩ := hcap
  have hw := grow_word (stem := stem) hown hsm (by omega) (by omega)
  rw [if_neg (by omega)] at hw
  have cr := hbr.cell
  have cp := hA.bp.cell
  have cs := hA.bs.cell
  have cy := hA.yld.cell
  have HA : Hid (GrowAt l Br Bp Bs By Bb Bg base stem row.length below X row W) := hA
  have HBR : Hid (Boxed W Br 45 (.slice (some ⟨g, 0, none⟩) row.length cap)) := hbr
  have HBS : Hid (Boxed W Bs 3 (.int .i64 (stem : Nat))) := hA.bs
  have HBY : Hid (Boxed W By 66 (.func (.yield l) #[] #[])) := hA.yld
  have HW : Hid (IsW W (.slice (some ⟨g, 0, none⟩) stem cap) (.slice (some ⟨g, stem, none⟩) (row.length - stem) (cap - stem)) (wdOf stem row)) := hw
  have HJ : Hid (Abide J) := hJ
  have HY : Hid _ := hY
  have HX : Hid _ := hX
  have Hj : Hid (J X pre W) := hj
  have e1 : ((row.length : Int) == (row.length : Int)) = true := by simp
  have b1 : (0 : Int) ≤ (stem : Int) := by omega
  have b2 : (stem : Int) ≤ (row.length : Int) := by omega
  have b3 : (row.length : Int) ≤ (cap : Int) := by omega
  have b4 : (stem : Int) ≤ (cap : Int) := by omega
  have b5 : ¬ (cap = stem) := by omega
  have n1 := hbr.lt
  have n2 := hA.bs.lt
  have n3 := hA.yld.lt
  clear hA hbr hown hvx hw hJ hY hX hj
  go_enter Tryd.func54, Tryd.ntmps54
  go_wp2_with fail
  go_region_held3 (fun w' => w'.cell? ⟨Br, 0, none⟩ = some (.slice (some ⟨g, 0, none⟩) row.length cap) ∧ w'.cell? ⟨Bs, 0, none⟩ = some (.int .i64 (stem : Nat)))
    ((refine box_cells HBR.out HBS.out ?_; (repeat (first | exact Kept.refl _ _ | refine Kept.drew ?_ | refine Kept.alloc ?_ _ | refine Kept.setCell ?_ (Or.inr (by simp)) _))))
    (fail)
  go_wp2_with fail
  obtain ⟨V, hV⟩ : ∃ V, (W.alloc (.cells #[.slice (some ⟨g, 0, none⟩) stem cap, .slice (some ⟨g, stem, none⟩) (row.length - stem) (cap - stem)] 47)).drew = V := ⟨_, rfl⟩
  have kV : Kept [] W V := by rw [← hV]; exact ((Kept.refl [] W).alloc _).drew
  have hb : Wd2 V W.heap.size (.slice (some ⟨g, 0, none⟩) stem cap) (.slice (some ⟨g, stem, none⟩) (row.length - stem) (cap - stem)) := by rw [← hV]; exact heap_alloc_new W _
  have HKV : Hid (Kept [] W V) := kV
  have HB : Hid (Wd2 V W.heap.size (.slice (some ⟨g, 0, none⟩) stem cap) (.slice (some ⟨g, stem, none⟩) (row.length - stem) (cap - stem))) := hb
  rw [hV]
  clear hV
  obtain ⟨d0, d1, _, _⟩ := hb.cells
  have d2 := cell_kept0 kV cy
  have HIN : Hid (∀ W1, Kept [] V W1 → Calls Tryd.prog 55 #[.agg #[.slice (some ⟨g, 0, none⟩) stem cap, .slice (some ⟨g, stem, none⟩) (row.length - stem) (cap - stem)]] W1 fun e w' => e = .returned (.bool (normB (wdOf stem row))) ∧ Kept [] W1 w') := fun W1 k => isNormal_any _ _ (wdOf stem row) W1 (HW.out.kept (HKV.out.trans k (by simp) (by simp))) (by show 0 < (row.drop stem).length; rw [List.length_drop]; omega)
  clear cr cp cs cy kV hb
  cases hnb : normB (wdOf stem row) with
  | false =>
    have HE : Hid (ext below stem 0 row = []) := by show _ = _; unfold ext; rw [hnb]; rfl
    rw [hnb] at HIN
    clear hnb
    refine wp_region_quiet (C := fun w' => Kept [] V w') (by kernel_rfl) (by kernel_rfl) ((Kept.refl [] V).drew) ?_
    simp only []
    go_big_quiet_want
    refine ⟨.agg #[.slice (some ⟨g, 0, none⟩) stem cap, .slice (some ⟨g, stem, none⟩) (row.length - stem) (cap - stem)], fun w hw => ?_, ?_⟩
    · obtain ⟨q0, q1, _, _⟩ := (HB.out.kept hw).cells
      go_simp
    go_big_quiet_on
    simp only [Act.put, Array.setIfInBounds, List.size_toArray, List.length_cons, List.length_nil, Nat.reduceAdd, Nat.reduceLT, ↓reduceDIte, List.set_toArray, List.set_cons_succ, List.set_cons_zero]
    go_big_quiet_want
    refine ⟨.bool false, fun w hw => ?_, ?_⟩
    · go_simp
      exact (HIN.out w hw).mono fun e w'' ⟨h1, h2⟩ => ⟨h1, hw.trans h2 (by simp) (by simp)⟩
    go_big_quiet_on
    simp only [Act.put, Array.setIfInBounds, List.size_toArray, List.length_cons, List.length_nil, Nat.reduceAdd, Nat.reduceLT, ↓reduceDIte, List.set_toArray, List.set_cons_succ, List.set_cons_zero]
    go_big_quiet_want
    refine ⟨.bool true, fun w hw => (by go_simp), ?_⟩
    go_big_quiet_on
    simp only [Act.put, Array.setIfInBounds, List.size_toArray, List.length_cons, List.length_nil, Nat.reduceAdd, Nat.reduceLT, ↓reduceDIte, List.set_toArray, List.set_cons_succ, List.set_cons_zero]
    go_big_quiet_want
    refine ⟨.bool true, fun w hw => (by go_simp), ?_⟩
    go_big_quiet_on
    simp only [Act.put, Array.setIfInBounds, List.size_toArray, List.length_cons, List.length_nil, Nat.reduceAdd, Nat.reduceLT, ↓reduceDIte, List.set_toArray, List.set_cons_succ, List.set_cons_zero]
    go_big_quiet_skip
    go_big_quiet_skip
    go_big_quiet_skip
    go_big_quiet_skip
    go_big_quiet_skip
    go_big_quiet_skip
    go_big_quiet_skip
    go_big_quiet_skip
    go_big_quiet_skip
    go_big_quiet_want
    refine ⟨.bool true, fun w hw => (by go_simp), ?_⟩
    go_big_quiet_on
    simp only [Act.put, Array.setIfInBounds, List.size_toArray, List.length_cons, List.length_nil, Nat.reduceAdd, Nat.reduceLT, ↓reduceDIte, List.set_toArray, List.set_cons_succ, List.set_cons_zero]
    go_big_quiet_want
    refine ⟨.bool true, fun w hw => (by go_simp), ?_⟩
    go_big_quiet_on
    simp only [Act.put, Array.setIfInBounds, List.size_toArray, List.length_cons, List.length_nil, Nat.reduceAdd, Nat.reduceLT, ↓reduceDIte, List.set_toArray, List.set_cons_succ, List.set_cons_zero]
    refine wpQuiet_nil ?_
    intro W3 hk3
    have HK3 : Hid (Kept [] V W3) := hk3
    clear hk3
    go_wp2
    go_ret
    have k3 : Kept [] W W3 := HKV.out.trans HK3.out (by simp) (by simp)
    refine .inl ⟨rfl, fun k => X k ∨ Between W W3 k, [], fun k h => .inl h, (HA.out.more (fun k h => .inl h)).kept k3, KpX.of_kept k3, by rw [List.append_nil]; exact HJ.out.lay Hj.out k3, fun k h => h.elim (fun h => Nat.lt_of_lt_of_le (HX.out k h) k3.size) (fun h => h.2), HE.out.symm⟩
  | true =>
    have hE : ext below stem 0 row = [wdOf stem row] := by unfold ext; rw [hnb, if_pos rfl]
    have HE : Hid (ext below stem 0 row = [wdOf stem row]) := hE
    have hNl : pre.length < N := by rw [hE] at hN; simp at hN; omega
    have hLm : wdOf stem row ∈ L := hL _ (by rw [hE]; simp)
    rw [hnb] at HIN
    have HC1 : Hid (∀ W1, Kept [] V W1 → Calls Tryd.prog 43 #[.slice (some ⟨g, 0, none⟩) stem cap] W1 fun e w' => ∃ ad c, e = .returned (.slice ad stem c) ∧ Hid (w'.ownsRow W1.heap.size 51 1 (.slice ad stem c) (row.take stem).length (u16s (row.take stem))) ∧ Hid (Kept [] W1 w')) := fun W1 k => by
      have := copied_at _ _ W1 (HW.out.kept (HKV.out.trans k (by simp) (by simp))).st
      have hl : (wdOf stem row).stem.length = stem := by show (row.take stem).length = stem; rw [List.length_take]; omega
      rw [hl] at this
      have hl2 : (row.take stem).length = stem := hl
      rw [hl2]
      exact this
    have HC2 : Hid (∀ W1, Kept [] V W1 → Calls Tryd.prog 43 #[.slice (some ⟨g, stem, none⟩) (row.length - stem) (cap - stem)] W1 fun e w' => ∃ ad c, e = .returned (.slice ad (row.length - stem) c) ∧ Hid (w'.ownsRow W1.heap.size 51 1 (.slice ad (row.length - stem) c) (row.drop stem).length (u16s (row.drop stem))) ∧ Hid (Kept [] W1 w')) := fun W1 k => by
      have := copied_at _ _ W1 (HW.out.kept (HKV.out.trans k (by simp) (by simp))).lp
      have hl : (wdOf stem row).loop.length = row.length - stem := by show (row.drop stem).length = _; rw [List.length_drop]
      rw [hl] at this
      have hl2 : (row.drop stem).length = row.length - stem := hl
      rw [hl2]
      exact this
    have HYY : Hid (∀ a1 c1 a2 c2 W4 W5, Kept [] V W4 → Kept [] W4 W5 → W4.ownsRow V.heap.size 51 1 (.slice a1 stem c1) (row.take stem).length (u16s (row.take stem)) → W5.ownsRow W4.heap.size 51 1 (.slice a2 (row.length - stem) c2) (row.drop stem).length (u16s (row.drop stem)) →
        YieldAt Fence.wide (0 - 1) Tryd.prog l #[.agg #[.slice a1 stem c1, .slice a2 (row.length - stem) c2]] W5 fun e W6 => ∃ b : Bool, e = .returned (.bool b) ∧ Hid ((b = true ∧ J X (pre ++ [⟨a1, c1, a2, c2, wdOf stem row⟩]) W6 ∧ KpX (orT T X) W5 W6) ∨ (b = false ∧ Jx X (pre ++ [⟨a1, c1, a2, c2, wdOf stem row⟩]) W6))) := fun a1 c1 a2 c2 W4 W5 k4 k5 o4 o5 => by
      have kW5 : Kept [] W W5 := kept_same (kept_same HKV.out k4) k5
      have hl1 : (wdOf stem row).stem.length = stem := by show (row.take stem).length = stem; rw [List.length_take]; omega
      have hl2 : (wdOf stem row).loop.length = row.length - stem := by show (row.drop stem).length = _; rw [List.length_drop]
      have hnew : NewW V.heap.size W5 (.slice a1 stem c1) (.slice a2 (row.length - stem) c2) (wdOf stem row) := by
        refine ⟨owns_keptF o4 k5 (by simp), owns_low o5 k4.size, fun q e e2 => ?_, fun x hx => hsm x (List.mem_of_mem_take hx), fun x hx => hsm x (List.mem_of_mem_drop hx), by rw [hl1]; omega, by rw [hl2]; omega⟩
        have q1 := owns_lt o4 e
        have q2 := own_base o5 e2
        omega
      have hzV := HKV.out.size
      have := HY.out (0 - 1) X pre ⟨a1, c1, a2, c2, wdOf stem row⟩ W5 (HJ.out.kept Hj.out kW5) ⟨⟨V.heap.size, by simp only [hl1, hl2]; exact hnew⟩, hLm, fun q hq hx => by have h1 := HX.out q hx; simp only [hl1] at hq; have h2 := own_base hnew.own1 hq; omega, fun q hq hx => by have h1 := HX.out q hx; simp only [hl2] at hq; have h2 := own_base hnew.own2 hq; omega⟩ (fun k h => Nat.lt_of_lt_of_le (HX.out k h) kW5.size) hNl ⟨W, Hj.out, fun q hq => (by simp only [hl1] at hq; have h2 := own_base hnew.own1 hq; omega), fun q hq => (by simp only [hl2] at hq; have h2 := own_base hnew.own2 hq; omega), (by simp only [hl1]; omega), (by simp only [hl2]; omega)⟩
      unfold nwV at this
      simp only [hl1, hl2] at this
      refine this.mono fun e W6 h => ?_
      rcases h with ⟨rfl, h1, h2⟩ | ⟨rfl, h1, _⟩
      · exact ⟨true, rfl, .inl ⟨rfl, h1, h2⟩⟩
      · exact ⟨false, rfl, .inr ⟨rfl, h1⟩⟩
    clear hnb hE hNl hLm
    refine (wpIn_wide (n := 0)).1 ?_
    gi_region_with (first
      | (refine ⟨trivial, rfl, ?_⟩; gi_at_call 55; refine (callsIn_wide.2 (HIN.out _ (Kept.refl [] V).drew)).mono ?_; rintro e W3 ⟨rfl, k3⟩; have kV3 : Kept [] V W3 := ((Kept.refl [] V).drew).trans k3 (by simp) (by simp); obtain ⟨u0, u1, _, _⟩ := (HB.out.kept kV3).cells; have u2 := cell_kept0 (HKV.out.trans kV3 (by simp) (by simp)) HBY.out.cell; have HK3 : Hid (Kept [] V W3) := kV3; clear k3 kV3 HIN)
      | (refine ⟨trivial, rfl, ?_⟩; gi_at_call 43; refine (callsIn_wide.2 (HC1.out _ HK3.out)).mono ?_; rintro e W4 ⟨a1, c1, rfl, HO4, HK4⟩; have kV4 : Kept [] V W4 := HK3.out.trans HK4.out (by simp) (by simp); obtain ⟨v0, v1, _, _⟩ := (HB.out.kept kV4).cells; have v2 := cell_kept0 (HKV.out.trans kV4 (by simp) (by simp)) HBY.out.cell; have HKV4 : Hid (Kept [] V W4) := kV4; clear kV4 HC1)
      | (refine ⟨trivial, rfl, ?_⟩; gi_at_call 43; refine (callsIn_wide.2 (HC2.out _ HKV4.out)).mono ?_; rintro e W5 ⟨a2, c2, rfl, HO5, HK5⟩; have x2 := cell_kept0 (kept_same (kept_same HKV.out HKV4.out) HK5.out) HBY.out.cell; obtain ⟨fn, tmps, assign, body, hy, hR⟩ := HYY.out a1 c1 a2 c2 W4 W5 HKV4.out HK5.out (owns_low HO4.out HK3.out.size) HO5.out; clear HC2)
      | (refine ⟨rfl, hR.mono ?_⟩; rintro e W6 ⟨b, rfl, HR6⟩))
    all_goals go_wp2
    all_goals go_ret
    all_goals exact grow_fin (x := ⟨a1, c1, a2, c2, wdOf stem row⟩) HA.out HX.out (kept_same (kept_same HKV.out HKV4.out) HK5.out) HR6.out HE.out
end Go.Proofs.YtamfnefnaelgfaaDoor
