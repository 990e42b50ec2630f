/- NnfAgain: the walk. -/
import Derived.Test.YtddgciilcghbaaaDoorNnAgainBM
namespace Go.Proofs.YtddgciilcghbaaaDoor
open Go.RowKit Go.Shelf

theorem much_case {f : Tr} {m : Nat} (h : m ≤ 1048576 → f.wsum = m) : (100000 : Int) < (m : Int) ∨ (¬ (100000 : Int) < (m : Int) ∧ Hid (f.size ≤ 100000)) := by
  rcases Nat.lt_or_ge 100000 m with h1 | h1
  · exact Or.inl (by omega)
  · refine Or.inr ⟨by omega, ?_⟩
    have h2 := h (by omega)
    have h3 := Tr.size_wsum f
    show f.size ≤ 100000
    omega
set_option maxHeartbeats 4000000 in
set_option maxRecDepth 20000 in
theorem nnfAgain_bad (f : Tr) (fv : Value) (w : World) (hI : IsF w f fv) (hF : f.Fine) (hM : f.Modest) (hT : KidsTab w) (hU : TurnTab w) (hr : rightN pastB f ≠ 0) :
    Calls Tryd.prog 5 #[.agg #[.int .u8 (f.op : Nat), .string f.name, fv]] w fun e w' => e = .returned (.bool true) ∧ Kept [] w w' := by
  obtain ⟨kad, kcap, rfl⟩ := hI.slice
  obtain ⟨V, hV⟩ : ∃ V, w.alloc (.cells #[.int .u8 (f.op : Nat), .string f.name, .slice kad f.kids.length kcap] 25) = V := ⟨_, rfl⟩
  have kV : Kept [] w V := by rw [← hV]; exact (Kept.refl [] w).alloc _
  have v0 : For3 V w.heap.size (.int .u8 (f.op : Nat)) (.string f.name) (.slice kad f.kids.length kcap) := by rw [← hV]; exact al0 _ _
  have HWT : Hid (Calls Tryd.prog 16 #[.agg #[.int .u8 (f.op : Nat), .string f.name, .slice kad f.kids.length kcap]] V fun e w' => ∃ n : Nat, e = .returned (.int .i64 (n : Nat)) ∧ n ≤ 145036750680577 ∧ (n ≤ 1048576 → f.wsum = n) ∧ Kept [] V w') := weightAll_any f _ V (hI.kept kV) hM
  have HKV : Hid (Kept [] w V) := kV
  have HV0 : Hid (For3 V w.heap.size (.int .u8 (f.op : Nat)) (.string f.name) (.slice kad f.kids.length kcap)) := v0
  have HVV : Hid (_ = V) := hV
  rw [← hV] at HWT
  have HKN : Hid (∀ W, Kept [] V W → Calls Tryd.prog 17 #[] W fun e w' => e = .returned (.bool true) ∧ Kept [] W w') := fun W k => known_any W ((hT.kept kV).kept k) ((hU.kept kV).kept k)
  have HSI : Hid (f.size ≤ 100000 → ∀ W, Kept [] V W → Calls Tryd.prog 18 #[.agg #[.int .u8 (f.op : Nat), .string f.name, .slice kad f.kids.length kcap]] W (MadeAs W 70 (simpT f))) := fun hs W k => by
    have := simple_any f _ W ((hI.kept kV).kept k) (by omega) (by have := f.depth_size; omega) hF ((hT.kept kV).kept k) ((hU.kept kV).kept k)
    rw [if_pos hr] at this
    exact this
  have HRI : Hid (f.size ≤ 100000 → ∀ W, Kept [] V W → Calls Tryd.prog 19 #[.agg #[.int .u8 (f.op : Nat), .string f.name, .slice kad f.kids.length kcap]] W fun e w' => e = .returned (.int .i64 (rightN pastB f : Nat)) ∧ Kept [] W w') := fun hs W k => right_any f _ W ((hI.kept kV).kept k) (by omega) (by have := f.depth_size; omega) hF ((hT.kept kV).kept k)
  have hne : ((rightN pastB f : Int) != 0) = true := by rw [bne_iff_ne]; omega
  generalize rightN pastB f = er at *
  generalize simpT f = ps at *
  have T0 : Hid True := trivial
  have T1 : Hid True := trivial
  have T2 : Hid True := trivial
  have T3 : Hid True := trivial
  clear hI hF hM hT hU kV v0 hV hr
  go_enter Tryd.func5, Tryd.ntmps5
  go_wp2_with (first
    | (clear T0; go_at_call 16; refine HWT.out.mono ?_; rintro e W1 ⟨m, rfl, hm1, hm2, k1⟩; rw [HVV.out] at k1; have HK1 : Hid (Kept [] V W1) := k1; clear k1; rcases much_case hm2 with h1i | ⟨h1i, HSZ⟩)
    | (clear T1; go_at_call 17; refine (HKN.out _ HK1.out).mono ?_; rintro e W2 ⟨rfl, k2⟩; have HK2 : Hid (Kept [] V W2) := HK1.out.trans k2 (by simp) (by simp); obtain ⟨f0, f1, f2, -⟩ := (HV0.out.kept HK2.out).cells; clear k2)
    | (clear T2; go_at_call 18; refine (HSI.out HSZ.out _ HK2.out).mono ?_; rintro e W3 hm; obtain ⟨rfl, kk⟩ := hm.bad (by omega); have HK3 : Hid (Kept [] V W3) := HK2.out.trans kk (by simp) (by simp); have y0 := (fun o => cell_kept0 ((Kept.refl [] W3).alloc o) (HV0.out.kept HK3.out).cells.1); have y1 := (fun o => cell_kept0 ((Kept.refl [] W3).alloc o) (HV0.out.kept HK3.out).cells.2.1); have y2 := (fun o => cell_kept0 ((Kept.refl [] W3).alloc o) (HV0.out.kept HK3.out).cells.2.2.1); clear kk)
    | (clear T3; go_at_call 19; refine (HRI.out HSZ.out _ (HK3.out.alloc _)).mono ?_; rintro e W4 ⟨rfl, kk⟩; have HK4 : Hid (Kept [] V W4) := (HK3.out.alloc _).trans kk (by simp) (by simp); have hb3 : For3 (W3.alloc (.cells #[.int .u8 0, .string ⟨#[]⟩, .slice none 0 0] 25)) W3.heap.size (.int .u8 0) (.string ⟨#[]⟩) (.slice none 0 0) := al0 _ _; obtain ⟨s0, s1, s2, -⟩ := (hb3.kept kk).cells; clear kk hb3))
  all_goals go_ret
  all_goals first
    | exact ⟨rfl, HKV.out.trans HK1.out (by simp) (by simp)⟩
    | exact ⟨rfl, HKV.out.trans HK4.out (by simp) (by simp)⟩

set_option maxHeartbeats 4000000 in
set_option maxRecDepth 20000 in
theorem nnfAgain_good (f : Tr) (fv : Value) (w : World) (hI : IsF w f fv) (hF : f.Fine) (hM : f.Modest) (hT : KidsTab w) (hU : TurnTab w) (hr : rightN pastB f = 0) :
    Calls Tryd.prog 5 #[.agg #[.int .u8 (f.op : Nat), .string f.name, fv]] w fun e w' => e = .returned (.bool true) ∧ Kept [] w w' := by
  obtain ⟨kad, kcap, rfl⟩ := hI.slice
  obtain ⟨V, hV⟩ : ∃ V, w.alloc (.cells #[.int .u8 (f.op : Nat), .string f.name, .slice kad f.kids.length kcap] 25) = V := ⟨_, rfl⟩
  have kV : Kept [] w V := by rw [← hV]; exact (Kept.refl [] w).alloc _
  have v0 : For3 V w.heap.size (.int .u8 (f.op : Nat)) (.string f.name) (.slice kad f.kids.length kcap) := by rw [← hV]; exact al0 _ _
  have HWT : Hid (Calls Tryd.prog 16 #[.agg #[.int .u8 (f.op : Nat), .string f.name, .slice kad f.kids.length kcap]] V fun e w' => ∃ n : Nat, e = .returned (.int .i64 (n : Nat)) ∧ n ≤ 145036750680577 ∧ (n ≤ 1048576 → f.wsum = n) ∧ Kept [] V w') := weightAll_any f _ V (hI.kept kV) hM
  have HKV : Hid (Kept [] w V) := kV
  have HV0 : Hid (For3 V w.heap.size (.int .u8 (f.op : Nat)) (.string f.name) (.slice kad f.kids.length kcap)) := v0
  have HVV : Hid (_ = V) := hV
  rw [← hV] at HWT
  obtain ⟨g1, g2, g3⟩ := good_of_right0 hr
  have hless := simp_less f g1
  have gS := simp_good f g1
  have HLK : Hid (lackN (simpT f).names f.names = false) := lack_simp g1
  have hsr := right_of_good0 gS (by omega) (by omega)
  have HKN : Hid (∀ W, Kept [] V W → Calls Tryd.prog 17 #[] W fun e w' => e = .returned (.bool true) ∧ Kept [] W w') := fun W k => known_any W ((hT.kept kV).kept k) ((hU.kept kV).kept k)
  have HSI : Hid (∀ W, Kept [] V W → Calls Tryd.prog 18 #[.agg #[.int .u8 (f.op : Nat), .string f.name, .slice kad f.kids.length kcap]] W (MadeAs W 0 (simpT f))) := fun W k => by
    have := simple_any f _ W ((hI.kept kV).kept k) (by omega) (by omega) hF ((hT.kept kV).kept k) ((hU.kept kV).kept k)
    rw [if_neg (by simp [hr])] at this
    exact this
  have HSS : Hid (∀ W pa pc, Kept [] V W → IsF W (simpT f) (.slice pa (simpT f).kids.length pc) → Calls Tryd.prog 18 #[.agg #[.int .u8 ((simpT f).op : Nat), .string (simpT f).name, .slice pa (simpT f).kids.length pc]] W (MadeAs W 0 (simpT f))) := fun W pa pc k hp => by
    have := simple_any (simpT f) _ W hp (by omega) (by omega) (good_fine gS) ((hT.kept kV).kept k) ((hU.kept kV).kept k)
    rw [if_neg (by simp [hsr]), simp_again f g1] at this
    exact this
  have HFV : Hid (IsF V f (.slice kad f.kids.length kcap)) := hI.kept kV
  have HFF : Hid f.Fine := hF
  have HPF : Hid (simpT f).Fine := good_fine gS
  have hs1 : (simpT f).size ≤ f.size := hless.1
  have hs2 : (simpT f).depth ≤ f.depth := hless.2
  obtain ⟨ps, hps⟩ : ∃ ps, simpT f = ps := ⟨_, rfl⟩
  rw [hps] at HLK HSI HSS HPF hs1 hs2
  have T0 : Hid True := trivial
  have T1 : Hid True := trivial
  have T2 : Hid True := trivial
  have T3 : Hid True := trivial
  have HG1 : Hid f.Good := g1
  have HRR : Hid (rightN pastB f = 0) := hr
  have HFS : Hid (f.size ≤ 1000 ∧ f.depth ≤ 100) := ⟨g2, g3⟩
  have HTT : Hid (KidsTab V) := hT.kept kV
  have HUU : Hid (TurnTab V) := hU.kept kV
  clear hI hF hM hT hU kV v0 hV hr g1 hless gS hsr hps
  go_enter Tryd.func5, Tryd.ntmps5
  go_wp2_with (first
    | (clear T0; go_at_call 16; refine HWT.out.mono ?_; rintro e W1 ⟨m, rfl, hm1, hm2, k1⟩; rw [HVV.out] at k1; have HK1 : Hid (Kept [] V W1) := k1; clear k1; rcases much_case hm2 with h1i | ⟨h1i, HSZ⟩)
    | (clear T1; go_at_call 17; refine (HKN.out _ HK1.out).mono ?_; rintro e W2 ⟨rfl, k2⟩; have HK2 : Hid (Kept [] V W2) := HK1.out.trans k2 (by simp) (by simp); obtain ⟨f0, f1, f2, -⟩ := (HV0.out.kept HK2.out).cells; clear k2)
    | (clear T2; go_at_call 18; refine (HSI.out _ HK2.out).mono ?_; rintro e W3 hm; obtain ⟨sa, sc, rfl, i1, kk⟩ := hm.ok; have HK3 : Hid (Kept [] V W3) := HK2.out.trans kk (by simp) (by simp); have HI3 : Hid (IsF W3 ps (.slice sa ps.kids.length sc)) := i1; clear kk i1 f0 f1 f2)
    | (clear T3; go_at_call 18; refine (HSS.out _ _ _ (HK3.out.alloc _) (HI3.out.kept ((Kept.refl [] W3).alloc _))).mono ?_; rintro e W4 hm; obtain ⟨ta, tc, rfl, i1, kk⟩ := hm.ok; have HK4 : Hid (Kept [] V W4) := (HK3.out.alloc _).trans kk (by simp) (by simp); have HB3 : Hid (For3 W4 W3.heap.size (.int .u8 (ps.op : Nat)) (.string ps.name) (.slice sa ps.kids.length sc)) := (show For3 (W3.alloc (.cells #[.int .u8 (ps.op : Nat), .string ps.name, .slice sa ps.kids.length sc] 25)) W3.heap.size (.int .u8 (ps.op : Nat)) (.string ps.name) (.slice sa ps.kids.length sc) from al0 _ _).kept kk; have HI4 : Hid (IsF W4 ps (.slice sa ps.kids.length sc)) := HI3.out.kept (((Kept.refl [] W3).alloc _).trans kk (by simp) (by simp)); have HJ4 : Hid (IsF W4 ps (.slice ta ps.kids.length tc)) := i1; clear kk i1))
  · go_ret
    exact ⟨rfl, HKV.out.trans HK1.out (by simp) (by simp)⟩
  obtain ⟨Z, hZ⟩ : ∃ Z, W4.alloc (.cells #[.int .u8 (ps.op : Nat), .string ps.name, .slice ta ps.kids.length tc] 25) = Z := ⟨_, rfl⟩
  have k4 : Kept [] W4 Z := by rw [← hZ]; exact (Kept.refl [] W4).alloc _
  have kZ : Kept [] V Z := HK4.out.trans k4 (by simp) (by simp)
  have z0 : For3 Z w.heap.size (.int .u8 (f.op : Nat)) (.string f.name) (.slice kad f.kids.length kcap) := HV0.out.kept kZ
  have z1 : For3 Z W3.heap.size (.int .u8 (ps.op : Nat)) (.string ps.name) (.slice sa ps.kids.length sc) := HB3.out.kept k4
  have z2 : For3 Z W4.heap.size (.int .u8 (ps.op : Nat)) (.string ps.name) (.slice ta ps.kids.length tc) := by rw [← hZ]; exact al0 _ _
  have HKZ : Hid (Kept [] V Z) := kZ
  have HIZ : Hid (IsF Z ps (.slice sa ps.kids.length sc)) := HI4.out.kept k4
  have HJZ : Hid (IsF Z ps (.slice ta ps.kids.length tc)) := HJ4.out.kept k4
  rw [hZ]
  clear hZ k4 kZ HB3 HI4 HJ4
  obtain ⟨BF, hBF⟩ : ∃ B, w.heap.size = B := ⟨_, rfl⟩
  obtain ⟨B3, hB3⟩ : ∃ B, W3.heap.size = B := ⟨_, rfl⟩
  obtain ⟨B4, hB4⟩ : ∃ B, W4.heap.size = B := ⟨_, rfl⟩
  simp only [hBF, hB3, hB4] at z0 z1 z2 ⊢
  have HS8 : Hid (∀ w', Kept [] Z w' → (w'.cell? ⟨BF, 0, none⟩ = some (.int .u8 (f.op : Nat)) ∧ w'.cell? ⟨BF, 1, none⟩ = some (.string f.name) ∧ w'.cell? ⟨BF, 2, none⟩ = some (.slice kad f.kids.length kcap) ∧ w'.cell? ⟨B3, 0, none⟩ = some (.int .u8 (ps.op : Nat)) ∧ w'.cell? ⟨B3, 1, none⟩ = some (.string ps.name) ∧ w'.cell? ⟨B3, 2, none⟩ = some (.slice sa ps.kids.length sc) ∧ w'.cell? ⟨B4, 0, none⟩ = some (.int .u8 (ps.op : Nat)) ∧ w'.cell? ⟨B4, 1, none⟩ = some (.string ps.name) ∧ w'.cell? ⟨B4, 2, none⟩ = some (.slice ta ps.kids.length tc))) := fun W k => ⟨(z0.kept k).cells.1, (z0.kept k).cells.2.1, (z0.kept k).cells.2.2.1, (z1.kept k).cells.1, (z1.kept k).cells.2.1, (z1.kept k).cells.2.2.1, (z2.kept k).cells.1, (z2.kept k).cells.2.1, (z2.kept k).cells.2.2.1⟩
  have HCM : Hid (∀ W, Kept [] Z W → Calls Tryd.prog 20 #[.agg #[.int .u8 (ps.op : Nat), .string ps.name, .slice sa ps.kids.length sc], .agg #[.int .u8 (ps.op : Nat), .string ps.name, .slice ta ps.kids.length tc]] W fun e w' => e = .returned (.int .i64 0) ∧ Kept [] W w') := fun W k => by
    refine (cmp_any ps ps _ _ W (HIZ.out.kept k) (HJZ.out.kept k) (by omega) (by omega)).mono ?_
    rintro e w' ⟨rfl, hg⟩
    exact ⟨by rw [preT.self], hg.kept⟩
  have HZS : Hid (∀ W, Kept [] Z W → Calls Tryd.prog 21 #[.agg #[.int .u8 (ps.op : Nat), .string ps.name, .slice sa ps.kids.length sc]] W fun e w' => e = .returned (.int .i64 (ps.size : Nat)) ∧ Kept [] W w') := fun W k => size_any ps _ W (HIZ.out.kept k) (by omega)
  have HZF : Hid (∀ W, Kept [] Z W → Calls Tryd.prog 21 #[.agg #[.int .u8 (f.op : Nat), .string f.name, .slice kad f.kids.length kcap]] W fun e w' => e = .returned (.int .i64 (f.size : Nat)) ∧ Kept [] W w') := fun W k => size_any f _ W ((HFV.out.kept HKZ.out).kept k) (by omega)
  have HDS : Hid (∀ W, Kept [] Z W → Calls Tryd.prog 22 #[.agg #[.int .u8 (ps.op : Nat), .string ps.name, .slice sa ps.kids.length sc]] W fun e w' => e = .returned (.int .i64 (ps.depth : Nat)) ∧ Kept [] W w') := fun W k => depth_any ps _ W (HIZ.out.kept k) (by omega) (by omega)
  have HDF : Hid (∀ W, Kept [] Z W → Calls Tryd.prog 22 #[.agg #[.int .u8 (f.op : Nat), .string f.name, .slice kad f.kids.length kcap]] W fun e w' => e = .returned (.int .i64 (f.depth : Nat)) ∧ Kept [] W w') := fun W k => depth_any f _ W ((HFV.out.kept HKZ.out).kept k) (by omega) (by omega)
  have HNS : Hid (∀ W, Kept [] Z W → Calls Tryd.prog 24 #[.agg #[.int .u8 (ps.op : Nat), .string ps.name, .slice sa ps.kids.length sc]] W fun e w' => ∃ v, e = .returned v ∧ Strs w' v ps.names ∧ Kept [] W w') := fun W k => names_strs ps _ W (HIZ.out.kept k) (by omega) HPF.out
  have HNF : Hid (∀ W, Kept [] Z W → Calls Tryd.prog 24 #[.agg #[.int .u8 (f.op : Nat), .string f.name, .slice kad f.kids.length kcap]] W fun e w' => ∃ v, e = .returned v ∧ Strs w' v f.names ∧ Kept [] W w') := fun W k => names_strs f _ W ((HFV.out.kept HKZ.out).kept k) (by omega) HFF.out
  have hc1 : ¬ (f.size : Int) < (ps.size : Int) := by omega
  have hc2 : ¬ (f.depth : Int) < (ps.depth : Int) := by omega
  have hn1 : decide (f.size < ps.size) = false := decide_eq_false (by omega)
  have hn2 : decide (f.depth < ps.depth) = false := decide_eq_false (by omega)
  obtain ⟨e0, e1, e2, e3, e4, e5, e6, e7, e8⟩ := HS8.out Z (Kept.refl [] Z)
  have U1 : Hid True := trivial
  have U2 : Hid True := trivial
  have U3 : Hid True := trivial
  have U4 : Hid True := trivial
  have U5 : Hid True := trivial
  have U6 : Hid True := trivial
  have U7 : Hid True := trivial
  have U8 : Hid True := trivial
  clear z0 z1 z2 g2 g3 hs1 hs2
  go_region_held3 (fun w' => w'.cell? ⟨BF, 0, none⟩ = some (.int .u8 (f.op : Nat)) ∧ w'.cell? ⟨BF, 1, none⟩ = some (.string f.name) ∧ w'.cell? ⟨BF, 2, none⟩ = some (.slice kad f.kids.length kcap) ∧ w'.cell? ⟨B3, 0, none⟩ = some (.int .u8 (ps.op : Nat)) ∧ w'.cell? ⟨B3, 1, none⟩ = some (.string ps.name) ∧ w'.cell? ⟨B3, 2, none⟩ = some (.slice sa ps.kids.length sc) ∧ w'.cell? ⟨B4, 0, none⟩ = some (.int .u8 (ps.op : Nat)) ∧ w'.cell? ⟨B4, 1, none⟩ = some (.string ps.name) ∧ w'.cell? ⟨B4, 2, none⟩ = some (.slice ta ps.kids.length tc))
    ((refine HS8.out _ ?_; first | with_reducible exact Kept.refl [] Z | with_reducible exact (Kept.refl [] Z).drew | with_reducible exact R8.out | with_reducible exact R8.out.drew | with_reducible exact R7.out | with_reducible exact R7.out.drew | with_reducible exact R6.out | with_reducible exact R6.out.drew | with_reducible exact R5.out | with_reducible exact R5.out.drew | with_reducible exact R4.out | with_reducible exact R4.out.drew | with_reducible exact R3.out | with_reducible exact R3.out.drew | with_reducible exact R2.out | with_reducible exact R2.out.drew | with_reducible exact R1.out | with_reducible exact R1.out.drew))
    (first
      | (clear U1; go_at_call 20; refine (HCM.out _ (Kept.refl [] Z).drew).mono ?_; rintro e X1 ⟨rfl, kk⟩; have R1 : Hid (Kept [] Z X1) := Kept.trans (F := []) (G := []) (H := []) ((Kept.refl [] Z).drew) kk (by simp) (by simp); clear kk)
      | (clear U2; go_at_call 21; refine (HZS.out _ R1.out).mono ?_; rintro e X2 ⟨rfl, kk⟩; have R2 : Hid (Kept [] Z X2) := Kept.trans (F := []) (G := []) (H := []) (R1.out) kk (by simp) (by simp); clear kk)
      | (clear U3; go_at_call 21; refine (HZF.out _ R2.out).mono ?_; rintro e X3 ⟨rfl, kk⟩; have R3 : Hid (Kept [] Z X3) := Kept.trans (F := []) (G := []) (H := []) (R2.out) kk (by simp) (by simp); clear kk)
      | (clear U4; go_at_call 22; refine (HDS.out _ R3.out).mono ?_; rintro e X4 ⟨rfl, kk⟩; have R4 : Hid (Kept [] Z X4) := Kept.trans (F := []) (G := []) (H := []) (R3.out) kk (by simp) (by simp); clear kk)
      | (clear U5; go_at_call 22; refine (HDF.out _ R4.out).mono ?_; rintro e X5 ⟨rfl, kk⟩; have R5 : Hid (Kept [] Z X5) := Kept.trans (F := []) (G := []) (H := []) (R4.out) kk (by simp) (by simp); clear kk)
      | (clear U6; go_at_call 24; refine (HNS.out _ R5.out).mono ?_; rintro e X6 ⟨a1, rfl, hs1, kk⟩; have R6 : Hid (Kept [] Z X6) := Kept.trans (F := []) (G := []) (H := []) (R5.out) kk (by simp) (by simp); have HA1 : Hid (Strs X6 a1 ps.names) := hs1; clear hs1; clear kk)
      | (clear U7; go_at_call 24; refine (HNF.out _ R6.out).mono ?_; rintro e X7 ⟨a2, rfl, hs2, kk⟩; have R7 : Hid (Kept [] Z X7) := Kept.trans (F := []) (G := []) (H := []) (R6.out) kk (by simp) (by simp); have HA2 : Hid (Strs X7 a2 f.names) := hs2; have HA3 : Hid (Strs X7 a1 ps.names) := HA1.out.kept kk; clear hs2; clear kk)
      | (clear U8; go_at_call 23; refine (among_any _ _ _ _ _ HA3.out HA2.out HLK.out).mono ?_; rintro e X8 ⟨rfl, kk⟩; have R8 : Hid (Kept [] Z X8) := Kept.trans (F := []) (G := []) (H := []) (R7.out) kk (by simp) (by simp); clear kk))
  have HKX : Hid (Kept [] V X8) := HKZ.out.trans R8.out (by simp) (by simp)
  rw [hBF] at HV0
  clear HKZ HIZ HJZ HS8 HCM HZS HZF HDS HDF HNS HNF HA1 HA2 HA3 R1 R2 R3 R4 R5 R6 R7 R8 HLK HSI HSS HPF HK1 HK2 HK3 HK4 HI3 HKN HWT HSZ hc1 hc2 hn1 hn2 e0 e1 e2 e3 e4 e5 e6 e7 e8
  obtain ⟨x0, x1, x2, -⟩ := (HV0.out.kept HKX.out).cells
  have HNO : Hid (∀ W, Kept [] V W → Calls Tryd.prog 25 #[.agg #[.int .u8 (f.op : Nat), .string f.name, .slice kad f.kids.length kcap]] W (MadeAs W (madeE f (nd f).1) (nd f).1)) := fun W k => normal_any f _ W (HFV.out.kept k) (by have := HFS.out; omega) (by have := HFS.out; omega) HFF.out (HTT.out.kept k)
  have HDU : Hid (∀ W, Kept [] V W → Calls Tryd.prog 26 #[.agg #[.int .u8 (f.op : Nat), .string f.name, .slice kad f.kids.length kcap]] W (MadeAs W (madeE f (nd f).2) (nd f).2)) := fun W k => dual_any f _ W (HFV.out.kept k) (by have := HFS.out; omega) (by have := HFS.out; omega) HFF.out (HTT.out.kept k)
  have N1 : Hid True := trivial
  have N2 : Hid True := trivial
  rcases made_cases (p := (nd f).1) HRR.out with hn | hn
  · rcases made_cases (p := (nd f).2) HRR.out with hd | hd
    · rw [hn] at HNO
      rw [hd] at HDU
      obtain ⟨an1, an2, an3⟩ := again_n HG1.out hn
      have HAM : Hid (isB (nd f).1 = true) := an3
      have gn := nd_good f HG1.out
      have hfn := fit_made hn
      have HNA : Hid (∀ (W : World) pa pc, Kept [] V W → IsF W (nd f).1 (.slice pa (nd f).1.kids.length pc) → Calls Tryd.prog 25 #[.agg #[.int .u8 ((nd f).1.op : Nat), .string (nd f).1.name, .slice pa (nd f).1.kids.length pc]] W (MadeAs W 0 (nd f).1)) := fun W pa pc k hp => by
        have := normal_any (nd f).1 _ W hp (by omega) (by omega) (good_fine gn.1) (HTT.out.kept k)
        rw [an1, an2] at this
        exact this
      have HL1 : Hid (lackN f.names (nd f).1.names = false) := lack_dn HG1.out
      have HL2 : Hid (lackN (nd f).1.names f.names = false) := lack_nd HG1.out
      have HIC : Hid (isB f = (cmpT f (nd f).1 == 0)) := is_cmp hn
      have HNF1 : Hid (nd f).1.Fine := good_fine gn.1
      have HNS1 : Hid ((nd f).1.size ≤ 1000 ∧ (nd f).1.depth ≤ 100) := hfn
      have hfd := fit_made hd
      have HDA : Hid (isB (nd f).2 = true ∧ rightN pastB (nd f).2 = 0 ∧ (nd f).2.Fine ∧ (nd f).2.size ≤ 1000 ∧ (nd f).2.depth ≤ 100) := ⟨(again_d HG1.out hd).1, (again_d HG1.out hd).2, good_fine gn.2, hfd.1, hfd.2⟩
      have HBD : Hid (f.All (fun x => x.op ≠ 8) → madeE (nd f).2 (nd (nd f).2).2 = 0 ∧ (nd (nd f).2).2 = (nd f).1) := fun h8 => back_d HG1.out hn hd h8
      generalize (nd f).1 = pn at *
      generalize (nd f).2 = pd at *
      clear hfd
      clear hn hd an1 an2 an3 gn hfn
      have N3 : Hid True := trivial
      go_wp2_with (first
        | (clear N1; go_at_call 25; refine (HNO.out _ HKX.out).mono ?_; rintro e Y1 hm; obtain ⟨na, nc, rfl, i1, kk⟩ := hm.ok; have HY1 : Hid (Kept [] V Y1) := HKX.out.trans kk (by simp) (by simp); have HI1 : Hid (IsF Y1 pn (.slice na pn.kids.length nc)) := i1; have y0 := (fun o => cell_kept0 ((Kept.refl [] Y1).alloc o) (HV0.out.kept HY1.out).cells.1); have y1 := (fun o => cell_kept0 ((Kept.refl [] Y1).alloc o) (HV0.out.kept HY1.out).cells.2.1); have y2 := (fun o => cell_kept0 ((Kept.refl [] Y1).alloc o) (HV0.out.kept HY1.out).cells.2.2.1); clear kk i1)
        | (clear N2; go_at_call 26; refine (HDU.out _ (HY1.out.alloc _)).mono ?_; rintro e Y2 hm; obtain ⟨da, dc, rfl, j1, kk⟩ := hm.ok; have HY2 : Hid (Kept [] V Y2) := (HY1.out.alloc _).trans kk (by simp) (by simp); have HB2 : Hid (For3 Y2 Y1.heap.size (.int .u8 (pn.op : Nat)) (.string pn.name) (.slice na pn.kids.length nc)) := (show For3 (Y1.alloc (.cells #[.int .u8 (pn.op : Nat), .string pn.name, .slice na pn.kids.length nc] 25)) Y1.heap.size (.int .u8 (pn.op : Nat)) (.string pn.name) (.slice na pn.kids.length nc) from al0 _ _).kept kk; have HI2 : Hid (IsF Y2 pn (.slice na pn.kids.length nc)) := HI1.out.kept (((Kept.refl [] Y1).alloc _).trans kk (by simp) (by simp)); have HJ2 : Hid (IsF Y2 pd (.slice da pd.kids.length dc)) := j1; clear j1; have z0 := (fun o => cell_kept0 ((Kept.refl [] Y2).alloc o) (HB2.out).cells.1); have z1 := (fun o => cell_kept0 ((Kept.refl [] Y2).alloc o) (HB2.out).cells.2.1); have z2 := (fun o => cell_kept0 ((Kept.refl [] Y2).alloc o) (HB2.out).cells.2.2.1); clear kk)
        | (clear N3; go_at_call 25; refine (HNA.out _ _ _ (HY2.out.alloc _) (HI2.out.kept ((Kept.refl [] Y2).alloc _))).mono ?_; rintro e Y3 hm; obtain ⟨ma, mc, rfl, i1, kk⟩ := hm.ok; have HY3 : Hid (Kept [] V Y3) := (HY2.out.alloc _).trans kk (by simp) (by simp); have HK23 : Hid (Kept [] Y2 Y3) := ((Kept.refl [] Y2).alloc _).trans kk (by simp) (by simp); have HI3 : Hid (IsF Y3 pn (.slice ma pn.kids.length mc)) := i1; have HB3 : Hid (For3 Y3 Y2.heap.size (.int .u8 (pd.op : Nat)) (.string pd.name) (.slice da pd.kids.length dc)) := (show For3 (Y2.alloc (.cells #[.int .u8 (pd.op : Nat), .string pd.name, .slice da pd.kids.length dc] 25)) Y2.heap.size (.int .u8 (pd.op : Nat)) (.string pd.name) (.slice da pd.kids.length dc) from al0 _ _).kept kk; clear kk i1))
      obtain ⟨Y, hY⟩ : ∃ Y, (Y3.alloc (.cells #[.int .u8 (pn.op : Nat), .string pn.name, .slice ma pn.kids.length mc] 25)) = Y := ⟨_, rfl⟩
      have k4 : Kept [] Y3 Y := by rw [← hY]; exact (Kept.refl [] Y3).alloc _
      have kY : Kept [] V Y := HY3.out.trans k4 (by simp) (by simp)
      have k24 : Kept [] Y2 Y := HK23.out.trans k4 (by simp) (by simp)
      have z0 : For3 Y BF (.int .u8 (f.op : Nat)) (.string f.name) (.slice kad f.kids.length kcap) := HV0.out.kept kY
      have z1 : For3 Y Y1.heap.size (.int .u8 (pn.op : Nat)) (.string pn.name) (.slice na pn.kids.length nc) := HB2.out.kept k24
      have z2 : For3 Y Y3.heap.size (.int .u8 (pn.op : Nat)) (.string pn.name) (.slice ma pn.kids.length mc) := by rw [← hY]; exact al0 _ _
      have z3 : For3 Y Y2.heap.size (.int .u8 (pd.op : Nat)) (.string pd.name) (.slice da pd.kids.length dc) := HB3.out.kept k4
      have HJY : Hid (IsF Y pd (.slice da pd.kids.length dc)) := HJ2.out.kept k24
      have HKY : Hid (Kept [] V Y) := kY
      have HIY : Hid (IsF Y pn (.slice na pn.kids.length nc)) := HI2.out.kept k24
      have HMY : Hid (IsF Y pn (.slice ma pn.kids.length mc)) := HI3.out.kept k4
      rw [hY]
      clear hY k4 kY k24 HI1 HI2 HI3 HB2 HK23
      obtain ⟨C1, hC1⟩ : ∃ B, Y1.heap.size = B := ⟨_, rfl⟩
      obtain ⟨C2, hC2⟩ : ∃ B, Y2.heap.size = B := ⟨_, rfl⟩
      obtain ⟨C3, hC3⟩ : ∃ B, Y3.heap.size = B := ⟨_, rfl⟩
      simp only [hC1, hC2, hC3] at z1 z2 z3 ⊢
      have HS14 : Hid (∀ w', Kept [] Y w' → (w'.cell? ⟨BF, 0, none⟩ = some (.int .u8 (f.op : Nat)) ∧ w'.cell? ⟨BF, 1, none⟩ = some (.string f.name) ∧ w'.cell? ⟨BF, 2, none⟩ = some (.slice kad f.kids.length kcap) ∧ w'.cell? ⟨C1, 0, none⟩ = some (.int .u8 (pn.op : Nat)) ∧ w'.cell? ⟨C1, 1, none⟩ = some (.string pn.name) ∧ w'.cell? ⟨C1, 2, none⟩ = some (.slice na pn.kids.length nc) ∧ w'.cell? ⟨C3, 0, none⟩ = some (.int .u8 (pn.op : Nat)) ∧ w'.cell? ⟨C3, 1, none⟩ = some (.string pn.name) ∧ w'.cell? ⟨C3, 2, none⟩ = some (.slice ma pn.kids.length mc))) := fun W k => ⟨(z0.kept k).cells.1, (z0.kept k).cells.2.1, (z0.kept k).cells.2.2.1, (z1.kept k).cells.1, (z1.kept k).cells.2.1, (z1.kept k).cells.2.2.1, (z2.kept k).cells.1, (z2.kept k).cells.2.1, (z2.kept k).cells.2.2.1⟩
      have HCM : Hid (∀ W, Kept [] Y W → Calls Tryd.prog 20 #[.agg #[.int .u8 (pn.op : Nat), .string pn.name, .slice ma pn.kids.length mc], .agg #[.int .u8 (pn.op : Nat), .string pn.name, .slice na pn.kids.length nc]] W fun e w' => e = .returned (.int .i64 0) ∧ Kept [] W w') := fun W k => by
        refine (cmp_any pn pn _ _ W (HMY.out.kept k) (HIY.out.kept k) (by have := HNS1.out; omega) (by have := HNS1.out; omega)).mono ?_
        rintro e w' ⟨rfl, hg⟩
        exact ⟨by rw [preT.self], hg.kept⟩
      have HIN : Hid (∀ W, Kept [] Y W → Calls Tryd.prog 27 #[.agg #[.int .u8 (pn.op : Nat), .string pn.name, .slice na pn.kids.length nc]] W fun e w' => e = .returned (.bool true) ∧ Kept [] W w') := fun W k => by
        have := is_any pn _ W (HIY.out.kept k) (by have := HNS1.out; omega) (by have := HNS1.out; omega) HNF1.out ((HTT.out.kept HKY.out).kept k)
        rw [HAM.out] at this
        exact this
      have HNN : Hid (∀ W, Kept [] Y W → Calls Tryd.prog 24 #[.agg #[.int .u8 (pn.op : Nat), .string pn.name, .slice na pn.kids.length nc]] W fun e w' => ∃ v, e = .returned v ∧ Strs w' v pn.names ∧ Kept [] W w') := fun W k => names_strs pn _ W (HIY.out.kept k) (by have := HNS1.out; omega) HNF1.out
      have HNF : Hid (∀ W, Kept [] Y W → Calls Tryd.prog 24 #[.agg #[.int .u8 (f.op : Nat), .string f.name, .slice kad f.kids.length kcap]] W fun e w' => ∃ v, e = .returned v ∧ Strs w' v f.names ∧ Kept [] W w') := fun W k => names_strs f _ W ((HFV.out.kept HKY.out).kept k) (by have := HFS.out; omega) HFF.out
      have HIF0 : Hid (∀ W, Kept [] Y W → Calls Tryd.prog 27 #[.agg #[.int .u8 (f.op : Nat), .string f.name, .slice kad f.kids.length kcap]] W fun e w' => e = .returned (.bool (cmpT f pn == 0)) ∧ Kept [] W w') := fun W k => by
        have := is_any f _ W ((HFV.out.kept HKY.out).kept k) (by have := HFS.out; omega) (by have := HFS.out; omega) HFF.out ((HTT.out.kept HKY.out).kept k)
        rw [HIC.out] at this
        exact this
      have HCF : Hid (∀ W, Kept [] Y W → Calls Tryd.prog 20 #[.agg #[.int .u8 (f.op : Nat), .string f.name, .slice kad f.kids.length kcap], .agg #[.int .u8 (pn.op : Nat), .string pn.name, .slice na pn.kids.length nc]] W fun e w' => e = .returned (.int .i64 (cmpT f pn)) ∧ Kept [] W w') := fun W k => by
        refine (cmp_any f pn _ _ W ((HFV.out.kept HKY.out).kept k) (HIY.out.kept k) (by have := HFS.out; omega) (by have := HNS1.out; omega)).mono ?_
        rintro e w' ⟨rfl, hg⟩
        exact ⟨rfl, hg.kept⟩
      clear HIC
      generalize cmpT f pn = ci at *
      obtain ⟨bi, hbi⟩ : ∃ b, (ci == 0) = b := ⟨_, rfl⟩
      have HIF : Hid (∀ W, Kept [] Y W → Calls Tryd.prog 27 #[.agg #[.int .u8 (f.op : Nat), .string f.name, .slice kad f.kids.length kcap]] W fun e w' => e = .returned (.bool bi) ∧ Kept [] W w') := fun W k => by
        have := HIF0.out W k
        rw [hbi] at this
        exact this
      obtain ⟨e0, e1, e2, e3, e4, e5, e6, e7, e8⟩ := HS14.out Y (Kept.refl [] Y)
      have M1 : Hid True := trivial
      have M2 : Hid True := trivial
      have M3 : Hid True := trivial
      have M4 : Hid True := trivial
      have M5 : Hid True := trivial
      have M6 : Hid True := trivial
      have M7 : Hid True := trivial
      have M8 : Hid True := trivial
      have M9 : Hid True := trivial
      have M10 : Hid True := trivial
      have HZ1 : Hid (For3 Y C1 (.int .u8 (pn.op : Nat)) (.string pn.name) (.slice na pn.kids.length nc)) := z1
      have HZ3 : Hid (For3 Y C2 (.int .u8 (pd.op : Nat)) (.string pd.name) (.slice da pd.kids.length dc)) := z3
      clear z3
      clear z0 z1 z2 HIF0
      cases bi
      · go_region_held3 (fun w' => w'.cell? ⟨BF, 0, none⟩ = some (.int .u8 (f.op : Nat)) ∧ w'.cell? ⟨BF, 1, none⟩ = some (.string f.name) ∧ w'.cell? ⟨BF, 2, none⟩ = some (.slice kad f.kids.length kcap) ∧ w'.cell? ⟨C1, 0, none⟩ = some (.int .u8 (pn.op : Nat)) ∧ w'.cell? ⟨C1, 1, none⟩ = some (.string pn.name) ∧ w'.cell? ⟨C1, 2, none⟩ = some (.slice na pn.kids.length nc) ∧ w'.cell? ⟨C3, 0, none⟩ = some (.int .u8 (pn.op : Nat)) ∧ w'.cell? ⟨C3, 1, none⟩ = some (.string pn.name) ∧ w'.cell? ⟨C3, 2, none⟩ = some (.slice ma pn.kids.length mc))
          ((refine HS14.out _ ?_; first | with_reducible exact Kept.refl [] Y | with_reducible exact (Kept.refl [] Y).drew | with_reducible exact P10.out | with_reducible exact P10.out.drew | with_reducible exact P9.out | with_reducible exact P9.out.drew | with_reducible exact P8.out | with_reducible exact P8.out.drew | with_reducible exact P7.out | with_reducible exact P7.out.drew | with_reducible exact P6.out | with_reducible exact P6.out.drew | with_reducible exact P5.out | with_reducible exact P5.out.drew | with_reducible exact P4.out | with_reducible exact P4.out.drew | with_reducible exact P3.out | with_reducible exact P3.out.drew | with_reducible exact P2.out | with_reducible exact P2.out.drew | with_reducible exact P1.out | with_reducible exact P1.out.drew))
          (first
            | (clear M1; go_at_call 20; refine (HCM.out _ (Kept.refl [] Y).drew).mono ?_; rintro e D1 ⟨rfl, kk⟩; have P1 : Hid (Kept [] Y D1) := Kept.trans (F := []) (G := []) (H := []) ((Kept.refl [] Y).drew) kk (by simp) (by simp); clear kk)
            | (clear M2; go_at_call 27; refine (HIN.out _ P1.out).mono ?_; rintro e D2 ⟨rfl, kk⟩; have P2 : Hid (Kept [] Y D2) := Kept.trans (F := []) (G := []) (H := []) (P1.out) kk (by simp) (by simp); clear kk)
            | (clear M3; go_at_call 24; refine (HNF.out _ P2.out).mono ?_; rintro e D3 ⟨a1, rfl, hs1, kk⟩; have P3 : Hid (Kept [] Y D3) := Kept.trans (F := []) (G := []) (H := []) (P2.out) kk (by simp) (by simp); have HA1 : Hid (Strs D3 a1 f.names) := hs1; clear hs1; clear kk)
            | (clear M4; go_at_call 24; refine (HNN.out _ P3.out).mono ?_; rintro e D4 ⟨a2, rfl, hs2, kk⟩; have P4 : Hid (Kept [] Y D4) := Kept.trans (F := []) (G := []) (H := []) (P3.out) kk (by simp) (by simp); have HA2 : Hid (Strs D4 a2 pn.names) := hs2; have HA3 : Hid (Strs D4 a1 f.names) := HA1.out.kept kk; clear hs2; clear kk)
            | (clear M5; go_at_call 23; refine (among_any _ _ _ _ _ HA3.out HA2.out HL1.out).mono ?_; rintro e D5 ⟨rfl, kk⟩; have P5 : Hid (Kept [] Y D5) := Kept.trans (F := []) (G := []) (H := []) (P4.out) kk (by simp) (by simp); clear kk)
            | (clear M6; go_at_call 24; refine (HNN.out _ P5.out).mono ?_; rintro e D6 ⟨a3, rfl, hs3, kk⟩; have P6 : Hid (Kept [] Y D6) := Kept.trans (F := []) (G := []) (H := []) (P5.out) kk (by simp) (by simp); have HA4 : Hid (Strs D6 a3 pn.names) := hs3; clear hs3; clear kk)
            | (clear M7; go_at_call 24; refine (HNF.out _ P6.out).mono ?_; rintro e D7 ⟨a4, rfl, hs4, kk⟩; have P7 : Hid (Kept [] Y D7) := Kept.trans (F := []) (G := []) (H := []) (P6.out) kk (by simp) (by simp); have HA5 : Hid (Strs D7 a4 f.names) := hs4; have HA6 : Hid (Strs D7 a3 pn.names) := HA4.out.kept kk; clear hs4; clear kk)
            | (clear M8; go_at_call 23; refine (among_any _ _ _ _ _ HA6.out HA5.out HL2.out).mono ?_; rintro e D8 ⟨rfl, kk⟩; have P8 : Hid (Kept [] Y D8) := Kept.trans (F := []) (G := []) (H := []) (P7.out) kk (by simp) (by simp); clear kk)
            | (clear M9; go_at_call 27; refine (HIF.out _ P8.out).mono ?_; rintro e D9 ⟨rfl, kk⟩; have P9 : Hid (Kept [] Y D9) := Kept.trans (F := []) (G := []) (H := []) (P8.out) kk (by simp) (by simp); clear kk)
            | (clear M10; go_at_call 20; refine (HCF.out _ P9.out).mono ?_; rintro e D10 ⟨rfl, kk⟩; have P10 : Hid (Kept [] Y D10) := Kept.trans (F := []) (G := []) (H := []) (P9.out) kk (by simp) (by simp); clear kk))
        have HID : Hid (∀ W, Kept [] Y W → Calls Tryd.prog 27 #[.agg #[.int .u8 (pd.op : Nat), .string pd.name, .slice da pd.kids.length dc]] W fun e w' => e = .returned (.bool true) ∧ Kept [] W w') := fun W k => by
          have := is_any pd _ W (HJY.out.kept k) (by have := HDA.out; omega) (by have := HDA.out; omega) HDA.out.2.2.1 ((HTT.out.kept HKY.out).kept k)
          rw [HDA.out.1] at this
          exact this
        obtain ⟨v0, v1, v2, -⟩ := (HZ3.out.kept P10.out).cells
        have G1 : Hid True := trivial
        have G2 : Hid True := trivial
        have G3 : Hid True := trivial
        have G4 : Hid True := trivial
        clear HS14 HCM HIN HNN HNF HIF HCF HNA HNO HDU HA1 HA2 HA3 HA4 HA5 HA6 P1 P2 P3 P4 P5 P6 P7 P8 P9 e0 e1 e2 e3 e4 e5 e6 e7 e8 hbi
        by_cases h8 : f.All (fun x => x.op ≠ 8)
        · have HCD : Hid (∀ (W : World) pa pc, Kept [] Y W → IsF W pn (.slice pa pn.kids.length pc) → Calls Tryd.prog 20 #[.agg #[.int .u8 (pn.op : Nat), .string pn.name, .slice pa pn.kids.length pc], .agg #[.int .u8 (pn.op : Nat), .string pn.name, .slice na pn.kids.length nc]] W fun e w' => e = .returned (.int .i64 0) ∧ Kept [] W w') := fun W pa pc k hp => by
            refine (cmp_any pn pn _ _ W hp (HIY.out.kept k) (by have := HNS1.out; omega) (by have := HNS1.out; omega)).mono ?_
            rintro e w' ⟨rfl, hg⟩
            exact ⟨by rw [preT.self], hg.kept⟩
          have HDD : Hid (∀ W, Kept [] Y W → Calls Tryd.prog 26 #[.agg #[.int .u8 (pd.op : Nat), .string pd.name, .slice da pd.kids.length dc]] W (MadeAs W 0 pn)) := fun W k => by
            have := dual_any pd _ W (HJY.out.kept k) (by have := HDA.out; omega) (by have := HDA.out; omega) HDA.out.2.2.1 ((HTT.out.kept HKY.out).kept k)
            rw [(HBD.out h8).1, (HBD.out h8).2] at this
            exact this
          have HIT : Hid (∀ W, Kept [] Y W → Calls Tryd.prog 28 #[.agg #[.int .u8 (f.op : Nat), .string f.name, .slice kad f.kids.length kcap]] W (IffEnd f W)) := fun W k => iffs_any f _ W ((HFV.out.kept HKY.out).kept k) (by have := HFS.out; omega)
          clear h8 HBD
          go_wp2_with (first
            | (clear G1; go_at_call 26; refine (HDD.out _ P10.out).mono ?_; rintro e E1 hm; obtain ⟨qa, qc, rfl, i1, kk⟩ := hm.ok; have Q1 : Hid (Kept [] Y E1) := Kept.trans (F := []) (G := []) (H := []) (P10.out) kk (by simp) (by simp); have HQ1 : Hid (IsF E1 pn (.slice qa pn.kids.length qc)) := i1; clear i1; have u0 := (fun o => cell_kept0 ((Kept.refl [] E1).alloc o) (HV0.out.kept (HKY.out.trans (F := []) (G := []) (H := []) Q1.out (by simp) (by simp))).cells.1); have u1 := (fun o => cell_kept0 ((Kept.refl [] E1).alloc o) (HV0.out.kept (HKY.out.trans (F := []) (G := []) (H := []) Q1.out (by simp) (by simp))).cells.2.1); have u2 := (fun o => cell_kept0 ((Kept.refl [] E1).alloc o) (HV0.out.kept (HKY.out.trans (F := []) (G := []) (H := []) Q1.out (by simp) (by simp))).cells.2.2.1); clear kk)
            | (clear G2; go_at_call 28; refine (HIT.out _ (Q1.out.alloc _)).mono ?_; rintro e E2 ⟨b, rfl, hb, kk⟩; clear hb; have Q2 : Hid (Kept [] Y E2) := Kept.trans (F := []) (G := []) (H := []) (Q1.out.alloc _) kk (by simp) (by simp); obtain ⟨w0, w1, w2, -⟩ := (HZ3.out.kept Q2.out).cells; have HB5 : Hid (For3 E2 E1.heap.size (.int .u8 (pn.op : Nat)) (.string pn.name) (.slice qa pn.kids.length qc)) := (show For3 (E1.alloc (.cells #[.int .u8 (pn.op : Nat), .string pn.name, .slice qa pn.kids.length qc] 25)) E1.heap.size (.int .u8 (pn.op : Nat)) (.string pn.name) (.slice qa pn.kids.length qc) from al0 _ _).kept kk; have HQ2 : Hid (IsF E2 pn (.slice qa pn.kids.length qc)) := HQ1.out.kept (Kept.trans (F := []) (G := []) (H := []) ((Kept.refl [] E1).alloc _) kk (by simp) (by simp)); clear kk; cases b)
            | (clear G3; go_at_call 27; refine (HID.out _ Q2.out).mono ?_; rintro e E3 ⟨rfl, kk⟩; have Q3 : Hid (Kept [] Y E3) := Kept.trans (F := []) (G := []) (H := []) (Q2.out) kk (by simp) (by simp); obtain ⟨t0, t1, t2, -⟩ := (HB5.out.kept kk).cells; obtain ⟨r0, r1, r2, -⟩ := (HZ1.out.kept Q3.out).cells; have HQ3 : Hid (IsF E3 pn (.slice qa pn.kids.length qc)) := HQ2.out.kept kk; clear kk)
            | (clear G4; go_at_call 20; refine (HCD.out _ _ _ Q3.out HQ3.out).mono ?_; rintro e E4 ⟨rfl, kk⟩; have Q4 : Hid (Kept [] Y E4) := Kept.trans (F := []) (G := []) (H := []) (Q3.out) kk (by simp) (by simp); clear kk))
          all_goals go_ret
          all_goals first
            | exact ⟨rfl, HKV.out.trans (F := []) (G := []) (H := []) (HKY.out.trans (F := []) (G := []) (H := []) Q4.out (by simp) (by simp)) (by simp) (by simp)⟩
            | exact ⟨rfl, HKV.out.trans (F := []) (G := []) (H := []) (HKY.out.trans (F := []) (G := []) (H := []) Q3.out (by simp) (by simp)) (by simp) (by simp)⟩
        · have HIT : Hid (∀ W, Kept [] Y W → Calls Tryd.prog 28 #[.agg #[.int .u8 (f.op : Nat), .string f.name, .slice kad f.kids.length kcap]] W fun e w' => e = .returned (.bool true) ∧ Kept [] W w') := fun W k => by
            refine (iffs_any f _ W ((HFV.out.kept HKY.out).kept k) (by have := HFS.out; omega)).mono ?_
            rintro e w' ⟨b, rfl, hb, kk⟩
            cases b
            · exact absurd (hb rfl) h8
            · exact ⟨rfl, kk⟩
          clear h8 HBD
          rcases made_cases (p := (nd pd).2) HDA.out.2.1 with hj | hj
          · have HDD : Hid (∀ W, Kept [] Y W → Calls Tryd.prog 26 #[.agg #[.int .u8 (pd.op : Nat), .string pd.name, .slice da pd.kids.length dc]] W (MadeAs W 0 (nd pd).2)) := fun W k => by
              have := dual_any pd _ W (HJY.out.kept k) (by have := HDA.out; omega) (by have := HDA.out; omega) HDA.out.2.2.1 ((HTT.out.kept HKY.out).kept k)
              rw [hj] at this
              exact this
            clear hj
            generalize (nd pd).2 = p2 at *
            go_wp2_with (first
              | (clear G1; go_at_call 26; refine (HDD.out _ P10.out).mono ?_; rintro e E1 hm; obtain ⟨qa, qc, rfl, i1, kk⟩ := hm.ok; have Q1 : Hid (Kept [] Y E1) := Kept.trans (F := []) (G := []) (H := []) (P10.out) kk (by simp) (by simp); have HQ1 : Hid (IsF E1 p2 (.slice qa p2.kids.length qc)) := i1; clear i1; have u0 := (fun o => cell_kept0 ((Kept.refl [] E1).alloc o) (HV0.out.kept (HKY.out.trans (F := []) (G := []) (H := []) Q1.out (by simp) (by simp))).cells.1); have u1 := (fun o => cell_kept0 ((Kept.refl [] E1).alloc o) (HV0.out.kept (HKY.out.trans (F := []) (G := []) (H := []) Q1.out (by simp) (by simp))).cells.2.1); have u2 := (fun o => cell_kept0 ((Kept.refl [] E1).alloc o) (HV0.out.kept (HKY.out.trans (F := []) (G := []) (H := []) Q1.out (by simp) (by simp))).cells.2.2.1); clear kk)
              | (clear G2; go_at_call 28; refine (HIT.out _ (Q1.out.alloc _)).mono ?_; rintro e E2 ⟨rfl, kk⟩; have Q2 : Hid (Kept [] Y E2) := Kept.trans (F := []) (G := []) (H := []) (Q1.out.alloc _) kk (by simp) (by simp); obtain ⟨w0, w1, w2, -⟩ := (HZ3.out.kept Q2.out).cells; clear kk)
              | (clear G3; go_at_call 27; refine (HID.out _ Q2.out).mono ?_; rintro e E3 ⟨rfl, kk⟩; have Q3 : Hid (Kept [] Y E3) := Kept.trans (F := []) (G := []) (H := []) (Q2.out) kk (by simp) (by simp); clear kk))
            all_goals go_ret
            all_goals first
              | exact ⟨rfl, HKV.out.trans (F := []) (G := []) (H := []) (HKY.out.trans (F := []) (G := []) (H := []) Q3.out (by simp) (by simp)) (by simp) (by simp)⟩
          · have HDD : Hid (∀ W, Kept [] Y W → Calls Tryd.prog 26 #[.agg #[.int .u8 (pd.op : Nat), .string pd.name, .slice da pd.kids.length dc]] W (MadeAs W 31 (nd pd).2)) := fun W k => by
              have := dual_any pd _ W (HJY.out.kept k) (by have := HDA.out; omega) (by have := HDA.out; omega) HDA.out.2.2.1 ((HTT.out.kept HKY.out).kept k)
              rw [hj] at this
              exact this
            clear hj
            generalize (nd pd).2 = p2 at *
            go_wp2_with (first
              | (clear G1; go_at_call 26; refine (HDD.out _ P10.out).mono ?_; rintro e E1 hm; obtain ⟨rfl, kk⟩ := hm.bad (by omega); have Q1 : Hid (Kept [] Y E1) := Kept.trans (F := []) (G := []) (H := []) (P10.out) kk (by simp) (by simp); have u0 := (fun o => cell_kept0 ((Kept.refl [] E1).alloc o) (HV0.out.kept (HKY.out.trans (F := []) (G := []) (H := []) Q1.out (by simp) (by simp))).cells.1); have u1 := (fun o => cell_kept0 ((Kept.refl [] E1).alloc o) (HV0.out.kept (HKY.out.trans (F := []) (G := []) (H := []) Q1.out (by simp) (by simp))).cells.2.1); have u2 := (fun o => cell_kept0 ((Kept.refl [] E1).alloc o) (HV0.out.kept (HKY.out.trans (F := []) (G := []) (H := []) Q1.out (by simp) (by simp))).cells.2.2.1); clear kk)
              | (clear G2; go_at_call 28; refine (HIT.out _ (Q1.out.alloc _)).mono ?_; rintro e E2 ⟨rfl, kk⟩; have Q2 : Hid (Kept [] Y E2) := Kept.trans (F := []) (G := []) (H := []) (Q1.out.alloc _) kk (by simp) (by simp); obtain ⟨w0, w1, w2, -⟩ := (HZ3.out.kept Q2.out).cells; clear kk)
              | (clear G3; go_at_call 27; refine (HID.out _ Q2.out).mono ?_; rintro e E3 ⟨rfl, kk⟩; have Q3 : Hid (Kept [] Y E3) := Kept.trans (F := []) (G := []) (H := []) (Q2.out) kk (by simp) (by simp); clear kk))
            all_goals go_ret
            all_goals first
              | exact ⟨rfl, HKV.out.trans (F := []) (G := []) (H := []) (HKY.out.trans (F := []) (G := []) (H := []) Q3.out (by simp) (by simp)) (by simp) (by simp)⟩
      · go_region_held3 (fun w' => w'.cell? ⟨BF, 0, none⟩ = some (.int .u8 (f.op : Nat)) ∧ w'.cell? ⟨BF, 1, none⟩ = some (.string f.name) ∧ w'.cell? ⟨BF, 2, none⟩ = some (.slice kad f.kids.length kcap) ∧ w'.cell? ⟨C1, 0, none⟩ = some (.int .u8 (pn.op : Nat)) ∧ w'.cell? ⟨C1, 1, none⟩ = some (.string pn.name) ∧ w'.cell? ⟨C1, 2, none⟩ = some (.slice na pn.kids.length nc) ∧ w'.cell? ⟨C3, 0, none⟩ = some (.int .u8 (pn.op : Nat)) ∧ w'.cell? ⟨C3, 1, none⟩ = some (.string pn.name) ∧ w'.cell? ⟨C3, 2, none⟩ = some (.slice ma pn.kids.length mc))
          ((refine HS14.out _ ?_; first | with_reducible exact Kept.refl [] Y | with_reducible exact (Kept.refl [] Y).drew | with_reducible exact P10.out | with_reducible exact P10.out.drew | with_reducible exact P9.out | with_reducible exact P9.out.drew | with_reducible exact P8.out | with_reducible exact P8.out.drew | with_reducible exact P7.out | with_reducible exact P7.out.drew | with_reducible exact P6.out | with_reducible exact P6.out.drew | with_reducible exact P5.out | with_reducible exact P5.out.drew | with_reducible exact P4.out | with_reducible exact P4.out.drew | with_reducible exact P3.out | with_reducible exact P3.out.drew | with_reducible exact P2.out | with_reducible exact P2.out.drew | with_reducible exact P1.out | with_reducible exact P1.out.drew))
          (first
            | (clear M1; go_at_call 20; refine (HCM.out _ (Kept.refl [] Y).drew).mono ?_; rintro e D1 ⟨rfl, kk⟩; have P1 : Hid (Kept [] Y D1) := Kept.trans (F := []) (G := []) (H := []) ((Kept.refl [] Y).drew) kk (by simp) (by simp); clear kk)
            | (clear M2; go_at_call 27; refine (HIN.out _ P1.out).mono ?_; rintro e D2 ⟨rfl, kk⟩; have P2 : Hid (Kept [] Y D2) := Kept.trans (F := []) (G := []) (H := []) (P1.out) kk (by simp) (by simp); clear kk)
            | (clear M3; go_at_call 24; refine (HNF.out _ P2.out).mono ?_; rintro e D3 ⟨a1, rfl, hs1, kk⟩; have P3 : Hid (Kept [] Y D3) := Kept.trans (F := []) (G := []) (H := []) (P2.out) kk (by simp) (by simp); have HA1 : Hid (Strs D3 a1 f.names) := hs1; clear hs1; clear kk)
            | (clear M4; go_at_call 24; refine (HNN.out _ P3.out).mono ?_; rintro e D4 ⟨a2, rfl, hs2, kk⟩; have P4 : Hid (Kept [] Y D4) := Kept.trans (F := []) (G := []) (H := []) (P3.out) kk (by simp) (by simp); have HA2 : Hid (Strs D4 a2 pn.names) := hs2; have HA3 : Hid (Strs D4 a1 f.names) := HA1.out.kept kk; clear hs2; clear kk)
            | (clear M5; go_at_call 23; refine (among_any _ _ _ _ _ HA3.out HA2.out HL1.out).mono ?_; rintro e D5 ⟨rfl, kk⟩; have P5 : Hid (Kept [] Y D5) := Kept.trans (F := []) (G := []) (H := []) (P4.out) kk (by simp) (by simp); clear kk)
            | (clear M6; go_at_call 24; refine (HNN.out _ P5.out).mono ?_; rintro e D6 ⟨a3, rfl, hs3, kk⟩; have P6 : Hid (Kept [] Y D6) := Kept.trans (F := []) (G := []) (H := []) (P5.out) kk (by simp) (by simp); have HA4 : Hid (Strs D6 a3 pn.names) := hs3; clear hs3; clear kk)
            | (clear M7; go_at_call 24; refine (HNF.out _ P6.out).mono ?_; rintro e D7 ⟨a4, rfl, hs4, kk⟩; have P7 : Hid (Kept [] Y D7) := Kept.trans (F := []) (G := []) (H := []) (P6.out) kk (by simp) (by simp); have HA5 : Hid (Strs D7 a4 f.names) := hs4; have HA6 : Hid (Strs D7 a3 pn.names) := HA4.out.kept kk; clear hs4; clear kk)
            | (clear M8; go_at_call 23; refine (among_any _ _ _ _ _ HA6.out HA5.out HL2.out).mono ?_; rintro e D8 ⟨rfl, kk⟩; have P8 : Hid (Kept [] Y D8) := Kept.trans (F := []) (G := []) (H := []) (P7.out) kk (by simp) (by simp); clear kk)
            | (clear M9; go_at_call 27; refine (HIF.out _ P8.out).mono ?_; rintro e D9 ⟨rfl, kk⟩; have P9 : Hid (Kept [] Y D9) := Kept.trans (F := []) (G := []) (H := []) (P8.out) kk (by simp) (by simp); clear kk)
            | (clear M10; go_at_call 20; refine (HCF.out _ P9.out).mono ?_; rintro e D10 ⟨rfl, kk⟩; have P10 : Hid (Kept [] Y D10) := Kept.trans (F := []) (G := []) (H := []) (P9.out) kk (by simp) (by simp); clear kk))
        have HID : Hid (∀ W, Kept [] Y W → Calls Tryd.prog 27 #[.agg #[.int .u8 (pd.op : Nat), .string pd.name, .slice da pd.kids.length dc]] W fun e w' => e = .returned (.bool true) ∧ Kept [] W w') := fun W k => by
          have := is_any pd _ W (HJY.out.kept k) (by have := HDA.out; omega) (by have := HDA.out; omega) HDA.out.2.2.1 ((HTT.out.kept HKY.out).kept k)
          rw [HDA.out.1] at this
          exact this
        obtain ⟨v0, v1, v2, -⟩ := (HZ3.out.kept P10.out).cells
        have G1 : Hid True := trivial
        have G2 : Hid True := trivial
        have G3 : Hid True := trivial
        have G4 : Hid True := trivial
        clear HS14 HCM HIN HNN HNF HIF HCF HNA HNO HDU HA1 HA2 HA3 HA4 HA5 HA6 P1 P2 P3 P4 P5 P6 P7 P8 P9 e0 e1 e2 e3 e4 e5 e6 e7 e8 hbi
        by_cases h8 : f.All (fun x => x.op ≠ 8)
        · have HCD : Hid (∀ (W : World) pa pc, Kept [] Y W → IsF W pn (.slice pa pn.kids.length pc) → Calls Tryd.prog 20 #[.agg #[.int .u8 (pn.op : Nat), .string pn.name, .slice pa pn.kids.length pc], .agg #[.int .u8 (pn.op : Nat), .string pn.name, .slice na pn.kids.length nc]] W fun e w' => e = .returned (.int .i64 0) ∧ Kept [] W w') := fun W pa pc k hp => by
            refine (cmp_any pn pn _ _ W hp (HIY.out.kept k) (by have := HNS1.out; omega) (by have := HNS1.out; omega)).mono ?_
            rintro e w' ⟨rfl, hg⟩
            exact ⟨by rw [preT.self], hg.kept⟩
          have HDD : Hid (∀ W, Kept [] Y W → Calls Tryd.prog 26 #[.agg #[.int .u8 (pd.op : Nat), .string pd.name, .slice da pd.kids.length dc]] W (MadeAs W 0 pn)) := fun W k => by
            have := dual_any pd _ W (HJY.out.kept k) (by have := HDA.out; omega) (by have := HDA.out; omega) HDA.out.2.2.1 ((HTT.out.kept HKY.out).kept k)
            rw [(HBD.out h8).1, (HBD.out h8).2] at this
            exact this
          have HIT : Hid (∀ W, Kept [] Y W → Calls Tryd.prog 28 #[.agg #[.int .u8 (f.op : Nat), .string f.name, .slice kad f.kids.length kcap]] W (IffEnd f W)) := fun W k => iffs_any f _ W ((HFV.out.kept HKY.out).kept k) (by have := HFS.out; omega)
          clear h8 HBD
          go_wp2_with (first
            | (clear G1; go_at_call 26; refine (HDD.out _ P10.out).mono ?_; rintro e E1 hm; obtain ⟨qa, qc, rfl, i1, kk⟩ := hm.ok; have Q1 : Hid (Kept [] Y E1) := Kept.trans (F := []) (G := []) (H := []) (P10.out) kk (by simp) (by simp); have HQ1 : Hid (IsF E1 pn (.slice qa pn.kids.length qc)) := i1; clear i1; have u0 := (fun o => cell_kept0 ((Kept.refl [] E1).alloc o) (HV0.out.kept (HKY.out.trans (F := []) (G := []) (H := []) Q1.out (by simp) (by simp))).cells.1); have u1 := (fun o => cell_kept0 ((Kept.refl [] E1).alloc o) (HV0.out.kept (HKY.out.trans (F := []) (G := []) (H := []) Q1.out (by simp) (by simp))).cells.2.1); have u2 := (fun o => cell_kept0 ((Kept.refl [] E1).alloc o) (HV0.out.kept (HKY.out.trans (F := []) (G := []) (H := []) Q1.out (by simp) (by simp))).cells.2.2.1); clear kk)
            | (clear G2; go_at_call 28; refine (HIT.out _ (Q1.out.alloc _)).mono ?_; rintro e E2 ⟨b, rfl, hb, kk⟩; clear hb; have Q2 : Hid (Kept [] Y E2) := Kept.trans (F := []) (G := []) (H := []) (Q1.out.alloc _) kk (by simp) (by simp); obtain ⟨w0, w1, w2, -⟩ := (HZ3.out.kept Q2.out).cells; have HB5 : Hid (For3 E2 E1.heap.size (.int .u8 (pn.op : Nat)) (.string pn.name) (.slice qa pn.kids.length qc)) := (show For3 (E1.alloc (.cells #[.int .u8 (pn.op : Nat), .string pn.name, .slice qa pn.kids.length qc] 25)) E1.heap.size (.int .u8 (pn.op : Nat)) (.string pn.name) (.slice qa pn.kids.length qc) from al0 _ _).kept kk; have HQ2 : Hid (IsF E2 pn (.slice qa pn.kids.length qc)) := HQ1.out.kept (Kept.trans (F := []) (G := []) (H := []) ((Kept.refl [] E1).alloc _) kk (by simp) (by simp)); clear kk; cases b)
            | (clear G3; go_at_call 27; refine (HID.out _ Q2.out).mono ?_; rintro e E3 ⟨rfl, kk⟩; have Q3 : Hid (Kept [] Y E3) := Kept.trans (F := []) (G := []) (H := []) (Q2.out) kk (by simp) (by simp); obtain ⟨t0, t1, t2, -⟩ := (HB5.out.kept kk).cells; obtain ⟨r0, r1, r2, -⟩ := (HZ1.out.kept Q3.out).cells; have HQ3 : Hid (IsF E3 pn (.slice qa pn.kids.length qc)) := HQ2.out.kept kk; clear kk)
            | (clear G4; go_at_call 20; refine (HCD.out _ _ _ Q3.out HQ3.out).mono ?_; rintro e E4 ⟨rfl, kk⟩; have Q4 : Hid (Kept [] Y E4) := Kept.trans (F := []) (G := []) (H := []) (Q3.out) kk (by simp) (by simp); clear kk))
          all_goals go_ret
          all_goals first
            | exact ⟨rfl, HKV.out.trans (F := []) (G := []) (H := []) (HKY.out.trans (F := []) (G := []) (H := []) Q4.out (by simp) (by simp)) (by simp) (by simp)⟩
            | exact ⟨rfl, HKV.out.trans (F := []) (G := []) (H := []) (HKY.out.trans (F := []) (G := []) (H := []) Q3.out (by simp) (by simp)) (by simp) (by simp)⟩
        · have HIT : Hid (∀ W, Kept [] Y W → Calls Tryd.prog 28 #[.agg #[.int .u8 (f.op : Nat), .string f.name, .slice kad f.kids.length kcap]] W fun e w' => e = .returned (.bool true) ∧ Kept [] W w') := fun W k => by
            refine (iffs_any f _ W ((HFV.out.kept HKY.out).kept k) (by have := HFS.out; omega)).mono ?_
            rintro e w' ⟨b, rfl, hb, kk⟩
            cases b
            · exact absurd (hb rfl) h8
            · exact ⟨rfl, kk⟩
          clear h8 HBD
          rcases made_cases (p := (nd pd).2) HDA.out.2.1 with hj | hj
          · have HDD : Hid (∀ W, Kept [] Y W → Calls Tryd.prog 26 #[.agg #[.int .u8 (pd.op : Nat), .string pd.name, .slice da pd.kids.length dc]] W (MadeAs W 0 (nd pd).2)) := fun W k => by
              have := dual_any pd _ W (HJY.out.kept k) (by have := HDA.out; omega) (by have := HDA.out; omega) HDA.out.2.2.1 ((HTT.out.kept HKY.out).kept k)
              rw [hj] at this
              exact this
            clear hj
            generalize (nd pd).2 = p2 at *
            go_wp2_with (first
              | (clear G1; go_at_call 26; refine (HDD.out _ P10.out).mono ?_; rintro e E1 hm; obtain ⟨qa, qc, rfl, i1, kk⟩ := hm.ok; have Q1 : Hid (Kept [] Y E1) := Kept.trans (F := []) (G := []) (H := []) (P10.out) kk (by simp) (by simp); have HQ1 : Hid (IsF E1 p2 (.slice qa p2.kids.length qc)) := i1; clear i1; have u0 := (fun o => cell_kept0 ((Kept.refl [] E1).alloc o) (HV0.out.kept (HKY.out.trans (F := []) (G := []) (H := []) Q1.out (by simp) (by simp))).cells.1); have u1 := (fun o => cell_kept0 ((Kept.refl [] E1).alloc o) (HV0.out.kept (HKY.out.trans (F := []) (G := []) (H := []) Q1.out (by simp) (by simp))).cells.2.1); have u2 := (fun o => cell_kept0 ((Kept.refl [] E1).alloc o) (HV0.out.kept (HKY.out.trans (F := []) (G := []) (H := []) Q1.out (by simp) (by simp))).cells.2.2.1); clear kk)
              | (clear G2; go_at_call 28; refine (HIT.out _ (Q1.out.alloc _)).mono ?_; rintro e E2 ⟨rfl, kk⟩; have Q2 : Hid (Kept [] Y E2) := Kept.trans (F := []) (G := []) (H := []) (Q1.out.alloc _) kk (by simp) (by simp); obtain ⟨w0, w1, w2, -⟩ := (HZ3.out.kept Q2.out).cells; clear kk)
              | (clear G3; go_at_call 27; refine (HID.out _ Q2.out).mono ?_; rintro e E3 ⟨rfl, kk⟩; have Q3 : Hid (Kept [] Y E3) := Kept.trans (F := []) (G := []) (H := []) (Q2.out) kk (by simp) (by simp); clear kk))
            all_goals go_ret
            all_goals first
              | exact ⟨rfl, HKV.out.trans (F := []) (G := []) (H := []) (HKY.out.trans (F := []) (G := []) (H := []) Q3.out (by simp) (by simp)) (by simp) (by simp)⟩
          · have HDD : Hid (∀ W, Kept [] Y W → Calls Tryd.prog 26 #[.agg #[.int .u8 (pd.op : Nat), .string pd.name, .slice da pd.kids.length dc]] W (MadeAs W 31 (nd pd).2)) := fun W k => by
              have := dual_any pd _ W (HJY.out.kept k) (by have := HDA.out; omega) (by have := HDA.out; omega) HDA.out.2.2.1 ((HTT.out.kept HKY.out).kept k)
              rw [hj] at this
              exact this
            clear hj
            generalize (nd pd).2 = p2 at *
            go_wp2_with (first
              | (clear G1; go_at_call 26; refine (HDD.out _ P10.out).mono ?_; rintro e E1 hm; obtain ⟨rfl, kk⟩ := hm.bad (by omega); have Q1 : Hid (Kept [] Y E1) := Kept.trans (F := []) (G := []) (H := []) (P10.out) kk (by simp) (by simp); have u0 := (fun o => cell_kept0 ((Kept.refl [] E1).alloc o) (HV0.out.kept (HKY.out.trans (F := []) (G := []) (H := []) Q1.out (by simp) (by simp))).cells.1); have u1 := (fun o => cell_kept0 ((Kept.refl [] E1).alloc o) (HV0.out.kept (HKY.out.trans (F := []) (G := []) (H := []) Q1.out (by simp) (by simp))).cells.2.1); have u2 := (fun o => cell_kept0 ((Kept.refl [] E1).alloc o) (HV0.out.kept (HKY.out.trans (F := []) (G := []) (H := []) Q1.out (by simp) (by simp))).cells.2.2.1); clear kk)
              | (clear G2; go_at_call 28; refine (HIT.out _ (Q1.out.alloc _)).mono ?_; rintro e E2 ⟨rfl, kk⟩; have Q2 : Hid (Kept [] Y E2) := Kept.trans (F := []) (G := []) (H := []) (Q1.out.alloc _) kk (by simp) (by simp); obtain ⟨w0, w1, w2, -⟩ := (HZ3.out.kept Q2.out).cells; clear kk)
              | (clear G3; go_at_call 27; refine (HID.out _ Q2.out).mono ?_; rintro e E3 ⟨rfl, kk⟩; have Q3 : Hid (Kept [] Y E3) := Kept.trans (F := []) (G := []) (H := []) (Q2.out) kk (by simp) (by simp); clear kk))
            all_goals go_ret
            all_goals first
              | exact ⟨rfl, HKV.out.trans (F := []) (G := []) (H := []) (HKY.out.trans (F := []) (G := []) (H := []) Q3.out (by simp) (by simp)) (by simp) (by simp)⟩
    · rw [hn] at HNO
      rw [hd] at HDU
      obtain ⟨an1, an2, an3⟩ := again_n HG1.out hn
      have HAM : Hid (isB (nd f).1 = true) := an3
      have gn := nd_good f HG1.out
      have hfn := fit_made hn
      have HNA : Hid (∀ (W : World) pa pc, Kept [] V W → IsF W (nd f).1 (.slice pa (nd f).1.kids.length pc) → Calls Tryd.prog 25 #[.agg #[.int .u8 ((nd f).1.op : Nat), .string (nd f).1.name, .slice pa (nd f).1.kids.length pc]] W (MadeAs W 0 (nd f).1)) := fun W pa pc k hp => by
        have := normal_any (nd f).1 _ W hp (by omega) (by omega) (good_fine gn.1) (HTT.out.kept k)
        rw [an1, an2] at this
        exact this
      have HL1 : Hid (lackN f.names (nd f).1.names = false) := lack_dn HG1.out
      have HL2 : Hid (lackN (nd f).1.names f.names = false) := lack_nd HG1.out
      have HIC : Hid (isB f = (cmpT f (nd f).1 == 0)) := is_cmp hn
      have HNF1 : Hid (nd f).1.Fine := good_fine gn.1
      have HNS1 : Hid ((nd f).1.size ≤ 1000 ∧ (nd f).1.depth ≤ 100) := hfn
      generalize (nd f).1 = pn at *
      generalize (nd f).2 = pd at *
      clear hn hd an1 an2 an3 gn hfn
      have N3 : Hid True := trivial
      go_wp2_with (first
        | (clear N1; go_at_call 25; refine (HNO.out _ HKX.out).mono ?_; rintro e Y1 hm; obtain ⟨na, nc, rfl, i1, kk⟩ := hm.ok; have HY1 : Hid (Kept [] V Y1) := HKX.out.trans kk (by simp) (by simp); have HI1 : Hid (IsF Y1 pn (.slice na pn.kids.length nc)) := i1; have y0 := (fun o => cell_kept0 ((Kept.refl [] Y1).alloc o) (HV0.out.kept HY1.out).cells.1); have y1 := (fun o => cell_kept0 ((Kept.refl [] Y1).alloc o) (HV0.out.kept HY1.out).cells.2.1); have y2 := (fun o => cell_kept0 ((Kept.refl [] Y1).alloc o) (HV0.out.kept HY1.out).cells.2.2.1); clear kk i1)
        | (clear N2; go_at_call 26; refine (HDU.out _ (HY1.out.alloc _)).mono ?_; rintro e Y2 hm; obtain ⟨rfl, kk⟩ := hm.bad (by omega); have HY2 : Hid (Kept [] V Y2) := (HY1.out.alloc _).trans kk (by simp) (by simp); have HB2 : Hid (For3 Y2 Y1.heap.size (.int .u8 (pn.op : Nat)) (.string pn.name) (.slice na pn.kids.length nc)) := (show For3 (Y1.alloc (.cells #[.int .u8 (pn.op : Nat), .string pn.name, .slice na pn.kids.length nc] 25)) Y1.heap.size (.int .u8 (pn.op : Nat)) (.string pn.name) (.slice na pn.kids.length nc) from al0 _ _).kept kk; have HI2 : Hid (IsF Y2 pn (.slice na pn.kids.length nc)) := HI1.out.kept (((Kept.refl [] Y1).alloc _).trans kk (by simp) (by simp)); have z0 := (fun o => cell_kept0 ((Kept.refl [] Y2).alloc o) (HB2.out).cells.1); have z1 := (fun o => cell_kept0 ((Kept.refl [] Y2).alloc o) (HB2.out).cells.2.1); have z2 := (fun o => cell_kept0 ((Kept.refl [] Y2).alloc o) (HB2.out).cells.2.2.1); clear kk)
        | (clear N3; go_at_call 25; refine (HNA.out _ _ _ (HY2.out.alloc _) (HI2.out.kept ((Kept.refl [] Y2).alloc _))).mono ?_; rintro e Y3 hm; obtain ⟨ma, mc, rfl, i1, kk⟩ := hm.ok; have HY3 : Hid (Kept [] V Y3) := (HY2.out.alloc _).trans kk (by simp) (by simp); have HK23 : Hid (Kept [] Y2 Y3) := ((Kept.refl [] Y2).alloc _).trans kk (by simp) (by simp); have HI3 : Hid (IsF Y3 pn (.slice ma pn.kids.length mc)) := i1; clear kk i1))
      obtain ⟨Y, hY⟩ : ∃ Y, (Y3.alloc (.cells #[.int .u8 (pn.op : Nat), .string pn.name, .slice ma pn.kids.length mc] 25)) = Y := ⟨_, rfl⟩
      have k4 : Kept [] Y3 Y := by rw [← hY]; exact (Kept.refl [] Y3).alloc _
      have kY : Kept [] V Y := HY3.out.trans k4 (by simp) (by simp)
      have k24 : Kept [] Y2 Y := HK23.out.trans k4 (by simp) (by simp)
      have z0 : For3 Y BF (.int .u8 (f.op : Nat)) (.string f.name) (.slice kad f.kids.length kcap) := HV0.out.kept kY
      have z1 : For3 Y Y1.heap.size (.int .u8 (pn.op : Nat)) (.string pn.name) (.slice na pn.kids.length nc) := HB2.out.kept k24
      have z2 : For3 Y Y3.heap.size (.int .u8 (pn.op : Nat)) (.string pn.name) (.slice ma pn.kids.length mc) := by rw [← hY]; exact al0 _ _
      have HKY : Hid (Kept [] V Y) := kY
      have HIY : Hid (IsF Y pn (.slice na pn.kids.length nc)) := HI2.out.kept k24
      have HMY : Hid (IsF Y pn (.slice ma pn.kids.length mc)) := HI3.out.kept k4
      rw [hY]
      clear hY k4 kY k24 HI1 HI2 HI3 HB2 HK23
      obtain ⟨C1, hC1⟩ : ∃ B, Y1.heap.size = B := ⟨_, rfl⟩
      obtain ⟨C2, hC2⟩ : ∃ B, Y2.heap.size = B := ⟨_, rfl⟩
      obtain ⟨C3, hC3⟩ : ∃ B, Y3.heap.size = B := ⟨_, rfl⟩
      simp only [hC1, hC2, hC3] at z1 z2 ⊢
      have HS14 : Hid (∀ w', Kept [] Y w' → (w'.cell? ⟨BF, 0, none⟩ = some (.int .u8 (f.op : Nat)) ∧ w'.cell? ⟨BF, 1, none⟩ = some (.string f.name) ∧ w'.cell? ⟨BF, 2, none⟩ = some (.slice kad f.kids.length kcap) ∧ w'.cell? ⟨C1, 0, none⟩ = some (.int .u8 (pn.op : Nat)) ∧ w'.cell? ⟨C1, 1, none⟩ = some (.string pn.name) ∧ w'.cell? ⟨C1, 2, none⟩ = some (.slice na pn.kids.length nc) ∧ w'.cell? ⟨C3, 0, none⟩ = some (.int .u8 (pn.op : Nat)) ∧ w'.cell? ⟨C3, 1, none⟩ = some (.string pn.name) ∧ w'.cell? ⟨C3, 2, none⟩ = some (.slice ma pn.kids.length mc))) := fun W k => ⟨(z0.kept k).cells.1, (z0.kept k).cells.2.1, (z0.kept k).cells.2.2.1, (z1.kept k).cells.1, (z1.kept k).cells.2.1, (z1.kept k).cells.2.2.1, (z2.kept k).cells.1, (z2.kept k).cells.2.1, (z2.kept k).cells.2.2.1⟩
      have HCM : Hid (∀ W, Kept [] Y W → Calls Tryd.prog 20 #[.agg #[.int .u8 (pn.op : Nat), .string pn.name, .slice ma pn.kids.length mc], .agg #[.int .u8 (pn.op : Nat), .string pn.name, .slice na pn.kids.length nc]] W fun e w' => e = .returned (.int .i64 0) ∧ Kept [] W w') := fun W k => by
        refine (cmp_any pn pn _ _ W (HMY.out.kept k) (HIY.out.kept k) (by have := HNS1.out; omega) (by have := HNS1.out; omega)).mono ?_
        rintro e w' ⟨rfl, hg⟩
        exact ⟨by rw [preT.self], hg.kept⟩
      have HIN : Hid (∀ W, Kept [] Y W → Calls Tryd.prog 27 #[.agg #[.int .u8 (pn.op : Nat), .string pn.name, .slice na pn.kids.length nc]] W fun e w' => e = .returned (.bool true) ∧ Kept [] W w') := fun W k => by
        have := is_any pn _ W (HIY.out.kept k) (by have := HNS1.out; omega) (by have := HNS1.out; omega) HNF1.out ((HTT.out.kept HKY.out).kept k)
        rw [HAM.out] at this
        exact this
      have HNN : Hid (∀ W, Kept [] Y W → Calls Tryd.prog 24 #[.agg #[.int .u8 (pn.op : Nat), .string pn.name, .slice na pn.kids.length nc]] W fun e w' => ∃ v, e = .returned v ∧ Strs w' v pn.names ∧ Kept [] W w') := fun W k => names_strs pn _ W (HIY.out.kept k) (by have := HNS1.out; omega) HNF1.out
      have HNF : Hid (∀ W, Kept [] Y W → Calls Tryd.prog 24 #[.agg #[.int .u8 (f.op : Nat), .string f.name, .slice kad f.kids.length kcap]] W fun e w' => ∃ v, e = .returned v ∧ Strs w' v f.names ∧ Kept [] W w') := fun W k => names_strs f _ W ((HFV.out.kept HKY.out).kept k) (by have := HFS.out; omega) HFF.out
      have HIF0 : Hid (∀ W, Kept [] Y W → Calls Tryd.prog 27 #[.agg #[.int .u8 (f.op : Nat), .string f.name, .slice kad f.kids.length kcap]] W fun e w' => e = .returned (.bool (cmpT f pn == 0)) ∧ Kept [] W w') := fun W k => by
        have := is_any f _ W ((HFV.out.kept HKY.out).kept k) (by have := HFS.out; omega) (by have := HFS.out; omega) HFF.out ((HTT.out.kept HKY.out).kept k)
        rw [HIC.out] at this
        exact this
      have HCF : Hid (∀ W, Kept [] Y W → Calls Tryd.prog 20 #[.agg #[.int .u8 (f.op : Nat), .string f.name, .slice kad f.kids.length kcap], .agg #[.int .u8 (pn.op : Nat), .string pn.name, .slice na pn.kids.length nc]] W fun e w' => e = .returned (.int .i64 (cmpT f pn)) ∧ Kept [] W w') := fun W k => by
        refine (cmp_any f pn _ _ W ((HFV.out.kept HKY.out).kept k) (HIY.out.kept k) (by have := HFS.out; omega) (by have := HNS1.out; omega)).mono ?_
        rintro e w' ⟨rfl, hg⟩
        exact ⟨rfl, hg.kept⟩
      clear HIC
      generalize cmpT f pn = ci at *
      obtain ⟨bi, hbi⟩ : ∃ b, (ci == 0) = b := ⟨_, rfl⟩
      have HIF : Hid (∀ W, Kept [] Y W → Calls Tryd.prog 27 #[.agg #[.int .u8 (f.op : Nat), .string f.name, .slice kad f.kids.length kcap]] W fun e w' => e = .returned (.bool bi) ∧ Kept [] W w') := fun W k => by
        have := HIF0.out W k
        rw [hbi] at this
        exact this
      obtain ⟨e0, e1, e2, e3, e4, e5, e6, e7, e8⟩ := HS14.out Y (Kept.refl [] Y)
      have M1 : Hid True := trivial
      have M2 : Hid True := trivial
      have M3 : Hid True := trivial
      have M4 : Hid True := trivial
      have M5 : Hid True := trivial
      have M6 : Hid True := trivial
      have M7 : Hid True := trivial
      have M8 : Hid True := trivial
      have M9 : Hid True := trivial
      have M10 : Hid True := trivial
      have HZ1 : Hid (For3 Y C1 (.int .u8 (pn.op : Nat)) (.string pn.name) (.slice na pn.kids.length nc)) := z1
      clear z0 z1 z2 HIF0
      cases bi
      · go_region_held3 (fun w' => w'.cell? ⟨BF, 0, none⟩ = some (.int .u8 (f.op : Nat)) ∧ w'.cell? ⟨BF, 1, none⟩ = some (.string f.name) ∧ w'.cell? ⟨BF, 2, none⟩ = some (.slice kad f.kids.length kcap) ∧ w'.cell? ⟨C1, 0, none⟩ = some (.int .u8 (pn.op : Nat)) ∧ w'.cell? ⟨C1, 1, none⟩ = some (.string pn.name) ∧ w'.cell? ⟨C1, 2, none⟩ = some (.slice na pn.kids.length nc) ∧ w'.cell? ⟨C3, 0, none⟩ = some (.int .u8 (pn.op : Nat)) ∧ w'.cell? ⟨C3, 1, none⟩ = some (.string pn.name) ∧ w'.cell? ⟨C3, 2, none⟩ = some (.slice ma pn.kids.length mc))
          ((refine HS14.out _ ?_; first | with_reducible exact Kept.refl [] Y | with_reducible exact (Kept.refl [] Y).drew | with_reducible exact P10.out | with_reducible exact P10.out.drew | with_reducible exact P9.out | with_reducible exact P9.out.drew | with_reducible exact P8.out | with_reducible exact P8.out.drew | with_reducible exact P7.out | with_reducible exact P7.out.drew | with_reducible exact P6.out | with_reducible exact P6.out.drew | with_reducible exact P5.out | with_reducible exact P5.out.drew | with_reducible exact P4.out | with_reducible exact P4.out.drew | with_reducible exact P3.out | with_reducible exact P3.out.drew | with_reducible exact P2.out | with_reducible exact P2.out.drew | with_reducible exact P1.out | with_reducible exact P1.out.drew))
          (first
            | (clear M1; go_at_call 20; refine (HCM.out _ (Kept.refl [] Y).drew).mono ?_; rintro e D1 ⟨rfl, kk⟩; have P1 : Hid (Kept [] Y D1) := Kept.trans (F := []) (G := []) (H := []) ((Kept.refl [] Y).drew) kk (by simp) (by simp); clear kk)
            | (clear M2; go_at_call 27; refine (HIN.out _ P1.out).mono ?_; rintro e D2 ⟨rfl, kk⟩; have P2 : Hid (Kept [] Y D2) := Kept.trans (F := []) (G := []) (H := []) (P1.out) kk (by simp) (by simp); clear kk)
            | (clear M3; go_at_call 24; refine (HNF.out _ P2.out).mono ?_; rintro e D3 ⟨a1, rfl, hs1, kk⟩; have P3 : Hid (Kept [] Y D3) := Kept.trans (F := []) (G := []) (H := []) (P2.out) kk (by simp) (by simp); have HA1 : Hid (Strs D3 a1 f.names) := hs1; clear hs1; clear kk)
            | (clear M4; go_at_call 24; refine (HNN.out _ P3.out).mono ?_; rintro e D4 ⟨a2, rfl, hs2, kk⟩; have P4 : Hid (Kept [] Y D4) := Kept.trans (F := []) (G := []) (H := []) (P3.out) kk (by simp) (by simp); have HA2 : Hid (Strs D4 a2 pn.names) := hs2; have HA3 : Hid (Strs D4 a1 f.names) := HA1.out.kept kk; clear hs2; clear kk)
            | (clear M5; go_at_call 23; refine (among_any _ _ _ _ _ HA3.out HA2.out HL1.out).mono ?_; rintro e D5 ⟨rfl, kk⟩; have P5 : Hid (Kept [] Y D5) := Kept.trans (F := []) (G := []) (H := []) (P4.out) kk (by simp) (by simp); clear kk)
            | (clear M6; go_at_call 24; refine (HNN.out _ P5.out).mono ?_; rintro e D6 ⟨a3, rfl, hs3, kk⟩; have P6 : Hid (Kept [] Y D6) := Kept.trans (F := []) (G := []) (H := []) (P5.out) kk (by simp) (by simp); have HA4 : Hid (Strs D6 a3 pn.names) := hs3; clear hs3; clear kk)
            | (clear M7; go_at_call 24; refine (HNF.out _ P6.out).mono ?_; rintro e D7 ⟨a4, rfl, hs4, kk⟩; have P7 : Hid (Kept [] Y D7) := Kept.trans (F := []) (G := []) (H := []) (P6.out) kk (by simp) (by simp); have HA5 : Hid (Strs D7 a4 f.names) := hs4; have HA6 : Hid (Strs D7 a3 pn.names) := HA4.out.kept kk; clear hs4; clear kk)
            | (clear M8; go_at_call 23; refine (among_any _ _ _ _ _ HA6.out HA5.out HL2.out).mono ?_; rintro e D8 ⟨rfl, kk⟩; have P8 : Hid (Kept [] Y D8) := Kept.trans (F := []) (G := []) (H := []) (P7.out) kk (by simp) (by simp); clear kk)
            | (clear M9; go_at_call 27; refine (HIF.out _ P8.out).mono ?_; rintro e D9 ⟨rfl, kk⟩; have P9 : Hid (Kept [] Y D9) := Kept.trans (F := []) (G := []) (H := []) (P8.out) kk (by simp) (by simp); clear kk)
            | (clear M10; go_at_call 20; refine (HCF.out _ P9.out).mono ?_; rintro e D10 ⟨rfl, kk⟩; have P10 : Hid (Kept [] Y D10) := Kept.trans (F := []) (G := []) (H := []) (P9.out) kk (by simp) (by simp); clear kk))
        go_wp2_with fail
        go_ret
        exact ⟨rfl, HKV.out.trans (F := []) (G := []) (H := []) (HKY.out.trans (F := []) (G := []) (H := []) P10.out (by simp) (by simp)) (by simp) (by simp)⟩
      · go_region_held3 (fun w' => w'.cell? ⟨BF, 0, none⟩ = some (.int .u8 (f.op : Nat)) ∧ w'.cell? ⟨BF, 1, none⟩ = some (.string f.name) ∧ w'.cell? ⟨BF, 2, none⟩ = some (.slice kad f.kids.length kcap) ∧ w'.cell? ⟨C1, 0, none⟩ = some (.int .u8 (pn.op : Nat)) ∧ w'.cell? ⟨C1, 1, none⟩ = some (.string pn.name) ∧ w'.cell? ⟨C1, 2, none⟩ = some (.slice na pn.kids.length nc) ∧ w'.cell? ⟨C3, 0, none⟩ = some (.int .u8 (pn.op : Nat)) ∧ w'.cell? ⟨C3, 1, none⟩ = some (.string pn.name) ∧ w'.cell? ⟨C3, 2, none⟩ = some (.slice ma pn.kids.length mc))
          ((refine HS14.out _ ?_; first | with_reducible exact Kept.refl [] Y | with_reducible exact (Kept.refl [] Y).drew | with_reducible exact P10.out | with_reducible exact P10.out.drew | with_reducible exact P9.out | with_reducible exact P9.out.drew | with_reducible exact P8.out | with_reducible exact P8.out.drew | with_reducible exact P7.out | with_reducible exact P7.out.drew | with_reducible exact P6.out | with_reducible exact P6.out.drew | with_reducible exact P5.out | with_reducible exact P5.out.drew | with_reducible exact P4.out | with_reducible exact P4.out.drew | with_reducible exact P3.out | with_reducible exact P3.out.drew | with_reducible exact P2.out | with_reducible exact P2.out.drew | with_reducible exact P1.out | with_reducible exact P1.out.drew))
          (first
            | (clear M1; go_at_call 20; refine (HCM.out _ (Kept.refl [] Y).drew).mono ?_; rintro e D1 ⟨rfl, kk⟩; have P1 : Hid (Kept [] Y D1) := Kept.trans (F := []) (G := []) (H := []) ((Kept.refl [] Y).drew) kk (by simp) (by simp); clear kk)
            | (clear M2; go_at_call 27; refine (HIN.out _ P1.out).mono ?_; rintro e D2 ⟨rfl, kk⟩; have P2 : Hid (Kept [] Y D2) := Kept.trans (F := []) (G := []) (H := []) (P1.out) kk (by simp) (by simp); clear kk)
            | (clear M3; go_at_call 24; refine (HNF.out _ P2.out).mono ?_; rintro e D3 ⟨a1, rfl, hs1, kk⟩; have P3 : Hid (Kept [] Y D3) := Kept.trans (F := []) (G := []) (H := []) (P2.out) kk (by simp) (by simp); have HA1 : Hid (Strs D3 a1 f.names) := hs1; clear hs1; clear kk)
            | (clear M4; go_at_call 24; refine (HNN.out _ P3.out).mono ?_; rintro e D4 ⟨a2, rfl, hs2, kk⟩; have P4 : Hid (Kept [] Y D4) := Kept.trans (F := []) (G := []) (H := []) (P3.out) kk (by simp) (by simp); have HA2 : Hid (Strs D4 a2 pn.names) := hs2; have HA3 : Hid (Strs D4 a1 f.names) := HA1.out.kept kk; clear hs2; clear kk)
            | (clear M5; go_at_call 23; refine (among_any _ _ _ _ _ HA3.out HA2.out HL1.out).mono ?_; rintro e D5 ⟨rfl, kk⟩; have P5 : Hid (Kept [] Y D5) := Kept.trans (F := []) (G := []) (H := []) (P4.out) kk (by simp) (by simp); clear kk)
            | (clear M6; go_at_call 24; refine (HNN.out _ P5.out).mono ?_; rintro e D6 ⟨a3, rfl, hs3, kk⟩; have P6 : Hid (Kept [] Y D6) := Kept.trans (F := []) (G := []) (H := []) (P5.out) kk (by simp) (by simp); have HA4 : Hid (Strs D6 a3 pn.names) := hs3; clear hs3; clear kk)
            | (clear M7; go_at_call 24; refine (HNF.out _ P6.out).mono ?_; rintro e D7 ⟨a4, rfl, hs4, kk⟩; have P7 : Hid (Kept [] Y D7) := Kept.trans (F := []) (G := []) (H := []) (P6.out) kk (by simp) (by simp); have HA5 : Hid (Strs D7 a4 f.names) := hs4; have HA6 : Hid (Strs D7 a3 pn.names) := HA4.out.kept kk; clear hs4; clear kk)
            | (clear M8; go_at_call 23; refine (among_any _ _ _ _ _ HA6.out HA5.out HL2.out).mono ?_; rintro e D8 ⟨rfl, kk⟩; have P8 : Hid (Kept [] Y D8) := Kept.trans (F := []) (G := []) (H := []) (P7.out) kk (by simp) (by simp); clear kk)
            | (clear M9; go_at_call 27; refine (HIF.out _ P8.out).mono ?_; rintro e D9 ⟨rfl, kk⟩; have P9 : Hid (Kept [] Y D9) := Kept.trans (F := []) (G := []) (H := []) (P8.out) kk (by simp) (by simp); clear kk)
            | (clear M10; go_at_call 20; refine (HCF.out _ P9.out).mono ?_; rintro e D10 ⟨rfl, kk⟩; have P10 : Hid (Kept [] Y D10) := Kept.trans (F := []) (G := []) (H := []) (P9.out) kk (by simp) (by simp); clear kk))
        go_wp2_with fail
        go_ret
        exact ⟨rfl, HKV.out.trans (F := []) (G := []) (H := []) (HKY.out.trans (F := []) (G := []) (H := []) P10.out (by simp) (by simp)) (by simp) (by simp)⟩
  · rcases made_cases (p := (nd f).2) HRR.out with hd | hd
    · rw [hn] at HNO
      rw [hd] at HDU
      generalize (nd f).1 = pn at HNO
      generalize (nd f).2 = pd at HDU
      clear hn hd
      go_wp2_with (first
        | (clear N1; go_at_call 25; refine (HNO.out _ HKX.out).mono ?_; rintro e Y1 hm; obtain ⟨rfl, kk⟩ := hm.bad (by omega); have HY1 : Hid (Kept [] V Y1) := HKX.out.trans kk (by simp) (by simp); have y0 := (fun o => cell_kept0 ((Kept.refl [] Y1).alloc o) (HV0.out.kept HY1.out).cells.1); have y1 := (fun o => cell_kept0 ((Kept.refl [] Y1).alloc o) (HV0.out.kept HY1.out).cells.2.1); have y2 := (fun o => cell_kept0 ((Kept.refl [] Y1).alloc o) (HV0.out.kept HY1.out).cells.2.2.1); clear kk)
        | (clear N2; go_at_call 26; refine (HDU.out _ (HY1.out.alloc _)).mono ?_; rintro e Y2 hm; obtain ⟨da, dc, rfl, i1, kk⟩ := hm.ok; have HY2 : Hid (Kept [] V Y2) := (HY1.out.alloc _).trans kk (by simp) (by simp); clear kk i1))
      all_goals go_ret
      all_goals exact ⟨rfl, (HKV.out.trans HY2.out (by simp) (by simp)).alloc _⟩
    · rw [hn] at HNO
      rw [hd] at HDU
      generalize (nd f).1 = pn at HNO
      generalize (nd f).2 = pd at HDU
      clear hn hd
      go_wp2_with (first
        | (clear N1; go_at_call 25; refine (HNO.out _ HKX.out).mono ?_; rintro e Y1 hm; obtain ⟨rfl, kk⟩ := hm.bad (by omega); have HY1 : Hid (Kept [] V Y1) := HKX.out.trans kk (by simp) (by simp); have y0 := (fun o => cell_kept0 ((Kept.refl [] Y1).alloc o) (HV0.out.kept HY1.out).cells.1); have y1 := (fun o => cell_kept0 ((Kept.refl [] Y1).alloc o) (HV0.out.kept HY1.out).cells.2.1); have y2 := (fun o => cell_kept0 ((Kept.refl [] Y1).alloc o) (HV0.out.kept HY1.out).cells.2.2.1); clear kk)
        | (clear N2; go_at_call 26; refine (HDU.out _ (HY1.out.alloc _)).mono ?_; rintro e Y2 hm; obtain ⟨rfl, kk⟩ := hm.bad (by omega); have HY2 : Hid (Kept [] V Y2) := (HY1.out.alloc _).trans kk (by simp) (by simp); clear kk))
      all_goals go_ret
      all_goals exact ⟨rfl, (HKV.out.trans HY2.out (by simp) (by simp)).alloc _⟩
theorem nnfAgain_walk (f : Tr) (fv : Value) (w : World) (hI : IsF w f fv) (hF : f.Fine) (hM : f.Modest) (hT : KidsTab w) (hU : TurnTab w) :
    Calls Tryd.prog 5 #[.agg #[.int .u8 (f.op : Nat), .string f.name, fv]] w fun e w' => e = .returned (.bool true) ∧ Kept [] w w' := by
  by_cases hr : rightN pastB f = 0
  · exact nnfAgain_good f fv w hI hF hM hT hU hr
  · exact nnfAgain_bad f fv w hI hF hM hT hU hr
end Go.Proofs.YtddgciilcghbaaaDoor
