/- The document's Join and Suffix. -/
import Derived.Test.YtgbmfclboliliaaDoorWdRefS
import Derived.Test.YtgbmfclboliliaaDoorWdSuf
namespace Go.Proofs.YtgbmfclboliliaaDoor
open Go.RowKit Go.Shelf
attribute [local go_sem ↓] Go.wp_at_zero Go.wp_at_succ

theorem cell_keptF {F : List Nat} {W W' : World} (k : Kept F W W') {b o : Nat} {v : Value} (hb : b ∉ F) (h : W.cell? ⟨b, o, none⟩ = some v) : W'.cell? ⟨b, o, none⟩ = some v := by
  have hlt : b < W.heap.size := by
    rcases Nat.lt_or_ge b W.heap.size with h' | h'
    · exact h'
    · simp [World.cell?, Array.getElem?_eq_none h'] at h
  have e := k.block b hlt hb
  simp only [World.cell?] at h ⊢
  rw [e]
  exact h
/-- Letters do not lie in a word's own block. -/
theorem Lets.off {W W' : World} {B : Nat} {a a' : Option Addr} {n n' c c' : Nat} {v : Value} {xs : List Nat} (h : Lets W v xs) (hb : Wd2 W B (.slice a n c) (.slice a' n' c')) (k : Kept [B] W W') : Lets W' v xs := by
  refine ⟨h.small, h.few, ?_⟩
  rcases h.lie with h1 | ⟨b, o, c, h1, h2, h3, h4⟩
  · exact .inl h1
  · refine .inr ⟨b, o, c, h1, h2, h3, fun i hi => ?_⟩
    have h5 := h4 i hi
    refine cell_keptF k ?_ h5
    intro hm
    obtain rfl : b = B := by simpa using hm
    rw [cell_of hb] at h5
    rcases ho : o + i with _ | _ | j
    · rw [ho] at h5; cases h5
    · rw [ho] at h5; cases h5
    · rw [ho] at h5; cases h5
theorem IsW.off {W W' : World} {B : Nat} {a a' : Option Addr} {n n' c c' : Nat} {x y : Value} {q : Wd} (h : IsW W x y q) (hb : Wd2 W B (.slice a n c) (.slice a' n' c')) (k : Kept [B] W W') : IsW W' x y q := ⟨h.st.off hb k, h.lp.off hb k, h.few⟩
theorem kept_two {B : Nat} (W : World) (x y : Value) : Kept [B] W ((W.setCell ⟨B, 0, none⟩ x).setCell ⟨B, 1, none⟩ y) := ((Kept.refl _ W).setCell (.inl (by simp)) _).setCell (.inl (by simp)) _
theorem refMade_set {w W W3 : World} {q r : Wd} {B : Nat} {a1 a2 : Option Addr} {n1 c1 n2 c2 : Nat} (hb : Wd2 W B (.slice none 0 0) (.slice none 0 0)) (hB : w.heap.size ≤ B) (hk : Kept [] w W) (k3 : Kept [] W W3) (hn : IsW W3 (.slice a1 n1 c1) (.slice a2 n2 c2) r) (ho : NormOf q r) :
    RefMade w q (.returned (.agg #[.slice a1 n1 c1, .slice a2 n2 c2])) ((W3.setCell ⟨B, 0, none⟩ (.slice a1 n1 c1)).setCell ⟨B, 1, none⟩ (.slice a2 n2 c2)) :=
  ⟨_, _, _, _, _, _, r, rfl, hn.off (hb.kept k3) (kept_two _ _ _), ho, kept_set2 (hk.trans k3 (by simp) (by simp)) hB _ _⟩
set_option maxHeartbeats 800000 in
theorem refJoin_none (au : Option Addr) (cu nu : Nat) (us : List Nat) (ads : Option Addr) (cs : Nat) (ad : Option Addr) (c : Nat) (st : List Nat) (w : World) :
    Calls Tryd.prog 17 #[.slice au nu cu, .agg #[.slice ads st.length cs, .slice ad 0 c]] w (RefMade w ⟨us ++ st, []⟩) := by
  have HN : Hid _ := two_new w (.cells #[.slice ads st.length cs, .slice ad 0 c] 24) (.cells #[.slice none 0 0, .slice none 0 0] 24)
  go_enter Tryd.func17, Tryd.ntmps17
  go_wp2
  refine ret_word rfl rfl rfl HN.out.2 ⟨none, 0, 0, none, 0, 0, ⟨[], []⟩, rfl, ⟨Lets.nil _, Lets.nil _, by simp⟩, ⟨fun _ => rfl, fun h => absurd rfl h⟩, ?_⟩
  exact ((Kept.refl [] w).alloc _).alloc _
set_option maxHeartbeats 4000000 in
set_option maxRecDepth 10000 in
theorem refJoin_some (uv : Value) (us : List Nat) (ads : Option Addr) (cs bl ol cl : Nat) (st lp : List Nat) (w : World) (hu : Lets w uv us) (hs : Lets w (.slice ads st.length cs) st) (hl : Lets w (.slice (some ⟨bl, ol, none⟩) lp.length cl) lp) (h0 : 0 < lp.length) (hf : us.length + st.length + lp.length ≤ 100000000) :
    Calls Tryd.prog 17 #[uv, .agg #[.slice ads st.length cs, .slice (some ⟨bl, ol, none⟩) lp.length cl]] w (RefMade w ⟨us ++ st, lp⟩) := by
  obtain ⟨au, cu, rfl, _, _⟩ := hu.form
  obtain ⟨V, hV⟩ : ∃ V, ((w.alloc (.cells #[.slice ads st.length cs, .slice (some ⟨bl, ol, none⟩) lp.length cl] 24)).alloc (.cells #[.slice none 0 0, .slice none 0 0] 24)) = V := ⟨_, rfl⟩
  have kV : Kept [] w V := by rw [← hV]; exact ((Kept.refl [] w).alloc _).alloc _
  have hA : Wd2 V w.heap.size (.slice ads st.length cs) (.slice (some ⟨bl, ol, none⟩) lp.length cl) := by rw [← hV]; exact alUp (al0 _ _) _
  have hB : Wd2 V (w.heap.size + 1) (.slice none 0 0) (.slice none 0 0) := by rw [← hV]; exact al1 _ _ _
  obtain ⟨Y, hY⟩ : ∃ Y, V.alloc (.cells #[.slice none 0 0, .slice none 0 0] 24) = Y := ⟨_, rfl⟩
  have hO0 : Oth V [] [] Y (.slice none 0 0) (.slice none 0 0) := by rw [← hY]; exact Oth.new V
  obtain ⟨a1, n1, c1, w1, hr1, hb1, hO1⟩ := hO0.put (U := Y) (Kept.refl [] Y) (zs := us) (u := .slice au us.length cu) ((hu.kept kV).kept hO0.kept) (by simp only [List.length_nil]; omega)
  obtain ⟨Y1, hY1⟩ : ∃ Y1, w1.setCell ⟨V.heap.size, 0, none⟩ (.slice a1 n1 c1) = Y1 := ⟨_, rfl⟩
  rw [hY1] at hO1
  obtain ⟨a2, n2, c2, w2, hr2, hb2, hO2⟩ := hO1.put (U := Y1) (Kept.refl [] Y1) (zs := st) (u := .slice ads st.length cs) ((hs.kept kV).kept hO1.kept) (by simp only [List.nil_append]; omega)
  obtain ⟨Y2, hY2⟩ : ∃ Y2, w2.setCell ⟨V.heap.size, 0, none⟩ (.slice a2 n2 c2) = Y2 := ⟨_, rfl⟩
  rw [hY2] at hO2
  simp only [List.nil_append] at hO1 hO2
  obtain ⟨Y3, hY3⟩ : ∃ Y3, Y2.setCell ⟨V.heap.size, 1, none⟩ (.slice (some ⟨bl, ol, none⟩) lp.length cl) = Y3 := ⟨_, rfl⟩
  have kB3 : Kept [V.heap.size] Y2 Y3 := by rw [← hY3]; exact (Kept.refl _ Y2).setCell (.inl (by simp)) _
  have k3 : Kept [] V Y3 := by rw [← hY3]; exact hO2.kept.setCell (.inr (Nat.le_refl _)) _
  have l2 : Lets Y2 (.slice a2 n2 c2) (us ++ st) := lets_own hO2.own1 (fun x hx => (List.mem_append.1 hx).elim (hu.small x) (hs.small x)) (by rw [List.length_append]; omega)
  have hw3 : IsW Y3 (.slice a2 n2 c2) (.slice (some ⟨bl, ol, none⟩) lp.length cl) ⟨us ++ st, lp⟩ := ⟨l2.off hO2.box kB3, (hl.kept kV).kept k3, by show (us ++ st).length + lp.length ≤ _; rw [List.length_append]; omega⟩
  have hb3 : Wd2 Y3 V.heap.size (.slice a2 n2 c2) (.slice (some ⟨bl, ol, none⟩) lp.length cl) := by
    rw [← hY3]; unfold Wd2; rw [row_set hO2.box]; rfl
  have HNM : Hid (Calls Tryd.prog 15 #[.agg #[.slice a2 n2 c2, .slice (some ⟨bl, ol, none⟩) lp.length cl]] Y3 (RefMade Y3 ⟨us ++ st, lp⟩)) := refNormal_any _ _ ⟨us ++ st, lp⟩ Y3 hw3 (by show (us ++ st).length + lp.length ≤ _; rw [List.length_append]; omega)
  have HR1 : Hid (∀ ty, (Builtin.append_ #[22, 22] ty #[.slice none 0 0, .slice au us.length cu]).run Tryd.prog Y = .ok (.slice a1 n1 c1) w1) := hr1
  have HR2 : Hid (∀ ty, (Builtin.append_ #[22, 22] ty #[.slice a1 n1 c1, .slice ads st.length cs]).run Tryd.prog Y1 = .ok (.slice a2 n2 c2) w2) := hr2
  have HV : Hid (_ = V) := hV
  have HY : Hid (_ = Y) := hY
  have HY1 : Hid (_ = Y1) := hY1
  have HY2 : Hid (_ = Y2) := hY2
  have HY3 : Hid (_ = Y3) := hY3
  have HB : Hid (Wd2 Y3 (w.heap.size + 1) (.slice none 0 0) (.slice none 0 0)) := hB.kept k3
  have HK3 : Hid (Kept [] w Y3) := kV.trans k3 (by simp) (by simp)
  obtain ⟨p0, p1, p2, p3⟩ := hO0.box.cells
  obtain ⟨q0, q1, q2, q3⟩ := (show Wd2 w1 V.heap.size _ _ from hb1).cells
  obtain ⟨r0, r1, r2, r3⟩ := hO1.box.cells
  obtain ⟨t0, t1, t2, t3⟩ := (show Wd2 w2 V.heap.size _ _ from hb2).cells
  obtain ⟨s0, s1, s2, s3⟩ := hO2.box.cells
  obtain ⟨v0, v1, v2, v3⟩ := hb3.cells
  obtain ⟨e0, e1, _, _⟩ := (hA.kept hO1.kept).cells
  obtain ⟨f0, f1, _, _⟩ := (hA.kept hO2.kept).cells
  obtain ⟨d0, d1, _, _⟩ := hA.cells
  have b2 : ((lp.length : Int) == 0) = false := by rw [beq_eq_false_iff_ne]; omega
  have T1 : Hid True := trivial
  clear hV hY hY1 hY2 hY3 hr1 hr2 hb1 hb2 hO0 hO1 hO2 l2 hw3 hb3 hA hB kV k3 kB3 hu hs hl
  go_enter Tryd.func17, Tryd.ntmps17
  go_upto_region 1 with fail
  rw [HV.out]
  go_upto_region 4 with fail
  rw [HY.out]
  go_upto_region 5 with (at_builtin; refine Lib.wpList_append_run _ rfl _ _ _ _ rfl _ _ rfl rfl _ _ (HR1.out _) ?_)
  rw [HY1.out]
  go_upto_region 6 with (at_builtin; refine Lib.wpList_append_run _ rfl _ _ _ _ rfl _ _ rfl rfl _ _ (HR2.out _) ?_)
  rw [HY2.out]
  go_upto_region 7 with fail
  rw [HY3.out]
  go_wp2_with (go_at_call 15; refine HNM.out.mono ?_; rintro e W3 ⟨x1, m1, d1, x2, m2, d2, r, rfl, HI, HO, HK⟩; obtain ⟨g0, g1, g2, g3⟩ := (HB.out.kept HK.out).cells)
  exact ret_word rfl rfl rfl ((HB.out.kept HK.out).set _ _) (refMade_set HB.out (by omega) HK3.out HK.out HI.out HO.out)
end Go.Proofs.YtgbmfclboliliaaDoor

/- words.Suffix, of whatever number. -/
namespace Go.Proofs.YtgbmfclboliliaaDoor
open Go.RowKit
attribute [local go_sem ↓] Go.wp_at_zero Go.wp_at_succ

set_option maxHeartbeats 2000000 in
set_option maxRecDepth 10000 in
theorem suffix_neg (b o cs : Nat) (st : List Nat) (lv : Value) (lp : List Nat) (n : Int) (w : World) (h : IsW w (.slice (some ⟨b, o, none⟩) st.length cs) lv ⟨st, lp⟩) (h0 : 0 < lp.length) (hn : n < 0) :
    Calls Tryd.prog 11 #[.agg #[.slice (some ⟨b, o, none⟩) st.length cs, lv], .int .i64 n] w (MadeNorm w ⟨st, lp⟩) := by
  have HW : Hid (IsW w (.slice (some ⟨b, o, none⟩) st.length cs) lv ⟨st, lp⟩) := h
  have hf := h.few
  simp only at hf
  obtain ⟨_, hc1, hc2⟩ := lets_form h.st
  simp only at hc1
  obtain ⟨al, cl, hv3, _, _⟩ := h.lp.form
  simp only at hv3
  subst hv3
  have hN := two_new w (.cells #[.slice (some ⟨b, o, none⟩) st.length cs, .slice al lp.length cl] 24) (.cells #[.slice none 0 0, .slice none 0 0] 24)
  obtain ⟨V, hV⟩ : ∃ V, (w.alloc (.cells #[.slice (some ⟨b, o, none⟩) st.length cs, .slice al lp.length cl] 24)).alloc (.cells #[.slice none 0 0, .slice none 0 0] 24) = V := ⟨_, rfl⟩
  rw [hV] at hN
  have kV : Kept [] w V := by rw [← hV]; exact ((Kept.refl [] w).alloc _).alloc _
  have HA : Hid (Wd2 V w.heap.size (.slice (some ⟨b, o, none⟩) st.length cs) (.slice al lp.length cl)) := hN.1
  have HB : Hid (Wd2 V (w.heap.size + 1) (.slice none 0 0) (.slice none 0 0)) := hN.2
  have HKV : Hid (Kept [] w V) := kV
  have HV : Hid _ := hV
  have HM : Hid (∀ W, Kept [] V W → Calls Tryd.prog 10 #[.agg #[.slice (some ⟨b, o, none⟩) st.length cs, .slice al lp.length cl]] W fun e W3 => ∃ a3 n3 c3 a4 n4 c4, e = .returned (.agg #[.slice a3 n3 c3, .slice a4 n4 c4]) ∧ Kept [] W W3 ∧ Wd2 W3 (w.heap.size + 1) (.slice none 0 0) (.slice none 0 0) ∧ MadeNorm w ⟨st, lp⟩ (.returned (.agg #[.slice a3 n3 c3, .slice a4 n4 c4])) ((W3.setCell ⟨w.heap.size + 1, 0, none⟩ (.slice a3 n3 c3)).setCell ⟨w.heap.size + 1, 1, none⟩ (.slice a4 n4 c4)) ∧ Wd2 ((W3.setCell ⟨w.heap.size + 1, 0, none⟩ (.slice a3 n3 c3)).setCell ⟨w.heap.size + 1, 1, none⟩ (.slice a4 n4 c4)) (w.heap.size + 1) (.slice a3 n3 c3) (.slice a4 n4 c4)) := fun W kW => by
    have hW := h.kept (kV.trans kW (by simp) (by simp))
    refine (normal_any _ _ ⟨st, lp⟩ W hW.st hW.lp hf).mono ?_
    rintro e W3 ⟨s3, l3, r, rfl, hn, ho, k3⟩
    obtain ⟨a3, c3, e3⟩ := own_form hn.own1
    obtain ⟨a4, c4, e4⟩ := own_form hn.own2
    subst e3 e4
    obtain ⟨m1, m2⟩ := made_stored HKV.out HB.out kW hn ho k3
    exact ⟨a3, _, c3, a4, _, c4, rfl, k3, (HB.out.kept kW).kept k3, m1, m2⟩
  have b1 : (0 : Int) ≤ (st.length : Int) := by omega
  have b3 : (st.length : Int) ≤ (cs : Int) := by omega
  have b4 : decide (0 < lp.length) = true := by simpa using h0
  clear h hN kV hV
  go_enter Tryd.func11, Tryd.ntmps11
  go_wp2_with (go_at_call 43; rw [HV.out]; refine (endless_any _ _ _ _ _).mono ?_; rintro e w1 ⟨rfl, hk1⟩; rw [b4]; have HK1 : Hid (Kept [] V w1) := hk1; obtain ⟨c0, c1, _, _⟩ := (HA.out.kept hk1).cells; clear hk1)
  go_region_held3 (fun w' => w'.cell? ⟨w.heap.size, 0, none⟩ = some (.slice (some ⟨b, o, none⟩) st.length cs) ∧ w'.cell? ⟨w.heap.size, 1, none⟩ = some (.slice al lp.length cl))
    ((refine two_cells HA.out ?_; (repeat (first | exact Kept.refl _ _ | exact HK1.out.mono (by simp) | refine Kept.drew ?_ | refine Kept.alloc ?_ _ | refine Kept.trans (F := [w.heap.size + 1]) (G := []) (H := [w.heap.size + 1]) ?_ HK3.out (by simp) (by simp) | refine Kept.setCell ?_ (Or.inl (by simp)) _))))
    (first
    | (go_at_call 10; refine (HM.out _ (by first | exact HK1.out | exact HK1.out.drew)).mono ?_; rintro e w3 ⟨a3, n3, c3, a4, n4, c4, rfl, k3, hb, hm1, hm2⟩; obtain ⟨d0, d1, f0, f1⟩ := hb.cells; have HK3 : Hid _ := k3; have HM1 : Hid _ := hm1; have HM2 : Hid _ := hm2; clear k3 hb hm1 hm2))
  go_wp2
  exact ret_word rfl rfl rfl HM2.out HM1.out
set_option maxHeartbeats 2000000 in
set_option maxRecDepth 10000 in
theorem suffix_negn (lv : Value) (lp : List Nat) (n : Int) (w : World) (h : IsW w (.slice none 0 0) lv ⟨[], lp⟩) (h0 : 0 < lp.length) (hn : n < 0) :
    Calls Tryd.prog 11 #[.agg #[.slice none 0 0, lv], .int .i64 n] w (MadeNorm w ⟨[], lp⟩) := by
  have HW : Hid (IsW w (.slice none 0 0) lv ⟨[], lp⟩) := h
  have hf := h.few
  obtain ⟨al, cl, hv3, _, _⟩ := h.lp.form
  simp only at hv3
  subst hv3
  have hN := two_new w (.cells #[.slice none 0 0, .slice al lp.length cl] 24) (.cells #[.slice none 0 0, .slice none 0 0] 24)
  obtain ⟨V, hV⟩ : ∃ V, (w.alloc (.cells #[.slice none 0 0, .slice al lp.length cl] 24)).alloc (.cells #[.slice none 0 0, .slice none 0 0] 24) = V := ⟨_, rfl⟩
  rw [hV] at hN
  have kV : Kept [] w V := by rw [← hV]; exact ((Kept.refl [] w).alloc _).alloc _
  have HA : Hid (Wd2 V w.heap.size (.slice none 0 0) (.slice al lp.length cl)) := hN.1
  have HB : Hid (Wd2 V (w.heap.size + 1) (.slice none 0 0) (.slice none 0 0)) := hN.2
  have HKV : Hid (Kept [] w V) := kV
  have HV : Hid _ := hV
  have HM : Hid (∀ W, Kept [] V W → Calls Tryd.prog 10 #[.agg #[.slice none 0 0, .slice al lp.length cl]] W fun e W3 => ∃ a3 n3 c3 a4 n4 c4, e = .returned (.agg #[.slice a3 n3 c3, .slice a4 n4 c4]) ∧ Kept [] W W3 ∧ Wd2 W3 (w.heap.size + 1) (.slice none 0 0) (.slice none 0 0) ∧ MadeNorm w ⟨[], lp⟩ (.returned (.agg #[.slice a3 n3 c3, .slice a4 n4 c4])) ((W3.setCell ⟨w.heap.size + 1, 0, none⟩ (.slice a3 n3 c3)).setCell ⟨w.heap.size + 1, 1, none⟩ (.slice a4 n4 c4)) ∧ Wd2 ((W3.setCell ⟨w.heap.size + 1, 0, none⟩ (.slice a3 n3 c3)).setCell ⟨w.heap.size + 1, 1, none⟩ (.slice a4 n4 c4)) (w.heap.size + 1) (.slice a3 n3 c3) (.slice a4 n4 c4)) := fun W kW => by
    have hW := h.kept (kV.trans kW (by simp) (by simp))
    refine (normal_any _ _ ⟨[], lp⟩ W hW.st hW.lp hf).mono ?_
    rintro e W3 ⟨s3, l3, r, rfl, hn, ho, k3⟩
    obtain ⟨a3, c3, e3⟩ := own_form hn.own1
    obtain ⟨a4, c4, e4⟩ := own_form hn.own2
    subst e3 e4
    obtain ⟨m1, m2⟩ := made_stored HKV.out HB.out kW hn ho k3
    exact ⟨a3, _, c3, a4, _, c4, rfl, k3, (HB.out.kept kW).kept k3, m1, m2⟩
  have b4 : decide (0 < lp.length) = true := by simpa using h0
  clear h hN kV hV
  go_enter Tryd.func11, Tryd.ntmps11
  go_wp2_with (go_at_call 43; rw [HV.out]; refine (endless_any _ _ _ _ _).mono ?_; rintro e w1 ⟨rfl, hk1⟩; rw [b4]; have HK1 : Hid (Kept [] V w1) := hk1; obtain ⟨c0, c1, _, _⟩ := (HA.out.kept hk1).cells; clear hk1)
  go_region_held3 (fun w' => w'.cell? ⟨w.heap.size, 0, none⟩ = some (.slice none 0 0) ∧ w'.cell? ⟨w.heap.size, 1, none⟩ = some (.slice al lp.length cl))
    ((refine two_cells HA.out ?_; (repeat (first | exact Kept.refl _ _ | exact HK1.out.mono (by simp) | refine Kept.drew ?_ | refine Kept.alloc ?_ _ | refine Kept.trans (F := [w.heap.size + 1]) (G := []) (H := [w.heap.size + 1]) ?_ HK3.out (by simp) (by simp) | refine Kept.setCell ?_ (Or.inl (by simp)) _))))
    (first
    | (go_at_call 10; refine (HM.out _ (by first | exact HK1.out | exact HK1.out.drew)).mono ?_; rintro e w3 ⟨a3, n3, c3, a4, n4, c4, rfl, k3, hb, hm1, hm2⟩; obtain ⟨d0, d1, f0, f1⟩ := hb.cells; have HK3 : Hid _ := k3; have HM1 : Hid _ := hm1; have HM2 : Hid _ := hm2; clear k3 hb hm1 hm2))
  go_wp2
  exact ret_word rfl rfl rfl HM2.out HM1.out
theorem suffixI_any (sv lv : Value) (q : Wd) (n : Int) (w : World) (h : IsW w sv lv q) (hn : n ≤ 9223372036854775807) :
    Calls Tryd.prog 11 #[.agg #[sv, lv], .int .i64 n] w (MadeNorm w (sufW q n.toNat)) := by
  by_cases h1 : n < 0
  · obtain ⟨st, lp⟩ := q
    rw [show n.toNat = 0 by omega]
    unfold sufW
    simp only
    by_cases h0 : lp.length = 0
    · rw [if_pos h0]
      obtain rfl : lp = [] := List.length_eq_zero_iff.1 h0
      obtain ⟨ad, c, rfl, _⟩ := h.lp.form
      exact suffix_none sv ad c st n w h.st
    · rw [if_neg h0, if_pos (Nat.zero_le _), List.drop_zero]
      rcases h.st.lie with ⟨rfl, e⟩ | ⟨b, o, c, rfl, _⟩
      · have e' : st = [] := e
        subst e'
        exact suffix_negn lv lp n w h (by omega) h1
      · exact suffix_neg b o c st lv lp n w h (by omega) h1
  · obtain ⟨k, rfl⟩ : ∃ k : Nat, n = (k : Int) := ⟨n.toNat, by omega⟩
    rw [Int.toNat_natCast]
    exact suffix_any sv lv q k w h (by omega)
end Go.Proofs.YtgbmfclboliliaaDoor

/- The document's Suffix. -/
namespace Go.Proofs.YtgbmfclboliliaaDoor
open Go.RowKit Go.Shelf
attribute [local go_sem ↓] Go.wp_at_zero Go.wp_at_succ

/-- What Suffix is the normal form of, as the document has it. -/
def sufR (q : Wd) (k : Nat) : Wd := if q.loop.length = 0 then ⟨[], []⟩ else if k < q.stem.length then ⟨q.stem.drop k, q.loop⟩ else ⟨[], rot q.loop ((k - q.stem.length) % q.loop.length)⟩
theorem rot_zero (l : List Nat) : rot l 0 = l := by unfold rot; simp
theorem sufR_eq (q : Wd) (k : Nat) : sufR q k = sufW q k := by
  unfold sufR sufW
  by_cases h0 : q.loop.length = 0
  · rw [if_pos h0, if_pos h0]
  · rw [if_neg h0, if_neg h0]
    rcases Nat.lt_trichotomy k q.stem.length with h | h | h
    · rw [if_pos h, if_pos (by omega)]
    · rw [if_neg (by omega), if_pos (by omega), h, Nat.sub_self, Nat.zero_mod, rot_zero, List.drop_length]
    · rw [if_neg (by omega), if_neg (by omega)]
set_option maxHeartbeats 800000 in
theorem refSuffix_none (ads : Option Addr) (cs : Nat) (ad : Option Addr) (c : Nat) (st : List Nat) (n : Int) (w : World) :
    Calls Tryd.prog 16 #[.agg #[.slice ads st.length cs, .slice ad 0 c], .int .i64 n] w (RefMade w ⟨[], []⟩) := by
  have HN : Hid _ := two_new w (.cells #[.slice ads st.length cs, .slice ad 0 c] 24) (.cells #[.slice none 0 0, .slice none 0 0] 24)
  go_enter Tryd.func16, Tryd.ntmps16
  go_wp2
  refine ret_word rfl rfl rfl HN.out.2 ⟨none, 0, 0, none, 0, 0, ⟨[], []⟩, rfl, ⟨Lets.nil _, Lets.nil _, by simp⟩, ⟨fun _ => rfl, fun h => absurd rfl h⟩, ?_⟩
  exact ((Kept.refl [] w).alloc _).alloc _
/-- The head of the walk: the result's block and the word that is made. -/
structure SufV (w V Y : World) (x y : Value) : Prop where
  kV : Kept [] w V
  box : Wd2 V w.heap.size x y
  res : Wd2 V (w.heap.size + 1) (.slice none 0 0) (.slice none 0 0)
  oth : Oth V [] [] Y (.slice none 0 0) (.slice none 0 0)
set_option maxHeartbeats 4000000 in
set_option maxRecDepth 10000 in
theorem refSuffix_lo (b o cs bl ol cl : Nat) (st lp : List Nat) (n : Int) (k : Nat) (w : World) (hs : Lets w (.slice (some ⟨b, o, none⟩) st.length cs) st) (hl : Lets w (.slice (some ⟨bl, ol, none⟩) lp.length cl) lp) (h0 : 0 < lp.length) (hf : st.length + lp.length ≤ 100000000) (hk : k < st.length) (hn : n = (k : Int)) :
    Calls Tryd.prog 16 #[.agg #[.slice (some ⟨b, o, none⟩) st.length cs, .slice (some ⟨bl, ol, none⟩) lp.length cl], .int .i64 n] w (RefMade w ⟨st.drop k, lp⟩) := by
  subst hn
  obtain ⟨_, hc1, hc2⟩ := lets_form hs
  obtain ⟨V, hV⟩ : ∃ V, ((w.alloc (.cells #[.slice (some ⟨b, o, none⟩) st.length cs, .slice (some ⟨bl, ol, none⟩) lp.length cl] 24)).alloc (.cells #[.slice none 0 0, .slice none 0 0] 24)) = V := ⟨_, rfl⟩
  have kV : Kept [] w V := by rw [← hV]; exact ((Kept.refl [] w).alloc _).alloc _
  have hA : Wd2 V w.heap.size (.slice (some ⟨b, o, none⟩) st.length cs) (.slice (some ⟨bl, ol, none⟩) lp.length cl) := by rw [← hV]; exact alUp (al0 _ _) _
  have hB : Wd2 V (w.heap.size + 1) (.slice none 0 0) (.slice none 0 0) := by rw [← hV]; exact al1 _ _ _
  obtain ⟨Y, hY⟩ : ∃ Y, V.alloc (.cells #[.slice none 0 0, .slice none 0 0] 24) = Y := ⟨_, rfl⟩
  have hO0 : Wd2 Y V.heap.size (.slice none 0 0) (.slice none 0 0) := by rw [← hY]; exact al0 _ _
  have kY : Kept [] V Y := by rw [← hY]; exact (Kept.refl [] V).alloc _
  have hld := (hs.kept kV).drop k (by omega)
  obtain ⟨Y2, hY2⟩ : ∃ Y2, (Y.setCell ⟨V.heap.size, 0, none⟩ (.slice (some ⟨b, o + k, none⟩) (st.length - k) (cs - k))) = Y2 := ⟨_, rfl⟩
  have hb2 : Wd2 Y2 V.heap.size (.slice (some ⟨b, o + k, none⟩) (st.length - k) (cs - k)) (.slice none 0 0) := by rw [← hY2]; unfold Wd2; rw [row_set hO0]; rfl
  have k2 : Kept [] V Y2 := by rw [← hY2]; exact kY.setCell (.inr (Nat.le_refl _)) _
  obtain ⟨Y3, hY3⟩ : ∃ Y3, Y2.setCell ⟨V.heap.size, 1, none⟩ (.slice (some ⟨bl, ol, none⟩) lp.length cl) = Y3 := ⟨_, rfl⟩
  have k3 : Kept [] V Y3 := by rw [← hY3]; exact k2.setCell (.inr (Nat.le_refl _)) _
  have hb3 : Wd2 Y3 V.heap.size (.slice (some ⟨b, o + k, none⟩) (st.length - k) (cs - k)) (.slice (some ⟨bl, ol, none⟩) lp.length cl) := by
    rw [← hY3]; unfold Wd2; rw [row_set hb2]; rfl
  have hw3 : IsW Y3 (.slice (some ⟨b, o + k, none⟩) (st.length - k) (cs - k)) (.slice (some ⟨bl, ol, none⟩) lp.length cl) ⟨st.drop k, lp⟩ := ⟨hld.kept k3, (hl.kept kV).kept k3, by show (st.drop k).length + lp.length ≤ _; rw [List.length_drop]; omega⟩
  have HNM : Hid (Calls Tryd.prog 15 #[.agg #[.slice (some ⟨b, o + k, none⟩) (st.length - k) (cs - k), .slice (some ⟨bl, ol, none⟩) lp.length cl]] Y3 (RefMade Y3 ⟨st.drop k, lp⟩)) := refNormal_any _ _ ⟨st.drop k, lp⟩ Y3 hw3 (by show (st.drop k).length + lp.length ≤ _; rw [List.length_drop]; omega)
  have HV : Hid (_ = V) := hV
  have HY : Hid (_ = Y) := hY
  have HY2 : Hid (_ = Y2) := hY2
  have HY3 : Hid (_ = Y3) := hY3
  have HB : Hid (Wd2 Y3 (w.heap.size + 1) (.slice none 0 0) (.slice none 0 0)) := hB.kept k3
  have HK3 : Hid (Kept [] w Y3) := kV.trans k3 (by simp) (by simp)
  obtain ⟨p0, p1, p2, p3⟩ := hO0.cells
  obtain ⟨s0, s1, s2, s3⟩ := hb2.cells
  obtain ⟨v0, v1, v2, v3⟩ := hb3.cells
  obtain ⟨e0, e1, _, _⟩ := (hA.kept kY).cells
  obtain ⟨f0, f1, _, _⟩ := (hA.kept k2).cells
  obtain ⟨d0, d1, _, _⟩ := hA.cells
  have b2 : ((lp.length : Int) == 0) = false := by rw [beq_eq_false_iff_ne]; omega
  have g1 : (0 : Int) ≤ (k : Int) := by omega
  have g2 : (k : Int) < (st.length : Int) := by omega
  have g3 : (k : Int) ≤ (st.length : Int) := by omega
  have g4 : (st.length : Int) ≤ (cs : Int) := by omega
  clear hV hY hY2 hY3 hb2 hb3 hO0 hw3 hld hA hB kV k2 k3 kY hs hl
  go_enter Tryd.func16, Tryd.ntmps16
  go_upto_region 1 with fail
  rw [HV.out]
  go_upto_region 5 with fail
  rw [HY.out]
  go_upto_region 7 with fail
  rw [HY2.out]
  go_upto_region 8 with fail
  rw [HY3.out]
  go_wp2_with (go_at_call 15; refine HNM.out.mono ?_; rintro e W3 ⟨x1, m1, d1, x2, m2, d2, r, rfl, HI, HO, HK⟩; obtain ⟨g0, g1, g2, g3⟩ := (HB.out.kept HK.out).cells)
  exact ret_word rfl rfl rfl ((HB.out.kept HK.out).set _ _) (refMade_set HB.out (by omega) HK3.out HK.out HI.out HO.out)
set_option maxHeartbeats 4000000 in
set_option maxRecDepth 10000 in
theorem refSuffix_neg (b o cs bl ol cl : Nat) (st lp : List Nat) (n : Int) (w : World) (hs : Lets w (.slice (some ⟨b, o, none⟩) st.length cs) st) (hl : Lets w (.slice (some ⟨bl, ol, none⟩) lp.length cl) lp) (h0 : 0 < lp.length) (hf : st.length + lp.length ≤ 100000000) (hk : 0 < st.length) (hn : n < 0) :
    Calls Tryd.prog 16 #[.agg #[.slice (some ⟨b, o, none⟩) st.length cs, .slice (some ⟨bl, ol, none⟩) lp.length cl], .int .i64 n] w (RefMade w ⟨st, lp⟩) := by
  obtain ⟨_, hc1, hc2⟩ := lets_form hs
  obtain ⟨V, hV⟩ : ∃ V, ((w.alloc (.cells #[.slice (some ⟨b, o, none⟩) st.length cs, .slice (some ⟨bl, ol, none⟩) lp.length cl] 24)).alloc (.cells #[.slice none 0 0, .slice none 0 0] 24)) = V := ⟨_, rfl⟩
  have kV : Kept [] w V := by rw [← hV]; exact ((Kept.refl [] w).alloc _).alloc _
  have hA : Wd2 V w.heap.size (.slice (some ⟨b, o, none⟩) st.length cs) (.slice (some ⟨bl, ol, none⟩) lp.length cl) := by rw [← hV]; exact alUp (al0 _ _) _
  have hB : Wd2 V (w.heap.size + 1) (.slice none 0 0) (.slice none 0 0) := by rw [← hV]; exact al1 _ _ _
  obtain ⟨Y, hY⟩ : ∃ Y, V.alloc (.cells #[.slice none 0 0, .slice none 0 0] 24) = Y := ⟨_, rfl⟩
  have hO0 : Wd2 Y V.heap.size (.slice none 0 0) (.slice none 0 0) := by rw [← hY]; exact al0 _ _
  have kY : Kept [] V Y := by rw [← hY]; exact (Kept.refl [] V).alloc _
  have hld := hs.kept kV
  obtain ⟨Y2, hY2⟩ : ∃ Y2, (Y.setCell ⟨V.heap.size, 0, none⟩ (.slice (some ⟨b, o, none⟩) st.length cs)) = Y2 := ⟨_, rfl⟩
  have hb2 : Wd2 Y2 V.heap.size (.slice (some ⟨b, o, none⟩) st.length cs) (.slice none 0 0) := by rw [← hY2]; unfold Wd2; rw [row_set hO0]; rfl
  have k2 : Kept [] V Y2 := by rw [← hY2]; exact kY.setCell (.inr (Nat.le_refl _)) _
  obtain ⟨Y3, hY3⟩ : ∃ Y3, Y2.setCell ⟨V.heap.size, 1, none⟩ (.slice (some ⟨bl, ol, none⟩) lp.length cl) = Y3 := ⟨_, rfl⟩
  have k3 : Kept [] V Y3 := by rw [← hY3]; exact k2.setCell (.inr (Nat.le_refl _)) _
  have hb3 : Wd2 Y3 V.heap.size (.slice (some ⟨b, o, none⟩) st.length cs) (.slice (some ⟨bl, ol, none⟩) lp.length cl) := by
    rw [← hY3]; unfold Wd2; rw [row_set hb2]; rfl
  have hw3 : IsW Y3 (.slice (some ⟨b, o, none⟩) st.length cs) (.slice (some ⟨bl, ol, none⟩) lp.length cl) ⟨st, lp⟩ := ⟨hld.kept k3, (hl.kept kV).kept k3, by show st.length + lp.length ≤ _; omega⟩
  have HNM : Hid (Calls Tryd.prog 15 #[.agg #[.slice (some ⟨b, o, none⟩) st.length cs, .slice (some ⟨bl, ol, none⟩) lp.length cl]] Y3 (RefMade Y3 ⟨st, lp⟩)) := refNormal_any _ _ ⟨st, lp⟩ Y3 hw3 (by show st.length + lp.length ≤ _; omega)
  have HV : Hid (_ = V) := hV
  have HY : Hid (_ = Y) := hY
  have HY2 : Hid (_ = Y2) := hY2
  have HY3 : Hid (_ = Y3) := hY3
  have HB : Hid (Wd2 Y3 (w.heap.size + 1) (.slice none 0 0) (.slice none 0 0)) := hB.kept k3
  have HK3 : Hid (Kept [] w Y3) := kV.trans k3 (by simp) (by simp)
  obtain ⟨p0, p1, p2, p3⟩ := hO0.cells
  obtain ⟨s0, s1, s2, s3⟩ := hb2.cells
  obtain ⟨v0, v1, v2, v3⟩ := hb3.cells
  obtain ⟨e0, e1, _, _⟩ := (hA.kept kY).cells
  obtain ⟨f0, f1, _, _⟩ := (hA.kept k2).cells
  obtain ⟨d0, d1, _, _⟩ := hA.cells
  have b2 : ((lp.length : Int) == 0) = false := by rw [beq_eq_false_iff_ne]; omega
  have g2 : (0 : Int) < (st.length : Int) := by omega
  have g3 : (0 : Int) ≤ (st.length : Int) := by omega
  have g4 : (st.length : Int) ≤ (cs : Int) := by omega
  clear hV hY hY2 hY3 hb2 hb3 hO0 hw3 hld hA hB kV k2 k3 kY hs hl
  go_enter Tryd.func16, Tryd.ntmps16
  go_upto_region 1 with fail
  rw [HV.out]
  go_upto_region 5 with fail
  rw [HY.out]
  go_upto_region 7 with fail
  rw [HY2.out]
  go_upto_region 8 with fail
  rw [HY3.out]
  go_wp2_with (go_at_call 15; refine HNM.out.mono ?_; rintro e W3 ⟨x1, m1, d1, x2, m2, d2, r, rfl, HI, HO, HK⟩; obtain ⟨g0, g1, g2, g3⟩ := (HB.out.kept HK.out).cells)
  exact ret_word rfl rfl rfl ((HB.out.kept HK.out).set _ _) (refMade_set HB.out (by omega) HK3.out HK.out HI.out HO.out)
set_option maxHeartbeats 4000000 in
set_option maxRecDepth 10000 in
theorem refSuffix_hi (ads : Option Addr) (cs bl ol cl : Nat) (st lp : List Nat) (n : Int) (k : Nat) (w : World) (hl : Lets w (.slice (some ⟨bl, ol, none⟩) lp.length cl) lp) (h0 : 0 < lp.length) (hf : st.length + lp.length ≤ 100000000) (hk : st.length ≤ k) (hk2 : k ≤ 9223372036854775807) (hn : n = (k : Int)) :
    Calls Tryd.prog 16 #[.agg #[.slice ads st.length cs, .slice (some ⟨bl, ol, none⟩) lp.length cl], .int .i64 n] w (RefMade w ⟨[], rot lp ((k - st.length) % lp.length)⟩) := by
  subst hn
  obtain ⟨_, hc1, hc2⟩ := lets_form hl
  obtain ⟨r, hr⟩ : ∃ r, (k - st.length) % lp.length = r := ⟨_, rfl⟩
  have hrl : r < lp.length := by rw [← hr]; exact Nat.mod_lt _ h0
  have x1 : ((k : Int) - (st.length : Int)).tmod (lp.length : Int) = (r : Int) := by
    rw [Int.tmod_eq_emod_of_nonneg (by omega), ← hr, show (k : Int) - (st.length : Int) = ((k - st.length : Nat) : Int) by omega]; rfl
  have x2 : ((k : Int) - (st.length : Int)) % (lp.length : Int) = (r : Int) := by
    rw [← hr, show (k : Int) - (st.length : Int) = ((k - st.length : Nat) : Int) by omega]; rfl
  rw [hr]
  clear hr
  obtain ⟨V, hV⟩ : ∃ V, ((w.alloc (.cells #[.slice ads st.length cs, .slice (some ⟨bl, ol, none⟩) lp.length cl] 24)).alloc (.cells #[.slice none 0 0, .slice none 0 0] 24)) = V := ⟨_, rfl⟩
  have kV : Kept [] w V := by rw [← hV]; exact ((Kept.refl [] w).alloc _).alloc _
  have HA : Hid (Wd2 V w.heap.size (.slice ads st.length cs) (.slice (some ⟨bl, ol, none⟩) lp.length cl)) := by show Wd2 _ _ _ _; rw [← hV]; exact alUp (al0 _ _) _
  have HB : Hid (Wd2 V (w.heap.size + 1) (.slice none 0 0) (.slice none 0 0)) := by show Wd2 _ _ _ _; rw [← hV]; exact al1 _ _ _
  obtain ⟨Y, hY⟩ : ∃ Y, V.alloc (.cells #[.slice none 0 0, .slice none 0 0] 24) = Y := ⟨_, rfl⟩
  have HO0 : Hid (Oth V [] [] Y (.slice none 0 0) (.slice none 0 0)) := by show Oth _ _ _ _ _ _; rw [← hY]; exact Oth.new V
  have HL : Hid (Lets V (.slice (some ⟨bl, ol, none⟩) lp.length cl) lp) := hl.kept kV
  have HKV : Hid (Kept [] w V) := kV
  have HV : Hid (_ = V) := hV
  have HY : Hid (_ = Y) := hY
  obtain ⟨p0, p1, p2, p3⟩ := HO0.out.box.cells
  obtain ⟨e0, e1, _, _⟩ := (HA.out.kept HO0.out.kept).cells
  obtain ⟨d0, d1, _, _⟩ := HA.out.cells
  have b2 : ((lp.length : Int) == 0) = false := by rw [beq_eq_false_iff_ne]; omega
  have g1 : (0 : Int) ≤ (k : Int) := by omega
  have g2 : ¬ ((k : Int) < (st.length : Int)) := by omega
  have g3 : (0 : Int) ≤ (r : Int) := by omega
  have g4 : (r : Int) ≤ (lp.length : Int) := by omega
  have g5 : (lp.length : Int) ≤ (cl : Int) := by omega
  have g6 : (r : Int) ≤ (cl : Int) := by omega
  have b6 : ¬ ((lp.length : Int) = 0) := by omega
  have b7 : ¬ (lp.length = 0) := by omega
  have b8 : ¬ (lp = []) := fun e => by rw [e] at h0; simp at h0
  have b9 : IntKind.i64.wrap ((k : Int) - (st.length : Int)) = (k : Int) - (st.length : Int) := by rw [IntKind.wrap_i64]; omega
  obtain ⟨ad, had⟩ : ∃ ad : Option Addr, (if cl = r then some ⟨bl, ol, none⟩ else some ⟨bl, ol + r, none⟩) = ad := ⟨_, rfl⟩
  have hld := HL.out.dropI r (by omega)
  rw [had] at hld
  have kd0 : Kept [] Y Y.drew := (Kept.refl [] Y).drew
  obtain ⟨ya, yn, yc, w3, hrun, hbx, ho⟩ := HO0.out.put2 (U := Y.drew) kd0 (zs := lp.drop r) (u := .slice ad (lp.length - r) (cl - r)) ((hld.kept HO0.out.kept).kept kd0) (by rw [List.length_drop]; simp only [List.length_nil]; omega)
  obtain ⟨u0, u1, u2, u3⟩ := hbx.cells
  have HRUN : Hid (∀ ty, (Builtin.append_ #[22, 22] ty #[.slice none 0 0, .slice ad (lp.length - r) (cl - r)]).run Tryd.prog Y.drew = .ok (.slice ya yn yc) w3) := hrun
  have HO4 : Hid (Oth V [] (lp.drop r) (w3.setCell ⟨V.heap.size, 1, none⟩ (.slice ya yn yc)) (.slice none 0 0) (.slice ya yn yc)) := ho
  clear hV hY kV hl hrun hbx ho kd0 hld
  go_enter Tryd.func16, Tryd.ntmps16
  go_upto_region 1 with fail
  rw [HV.out]
  go_upto_region 5 with fail
  rw [HY.out]
  go_upto_region 10 with fail
  go_cut [6] from 38 to 45 (fun s6 wx => s6 = .int .i64 (r : Nat) ∧ ∃ xa xn xc, Hid (Oth V [] (lp.drop r) wx (.slice none 0 0) (.slice xa xn xc)))
  case first =>
    go_region_law (refine step_append_run rfl _ _ _ rfl _ _ _ _ rfl rfl (HRUN.out _) ?_)
    all_goals go_wp2_with fail
    all_goals go_meet
    all_goals exact ⟨rfl, _, _, _, HO4.out⟩
  case rest =>
    obtain ⟨rfl, xa, xn, xc, HO5⟩ := hcut
    rename World => V6
    clear p0 p1 p2 p3 e0 e1 d0 d1 u0 u1 u2 u3 HO0 HO4 HRUN
    obtain ⟨p0, p1, p2, p3⟩ := HO5.out.box.cells
    obtain ⟨e0, e1, _, _⟩ := (HA.out.kept HO5.out.kept).cells
    have kd0 : Kept [] V6 V6.drew := (Kept.refl [] V6).drew
    obtain ⟨ya, yn, yc, w3, hrun, hbx, ho⟩ := HO5.out.put2 (U := V6.drew) kd0 (zs := lp.take r) (u := .slice (some ⟨bl, ol, none⟩) r cl) (((HL.out.take r (by omega)).kept HO5.out.kept).kept kd0) (by rw [List.length_drop, List.length_take]; omega)
    obtain ⟨u0, u1, u2, u3⟩ := hbx.cells
    have HRUN : Hid (∀ ty, (Builtin.append_ #[22, 22] ty #[.slice xa xn xc, .slice (some ⟨bl, ol, none⟩) r cl]).run Tryd.prog V6.drew = .ok (.slice ya yn yc) w3) := hrun
    have HO4 : Hid (Oth V [] (lp.drop r ++ lp.take r) (w3.setCell ⟨V.heap.size, 1, none⟩ (.slice ya yn yc)) (.slice none 0 0) (.slice ya yn yc)) := ho
    clear hrun hbx ho kd0
    go_upto_region 11 with fail
    go_cut [6] from 46 to 53 (fun s6 wx => s6 = .int .i64 (r : Nat) ∧ ∃ xa xn xc, Hid (Oth V [] (lp.drop r ++ lp.take r) wx (.slice none 0 0) (.slice xa xn xc)))
    case first =>
      go_region_law (refine step_append_run rfl _ _ _ rfl _ _ _ _ rfl rfl (HRUN.out _) ?_)
      all_goals go_wp2_with fail
      all_goals go_meet
      all_goals exact ⟨rfl, _, _, _, HO4.out⟩
    case rest =>
      obtain ⟨rfl, za, zn, zc, HO7⟩ := hcut
      rename World => V8
      clear p0 p1 p2 p3 e0 e1 u0 u1 u2 u3 HO5 HO4 HRUN
      have hrot : lp.drop r ++ lp.take r = rot lp r := rfl
      rw [hrot] at HO7
      obtain ⟨p0, p1, p2, p3⟩ := HO7.out.box.cells
      have HNM : Hid (Calls Tryd.prog 15 #[.agg #[.slice none 0 0, .slice za zn zc]] V8 (RefMade V8 ⟨[], rot lp r⟩)) := refNormal_any _ _ ⟨[], rot lp r⟩ V8 ⟨Lets.nil _, lets_own HO7.out.own2 (rot_small HL.out.small) (by rw [rot_length]; omega), by show 0 + (rot lp r).length ≤ _; rw [rot_length]; omega⟩ (by show 0 + (rot lp r).length ≤ _; rw [rot_length]; omega)
      have HBV : Hid (Wd2 V8 (w.heap.size + 1) (.slice none 0 0) (.slice none 0 0)) := HB.out.kept HO7.out.kept
      have HKW : Hid (Kept [] w V8) := HKV.out.trans HO7.out.kept (by simp) (by simp)
      clear HO7 hrot
      go_wp2_with (go_at_call 15; refine HNM.out.mono ?_; rintro e W3 ⟨x1, m1, d1, x2, m2, d2, r, rfl, HI, HO, HK⟩; obtain ⟨g0, g1, g2, g3⟩ := (HBV.out.kept HK.out).cells)
      exact ret_word rfl rfl rfl ((HBV.out.kept HK.out).set _ _) (refMade_set HBV.out (by omega) HKW.out HK.out HI.out HO.out)
set_option maxHeartbeats 4000000 in
set_option maxRecDepth 10000 in
theorem refSuffix_hin (ads : Option Addr) (cs bl ol cl : Nat) (lp : List Nat) (n : Int) (w : World) (hl : Lets w (.slice (some ⟨bl, ol, none⟩) lp.length cl) lp) (h0 : 0 < lp.length) (hf : lp.length ≤ 100000000) (hn : n < 0) :
    Calls Tryd.prog 16 #[.agg #[.slice ads 0 cs, .slice (some ⟨bl, ol, none⟩) lp.length cl], .int .i64 n] w (RefMade w ⟨[], rot lp 0⟩) := by
  obtain ⟨_, hc1, hc2⟩ := lets_form hl
  obtain ⟨V, hV⟩ : ∃ V, ((w.alloc (.cells #[.slice ads 0 cs, .slice (some ⟨bl, ol, none⟩) lp.length cl] 24)).alloc (.cells #[.slice none 0 0, .slice none 0 0] 24)) = V := ⟨_, rfl⟩
  have kV : Kept [] w V := by rw [← hV]; exact ((Kept.refl [] w).alloc _).alloc _
  have HA : Hid (Wd2 V w.heap.size (.slice ads 0 cs) (.slice (some ⟨bl, ol, none⟩) lp.length cl)) := by show Wd2 _ _ _ _; rw [← hV]; exact alUp (al0 _ _) _
  have HB : Hid (Wd2 V (w.heap.size + 1) (.slice none 0 0) (.slice none 0 0)) := by show Wd2 _ _ _ _; rw [← hV]; exact al1 _ _ _
  obtain ⟨Y, hY⟩ : ∃ Y, V.alloc (.cells #[.slice none 0 0, .slice none 0 0] 24) = Y := ⟨_, rfl⟩
  have HO0 : Hid (Oth V [] [] Y (.slice none 0 0) (.slice none 0 0)) := by show Oth _ _ _ _ _ _; rw [← hY]; exact Oth.new V
  have HL : Hid (Lets V (.slice (some ⟨bl, ol, none⟩) lp.length cl) lp) := hl.kept kV
  have HKV : Hid (Kept [] w V) := kV
  have HV : Hid (_ = V) := hV
  have HY : Hid (_ = Y) := hY
  obtain ⟨p0, p1, p2, p3⟩ := HO0.out.box.cells
  obtain ⟨e0, e1, _, _⟩ := (HA.out.kept HO0.out.kept).cells
  obtain ⟨d0, d1, _, _⟩ := HA.out.cells
  have b2 : ((lp.length : Int) == 0) = false := by rw [beq_eq_false_iff_ne]; omega
  have g4 : (0 : Int) ≤ (lp.length : Int) := by omega
  have g5 : (lp.length : Int) ≤ (cl : Int) := by omega
  have g6 : (0 : Int) ≤ (cl : Int) := by omega
  have b6 : ¬ ((lp.length : Int) = 0) := by omega
  have b7 : ¬ (lp.length = 0) := by omega
  have b8 : ¬ (lp = []) := fun e => by rw [e] at h0; simp at h0
  have kd0 : Kept [] Y Y.drew := (Kept.refl [] Y).drew
  obtain ⟨ya, yn, yc, w3, hrun, hbx, ho⟩ := HO0.out.put2 (U := Y.drew) kd0 (zs := lp) (u := .slice (some ⟨bl, ol, none⟩) lp.length cl) ((HL.out.kept HO0.out.kept).kept kd0) (by simp only [List.length_nil]; omega)
  obtain ⟨u0, u1, u2, u3⟩ := hbx.cells
  have HRUN : Hid (∀ ty, (Builtin.append_ #[22, 22] ty #[.slice none 0 0, .slice (some ⟨bl, ol, none⟩) lp.length cl]).run Tryd.prog Y.drew = .ok (.slice ya yn yc) w3) := hrun
  have HO4 : Hid (Oth V [] lp (w3.setCell ⟨V.heap.size, 1, none⟩ (.slice ya yn yc)) (.slice none 0 0) (.slice ya yn yc)) := ho
  clear hV hY kV hl hrun hbx ho kd0
  go_enter Tryd.func16, Tryd.ntmps16
  go_upto_region 1 with fail
  rw [HV.out]
  go_upto_region 5 with fail
  rw [HY.out]
  go_upto_region 10 with fail
  go_cut [6] from 38 to 45 (fun s6 wx => s6 = .int .i64 0 ∧ ∃ xa xn xc, Hid (Oth V [] lp wx (.slice none 0 0) (.slice xa xn xc)))
  case first =>
    go_region_law (refine step_append_run rfl _ _ _ rfl _ _ _ _ rfl rfl (HRUN.out _) ?_)
    all_goals go_wp2_with fail
    all_goals go_meet
    all_goals exact ⟨rfl, _, _, _, HO4.out⟩
  case rest =>
    obtain ⟨rfl, xa, xn, xc, HO5⟩ := hcut
    rename World => V6
    clear p0 p1 p2 p3 e0 e1 d0 d1 u0 u1 u2 u3 HO0 HO4 HRUN
    obtain ⟨p0, p1, p2, p3⟩ := HO5.out.box.cells
    obtain ⟨e0, e1, _, _⟩ := (HA.out.kept HO5.out.kept).cells
    have kd0 : Kept [] V6 V6.drew := (Kept.refl [] V6).drew
    obtain ⟨ya, yn, yc, w3, hrun, hbx, ho⟩ := HO5.out.put2 (U := V6.drew) kd0 (zs := []) (u := .slice (some ⟨bl, ol, none⟩) 0 cl) (((HL.out.take 0 (by omega)).kept HO5.out.kept).kept kd0) (by simp only [List.length_nil]; omega)
    obtain ⟨u0, u1, u2, u3⟩ := hbx.cells
    have HRUN : Hid (∀ ty, (Builtin.append_ #[22, 22] ty #[.slice xa xn xc, .slice (some ⟨bl, ol, none⟩) 0 cl]).run Tryd.prog V6.drew = .ok (.slice ya yn yc) w3) := hrun
    have HO4 : Hid (Oth V [] (lp ++ []) (w3.setCell ⟨V.heap.size, 1, none⟩ (.slice ya yn yc)) (.slice none 0 0) (.slice ya yn yc)) := ho
    clear hrun hbx ho kd0
    go_upto_region 11 with fail
    go_cut [6] from 46 to 53 (fun s6 wx => s6 = .int .i64 0 ∧ ∃ xa xn xc, Hid (Oth V [] (lp ++ []) wx (.slice none 0 0) (.slice xa xn xc)))
    case first =>
      go_region_law (refine step_append_run rfl _ _ _ rfl _ _ _ _ rfl rfl (HRUN.out _) ?_)
      all_goals go_wp2_with fail
      all_goals go_meet
      all_goals exact ⟨rfl, _, _, _, HO4.out⟩
    case rest =>
      obtain ⟨rfl, za, zn, zc, HO7⟩ := hcut
      rename World => V8
      clear p0 p1 p2 p3 e0 e1 u0 u1 u2 u3 HO5 HO4 HRUN
      have hrot : lp ++ [] = rot lp 0 := by rw [rot_zero, List.append_nil]
      rw [hrot] at HO7
      obtain ⟨p0, p1, p2, p3⟩ := HO7.out.box.cells
      have HNM : Hid (Calls Tryd.prog 15 #[.agg #[.slice none 0 0, .slice za zn zc]] V8 (RefMade V8 ⟨[], rot lp 0⟩)) := refNormal_any _ _ ⟨[], rot lp 0⟩ V8 ⟨Lets.nil _, lets_own HO7.out.own2 (rot_small HL.out.small) (by rw [rot_length]; omega), by show 0 + (rot lp 0).length ≤ _; rw [rot_length]; omega⟩ (by show 0 + (rot lp 0).length ≤ _; rw [rot_length]; omega)
      have HBV : Hid (Wd2 V8 (w.heap.size + 1) (.slice none 0 0) (.slice none 0 0)) := HB.out.kept HO7.out.kept
      have HKW : Hid (Kept [] w V8) := HKV.out.trans HO7.out.kept (by simp) (by simp)
      clear HO7 hrot
      go_wp2_with (go_at_call 15; refine HNM.out.mono ?_; rintro e W3 ⟨x1, m1, d1, x2, m2, d2, r, rfl, HI, HO, HK⟩; obtain ⟨g0, g1, g2, g3⟩ := (HBV.out.kept HK.out).cells)
      exact ret_word rfl rfl rfl ((HBV.out.kept HK.out).set _ _) (refMade_set HBV.out (by omega) HKW.out HK.out HI.out HO.out)
theorem refSuffix_any (sv lv : Value) (q : Wd) (n : Int) (w : World) (h : IsW w sv lv q) (hn : n ≤ 9223372036854775807) (hf : q.stem.length + q.loop.length ≤ 100000000) :
    Calls Tryd.prog 16 #[.agg #[sv, lv], .int .i64 n] w (RefMade w (sufW q n.toNat)) := by
  rw [← sufR_eq]
  obtain ⟨st, lp⟩ := q
  unfold sufR
  simp only at hf ⊢
  by_cases h0 : lp.length = 0
  · rw [if_pos h0]
    obtain rfl : lp = [] := List.length_eq_zero_iff.1 h0
    obtain ⟨ad, c, rfl, _⟩ := h.lp.form
    obtain ⟨ads, cs, rfl, _⟩ := h.st.form
    exact refSuffix_none ads cs ad c st n w
  · rw [if_neg h0]
    obtain ⟨b, o, c, rfl, _⟩ := h.lp.there (by show 0 < lp.length; omega)
    by_cases h1 : n < 0
    · rw [show n.toNat = 0 by omega]
      by_cases h2 : 0 < st.length
      · rw [if_pos h2, List.drop_zero]
        obtain ⟨b2, o2, c2, rfl, _⟩ := h.st.there h2
        exact refSuffix_neg b2 o2 c2 b o c st lp n w h.st h.lp (by omega) hf h2 h1
      · obtain rfl : st = [] := List.length_eq_zero_iff.1 (by omega)
        obtain ⟨ads, cs, rfl, _⟩ := h.st.form
        rw [if_neg h2]
        simp only [List.length_nil, Nat.zero_mod, Nat.sub_zero] at hf ⊢
        exact refSuffix_hin ads cs b o c lp n w h.lp (by omega) (by omega) h1
    · obtain ⟨k, rfl⟩ : ∃ k : Nat, n = (k : Int) := ⟨n.toNat, by omega⟩
      rw [Int.toNat_natCast]
      by_cases h2 : k < st.length
      · rw [if_pos h2]
        obtain ⟨b2, o2, c2, rfl, _⟩ := h.st.there (by show 0 < st.length; omega)
        exact refSuffix_lo b2 o2 c2 b o c st lp _ k w h.st h.lp (by omega) hf h2 rfl
      · rw [if_neg h2]
        obtain ⟨ads, cs, rfl, _⟩ := h.st.form
        exact refSuffix_hi ads cs b o c st lp _ k w h.lp (by omega) hf (by omega) (by omega) rfl
theorem refJoin_any (uv sv lv : Value) (us : List Nat) (q : Wd) (w : World) (hu : Lets w uv us) (h : IsW w sv lv q) (hf : us.length + q.stem.length + q.loop.length ≤ 100000000) :
    Calls Tryd.prog 17 #[uv, .agg #[sv, lv]] w (RefMade w ⟨us ++ q.stem, q.loop⟩) := by
  obtain ⟨st, lp⟩ := q
  simp only at hf ⊢
  obtain ⟨ads, cs, rfl, _⟩ := h.st.form
  by_cases h0 : 0 < lp.length
  · obtain ⟨b, o, c, rfl, _⟩ := h.lp.there h0
    exact refJoin_some uv us ads cs b o c st lp w hu h.st h.lp h0 hf
  · obtain rfl : lp = [] := List.length_eq_zero_iff.1 (by omega)
    obtain ⟨ad, c, rfl, _⟩ := h.lp.form
    obtain ⟨au, cu, rfl, _⟩ := hu.form
    exact refJoin_none au cu us.length us ads cs ad c st w
end Go.Proofs.YtgbmfclboliliaaDoor
