/- words.Suffix. -/
import Derived.Test.YtamfnefnaelgfaaDoorWdJoin
namespace Go.Proofs.YtamfnefnaelgfaaDoor
open Go.RowKit
attribute [local go_sem ↓] Go.wp_at_zero Go.wp_at_succ

set_option maxHeartbeats 800000 in
theorem suffix_none (sv : Value) (ad : Option Addr) (c : Nat) (st : List Nat) (n : Int) (w : World) (hs : Lets w sv st) :
    Calls Tryd.prog 13 #[.agg #[sv, .slice ad 0 c], .int .i64 n] w (MadeNorm w ⟨[], []⟩) := by
  obtain ⟨ads, cs, rfl, _, _⟩ := hs.form
  clear hs
  have hN := two_new w (.cells #[.slice ads st.length cs, .slice ad 0 c] 47) (.cells #[.slice none 0 0, .slice none 0 0] 47)
  have HN : Hid _ := hN
  clear hN
  go_enter Tryd.func13, Tryd.ntmps13
  go_wp2_with (go_at_call 41; refine (endless_any _ _ _ _ _).mono ?_; rintro e w1 ⟨rfl, hk⟩; have hR : Wd2 w1 (w.heap.size + 1) (.slice none 0 0) (.slice none 0 0) := hk.at HN.out.2 (by simp); obtain ⟨c0, c1, f0, f1⟩ := hR.cells; have HR : Hid (Wd2 w1 (w.heap.size + 1) (.slice none 0 0) (.slice none 0 0)) := hR; have HK : Hid _ := hk; clear hk hR)
  refine ret_word rfl rfl rfl (HR.out.set _ _) ⟨_, _, ⟨[], []⟩, rfl, new_zero _ _, ⟨fun _ => rfl, fun h => absurd rfl h⟩, ?_⟩
  exact kept_set2 (Kept.trans (F := []) (G := []) (H := []) (((Kept.refl [] w).alloc _).alloc _) HK.out (by simp) (by simp)) (by simp) _ _

set_option maxHeartbeats 2000000 in
set_option maxRecDepth 10000 in
theorem suffix_lo (b o cs : Nat) (st : List Nat) (lv : Value) (lp : List Nat) (k : Nat) (w : World) (h : IsW w (.slice (some ⟨b, o, none⟩) st.length cs) lv ⟨st, lp⟩) (h0 : 0 < lp.length) (hkl : k ≤ st.length) :
    Calls Tryd.prog 13 #[.agg #[.slice (some ⟨b, o, none⟩) st.length cs, lv], .int .i64 k] w (MadeNorm w ⟨st.drop k, lp⟩) := by
  have HW : Hid (IsW w (.slice (some ⟨b, o, none⟩) st.length cs) lv ⟨st, lp⟩) := h
  have hf := h.few
  simp only at hf
  obtain ⟨_, hc1, hc2⟩ := lets_form h.st
  simp only at hc1
  obtain ⟨al, cl, hv3, _, _⟩ := h.lp.form
  simp only at hv3
  subst hv3
  have hN := two_new w (.cells #[.slice (some ⟨b, o, none⟩) st.length cs, .slice al lp.length cl] 47) (.cells #[.slice none 0 0, .slice none 0 0] 47)
  obtain ⟨V, hV⟩ : ∃ V, (w.alloc (.cells #[.slice (some ⟨b, o, none⟩) st.length cs, .slice al lp.length cl] 47)).alloc (.cells #[.slice none 0 0, .slice none 0 0] 47) = V := ⟨_, rfl⟩
  rw [hV] at hN
  have kV : Kept [] w V := by rw [← hV]; exact ((Kept.refl [] w).alloc _).alloc _
  have HA : Hid (Wd2 V w.heap.size (.slice (some ⟨b, o, none⟩) st.length cs) (.slice al lp.length cl)) := hN.1
  have HB : Hid (Wd2 V (w.heap.size + 1) (.slice none 0 0) (.slice none 0 0)) := hN.2
  have HKV : Hid (Kept [] w V) := kV
  have HV : Hid _ := hV
  obtain ⟨ad, had⟩ : ∃ ad : Option Addr, (if cs = k then some ⟨b, o, none⟩ else some ⟨b, o + k, none⟩) = ad := ⟨_, rfl⟩
  have HM : Hid (∀ W, Kept [] V W → Calls Tryd.prog 11 #[.agg #[.slice ad (st.length - k) (cs - k), .slice al lp.length cl]] W fun e W3 => ∃ a3 n3 c3 a4 n4 c4, e = .returned (.agg #[.slice a3 n3 c3, .slice a4 n4 c4]) ∧ Kept [] W W3 ∧ Wd2 W3 (w.heap.size + 1) (.slice none 0 0) (.slice none 0 0) ∧ MadeNorm w ⟨st.drop k, lp⟩ (.returned (.agg #[.slice a3 n3 c3, .slice a4 n4 c4])) ((W3.setCell ⟨w.heap.size + 1, 0, none⟩ (.slice a3 n3 c3)).setCell ⟨w.heap.size + 1, 1, none⟩ (.slice a4 n4 c4)) ∧ Wd2 ((W3.setCell ⟨w.heap.size + 1, 0, none⟩ (.slice a3 n3 c3)).setCell ⟨w.heap.size + 1, 1, none⟩ (.slice a4 n4 c4)) (w.heap.size + 1) (.slice a3 n3 c3) (.slice a4 n4 c4)) := fun W kW => by
    have hW := h.kept (kV.trans kW (by simp) (by simp))
    have h1 := hW.st.dropI k hkl
    rw [had] at h1
    refine (normal_any _ _ ⟨st.drop k, lp⟩ W h1 hW.lp (by show (st.drop k).length + lp.length ≤ _; rw [List.length_drop]; omega)).mono ?_
    rintro e W3 ⟨s3, l3, r, rfl, hn, ho, k3⟩
    obtain ⟨a3, c3, e3⟩ := own_form hn.own1
    obtain ⟨a4, c4, e4⟩ := own_form hn.own2
    subst e3 e4
    obtain ⟨m1, m2⟩ := made_stored HKV.out HB.out kW hn ho k3
    exact ⟨a3, _, c3, a4, _, c4, rfl, k3, (HB.out.kept kW).kept k3, m1, m2⟩
  have b1 : (k : Int) ≤ (st.length : Int) := by omega
  have b2 : (0 : Int) ≤ (k : Int) := by omega
  have b3 : (st.length : Int) ≤ (cs : Int) := by omega
  have b4 : decide (0 < lp.length) = true := by simpa using h0
  clear h hN kV hV
  go_enter Tryd.func13, Tryd.ntmps13
  go_wp2_with (go_at_call 41; rw [HV.out]; refine (endless_any _ _ _ _ _).mono ?_; rintro e w1 ⟨rfl, hk1⟩; rw [b4]; have HK1 : Hid (Kept [] V w1) := hk1; obtain ⟨c0, c1, _, _⟩ := (HA.out.kept hk1).cells; clear hk1)
  go_region_held3 (fun w' => w'.cell? ⟨w.heap.size, 0, none⟩ = some (.slice (some ⟨b, o, none⟩) st.length cs) ∧ w'.cell? ⟨w.heap.size, 1, none⟩ = some (.slice al lp.length cl))
    ((refine two_cells HA.out ?_; (repeat (first | exact Kept.refl _ _ | exact HK1.out.mono (by simp) | refine Kept.drew ?_ | refine Kept.alloc ?_ _ | refine Kept.trans (F := [w.heap.size + 1]) (G := []) (H := [w.heap.size + 1]) ?_ HK3.out (by simp) (by simp) | refine Kept.setCell ?_ (Or.inl (by simp)) _))))
    (first
    | (go_at_call 11; refine (HM.out _ (by first | exact HK1.out | exact HK1.out.drew)).mono ?_; rintro e w3 ⟨a3, n3, c3, a4, n4, c4, rfl, k3, hb, hm1, hm2⟩; obtain ⟨d0, d1, f0, f1⟩ := hb.cells; have HK3 : Hid _ := k3; have HM1 : Hid _ := hm1; have HM2 : Hid _ := hm2; clear k3 hb hm1 hm2))
  go_wp2
  exact ret_word rfl rfl rfl HM2.out HM1.out
set_option maxHeartbeats 2000000 in
set_option maxRecDepth 10000 in
theorem suffix_nil (lv : Value) (lp : List Nat) (w : World) (h : IsW w (.slice none 0 0) lv ⟨[], lp⟩) (h0 : 0 < lp.length) :
    Calls Tryd.prog 13 #[.agg #[.slice none 0 0, lv], .int .i64 0] w (MadeNorm w ⟨[], lp⟩) := by
  have HW : Hid (IsW w (.slice none 0 0) lv ⟨[], lp⟩) := h
  have hf := h.few
  obtain ⟨al, cl, hv3, _, _⟩ := h.lp.form
  simp only at hv3
  subst hv3
  have hN := two_new w (.cells #[.slice none 0 0, .slice al lp.length cl] 47) (.cells #[.slice none 0 0, .slice none 0 0] 47)
  obtain ⟨V, hV⟩ : ∃ V, (w.alloc (.cells #[.slice none 0 0, .slice al lp.length cl] 47)).alloc (.cells #[.slice none 0 0, .slice none 0 0] 47) = V := ⟨_, rfl⟩
  rw [hV] at hN
  have kV : Kept [] w V := by rw [← hV]; exact ((Kept.refl [] w).alloc _).alloc _
  have HA : Hid (Wd2 V w.heap.size (.slice none 0 0) (.slice al lp.length cl)) := hN.1
  have HB : Hid (Wd2 V (w.heap.size + 1) (.slice none 0 0) (.slice none 0 0)) := hN.2
  have HKV : Hid (Kept [] w V) := kV
  have HV : Hid _ := hV
  have HM : Hid (∀ W, Kept [] V W → Calls Tryd.prog 11 #[.agg #[.slice none 0 0, .slice al lp.length cl]] W fun e W3 => ∃ a3 n3 c3 a4 n4 c4, e = .returned (.agg #[.slice a3 n3 c3, .slice a4 n4 c4]) ∧ Kept [] W W3 ∧ Wd2 W3 (w.heap.size + 1) (.slice none 0 0) (.slice none 0 0) ∧ MadeNorm w ⟨[], lp⟩ (.returned (.agg #[.slice a3 n3 c3, .slice a4 n4 c4])) ((W3.setCell ⟨w.heap.size + 1, 0, none⟩ (.slice a3 n3 c3)).setCell ⟨w.heap.size + 1, 1, none⟩ (.slice a4 n4 c4)) ∧ Wd2 ((W3.setCell ⟨w.heap.size + 1, 0, none⟩ (.slice a3 n3 c3)).setCell ⟨w.heap.size + 1, 1, none⟩ (.slice a4 n4 c4)) (w.heap.size + 1) (.slice a3 n3 c3) (.slice a4 n4 c4)) := fun W kW => by
    have hW := h.kept (kV.trans kW (by simp) (by simp))
    refine (normal_any _ _ ⟨[], lp⟩ W hW.st hW.lp hf).mono ?_
    rintro e W3 ⟨s3, l3, r, rfl, hn, ho, k3⟩
    obtain ⟨a3, c3, e3⟩ := own_form hn.own1
    obtain ⟨a4, c4, e4⟩ := own_form hn.own2
    subst e3 e4
    obtain ⟨m1, m2⟩ := made_stored HKV.out HB.out kW hn ho k3
    exact ⟨a3, _, c3, a4, _, c4, rfl, k3, (HB.out.kept kW).kept k3, m1, m2⟩
  have b4 : decide (0 < lp.length) = true := by simpa using h0
  clear h hN kV hV
  go_enter Tryd.func13, Tryd.ntmps13
  go_wp2_with (go_at_call 41; rw [HV.out]; refine (endless_any _ _ _ _ _).mono ?_; rintro e w1 ⟨rfl, hk1⟩; rw [b4]; have HK1 : Hid (Kept [] V w1) := hk1; obtain ⟨c0, c1, _, _⟩ := (HA.out.kept hk1).cells; clear hk1)
  go_region_held3 (fun w' => w'.cell? ⟨w.heap.size, 0, none⟩ = some (.slice none 0 0) ∧ w'.cell? ⟨w.heap.size, 1, none⟩ = some (.slice al lp.length cl))
    ((refine two_cells HA.out ?_; (repeat (first | exact Kept.refl _ _ | exact HK1.out.mono (by simp) | refine Kept.drew ?_ | refine Kept.alloc ?_ _ | refine Kept.trans (F := [w.heap.size + 1]) (G := []) (H := [w.heap.size + 1]) ?_ HK3.out (by simp) (by simp) | refine Kept.setCell ?_ (Or.inl (by simp)) _))))
    (first
    | (go_at_call 11; refine (HM.out _ (by first | exact HK1.out | exact HK1.out.drew)).mono ?_; rintro e w3 ⟨a3, n3, c3, a4, n4, c4, rfl, k3, hb, hm1, hm2⟩; obtain ⟨d0, d1, f0, f1⟩ := hb.cells; have HK3 : Hid _ := k3; have HM1 : Hid _ := hm1; have HM2 : Hid _ := hm2; clear k3 hb hm1 hm2))
  go_wp2
  exact ret_word rfl rfl rfl HM2.out HM1.out
set_option maxHeartbeats 2000000 in
set_option maxRecDepth 10000 in
theorem suffix_hi (ast : Option Addr) (cs b o cl : Nat) (st : List Nat) (lp : List Nat) (k : Nat) (w : World) (h : IsW w (.slice ast st.length cs) (.slice (some ⟨b, o, none⟩) lp.length cl) ⟨st, lp⟩) (h0 : 0 < lp.length) (hkl : st.length < k) (hk : k ≤ 9223372036854775807) :
    Calls Tryd.prog 13 #[.agg #[.slice ast st.length cs, .slice (some ⟨b, o, none⟩) lp.length cl], .int .i64 k] w (MadeNorm w ⟨[], rot lp ((k - st.length) % lp.length)⟩) := by
  have HW : Hid (IsW w (.slice ast st.length cs) (.slice (some ⟨b, o, none⟩) lp.length cl) ⟨st, lp⟩) := h
  have hf := h.few
  simp only at hf
  obtain ⟨_, hc1, hc2⟩ := lets_form h.lp
  simp only at hc1
  have hN := two_new w (.cells #[.slice ast st.length cs, .slice (some ⟨b, o, none⟩) lp.length cl] 47) (.cells #[.slice none 0 0, .slice none 0 0] 47)
  obtain ⟨V, hV⟩ : ∃ V, (w.alloc (.cells #[.slice ast st.length cs, .slice (some ⟨b, o, none⟩) lp.length cl] 47)).alloc (.cells #[.slice none 0 0, .slice none 0 0] 47) = V := ⟨_, rfl⟩
  rw [hV] at hN
  have kV : Kept [] w V := by rw [← hV]; exact ((Kept.refl [] w).alloc _).alloc _
  have HA : Hid (Wd2 V w.heap.size (.slice ast st.length cs) (.slice (some ⟨b, o, none⟩) lp.length cl)) := hN.1
  have HB : Hid (Wd2 V (w.heap.size + 1) (.slice none 0 0) (.slice none 0 0)) := hN.2
  have HKV : Hid (Kept [] w V) := kV
  have HV : Hid _ := hV
  obtain ⟨r, hr⟩ : ∃ r, (k - st.length) % lp.length = r := ⟨_, rfl⟩
  rw [hr]
  have hrl : r < lp.length := by rw [← hr]; exact Nat.mod_lt _ h0
  have HT : Hid (∀ W, Kept [] V W → Calls Tryd.prog 44 #[.slice (some ⟨b, o, none⟩) lp.length cl, .int .i64 r] W fun e w2 => ∃ a2 c2, e = .returned (.slice a2 lp.length c2) ∧ Kept [] W w2 ∧ Kept [] V w2 ∧ IsW w2 (.slice none 0 0) (.slice a2 lp.length c2) ⟨[], rot lp r⟩) := fun W kW => by
    have hW := h.kept (kV.trans kW (by simp) (by simp))
    refine (turned_any b o cl r lp W hW.lp (by omega)).mono ?_
    rintro e w2 ⟨v2, rfl, o1, k2⟩
    have hl := lets_own o1 (rot_small h.lp.small) (by rw [rot_length]; omega)
    obtain ⟨a2, c2, hv2⟩ := own_form o1
    rw [rot_length] at hv2
    subst hv2
    exact ⟨a2, c2, rfl, k2, kW.trans k2 (by simp) (by simp), Lets.nil _, hl, by show 0 + (rot lp r).length ≤ _; rw [rot_length]; omega⟩
  have HM : Hid (∀ a2 c2 W, IsW W (.slice none 0 0) (.slice a2 lp.length c2) ⟨[], rot lp r⟩ → Kept [] V W → Calls Tryd.prog 11 #[.agg #[.slice none 0 0, .slice a2 lp.length c2]] W fun e W3 => ∃ a3 n3 c3 a4 n4 c4, e = .returned (.agg #[.slice a3 n3 c3, .slice a4 n4 c4]) ∧ Kept [] W W3 ∧ Wd2 W3 (w.heap.size + 1) (.slice none 0 0) (.slice none 0 0) ∧ MadeNorm w ⟨[], rot lp r⟩ (.returned (.agg #[.slice a3 n3 c3, .slice a4 n4 c4])) ((W3.setCell ⟨w.heap.size + 1, 0, none⟩ (.slice a3 n3 c3)).setCell ⟨w.heap.size + 1, 1, none⟩ (.slice a4 n4 c4)) ∧ Wd2 ((W3.setCell ⟨w.heap.size + 1, 0, none⟩ (.slice a3 n3 c3)).setCell ⟨w.heap.size + 1, 1, none⟩ (.slice a4 n4 c4)) (w.heap.size + 1) (.slice a3 n3 c3) (.slice a4 n4 c4)) := fun a2 c2 W hi kW => by
    refine (normal_any _ _ ⟨[], rot lp r⟩ W hi.st hi.lp hi.few).mono ?_
    rintro e W3 ⟨s3, l3, r, rfl, hn, ho, k3⟩
    obtain ⟨a3, c3, e3⟩ := own_form hn.own1
    obtain ⟨a4, c4, e4⟩ := own_form hn.own2
    subst e3 e4
    obtain ⟨m1, m2⟩ := made_stored HKV.out HB.out kW hn ho k3
    exact ⟨a3, _, c3, a4, _, c4, rfl, k3, (HB.out.kept kW).kept k3, m1, m2⟩
  have x1 : ((k : Int) - (st.length : Int)).tmod (lp.length : Int) = (r : Int) := by
    rw [Int.tmod_eq_emod_of_nonneg (by omega), ← hr, show (k : Int) - (st.length : Int) = ((k - st.length : Nat) : Int) by omega]; rfl
  have x2 : ((k : Int) - (st.length : Int)) % (lp.length : Int) = (r : Int) := by
    rw [← hr, show (k : Int) - (st.length : Int) = ((k - st.length : Nat) : Int) by omega]; rfl
  have b1 : ¬ ((k : Int) ≤ (st.length : Int)) := by omega
  have b2 : (0 : Int) ≤ (k : Int) := by omega
  have b6 : ¬ ((lp.length : Int) = 0) := by omega
  have b7 : ¬ (lp.length = 0) := by omega
  have b8 : ¬ (lp = []) := fun e => by rw [e] at h0; simp at h0
  have b9 : IntKind.i64.wrap ((k : Int) - (st.length : Int)) = (k : Int) - (st.length : Int) := by rw [IntKind.wrap_i64]; omega
  clear hr
  have b4 : decide (0 < lp.length) = true := by simpa using h0
  clear h hN kV hV
  go_enter Tryd.func13, Tryd.ntmps13
  go_wp2_with (go_at_call 41; rw [HV.out]; refine (endless_any _ _ _ _ _).mono ?_; rintro e w1 ⟨rfl, hk1⟩; rw [b4]; have HK1 : Hid (Kept [] V w1) := hk1; obtain ⟨c0, c1, _, _⟩ := (HA.out.kept hk1).cells; clear hk1)
  go_region_held3 (fun w' => w'.cell? ⟨w.heap.size, 0, none⟩ = some (.slice ast st.length cs) ∧ w'.cell? ⟨w.heap.size, 1, none⟩ = some (.slice (some ⟨b, o, none⟩) lp.length cl))
    ((refine two_cells HA.out ?_; (repeat (first | exact Kept.refl _ _ | exact HK4.out.mono (by simp) | exact HK1.out.mono (by simp) | refine Kept.drew ?_ | refine Kept.alloc ?_ _ | refine Kept.trans (F := [w.heap.size + 1]) (G := []) (H := [w.heap.size + 1]) ?_ HK3.out (by simp) (by simp) | refine Kept.setCell ?_ (Or.inl (by simp)) _))))
    (first
    | (go_at_call 44; refine (HT.out _ (by first | exact HK1.out | exact HK1.out.drew)).mono ?_; rintro e w2 ⟨a2, c2, rfl, k2, k4, hi⟩; have HK2 : Hid _ := k2; have HK4 : Hid (Kept [] V w2) := k4; have HI : Hid (IsW w2 (.slice none 0 0) (.slice a2 lp.length c2) ⟨[], rot lp r⟩) := hi; clear k2 k4 hi)
    | (go_at_call 11; refine (HM.out a2 c2 _ HI.out HK4.out).mono ?_; rintro e w3 ⟨a3, n3, c3, a4, n4, c4, rfl, k3, hb, hm1, hm2⟩; obtain ⟨d0, d1, f0, f1⟩ := hb.cells; have HK3 : Hid _ := k3; have HM1 : Hid _ := hm1; have HM2 : Hid _ := hm2; clear k3 hb hm1 hm2))
  go_wp2
  exact ret_word rfl rfl rfl HM2.out HM1.out

/-- words.Suffix, from 0 on. -/
def sufW (q : Wd) (k : Nat) : Wd := if q.loop.length = 0 then ⟨[], []⟩ else if k ≤ q.stem.length then ⟨q.stem.drop k, q.loop⟩ else ⟨[], rot q.loop ((k - q.stem.length) % q.loop.length)⟩
theorem suffix_any (sv lv : Value) (q : Wd) (k : Nat) (w : World) (h : IsW w sv lv q) (hk : k ≤ 9223372036854775807) :
    Calls Tryd.prog 13 #[.agg #[sv, lv], .int .i64 k] w (MadeNorm w (sufW q k)) := by
  obtain ⟨st, lp⟩ := q
  unfold sufW
  simp only
  by_cases h0 : lp.length = 0
  · rw [if_pos h0]
    obtain rfl : lp = [] := List.length_eq_zero_iff.1 h0
    obtain ⟨ad, c, rfl, _⟩ := h.lp.form
    exact suffix_none sv ad c st k w h.st
  · rw [if_neg h0]
    by_cases hkl : k ≤ st.length
    · rw [if_pos hkl]
      rcases h.st.lie with ⟨rfl, e⟩ | ⟨b, o, c, rfl, _⟩
      · have e' : st = [] := e
        subst e'
        obtain rfl : k = 0 := by simpa using hkl
        exact suffix_nil lv lp w h (by omega)
      · exact suffix_lo b o c st lv lp k w h (by omega) hkl
    · rw [if_neg hkl]
      obtain ⟨b, o, c, rfl, _⟩ := h.lp.there (by show 0 < lp.length; omega)
      obtain ⟨ast, cs, rfl, _⟩ := h.st.form
      exact suffix_hi ast cs b o c st lp k w h (by omega) (by omega) hk
end Go.Proofs.YtamfnefnaelgfaaDoor
