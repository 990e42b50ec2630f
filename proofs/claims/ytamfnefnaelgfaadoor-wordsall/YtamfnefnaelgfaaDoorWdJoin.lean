/- words.Join, Suffix. -/
import Derived.Test.YtamfnefnaelgfaaDoorWdSmall
namespace Go.Proofs.YtamfnefnaelgfaaDoor
open Go.RowKit
attribute [local go_sem ↓] Go.wp_at_zero Go.wp_at_succ

theorem Wd2.keptF {F : List Nat} {W W' : World} {B : Nat} {a b : Value} (h : Wd2 W B a b) (k : Kept F W W') (hB : B ∉ F) : Wd2 W' B a b := k.at h hB
theorem two_cells {V W' : World} {n : Nat} {a b : Value} (h : Wd2 V n a b) (k : Kept [n + 1] V W') : W'.cell? ⟨n, 0, none⟩ = some a ∧ W'.cell? ⟨n, 1, none⟩ = some b :=
  have h' := (h.keptF k (by simp)).cells
  ⟨h'.1, h'.2.1⟩
theorem lets_cat {W : World} {base : Nat} {v : Value} {xs ys : List Nat} (h : W.ownsRow base 51 1 v (xs ++ ys).length (u16s (xs ++ ys))) (h1 : ∀ x ∈ xs, x < 65536) (h2 : ∀ x ∈ ys, x < 65536) (hl : xs.length + ys.length ≤ 70368744177664) : Lets W v (xs ++ ys) :=
  lets_own h (fun x hx => (List.mem_append.1 hx).elim (h1 x) (h2 x)) (by rw [List.length_append]; exact hl)

/-- A word that was made is stored into the result's block. -/
theorem made_stored {w V W W3 : World} {q : Wd} {s3 l3 : Value} {r : Wd} (kV : Kept [] w V) (hR : Wd2 V (w.heap.size + 1) (.slice none 0 0) (.slice none 0 0)) (kW : Kept [] V W) (hn : NewW W.heap.size W3 s3 l3 r) (ho : NormOf q r) (k3 : Kept [] W W3) :
    MadeNorm w q (.returned (.agg #[s3, l3])) ((W3.setCell ⟨w.heap.size + 1, 0, none⟩ s3).setCell ⟨w.heap.size + 1, 1, none⟩ l3) ∧ Wd2 ((W3.setCell ⟨w.heap.size + 1, 0, none⟩ s3).setCell ⟨w.heap.size + 1, 1, none⟩ l3) (w.heap.size + 1) s3 l3 := by
  have hR3 := (hR.kept kW).kept k3
  have hlt : w.heap.size + 1 < W.heap.size := lt_of (hR.kept kW)
  have kF : Kept [w.heap.size + 1] W3 ((W3.setCell ⟨w.heap.size + 1, 0, none⟩ s3).setCell ⟨w.heap.size + 1, 1, none⟩ l3) := ((Kept.refl _ W3).setCell (.inl (by simp)) _).setCell (.inl (by simp)) _
  have kW' : Kept [] w W := kV.trans kW (by simp) (by simp)
  exact ⟨⟨s3, l3, r, rfl, (hn.keptF kF (by simpa using hlt)).low kW'.size, ho, kept_set2 (kW'.trans k3 (by simp) (by simp)) (by simp) _ _⟩, hR3.set _ _⟩

set_option maxHeartbeats 2000000 in
set_option maxRecDepth 10000 in
theorem join_any (uv sv lv : Value) (us : List Nat) (q : Wd) (w : World) (hu : Lets w uv us) (h : IsW w sv lv q) (hl : us.length + q.stem.length + q.loop.length ≤ 70368744177664) :
    Calls Tryd.prog 20 #[uv, .agg #[sv, lv]] w (MadeNorm w ⟨us ++ q.stem, q.loop⟩) := by
  obtain ⟨st, lp⟩ := q
  simp only at hl ⊢
  have HU : Hid (Lets w uv us) := hu
  have HW : Hid (IsW w sv lv ⟨st, lp⟩) := h
  obtain ⟨au, cu, hv1, _, _⟩ := hu.form
  obtain ⟨ast, cs, hv2, _, _⟩ := h.st.form
  obtain ⟨al, cl, hv3, _, _⟩ := h.lp.form
  simp only at hv2 hv3
  subst hv1 hv2 hv3
  have hN := two_new w (.cells #[.slice ast st.length cs, .slice al lp.length cl] 47) (.cells #[.slice none 0 0, .slice none 0 0] 47)
  obtain ⟨V, hV⟩ : ∃ V, (w.alloc (.cells #[.slice ast st.length cs, .slice al lp.length cl] 47)).alloc (.cells #[.slice none 0 0, .slice none 0 0] 47) = V := ⟨_, rfl⟩
  rw [hV] at hN
  have kV : Kept [] w V := by rw [← hV]; exact ((Kept.refl [] w).alloc _).alloc _
  have zV : V.heap.size = w.heap.size + 1 + 1 := by rw [← hV]; simp
  have HA : Hid (Wd2 V w.heap.size (.slice ast st.length cs) (.slice al lp.length cl)) := hN.1
  have HB : Hid (Wd2 V (w.heap.size + 1) (.slice none 0 0) (.slice none 0 0)) := hN.2
  have HKV : Hid (Kept [] w V) := kV
  have c0 := HA.out.cells.1
  have c1 := HA.out.cells.2.1
  have HZ : Hid (V.heap.size = w.heap.size + 1 + 1) := zV
  have HV : Hid _ := hV
  have HC : Hid (Calls Tryd.prog 50 #[.slice (some ⟨V.heap.size, 0, none⟩) 2 2] (V.alloc (.cells #[.slice au us.length cu, .slice ast st.length cs] 45)).drew fun e w2 => ∃ a2 c2, e = .returned (.slice a2 (us.length + st.length) c2) ∧ Kept [] V w2 ∧ IsW w2 (.slice a2 (us.length + st.length) c2) (.slice al lp.length cl) ⟨us ++ st, lp⟩) := by
    have kW := (kV.alloc (.cells #[.slice au us.length cu, .slice ast st.length cs] 45)).drew
    have hg : Two (V.alloc (.cells #[.slice au us.length cu, .slice ast st.length cs] 45)).drew V.heap.size (.slice au us.length cu) (.slice ast st.length cs) := heap_alloc_new V _
    refine (concat_any V.heap.size _ _ us st _ hg (hu.kept kW) (h.st.kept kW) (by omega)).mono ?_
    rintro e w2 ⟨v2, rfl, o1, k2⟩
    obtain ⟨a2, c2, hv2⟩ := own_form o1
    rw [List.length_append] at hv2
    subst hv2
    exact ⟨a2, c2, rfl, (((Kept.refl [] V).alloc _).drew).trans k2 (by simp) (by simp), lets_cat o1 hu.small h.st.small (by omega), h.lp.kept (kW.trans k2 (by simp) (by simp)), by show (us ++ st).length + lp.length ≤ _; rw [List.length_append]; exact hl⟩
  have HM : Hid (∀ a2 c2 W, IsW W (.slice a2 (us.length + st.length) c2) (.slice al lp.length cl) ⟨us ++ st, lp⟩ → Kept [] V W → Calls Tryd.prog 11 #[.agg #[.slice a2 (us.length + st.length) c2, .slice al lp.length cl]] W fun e W3 => ∃ a3 n3 c3 a4 n4 c4, e = .returned (.agg #[.slice a3 n3 c3, .slice a4 n4 c4]) ∧ Kept [] W W3 ∧ Wd2 W3 (w.heap.size + 1) (.slice none 0 0) (.slice none 0 0) ∧ MadeNorm w ⟨us ++ st, lp⟩ (.returned (.agg #[.slice a3 n3 c3, .slice a4 n4 c4])) ((W3.setCell ⟨w.heap.size + 1, 0, none⟩ (.slice a3 n3 c3)).setCell ⟨w.heap.size + 1, 1, none⟩ (.slice a4 n4 c4)) ∧ Wd2 ((W3.setCell ⟨w.heap.size + 1, 0, none⟩ (.slice a3 n3 c3)).setCell ⟨w.heap.size + 1, 1, none⟩ (.slice a4 n4 c4)) (w.heap.size + 1) (.slice a3 n3 c3) (.slice a4 n4 c4)) := fun a2 c2 W hi kW => by
    refine (normal_any _ _ ⟨us ++ st, lp⟩ W hi.st hi.lp hi.few).mono ?_
    rintro e W3 ⟨s3, l3, r, rfl, hn, ho, k3⟩
    obtain ⟨a3, c3, e3⟩ := own_form hn.own1
    obtain ⟨a4, c4, e4⟩ := own_form hn.own2
    subst e3 e4
    obtain ⟨m1, m2⟩ := made_stored HKV.out HB.out kW hn ho k3
    exact ⟨a3, _, c3, a4, _, c4, rfl, k3, (HB.out.kept kW).kept k3, m1, m2⟩
  clear hu h hN kV zV hV
  go_enter Tryd.func20, Tryd.ntmps20
  go_wp2_with fail
  rw [HV.out]
  go_region_held3 (fun w' => w'.cell? ⟨w.heap.size, 0, none⟩ = some (.slice ast st.length cs) ∧ w'.cell? ⟨w.heap.size, 1, none⟩ = some (.slice al lp.length cl))
    ((refine two_cells HA.out ?_; (repeat (first | exact Kept.refl _ _ | refine Kept.drew ?_ | refine Kept.alloc ?_ _ | refine Kept.trans (F := [w.heap.size + 1]) (G := []) (H := [w.heap.size + 1]) ?_ HK3.out (by simp) (by simp) | refine Kept.trans (F := [w.heap.size + 1]) (G := []) (H := [w.heap.size + 1]) ?_ HK2.out (by simp) (by simp) | refine Kept.setCell ?_ (Or.inl (by simp)) _))))
    (first
    | (go_at_call 50; refine HC.out.mono ?_; rintro e w2 ⟨a2, c2, rfl, k2, hi⟩; have HK2 : Hid (Kept [] V w2) := k2; have HI : Hid (IsW w2 (.slice a2 (us.length + st.length) c2) (.slice al lp.length cl) ⟨us ++ st, lp⟩) := hi; clear k2 hi)
    | (go_at_call 11; refine (HM.out a2 c2 _ HI.out HK2.out).mono ?_; rintro e w3 ⟨a3, n3, c3, a4, n4, c4, rfl, k3, hb, hm1, hm2⟩; obtain ⟨d0, d1, f0, f1⟩ := hb.cells; have HK3 : Hid (Kept [] w2 w3) := k3; have HM1 : Hid _ := hm1; have HM2 : Hid _ := hm2; clear k3 hb hm1 hm2))
  go_wp2
  exact ret_word rfl rfl rfl HM2.out HM1.out
end Go.Proofs.YtamfnefnaelgfaaDoor
