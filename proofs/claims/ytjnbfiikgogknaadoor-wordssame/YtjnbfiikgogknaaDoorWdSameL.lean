/- WordsSame, walked. -/
import Derived.Test.YtjnbfiikgogknaaDoorWdLent2
import Derived.Test.YtjnbfiikgogknaaDoorWdRefS
import Derived.Test.YtjnbfiikgogknaaDoorWdWorks
namespace Go.Proofs.YtjnbfiikgogknaaDoor
open Go.RowKit Go.Shelf
attribute [local go_sem ↓] Go.wp_at_zero Go.wp_at_succ

theorem sameB_comm {a b : Wd} : sameB a b = sameB b a := by
  by_cases h : 0 < a.loop.length ∧ 0 < b.loop.length
  · rw [Bool.eq_iff_iff, sameB_iff h.1 h.2, sameB_iff h.2 h.1]
    exact ⟨fun h i => (h i).symm, fun h i => (h i).symm⟩
  · rw [sameB_none h, sameB_none (fun h2 => h ⟨h2.2, h2.1⟩)]
theorem sameB_yes {a b : Wd} (ha : 0 < a.loop.length) (hb : 0 < b.loop.length) (h : ∀ i, i < max a.stem.length b.stem.length + a.loop.length + b.loop.length → a.at i = b.at i) : sameB a b = true := (sameB_iff ha hb).2 (Wd.agree ha hb h)
theorem sameB_no {a b : Wd} (ha : 0 < a.loop.length) (hb : 0 < b.loop.length) {i : Nat} (h : a.at i ≠ b.at i) : sameB a b = false := by
  rw [Bool.eq_false_iff]
  intro h2
  exact h ((sameB_iff ha hb).1 h2 i)
/-- The program's Normal, in the form of the document's. -/
theorem normal_made (sv lv : Value) (q : Wd) (w : World) (h : IsW w sv lv q) : Calls Tryd.prog 12 #[.agg #[sv, lv]] w (RefMade w q) := by
  refine (normal_any sv lv q w h.st h.lp h.few).mono ?_
  rintro e w1 ⟨s, l, r, rfl, hw, ho, hk⟩
  have hs : r.stem.length + r.loop.length ≤ 70368744177664 := by
    by_cases h0 : q.loop = []
    · rw [ho.1 h0]; simp
    · obtain ⟨n1, n2⟩ := ho.2 h0
      have h0' : 0 < q.loop.length := Nat.pos_of_ne_zero (fun e => h0 (List.length_eq_zero_iff.1 e))
      obtain ⟨s1, s2⟩ := norm_small n1 h0' n2
      have := h.few
      omega
  obtain ⟨a1, c1, e1⟩ := own_form hw.own1
  obtain ⟨a2, c2, e2⟩ := own_form hw.own2
  subst e1 e2
  exact ⟨a1, _, c1, a2, _, c2, r, rfl, ⟨hw.lets1, hw.lets2, hs⟩, ho, hk⟩
theorem spoilt_small (q : Wd) : (spoiltW q).stem.length = q.stem.length ∧ (spoiltW q).loop.length = q.loop.length := by simp [spoiltW]
set_option maxHeartbeats 2000000 in
set_option maxRecDepth 10000 in
theorem same_big (a1 a2 a3 a4 : Option Addr) (c1 c2 c3 c4 : Nat) (a b : Wd) (w : World) (hT : PowTab w) (f1 : a.stem.length ≤ 70368744177664) (f2 : a.loop.length ≤ 70368744177664) (f3 : b.stem.length ≤ 70368744177664) (f4 : b.loop.length ≤ 70368744177664) (hbig : 4000 < a.stem.length + a.loop.length ∨ 4000 < b.stem.length + b.loop.length) :
    Calls Tryd.prog 3 #[.agg #[.slice a1 a.stem.length c1, .slice a2 a.loop.length c2], .agg #[.slice a3 b.stem.length c3, .slice a4 b.loop.length c4]] w fun e w' => e = .returned (.bool true) ∧ Kept [] w w' := by
  obtain ⟨V, hV⟩ : ∃ V, (w.alloc (.cells #[.slice a1 a.stem.length c1, .slice a2 a.loop.length c2] 24)).alloc (.cells #[.slice a3 b.stem.length c3, .slice a4 b.loop.length c4] 24) = V := ⟨_, rfl⟩
  have kV : Kept [] w V := by rw [← hV]; exact ((Kept.refl [] w).alloc _).alloc _
  have HA : Hid (Wd2 V w.heap.size (.slice a1 a.stem.length c1) (.slice a2 a.loop.length c2)) := by show Wd2 _ _ _ _; rw [← hV]; exact alUp (al0 _ _) _
  have HB : Hid (Wd2 V (w.heap.size + 1) (.slice a3 b.stem.length c3) (.slice a4 b.loop.length c4)) := by show Wd2 _ _ _ _; rw [← hV]; exact al1 _ _ _
  have HW : Hid (Calls Tryd.prog 5 #[] V fun e w' => e = .returned (.bool true) ∧ Hid (Kept [] V w')) := works_any V (hT.kept kV)
  have HKV : Hid (Kept [] w V) := kV
  have HVV : Hid (_ = V) := hV
  clear kV hV hT
  by_cases h1 : 4000 < a.stem.length + a.loop.length
  · have h1i : (4000 : Int) < (a.stem.length : Int) + (a.loop.length : Int) := by omega
    clear hbig
    go_enter Tryd.func3, Tryd.ntmps3
    go_wp2_with (go_at_call 5; rw [HVV.out]; refine HW.out.mono ?_; rintro e W1 ⟨rfl, hk⟩; have HK1 : Hid (Kept [] V W1) := hk.out; obtain ⟨g0, g1, _, _⟩ := (HA.out.kept HK1.out).cells; obtain ⟨e0, e1, _, _⟩ := (HB.out.kept HK1.out).cells; clear hk)
    go_ret
    exact ⟨rfl, HKV.out.trans HK1.out (by simp) (by simp)⟩
  · have h1i : ¬ ((4000 : Int) < (a.stem.length : Int) + (a.loop.length : Int)) := by omega
    have h2i : (4000 : Int) < (b.stem.length : Int) + (b.loop.length : Int) := by omega
    clear hbig
    go_enter Tryd.func3, Tryd.ntmps3
    go_wp2_with (go_at_call 5; rw [HVV.out]; refine HW.out.mono ?_; rintro e W1 ⟨rfl, hk⟩; have HK1 : Hid (Kept [] V W1) := hk.out; obtain ⟨g0, g1, _, _⟩ := (HA.out.kept HK1.out).cells; obtain ⟨e0, e1, _, _⟩ := (HB.out.kept HK1.out).cells; clear hk)
    go_ret
    exact ⟨rfl, HKV.out.trans HK1.out (by simp) (by simp)⟩
/-- What the law carries: its boxes. -/
structure SmC (w W : World) (va la vb lb x1 x2 y1 y2 : Value) (Bx By : Nat) : Prop where
  kept : Kept [] w W
  A : Wd2 W w.heap.size va la
  B : Wd2 W (w.heap.size + 1) vb lb
  X : Wd2 W Bx x1 x2
  Y : Wd2 W By y1 y2
theorem SmC.go {w W W' : World} {va la vb lb x1 x2 y1 y2 : Value} {Bx By : Nat} (h : SmC w W va la vb lb x1 x2 y1 y2 Bx By) (k : Kept [] W W') : SmC w W' va la vb lb x1 x2 y1 y2 Bx By :=
  ⟨h.kept.trans k (by simp) (by simp), h.A.kept k, h.B.kept k, h.X.kept k, h.Y.kept k⟩
theorem SmC.cells {w W : World} {va la vb lb x1 x2 y1 y2 : Value} {Bx By : Nat} (h : SmC w W va la vb lb x1 x2 y1 y2 Bx By) : (W.cell? ⟨w.heap.size, 0, none⟩ = some va ∧ W.cell? ⟨w.heap.size, 1, none⟩ = some la) ∧ (W.cell? ⟨w.heap.size + 1, 0, none⟩ = some vb ∧ W.cell? ⟨w.heap.size + 1, 1, none⟩ = some lb) ∧ (W.cell? ⟨Bx, 0, none⟩ = some x1 ∧ W.cell? ⟨Bx, 1, none⟩ = some x2) ∧ (W.cell? ⟨By, 0, none⟩ = some y1 ∧ W.cell? ⟨By, 1, none⟩ = some y2) :=
  ⟨⟨h.A.cells.1, h.A.cells.2.1⟩, ⟨h.B.cells.1, h.B.cells.2.1⟩, ⟨h.X.cells.1, h.X.cells.2.1⟩, ⟨h.Y.cells.1, h.Y.cells.2.1⟩⟩
theorem SmC.spoil {w W W' : World} {va la vb lb x1 x2 y1 y2 : Value} {Bx By b1 b2 : Nat} (h : SmC w W va la vb lb x1 x2 y1 y2 Bx By) (k : Kept [b1, b2] W W') (h1 : w.heap.size + 1 < b1) (h2 : w.heap.size + 1 < b2) (h3 : Bx ≠ b1 ∧ Bx ≠ b2) (h4 : By ≠ b1 ∧ By ≠ b2) : SmC w W' va la vb lb x1 x2 y1 y2 Bx By :=
  ⟨h.kept.trans k (by simp) (by intro x hx; rcases List.mem_cons.1 hx with rfl | hx; exact .inr (by omega); rw [List.mem_singleton.1 hx]; exact .inr (by omega)), h.A.keptF k (by simp; omega), h.B.keptF k (by simp; omega), h.X.keptF k (by simpa using h3), h.Y.keptF k (by simpa using h4)⟩
set_option maxHeartbeats 4000000 in
set_option maxRecDepth 20000 in
theorem same_main (a1 a2 a3 a4 : Option Addr) (c1 c2 c3 c4 : Nat) (a b : Wd) (w : World) (hT : PowTab w) (i1 : Lets w (.slice a1 a.stem.length c1) a.stem) (i2 : Lets w (.slice a2 a.loop.length c2) a.loop) (i3 : Lets w (.slice a3 b.stem.length c3) b.stem) (i4 : Lets w (.slice a4 b.loop.length c4) b.loop) (s1 : a.stem.length + a.loop.length ≤ 4000) (s2 : b.stem.length + b.loop.length ≤ 4000) :
    Calls Tryd.prog 3 #[.agg #[.slice a1 a.stem.length c1, .slice a2 a.loop.length c2], .agg #[.slice a3 b.stem.length c3, .slice a4 b.loop.length c4]] w fun e w' => e = .returned (.bool true) ∧ Kept [] w w' := by
  obtain ⟨V, hV⟩ : ∃ V, (w.alloc (.cells #[.slice a1 a.stem.length c1, .slice a2 a.loop.length c2] 24)).alloc (.cells #[.slice a3 b.stem.length c3, .slice a4 b.loop.length c4] 24) = V := ⟨_, rfl⟩
  have kV : Kept [] w V := by rw [← hV]; exact ((Kept.refl [] w).alloc _).alloc _
  have HA : Hid (Wd2 V w.heap.size (.slice a1 a.stem.length c1) (.slice a2 a.loop.length c2)) := by show Wd2 _ _ _ _; rw [← hV]; exact alUp (al0 _ _) _
  have HB : Hid (Wd2 V (w.heap.size + 1) (.slice a3 b.stem.length c3) (.slice a4 b.loop.length c4)) := by show Wd2 _ _ _ _; rw [← hV]; exact al1 _ _ _
  have HW : Hid (Calls Tryd.prog 5 #[] V fun e w' => e = .returned (.bool true) ∧ Hid (Kept [] V w')) := works_any V (hT.kept kV)
  have HIA : Hid (∀ W, Kept [] w W → IsW W (.slice a1 a.stem.length c1) (.slice a2 a.loop.length c2) a) := fun W k => ⟨i1.kept k, i2.kept k, by omega⟩
  have HIB : Hid (∀ W, Kept [] w W → IsW W (.slice a3 b.stem.length c3) (.slice a4 b.loop.length c4) b) := fun W k => ⟨i3.kept k, i4.kept k, by omega⟩
  have HKV : Hid (Kept [] w V) := kV
  have HVV : Hid (_ = V) := hV
  have h1i : ¬ ((4000 : Int) < (a.stem.length : Int) + (a.loop.length : Int)) := by omega
  have h2i : ¬ ((4000 : Int) < (b.stem.length : Int) + (b.loop.length : Int)) := by omega
  have HSZ : Hid (a.stem.length + a.loop.length ≤ 4000 ∧ b.stem.length + b.loop.length ≤ 4000) := ⟨s1, s2⟩
  clear kV hV hT i1 i2 i3 i4
  go_enter Tryd.func3, Tryd.ntmps3
  go_upto_region 4 with (go_at_call 5; rw [HVV.out]; refine HW.out.mono ?_; rintro e W1 ⟨rfl, hk⟩; have HK1 : Hid (Kept [] V W1) := hk.out; obtain ⟨g0, g1, _, _⟩ := (HA.out.kept HK1.out).cells; obtain ⟨e0, e1, _, _⟩ := (HB.out.kept HK1.out).cells; clear hk)
  have HKW1 : Hid (Kept [] w W1) := HKV.out.trans HK1.out (by simp) (by simp)
  have HA1 : Hid (Wd2 W1 w.heap.size (.slice a1 a.stem.length c1) (.slice a2 a.loop.length c2)) := HA.out.kept HK1.out
  have HB1 : Hid (Wd2 W1 (w.heap.size + 1) (.slice a3 b.stem.length c3) (.slice a4 b.loop.length c4)) := HB.out.kept HK1.out
  clear HW HVV HKV HK1 HA HB h1i h2i
  go_upto_region 5 with (go_at_call 6; refine (lentWord_any _ _ a W1 (HIA.out W1 HKW1.out).st (HIA.out W1 HKW1.out).lp (by omega)).mono ?_; rintro e W2 ⟨b1, b2, rfl, hlent, hk⟩; have HL1 : Hid (LentL W2 b1 a.stem ∧ LentL W2 b2 a.loop ∧ b1 ≠ b2 ∧ W1.heap.size ≤ b1 ∧ W1.heap.size ≤ b2) := hlent; have HK2 : Hid (Kept [] W1 W2) := hk; clear hlent hk)
  obtain ⟨U, hU⟩ : ∃ U, W2.alloc (.cells #[.slice (some ⟨b1, 0, none⟩) a.stem.length (a.stem.length + 2), .slice (some ⟨b2, 0, none⟩) a.loop.length (a.loop.length + 2)] 24) = U := ⟨_, rfl⟩
  have HKU : Hid (Kept [] W2 U) := by show Kept [] W2 U; rw [← hU]; exact (Kept.refl [] W2).alloc _
  have HXU : Hid (Wd2 U W2.heap.size (.slice (some ⟨b1, 0, none⟩) a.stem.length (a.stem.length + 2)) (.slice (some ⟨b2, 0, none⟩) a.loop.length (a.loop.length + 2))) := by show Wd2 _ _ _ _; rw [← hU]; exact al0 _ _
  have HUZ : Hid (U.heap.size = W2.heap.size + 1) := by show _ = _; rw [← hU, World.size_alloc]
  rw [hU]
  obtain ⟨Bx, hBx⟩ : ∃ Bx, W2.heap.size = Bx := ⟨_, rfl⟩
  rw [hBx] at HXU HUZ ⊢
  have HK1U : Hid (Kept [] W1 U) := HK2.out.trans HKU.out (by simp) (by simp)
  have HLU : Hid (LentL U b1 a.stem ∧ LentL U b2 a.loop ∧ b1 ≠ b2 ∧ w.heap.size + 1 < b1 ∧ w.heap.size + 1 < b2 ∧ b1 < Bx ∧ b2 < Bx) := by
    have h := HL1.out
    have l1 := lt_of h.1.row
    have l2 := lt_of h.2.1.row
    have l3 := lt_of HB1.out
    exact ⟨h.1.kept HKU.out, h.2.1.kept HKU.out, h.2.2.1, by omega, by omega, by omega, by omega⟩
  clear hU hBx HL1 HK2 HKU g0 g1 e0 e1
  obtain ⟨e0, e1, _, _⟩ := (HB1.out.kept HK1U.out).cells
  go_upto_region 6 with (go_at_call 6; refine (lentWord_any _ _ b U (HIB.out U (HKW1.out.trans HK1U.out (by simp) (by simp))).st (HIB.out U (HKW1.out.trans HK1U.out (by simp) (by simp))).lp (by omega)).mono ?_; rintro e W3 ⟨d1, d2, rfl, hlent, hk⟩; have HL2 : Hid (LentL W3 d1 b.stem ∧ LentL W3 d2 b.loop ∧ d1 ≠ d2 ∧ U.heap.size ≤ d1 ∧ U.heap.size ≤ d2) := hlent; have HK3 : Hid (Kept [] U W3) := hk; clear hlent hk)
  obtain ⟨Z, hZ⟩ : ∃ Z, W3.alloc (.cells #[.slice (some ⟨d1, 0, none⟩) b.stem.length (b.stem.length + 2), .slice (some ⟨d2, 0, none⟩) b.loop.length (b.loop.length + 2)] 24) = Z := ⟨_, rfl⟩
  have HKZ : Hid (Kept [] W3 Z) := by show Kept [] W3 Z; rw [← hZ]; exact (Kept.refl [] W3).alloc _
  have HYZ : Hid (Wd2 Z W3.heap.size (.slice (some ⟨d1, 0, none⟩) b.stem.length (b.stem.length + 2)) (.slice (some ⟨d2, 0, none⟩) b.loop.length (b.loop.length + 2))) := by show Wd2 _ _ _ _; rw [← hZ]; exact al0 _ _
  rw [hZ]
  obtain ⟨By, hBy⟩ : ∃ By, W3.heap.size = By := ⟨_, rfl⟩
  rw [hBy] at HYZ ⊢
  have HKUZ : Hid (Kept [] U Z) := HK3.out.trans HKZ.out (by simp) (by simp)
  have HC : Hid (SmC w Z (.slice a1 a.stem.length c1) (.slice a2 a.loop.length c2) (.slice a3 b.stem.length c3) (.slice a4 b.loop.length c4) (.slice (some ⟨b1, 0, none⟩) a.stem.length (a.stem.length + 2)) (.slice (some ⟨b2, 0, none⟩) a.loop.length (a.loop.length + 2)) (.slice (some ⟨d1, 0, none⟩) b.stem.length (b.stem.length + 2)) (.slice (some ⟨d2, 0, none⟩) b.loop.length (b.loop.length + 2)) Bx By) := ⟨(HKW1.out.trans HK1U.out (H := []) (by simp) (by simp)).trans HKUZ.out (by simp) (by simp), (HA1.out.kept HK1U.out).kept HKUZ.out, (HB1.out.kept HK1U.out).kept HKUZ.out, HXU.out.kept HKUZ.out, HYZ.out⟩
  have HLX : Hid (LentL Z b1 a.stem ∧ LentL Z b2 a.loop ∧ b1 ≠ b2 ∧ w.heap.size + 1 < b1 ∧ w.heap.size + 1 < b2 ∧ (Bx ≠ b1 ∧ Bx ≠ b2) ∧ (By ≠ b1 ∧ By ≠ b2)) := by
    have h := HLU.out
    have l1 := HUZ.out
    have l2 := HK3.out.size
    exact ⟨h.1.kept HKUZ.out, h.2.1.kept HKUZ.out, h.2.2.1, h.2.2.2.1, h.2.2.2.2.1, by omega, by omega⟩
  have HLY : Hid (LentL Z d1 b.stem ∧ LentL Z d2 b.loop ∧ (d1 ≠ b1 ∧ d1 ≠ b2) ∧ (d2 ≠ b1 ∧ d2 ≠ b2)) := by
    have h := HLU.out
    have g := HL2.out
    have l1 := HUZ.out
    exact ⟨g.1.kept HKZ.out, g.2.1.kept HKZ.out, by omega, by omega⟩
  clear hZ hBy HL2 HK3 HKZ HLU HUZ HXU HYZ HKUZ HK1U HKW1 HA1 HB1 e0 e1
  obtain ⟨sb, hsb⟩ : ∃ sb, sameB a b = sb := ⟨_, rfl⟩
  have HSB : Hid (sameB a b = sb) := hsb
  have HXI : Hid (∀ W, Kept [] Z W → IsW W (.slice (some ⟨b1, 0, none⟩) a.stem.length (a.stem.length + 2)) (.slice (some ⟨b2, 0, none⟩) a.loop.length (a.loop.length + 2)) a) := fun W k => ⟨(HLX.out.1.kept k).lets, (HLX.out.2.1.kept k).lets, by omega⟩
  have HYI : Hid (∀ W, Kept [] Z W → IsW W (.slice (some ⟨d1, 0, none⟩) b.stem.length (b.stem.length + 2)) (.slice (some ⟨d2, 0, none⟩) b.loop.length (b.loop.length + 2)) b) := fun W k => ⟨(HLY.out.1.kept k).lets, (HLY.out.2.1.kept k).lets, by omega⟩
  have HS1 : Hid (∀ W, Kept [] Z W → Calls Tryd.prog 7 #[.agg #[.slice (some ⟨b1, 0, none⟩) a.stem.length (a.stem.length + 2), .slice (some ⟨b2, 0, none⟩) a.loop.length (a.loop.length + 2)], .agg #[.slice (some ⟨d1, 0, none⟩) b.stem.length (b.stem.length + 2), .slice (some ⟨d2, 0, none⟩) b.loop.length (b.loop.length + 2)]] W fun e w' => e = .returned (.bool sb) ∧ Kept [] W w') := fun W k => by
    have := same_any _ _ _ _ a b W (HXI.out W k) (HYI.out W k)
    rw [hsb] at this
    exact this
  have HS2 : Hid (∀ W, Kept [] Z W → Calls Tryd.prog 7 #[.agg #[.slice (some ⟨d1, 0, none⟩) b.stem.length (b.stem.length + 2), .slice (some ⟨d2, 0, none⟩) b.loop.length (b.loop.length + 2)], .agg #[.slice (some ⟨b1, 0, none⟩) a.stem.length (a.stem.length + 2), .slice (some ⟨b2, 0, none⟩) a.loop.length (a.loop.length + 2)]] W fun e w' => e = .returned (.bool sb) ∧ Kept [] W w') := fun W k => by
    have := same_any _ _ _ _ b a W (HYI.out W k) (HXI.out W k)
    rw [← sameB_comm, hsb] at this
    exact this
  have HW1 : Hid (∀ W, Kept [] Z W → Calls Tryd.prog 8 #[.agg #[.slice (some ⟨b1, 0, none⟩) a.stem.length (a.stem.length + 2), .slice (some ⟨b2, 0, none⟩) a.loop.length (a.loop.length + 2)], .agg #[.slice a1 a.stem.length c1, .slice a2 a.loop.length c2]] W fun e w' => e = .returned (.bool true) ∧ Kept [] W w') := fun W k => wholeWord_any b1 b2 _ _ a W (HLX.out.1.kept k) (HLX.out.2.1.kept k) (HIA.out W (HC.out.go k).kept).st (HIA.out W (HC.out.go k).kept).lp
  have HW2 : Hid (∀ W, Kept [] Z W → Calls Tryd.prog 8 #[.agg #[.slice (some ⟨d1, 0, none⟩) b.stem.length (b.stem.length + 2), .slice (some ⟨d2, 0, none⟩) b.loop.length (b.loop.length + 2)], .agg #[.slice a3 b.stem.length c3, .slice a4 b.loop.length c4]] W fun e w' => e = .returned (.bool true) ∧ Kept [] W w') := fun W k => wholeWord_any d1 d2 _ _ b W (HLY.out.1.kept k) (HLY.out.2.1.kept k) (HIB.out W (HC.out.go k).kept).st (HIB.out W (HC.out.go k).kept).lp
  have T1 : Hid True := trivial
  obtain ⟨⟨g0, g1⟩, ⟨e0, e1⟩, ⟨x0, x1⟩, ⟨y0, y1⟩⟩ := HC.out.cells
  clear hsb
  go_upto_region 9 with (first
    | (clear T1; go_at_call 7; refine (HS1.out Z (Kept.refl [] Z)).mono ?_; rintro e Wa ⟨rfl, ka⟩; have HKa : Hid (Kept [] Z Wa) := ka; clear ka g0 g1 e0 e1 x0 x1 y0 y1; obtain ⟨⟨g0, g1⟩, ⟨e0, e1⟩, ⟨x0, x1⟩, ⟨y0, y1⟩⟩ := (HC.out.go HKa.out).cells; have T2 : Hid True := trivial)
    | (clear T2; go_at_call 7; refine (HS2.out Wa HKa.out).mono ?_; rintro e Wb ⟨rfl, kb⟩; have HKb : Hid (Kept [] Z Wb) := HKa.out.trans kb (by simp) (by simp); clear kb g0 g1 e0 e1 x0 x1 y0 y1; obtain ⟨⟨g0, g1⟩, ⟨e0, e1⟩, ⟨x0, x1⟩, ⟨y0, y1⟩⟩ := (HC.out.go HKb.out).cells; have T3 : Hid True := trivial)
    | (clear T3; go_at_call 8; refine (HW1.out Wb HKb.out).mono ?_; rintro e Wc ⟨rfl, kc⟩; have HKc : Hid (Kept [] Z Wc) := HKb.out.trans kc (by simp) (by simp); clear kc g0 g1 e0 e1 x0 x1 y0 y1; obtain ⟨⟨g0, g1⟩, ⟨e0, e1⟩, ⟨x0, x1⟩, ⟨y0, y1⟩⟩ := (HC.out.go HKc.out).cells; have T4 : Hid True := trivial)
    | (clear T4; go_at_call 8; refine (HW2.out Wc HKc.out).mono ?_; rintro e Wd ⟨rfl, kd⟩; have HKd : Hid (Kept [] Z Wd) := HKc.out.trans kd (by simp) (by simp); clear kd g0 g1 e0 e1 x0 x1 y0 y1; obtain ⟨⟨g0, g1⟩, ⟨e0, e1⟩, ⟨x0, x1⟩, ⟨y0, y1⟩⟩ := (HC.out.go HKd.out).cells))
  have HCd : Hid (SmC w Wd (.slice a1 a.stem.length c1) (.slice a2 a.loop.length c2) (.slice a3 b.stem.length c3) (.slice a4 b.loop.length c4) (.slice (some ⟨b1, 0, none⟩) a.stem.length (a.stem.length + 2)) (.slice (some ⟨b2, 0, none⟩) a.loop.length (a.loop.length + 2)) (.slice (some ⟨d1, 0, none⟩) b.stem.length (b.stem.length + 2)) (.slice (some ⟨d2, 0, none⟩) b.loop.length (b.loop.length + 2)) Bx By) := HC.out.go HKd.out
  have HSP : Hid (Calls Tryd.prog 9 #[.agg #[.slice (some ⟨b1, 0, none⟩) a.stem.length (a.stem.length + 2), .slice (some ⟨b2, 0, none⟩) a.loop.length (a.loop.length + 2)]] Wd fun e w' => (∃ v, e = .returned v) ∧ Kept [b1, b2] Wd w' ∧ Lets w' (.slice (some ⟨b1, 0, none⟩) a.stem.length (a.stem.length + 2)) (spoiltW a).stem ∧ Lets w' (.slice (some ⟨b2, 0, none⟩) a.loop.length (a.loop.length + 2)) (spoiltW a).loop) := spoilWord_any b1 b2 a Wd (HLX.out.1.kept HKd.out) (HLX.out.2.1.kept HKd.out) HLX.out.2.2.1
  clear HS1 HS2 HW1 HW2 HXI HYI HKa HKb HKc
  go_upto_region 10 with (go_at_call 9; refine HSP.out.mono ?_; rintro e We ⟨⟨v, rfl⟩, ke, hl1, hl2⟩; have HKe : Hid (Kept [b1, b2] Wd We) := ke; have HLS : Hid (Lets We (.slice (some ⟨b1, 0, none⟩) a.stem.length (a.stem.length + 2)) (spoiltW a).stem ∧ Lets We (.slice (some ⟨b2, 0, none⟩) a.loop.length (a.loop.length + 2)) (spoiltW a).loop) := ⟨hl1, hl2⟩; clear ke hl1 hl2)
  have HCe : Hid (SmC w We (.slice a1 a.stem.length c1) (.slice a2 a.loop.length c2) (.slice a3 b.stem.length c3) (.slice a4 b.loop.length c4) (.slice (some ⟨b1, 0, none⟩) a.stem.length (a.stem.length + 2)) (.slice (some ⟨b2, 0, none⟩) a.loop.length (a.loop.length + 2)) (.slice (some ⟨d1, 0, none⟩) b.stem.length (b.stem.length + 2)) (.slice (some ⟨d2, 0, none⟩) b.loop.length (b.loop.length + 2)) Bx By) := HCd.out.spoil HKe.out HLX.out.2.2.2.1 HLX.out.2.2.2.2.1 HLX.out.2.2.2.2.2.1 HLX.out.2.2.2.2.2.2
  have HYE : Hid (IsW We (.slice (some ⟨d1, 0, none⟩) b.stem.length (b.stem.length + 2)) (.slice (some ⟨d2, 0, none⟩) b.loop.length (b.loop.length + 2)) b) := by
    have l1 : LentL We d1 b.stem := ⟨HKe.out.at (HLY.out.1.kept HKd.out).row (by simpa using HLY.out.2.2.1), HLY.out.1.small, HLY.out.1.few⟩
    have l2 : LentL We d2 b.loop := ⟨HKe.out.at (HLY.out.2.1.kept HKd.out).row (by simpa using HLY.out.2.2.2), HLY.out.2.1.small, HLY.out.2.1.few⟩
    exact ⟨l1.lets, l2.lets, by omega⟩
  have HXE : Hid (IsW We (.slice (some ⟨b1, 0, none⟩) a.stem.length (a.stem.length + 2)) (.slice (some ⟨b2, 0, none⟩) a.loop.length (a.loop.length + 2)) (spoiltW a)) := ⟨HLS.out.1, HLS.out.2, by have := spoilt_small a; omega⟩
  clear HCd HSP HKe HLS HLX HLY HKd HC g0 g1 e0 e1 x0 x1 y0 y1
  obtain ⟨so, hso⟩ : ∃ so, sameB (spoiltW a) b = so := ⟨_, rfl⟩
  have HS3 : Hid (∀ W, Kept [] We W → Calls Tryd.prog 7 #[.agg #[.slice (some ⟨b1, 0, none⟩) a.stem.length (a.stem.length + 2), .slice (some ⟨b2, 0, none⟩) a.loop.length (a.loop.length + 2)], .agg #[.slice (some ⟨d1, 0, none⟩) b.stem.length (b.stem.length + 2), .slice (some ⟨d2, 0, none⟩) b.loop.length (b.loop.length + 2)]] W fun e w' => e = .returned (.bool so) ∧ Kept [] W w') := fun W k => by
    have := same_any _ _ _ _ (spoiltW a) b W (HXE.out.kept k) (HYE.out.kept k)
    rw [hso] at this
    exact this
  have HS4 : Hid (∀ W, Kept [] We W → Calls Tryd.prog 10 #[.agg #[.slice (some ⟨b1, 0, none⟩) a.stem.length (a.stem.length + 2), .slice (some ⟨b2, 0, none⟩) a.loop.length (a.loop.length + 2)], .agg #[.slice a3 b.stem.length c3, .slice a4 b.loop.length c4]] W fun e w' => e = .returned (.bool so) ∧ Kept [] W w') := fun W k => by
    have := refSame_any _ _ _ _ (spoiltW a) b W (HXE.out.kept k) (HIB.out W (HCe.out.go k).kept) (by have := spoilt_small a; omega) (by omega)
    rw [hso] at this
    exact this
  obtain ⟨⟨g0, g1⟩, ⟨e0, e1⟩, ⟨x0, x1⟩, ⟨y0, y1⟩⟩ := HCe.out.cells
  have hrr : (so != so) = false := by cases so <;> rfl
  have hrr2 : (so == so) = true := by cases so <;> rfl
  clear hso
  go_upto_region 13 with (first
    | (go_at_call 7; refine (HS3.out We (Kept.refl [] We)).mono ?_; rintro e Wf ⟨rfl, kf⟩; have HKf : Hid (Kept [] We Wf) := kf; clear kf g0 g1 e0 e1 x0 x1 y0 y1; obtain ⟨⟨g0, g1⟩, ⟨e0, e1⟩, ⟨x0, x1⟩, ⟨y0, y1⟩⟩ := (HCe.out.go HKf.out).cells)
    | (go_at_call 10; refine (HS4.out Wf HKf.out).mono ?_; rintro e Wg ⟨rfl, kg⟩; have HKg : Hid (Kept [] We Wg) := HKf.out.trans kg (by simp) (by simp); clear kg g0 g1 e0 e1 x0 x1 y0 y1))
  have HCg : Hid (SmC w Wg (.slice a1 a.stem.length c1) (.slice a2 a.loop.length c2) (.slice a3 b.stem.length c3) (.slice a4 b.loop.length c4) (.slice (some ⟨b1, 0, none⟩) a.stem.length (a.stem.length + 2)) (.slice (some ⟨b2, 0, none⟩) a.loop.length (a.loop.length + 2)) (.slice (some ⟨d1, 0, none⟩) b.stem.length (b.stem.length + 2)) (.slice (some ⟨d2, 0, none⟩) b.loop.length (b.loop.length + 2)) Bx By) := HCe.out.go HKg.out
  clear HS3 HS4 HXE HYE HCe HKf HKg hrr hrr2
  obtain ⟨⟨g0, g1⟩, ⟨e0, e1⟩, ⟨x0, x1⟩, ⟨y0, y1⟩⟩ := HCg.out.cells
  by_cases q1 : 0 < a.loop.length
  rotate_left
  · have z1 : ((a.loop.length : Int) == 0) = true := by rw [beq_iff_eq]; omega
    have hsf : sb = false := by rw [← HSB.out]; exact sameB_none (fun h => q1 h.1)
    subst hsf
    clear q1
    go_wp2
    go_ret
    exact ⟨rfl, HCg.out.kept⟩
  have z1 : ((a.loop.length : Int) == 0) = false := by rw [beq_eq_false_iff_ne]; omega
  by_cases q2 : 0 < b.loop.length
  rotate_left
  · have z2 : ((b.loop.length : Int) == 0) = true := by rw [beq_iff_eq]; omega
    have hsf : sb = false := by rw [← HSB.out]; exact sameB_none (fun h => q2 h.2)
    subst hsf
    clear q2
    go_wp2
    go_ret
    exact ⟨rfl, HCg.out.kept⟩
  have z2 : ((b.loop.length : Int) == 0) = false := by rw [beq_eq_false_iff_ne]; omega
  obtain ⟨mx, hmx⟩ : ∃ mx, max a.stem.length b.stem.length = mx := ⟨_, rfl⟩
  have hmi : max (a.stem.length : Int) (b.stem.length : Int) = (mx : Int) := by omega
  obtain ⟨n, hn⟩ : ∃ n, mx + a.loop.length + b.loop.length = n := ⟨_, rfl⟩
  have hni : (mx : Int) + (a.loop.length : Int) + (b.loop.length : Int) = (n : Int) := by omega
  have hnb : n ≤ 12000 := by omega
  have hw1 : IntKind.i64.wrap ((mx : Int) + (a.loop.length : Int)) = (mx : Int) + (a.loop.length : Int) := by rw [IntKind.wrap_i64]; omega
  have hw2 : IntKind.i64.wrap ((mx : Int) + (a.loop.length : Int) + (b.loop.length : Int)) = (n : Int) := by rw [IntKind.wrap_i64]; omega
  have HNN : Hid (max a.stem.length b.stem.length + a.loop.length + b.loop.length = n) := by show _ = n; rw [hmx]; exact hn
  have HQ : Hid (0 < a.loop.length ∧ 0 < b.loop.length) := ⟨q1, q2⟩
  clear hmx hn q1 q2
  go_upto_region 18 with fail
  clear s1 s2 hmi hni hw1 hw2 z1 z2 g0 g1 e0 e1 x0 x1 y0 y1
  go_loopw [13, 14] (fun v13 v14 wr => ∃ (i : Nat) (al : Bool), v13 = .bool al ∧ v14 = .int .i64 (i : Nat) ∧ i ≤ n ∧ Hid (Kept [] Wg wr ∧ (al = true → ∀ j, j < i → a.at j = b.at j) ∧ (al = false → ∃ j, a.at j ≠ b.at j))) (fun _ v14 _ => n - (intOf v14).toNat)
  case atStart => exact ⟨0, true, rfl, rfl, Nat.zero_le _, Kept.refl [] Wg, fun _ j hj => by omega, fun h => by cases h⟩
  case round =>
    obtain ⟨i, al, rfl, rfl, hi, HR⟩ := hrel
    cases al with
    | false =>
      have hex := HR.out.2.2 rfl
      by_cases hlt : i < n
      · have hli : (i : Int) < (n : Int) := by omega
        clear hlt
        have hsv : sb = false := by rw [← HSB.out]; exact (by obtain ⟨j, hj⟩ := hex; exact sameB_no HQ.out.1 HQ.out.2 hj)
        subst hsv
        have HKr : Hid (Kept [] Wg wr) := HR.out.1
        have HCr : Hid (SmC w wr (.slice a1 a.stem.length c1) (.slice a2 a.loop.length c2) (.slice a3 b.stem.length c3) (.slice a4 b.loop.length c4) (.slice (some ⟨b1, 0, none⟩) a.stem.length (a.stem.length + 2)) (.slice (some ⟨b2, 0, none⟩) a.loop.length (a.loop.length + 2)) (.slice (some ⟨d1, 0, none⟩) b.stem.length (b.stem.length + 2)) (.slice (some ⟨d2, 0, none⟩) b.loop.length (b.loop.length + 2)) Bx By) := HCg.out.go HKr.out
        obtain ⟨⟨g0, g1⟩, ⟨e0, e1⟩, _, _⟩ := HCr.out.cells
        go_upto_region 22 with (go_at_call 12; refine (normal_made _ _ a wr (HIA.out wr HCr.out.kept)).mono ?_; rintro e Wp ⟨p1, m1, k1, p2, m2, k2, r1, rfl, HI1, HM1, hkp⟩; have HKp : Hid (Kept [] wr Wp) := hkp.out; clear hkp)
        obtain ⟨P, hP⟩ : ∃ P, Wp.alloc (.cells #[.slice p1 m1 k1, .slice p2 m2 k2] 24) = P := ⟨_, rfl⟩
        have HKP : Hid (Kept [] Wp P) := by show Kept [] Wp P; rw [← hP]; exact (Kept.refl [] Wp).alloc _
        have HPB : Hid (Wd2 P Wp.heap.size (.slice p1 m1 k1) (.slice p2 m2 k2)) := by show Wd2 _ _ _ _; rw [← hP]; exact al0 _ _
        rw [hP]
        obtain ⟨Bp, hBp⟩ : ∃ Bp, Wp.heap.size = Bp := ⟨_, rfl⟩
        rw [hBp] at HPB ⊢
        have HCP : Hid (SmC w P (.slice a1 a.stem.length c1) (.slice a2 a.loop.length c2) (.slice a3 b.stem.length c3) (.slice a4 b.loop.length c4) (.slice (some ⟨b1, 0, none⟩) a.stem.length (a.stem.length + 2)) (.slice (some ⟨b2, 0, none⟩) a.loop.length (a.loop.length + 2)) (.slice (some ⟨d1, 0, none⟩) b.stem.length (b.stem.length + 2)) (.slice (some ⟨d2, 0, none⟩) b.loop.length (b.loop.length + 2)) Bx By) := HCr.out.go (HKp.out.trans HKP.out (by simp) (by simp))
        have HI1P : Hid (IsW P (.slice p1 m1 k1) (.slice p2 m2 k2) r1) := HI1.out.kept HKP.out
        clear hP hBp g0 g1 e0 e1 HI1
        obtain ⟨_, ⟨e0, e1⟩, _, _⟩ := HCP.out.cells
        go_upto_region 23 with (go_at_call 12; refine (normal_made _ _ b P (HIB.out P HCP.out.kept)).mono ?_; rintro e Wq ⟨q1, m3, k3, q2, m4, k4, r2, rfl, HI2, HM2, hkq⟩; have HKq : Hid (Kept [] P Wq) := hkq.out; clear hkq)
        obtain ⟨Q2, hQ2⟩ : ∃ Q2, Wq.alloc (.cells #[.slice q1 m3 k3, .slice q2 m4 k4] 24) = Q2 := ⟨_, rfl⟩
        have HKQ : Hid (Kept [] Wq Q2) := by show Kept [] Wq Q2; rw [← hQ2]; exact (Kept.refl [] Wq).alloc _
        have HQB : Hid (Wd2 Q2 Wq.heap.size (.slice q1 m3 k3) (.slice q2 m4 k4)) := by show Wd2 _ _ _ _; rw [← hQ2]; exact al0 _ _
        rw [hQ2]
        obtain ⟨Bq, hBq⟩ : ∃ Bq, Wq.heap.size = Bq := ⟨_, rfl⟩
        rw [hBq] at HQB ⊢
        have HKPQ : Hid (Kept [] P Q2) := HKq.out.trans HKQ.out (by simp) (by simp)
        have HSW : Hid (Calls Tryd.prog 13 #[.agg #[.slice p1 m1 k1, .slice p2 m2 k2], .agg #[.slice q1 m3 k3, .slice q2 m4 k4]] Q2 fun e w' => e = .returned (.bool false) ∧ Kept [] Q2 w') := by
          have i1 := HI1P.out.kept HKPQ.out
          have i2 := HI2.out.kept HKQ.out
          have := sameWord_any _ _ _ _ r1 r2 Q2 i1.st i1.lp i2.st i2.lp
          rw [same_norms HQ.out.1 HQ.out.2 HM1.out HM2.out, HSB.out] at this
          exact this
        obtain ⟨x0, x1, _, _⟩ := (HPB.out.kept HKPQ.out).cells
        obtain ⟨y0, y1, _, _⟩ := HQB.out.cells
        clear hQ2 hBq e0 e1
        go_wp2_with (go_at_call 13; refine Calls.mono HSW.out ?_; rintro e Wz ⟨rfl, kz⟩; have HKz : Hid (Kept [] Q2 Wz) := kz; clear kz)
        go_ret
        exact ⟨rfl, (HCP.out.go HKPQ.out).kept.trans HKz.out (by simp) (by simp)⟩
      · have hli : ¬ ((i : Int) < (n : Int)) := by omega
        clear hlt
        have hsv : sb = false := by rw [← HSB.out]; exact (by obtain ⟨j, hj⟩ := hex; exact sameB_no HQ.out.1 HQ.out.2 hj)
        subst hsv
        have HKr : Hid (Kept [] Wg wr) := HR.out.1
        have HCr : Hid (SmC w wr (.slice a1 a.stem.length c1) (.slice a2 a.loop.length c2) (.slice a3 b.stem.length c3) (.slice a4 b.loop.length c4) (.slice (some ⟨b1, 0, none⟩) a.stem.length (a.stem.length + 2)) (.slice (some ⟨b2, 0, none⟩) a.loop.length (a.loop.length + 2)) (.slice (some ⟨d1, 0, none⟩) b.stem.length (b.stem.length + 2)) (.slice (some ⟨d2, 0, none⟩) b.loop.length (b.loop.length + 2)) Bx By) := HCg.out.go HKr.out
        obtain ⟨⟨g0, g1⟩, ⟨e0, e1⟩, _, _⟩ := HCr.out.cells
        go_upto_region 22 with (go_at_call 12; refine (normal_made _ _ a wr (HIA.out wr HCr.out.kept)).mono ?_; rintro e Wp ⟨p1, m1, k1, p2, m2, k2, r1, rfl, HI1, HM1, hkp⟩; have HKp : Hid (Kept [] wr Wp) := hkp.out; clear hkp)
        obtain ⟨P, hP⟩ : ∃ P, Wp.alloc (.cells #[.slice p1 m1 k1, .slice p2 m2 k2] 24) = P := ⟨_, rfl⟩
        have HKP : Hid (Kept [] Wp P) := by show Kept [] Wp P; rw [← hP]; exact (Kept.refl [] Wp).alloc _
        have HPB : Hid (Wd2 P Wp.heap.size (.slice p1 m1 k1) (.slice p2 m2 k2)) := by show Wd2 _ _ _ _; rw [← hP]; exact al0 _ _
        rw [hP]
        obtain ⟨Bp, hBp⟩ : ∃ Bp, Wp.heap.size = Bp := ⟨_, rfl⟩
        rw [hBp] at HPB ⊢
        have HCP : Hid (SmC w P (.slice a1 a.stem.length c1) (.slice a2 a.loop.length c2) (.slice a3 b.stem.length c3) (.slice a4 b.loop.length c4) (.slice (some ⟨b1, 0, none⟩) a.stem.length (a.stem.length + 2)) (.slice (some ⟨b2, 0, none⟩) a.loop.length (a.loop.length + 2)) (.slice (some ⟨d1, 0, none⟩) b.stem.length (b.stem.length + 2)) (.slice (some ⟨d2, 0, none⟩) b.loop.length (b.loop.length + 2)) Bx By) := HCr.out.go (HKp.out.trans HKP.out (by simp) (by simp))
        have HI1P : Hid (IsW P (.slice p1 m1 k1) (.slice p2 m2 k2) r1) := HI1.out.kept HKP.out
        clear hP hBp g0 g1 e0 e1 HI1
        obtain ⟨_, ⟨e0, e1⟩, _, _⟩ := HCP.out.cells
        go_upto_region 23 with (go_at_call 12; refine (normal_made _ _ b P (HIB.out P HCP.out.kept)).mono ?_; rintro e Wq ⟨q1, m3, k3, q2, m4, k4, r2, rfl, HI2, HM2, hkq⟩; have HKq : Hid (Kept [] P Wq) := hkq.out; clear hkq)
        obtain ⟨Q2, hQ2⟩ : ∃ Q2, Wq.alloc (.cells #[.slice q1 m3 k3, .slice q2 m4 k4] 24) = Q2 := ⟨_, rfl⟩
        have HKQ : Hid (Kept [] Wq Q2) := by show Kept [] Wq Q2; rw [← hQ2]; exact (Kept.refl [] Wq).alloc _
        have HQB : Hid (Wd2 Q2 Wq.heap.size (.slice q1 m3 k3) (.slice q2 m4 k4)) := by show Wd2 _ _ _ _; rw [← hQ2]; exact al0 _ _
        rw [hQ2]
        obtain ⟨Bq, hBq⟩ : ∃ Bq, Wq.heap.size = Bq := ⟨_, rfl⟩
        rw [hBq] at HQB ⊢
        have HKPQ : Hid (Kept [] P Q2) := HKq.out.trans HKQ.out (by simp) (by simp)
        have HSW : Hid (Calls Tryd.prog 13 #[.agg #[.slice p1 m1 k1, .slice p2 m2 k2], .agg #[.slice q1 m3 k3, .slice q2 m4 k4]] Q2 fun e w' => e = .returned (.bool false) ∧ Kept [] Q2 w') := by
          have i1 := HI1P.out.kept HKPQ.out
          have i2 := HI2.out.kept HKQ.out
          have := sameWord_any _ _ _ _ r1 r2 Q2 i1.st i1.lp i2.st i2.lp
          rw [same_norms HQ.out.1 HQ.out.2 HM1.out HM2.out, HSB.out] at this
          exact this
        obtain ⟨x0, x1, _, _⟩ := (HPB.out.kept HKPQ.out).cells
        obtain ⟨y0, y1, _, _⟩ := HQB.out.cells
        clear hQ2 hBq e0 e1
        go_wp2_with (go_at_call 13; refine Calls.mono HSW.out ?_; rintro e Wz ⟨rfl, kz⟩; have HKz : Hid (Kept [] Q2 Wz) := kz; clear kz)
        go_ret
        exact ⟨rfl, (HCP.out.go HKPQ.out).kept.trans HKz.out (by simp) (by simp)⟩
    | true =>
      by_cases hlt : i < n
      · have hli : (i : Int) < (n : Int) := by omega
        have HLT : Hid (i < n) := hlt
        obtain ⟨x, hx⟩ : ∃ x, a.at i = x := ⟨_, rfl⟩
        obtain ⟨y, hy⟩ : ∃ y, b.at i = y := ⟨_, rfl⟩
        have HT1 : Hid (∀ W, Kept [] wr W → Calls Tryd.prog 11 #[.agg #[.slice a1 a.stem.length c1, .slice a2 a.loop.length c2], .int .i64 (i : Nat)] W fun e w' => e = .returned (.int .u16 (x : Nat)) ∧ Kept [] W w') := fun W k => by
          have := at_any _ _ a (i : Nat) W (HIA.out W (HCg.out.go (HR.out.1.trans k (by simp) (by simp))).kept) (by omega)
          unfold atI at this
          rw [if_neg (by have := HQ.out.1; omega), Int.toNat_natCast, hx] at this
          exact this
        have HT2 : Hid (∀ W, Kept [] wr W → Calls Tryd.prog 11 #[.agg #[.slice a3 b.stem.length c3, .slice a4 b.loop.length c4], .int .i64 (i : Nat)] W fun e w' => e = .returned (.int .u16 (y : Nat)) ∧ Kept [] W w') := fun W k => by
          have := at_any _ _ b (i : Nat) W (HIB.out W (HCg.out.go (HR.out.1.trans k (by simp) (by simp))).kept) (by omega)
          unfold atI at this
          rw [if_neg (by have := HQ.out.2; omega), Int.toNat_natCast, hy] at this
          exact this
        have HXY : Hid (a.at i = x ∧ b.at i = y) := ⟨hx, hy⟩
        have HS : Hid (∀ W, Kept [] wr W → W.cell? ⟨w.heap.size, 0, none⟩ = some (.slice a1 a.stem.length c1) ∧ W.cell? ⟨w.heap.size, 1, none⟩ = some (.slice a2 a.loop.length c2) ∧ W.cell? ⟨w.heap.size + 1, 0, none⟩ = some (.slice a3 b.stem.length c3) ∧ W.cell? ⟨w.heap.size + 1, 1, none⟩ = some (.slice a4 b.loop.length c4)) := fun W k => by
          have h := (HCg.out.go (HR.out.1.trans k (by simp) (by simp))).cells
          exact ⟨h.1.1, h.1.2, h.2.1.1, h.2.1.2⟩
        obtain ⟨g0, g1, e0, e1⟩ := HS.out wr (Kept.refl [] wr)
        have HAL : Hid (∀ j, j < i → a.at j = b.at j) := HR.out.2.1 rfl
        have HKr : Hid (Kept [] Wg wr) := HR.out.1
        have T1 : Hid True := trivial
        have HKc : Hid (Kept [] wr wr) := Kept.refl [] wr
        clear hx hy hlt HR
        by_cases hxy : x = y
        · subst hxy
          have hne : ((x : Int) == (x : Int)) = true := by simp
          go_wp2_with fail
          go_region_held3 (fun w' => w'.cell? ⟨w.heap.size, 0, none⟩ = some (.slice a1 a.stem.length c1) ∧ w'.cell? ⟨w.heap.size, 1, none⟩ = some (.slice a2 a.loop.length c2) ∧ w'.cell? ⟨w.heap.size + 1, 0, none⟩ = some (.slice a3 b.stem.length c3) ∧ w'.cell? ⟨w.heap.size + 1, 1, none⟩ = some (.slice a4 b.loop.length c4))
            ((refine HS.out _ ?_; (first | exact HKc.out | exact HKc.out.drew)))
            (first
              | (clear T1; go_at_call 11; refine (HT1.out _ (by first | exact HKc.out | exact HKc.out.drew)).mono ?_; rintro e Wa ⟨rfl, ka⟩; have HKn : Hid (Kept [] wr Wa) := (by first | exact HKc.out.trans ka (by simp) (by simp) | exact HKc.out.drew.trans ka (by simp) (by simp)); clear HKc ka; have HKc : Hid (Kept [] wr Wa) := HKn.out; clear HKn)
              | (go_at_call 11; refine (HT2.out _ HKc.out).mono ?_; rintro e Wb ⟨rfl, kb⟩; have HKn : Hid (Kept [] wr Wb) := HKc.out.trans kb (by simp) (by simp); clear HKc kb; have HKc : Hid (Kept [] wr Wb) := HKn.out; clear HKn))
          all_goals go_wp2
          all_goals go_roundw
          all_goals (have hlt := HLT.out)
          all_goals first | exact ⟨i + 1, true, rfl, by go_num, by omega, HKr.out.trans HKc.out (by simp) (by simp), fun _ j hj => (by rcases Nat.lt_or_ge j i with h | h; exact HAL.out j h; obtain rfl : j = i := (by omega); rw [HXY.out.1, HXY.out.2]), fun h => by cases h⟩ | (simp [intOf]; omega)
        · have hne : ((x : Int) == (y : Int)) = false := by rw [beq_eq_false_iff_ne]; omega
          have HXN : Hid (a.at i ≠ b.at i) := by show a.at i ≠ b.at i; rw [HXY.out.1, HXY.out.2]; exact hxy
          clear hxy
          go_wp2_with fail
          go_region_held3 (fun w' => w'.cell? ⟨w.heap.size, 0, none⟩ = some (.slice a1 a.stem.length c1) ∧ w'.cell? ⟨w.heap.size, 1, none⟩ = some (.slice a2 a.loop.length c2) ∧ w'.cell? ⟨w.heap.size + 1, 0, none⟩ = some (.slice a3 b.stem.length c3) ∧ w'.cell? ⟨w.heap.size + 1, 1, none⟩ = some (.slice a4 b.loop.length c4))
            ((refine HS.out _ ?_; (first | exact HKc.out | exact HKc.out.drew)))
            (first
              | (clear T1; go_at_call 11; refine (HT1.out _ (by first | exact HKc.out | exact HKc.out.drew)).mono ?_; rintro e Wa ⟨rfl, ka⟩; have HKn : Hid (Kept [] wr Wa) := (by first | exact HKc.out.trans ka (by simp) (by simp) | exact HKc.out.drew.trans ka (by simp) (by simp)); clear HKc ka; have HKc : Hid (Kept [] wr Wa) := HKn.out; clear HKn)
              | (go_at_call 11; refine (HT2.out _ HKc.out).mono ?_; rintro e Wb ⟨rfl, kb⟩; have HKn : Hid (Kept [] wr Wb) := HKc.out.trans kb (by simp) (by simp); clear HKc kb; have HKc : Hid (Kept [] wr Wb) := HKn.out; clear HKn))
          all_goals go_wp2
          all_goals go_roundw
          all_goals (have hlt := HLT.out)
          all_goals first | exact ⟨i + 1, false, rfl, by go_num, by omega, HKr.out.trans HKc.out (by simp) (by simp), fun h => (by cases h), fun _ => ⟨i, HXN.out⟩⟩ | (simp [intOf]; omega)
      · have hli : ¬ ((i : Int) < (n : Int)) := by omega
        have hall : ∀ j, j < n → a.at j = b.at j := fun j hj => HR.out.2.1 rfl j (by omega)
        clear hlt
        have hsv : sb = true := by rw [← HSB.out]; exact (sameB_yes HQ.out.1 HQ.out.2 (by rw [HNN.out]; exact hall))
        subst hsv
        have HKr : Hid (Kept [] Wg wr) := HR.out.1
        have HCr : Hid (SmC w wr (.slice a1 a.stem.length c1) (.slice a2 a.loop.length c2) (.slice a3 b.stem.length c3) (.slice a4 b.loop.length c4) (.slice (some ⟨b1, 0, none⟩) a.stem.length (a.stem.length + 2)) (.slice (some ⟨b2, 0, none⟩) a.loop.length (a.loop.length + 2)) (.slice (some ⟨d1, 0, none⟩) b.stem.length (b.stem.length + 2)) (.slice (some ⟨d2, 0, none⟩) b.loop.length (b.loop.length + 2)) Bx By) := HCg.out.go HKr.out
        obtain ⟨⟨g0, g1⟩, ⟨e0, e1⟩, _, _⟩ := HCr.out.cells
        go_upto_region 22 with (go_at_call 12; refine (normal_made _ _ a wr (HIA.out wr HCr.out.kept)).mono ?_; rintro e Wp ⟨p1, m1, k1, p2, m2, k2, r1, rfl, HI1, HM1, hkp⟩; have HKp : Hid (Kept [] wr Wp) := hkp.out; clear hkp)
        obtain ⟨P, hP⟩ : ∃ P, Wp.alloc (.cells #[.slice p1 m1 k1, .slice p2 m2 k2] 24) = P := ⟨_, rfl⟩
        have HKP : Hid (Kept [] Wp P) := by show Kept [] Wp P; rw [← hP]; exact (Kept.refl [] Wp).alloc _
        have HPB : Hid (Wd2 P Wp.heap.size (.slice p1 m1 k1) (.slice p2 m2 k2)) := by show Wd2 _ _ _ _; rw [← hP]; exact al0 _ _
        rw [hP]
        obtain ⟨Bp, hBp⟩ : ∃ Bp, Wp.heap.size = Bp := ⟨_, rfl⟩
        rw [hBp] at HPB ⊢
        have HCP : Hid (SmC w P (.slice a1 a.stem.length c1) (.slice a2 a.loop.length c2) (.slice a3 b.stem.length c3) (.slice a4 b.loop.length c4) (.slice (some ⟨b1, 0, none⟩) a.stem.length (a.stem.length + 2)) (.slice (some ⟨b2, 0, none⟩) a.loop.length (a.loop.length + 2)) (.slice (some ⟨d1, 0, none⟩) b.stem.length (b.stem.length + 2)) (.slice (some ⟨d2, 0, none⟩) b.loop.length (b.loop.length + 2)) Bx By) := HCr.out.go (HKp.out.trans HKP.out (by simp) (by simp))
        have HI1P : Hid (IsW P (.slice p1 m1 k1) (.slice p2 m2 k2) r1) := HI1.out.kept HKP.out
        clear hP hBp g0 g1 e0 e1 HI1
        obtain ⟨_, ⟨e0, e1⟩, _, _⟩ := HCP.out.cells
        go_upto_region 23 with (go_at_call 12; refine (normal_made _ _ b P (HIB.out P HCP.out.kept)).mono ?_; rintro e Wq ⟨q1, m3, k3, q2, m4, k4, r2, rfl, HI2, HM2, hkq⟩; have HKq : Hid (Kept [] P Wq) := hkq.out; clear hkq)
        obtain ⟨Q2, hQ2⟩ : ∃ Q2, Wq.alloc (.cells #[.slice q1 m3 k3, .slice q2 m4 k4] 24) = Q2 := ⟨_, rfl⟩
        have HKQ : Hid (Kept [] Wq Q2) := by show Kept [] Wq Q2; rw [← hQ2]; exact (Kept.refl [] Wq).alloc _
        have HQB : Hid (Wd2 Q2 Wq.heap.size (.slice q1 m3 k3) (.slice q2 m4 k4)) := by show Wd2 _ _ _ _; rw [← hQ2]; exact al0 _ _
        rw [hQ2]
        obtain ⟨Bq, hBq⟩ : ∃ Bq, Wq.heap.size = Bq := ⟨_, rfl⟩
        rw [hBq] at HQB ⊢
        have HKPQ : Hid (Kept [] P Q2) := HKq.out.trans HKQ.out (by simp) (by simp)
        have HSW : Hid (Calls Tryd.prog 13 #[.agg #[.slice p1 m1 k1, .slice p2 m2 k2], .agg #[.slice q1 m3 k3, .slice q2 m4 k4]] Q2 fun e w' => e = .returned (.bool true) ∧ Kept [] Q2 w') := by
          have i1 := HI1P.out.kept HKPQ.out
          have i2 := HI2.out.kept HKQ.out
          have := sameWord_any _ _ _ _ r1 r2 Q2 i1.st i1.lp i2.st i2.lp
          rw [same_norms HQ.out.1 HQ.out.2 HM1.out HM2.out, HSB.out] at this
          exact this
        obtain ⟨x0, x1, _, _⟩ := (HPB.out.kept HKPQ.out).cells
        obtain ⟨y0, y1, _, _⟩ := HQB.out.cells
        clear hQ2 hBq e0 e1
        go_wp2_with (go_at_call 13; refine Calls.mono HSW.out ?_; rintro e Wz ⟨rfl, kz⟩; have HKz : Hid (Kept [] Q2 Wz) := kz; clear kz)
        go_ret
        exact ⟨rfl, (HCP.out.go HKPQ.out).kept.trans HKz.out (by simp) (by simp)⟩
/-- WordsSame, at any two words. -/
theorem wordsSame_walk (va la : Value) (a : Wd) (vb lb : Value) (b : Wd) (w : World) (i1 : Lets w va a.stem) (i2 : Lets w la a.loop) (i3 : Lets w vb b.stem) (i4 : Lets w lb b.loop) (hT : PowTab w) :
    Calls Tryd.prog 3 #[.agg #[va, la], .agg #[vb, lb]] w fun e w' => e = .returned (.bool true) ∧ Kept [] w w' := by
  obtain ⟨a1, c1, rfl, _, _⟩ := i1.form
  obtain ⟨a2, c2, rfl, _, _⟩ := i2.form
  obtain ⟨a3, c3, rfl, _, _⟩ := i3.form
  obtain ⟨a4, c4, rfl, _, _⟩ := i4.form
  by_cases h : 4000 < a.stem.length + a.loop.length ∨ 4000 < b.stem.length + b.loop.length
  · exact same_big a1 a2 a3 a4 c1 c2 c3 c4 a b w hT i1.few i2.few i3.few i4.few h
  · exact same_main a1 a2 a3 a4 c1 c2 c3 c4 a b w hT i1 i2 i3 i4 (by omega) (by omega)
end Go.Proofs.YtjnbfiikgogknaaDoor
