/- The document's sameness: SameLetters, SameWord, Same. -/
import Derived.Test.YtjnbfiikgogknaaDoorWdRefM
import Derived.Test.YtjnbfiikgogknaaDoorWdSame
import Derived.Deep.RegionHeld3
namespace Go.Proofs.YtjnbfiikgogknaaDoor
open Go.RowKit Go.Shelf
attribute [local go_sem ↓] Go.wp_at_zero Go.wp_at_succ

set_option maxHeartbeats 1600000 in
theorem refLetters_any (v u : Value) (xs ys : List Nat) (w : World) (hx : Lets w v xs) (hy : Lets w u ys) :
    Calls Tryd.prog 44 #[v, u] w fun e w' => e = .returned (.bool (decide (xs = ys))) ∧ Quiet w w' := by
  have fx := hx.few
  have fy := hy.few
  by_cases hlen : xs.length = ys.length
  · by_cases h0 : 0 < xs.length
    · obtain ⟨b, o, c, rfl, _, _, HC⟩ := hx.there h0
      obtain ⟨b2, o2, c2, rfl, _, _, HC2⟩ := hy.there (by omega)
      have hnl : ((xs.length : Int) != (ys.length : Int)) = false := by simp; omega
      have HC' : Hid (∀ i, i < xs.length → w.cell? ⟨b, o + i, none⟩ = some (.int .u16 (xs.getD i 0 : Nat))) := HC
      have HC2' : Hid (∀ i, i < ys.length → w.cell? ⟨b2, o2 + i, none⟩ = some (.int .u16 (ys.getD i 0 : Nat))) := HC2
      have HL : Hid (xs.length = ys.length) := hlen
      clear hx hy HC HC2 hlen
      go_enter Tryd.func44, Tryd.ntmps44
      go_wp2_with fail
      go_loopw [5] (fun i wr => ∃ k : Nat, k ≤ xs.length ∧ i = .int .i64 k ∧ (∀ j, j < k → xs.getD j 0 = ys.getD j 0) ∧ Quiet w wr) (fun i _ => xs.length - (intOf i).toNat)
      case atStart => exact ⟨0, Nat.zero_le _, rfl, fun j hj => by omega, Quiet.refl _⟩
      case round =>
        obtain ⟨k, hk, rfl, hd, q, rfl⟩ := hrel
        have HD : Hid (∀ j, j < k → xs.getD j 0 = ys.getD j 0) := hd
        clear hd
        by_cases hlt : k < xs.length
        · have hlt' : (k : Int) < (xs.length : Int) := by omega
          have hlt2 : (k : Int) < (ys.length : Int) := by have := HL.out; omega
          have d1 := HC'.out k hlt
          have d2 := HC2'.out k (by have := HL.out; omega)
          have b0 : (0 : Int) ≤ (k : Int) := by omega
          by_cases he : xs.getD k 0 = ys.getD k 0
          · have HD2 : Hid (∀ j, j < k + 1 → xs.getD j 0 = ys.getD j 0) := fun j hj => by
              rcases Nat.lt_or_ge j k with h | h
              · exact HD.out j h
              · obtain rfl : j = k := by omega
                exact he
            rw [← he] at d2
            generalize xs.getD k 0 = x at d1 d2
            have hne : ((x : Int) != (x : Int)) = false := by simp
            clear he
            go_wp2_with fail
            go_quiet (fail)
            go_wp2
            go_roundw
            case rel => exact ⟨k + 1, by omega, by go_num, HD2.out, _, rfl⟩
            case measure => simp [intOf]; omega
          · have HF : Hid (decide (xs = ys) = false) := by
              show decide (xs = ys) = false
              simp; intro e; exact he (by rw [e])
            generalize xs.getD k 0 = x at d1 he
            generalize ys.getD k 0 = y at d2 he
            have hne : ((x : Int) != (y : Int)) = true := by simp; omega
            clear he
            go_wp2_with fail
            go_quiet (fail)
            go_wp2
            go_ret
            exact ⟨ret_bool HF.out.symm, quiet_more _ _ _⟩
        · have hlt' : ¬ (k : Int) < (xs.length : Int) := by omega
          have HF : Hid (decide (xs = ys) = true) := by
            show decide (xs = ys) = true
            simp; exact ext_getD HL.out (fun j hj => HD.out j (by omega))
          go_wp2
          go_ret
          exact ⟨ret_bool HF.out.symm, _, rfl⟩
    · obtain rfl : xs = [] := List.length_eq_zero_iff.1 (by omega)
      obtain rfl : ys = [] := List.length_eq_zero_iff.1 (by simpa using hlen.symm)
      obtain ⟨ad, c, rfl, _⟩ := hx.form
      obtain ⟨ad2, c2, rfl, _⟩ := hy.form
      clear hx hy
      have e0 : (([] : List Nat).length : Int) = 0 := rfl
      simp only [List.length_nil]
      go_enter Tryd.func44, Tryd.ntmps44
      go_wp2_with fail
      go_loopw [5] (fun i wr => i = .int .i64 0 ∧ wr = w) (fun _ _ => 0)
      case atStart => exact ⟨rfl, rfl⟩
      case round =>
        obtain ⟨rfl, rfl⟩ := hrel
        go_wp2
        go_ret
        exact ⟨rfl, Quiet.refl _⟩
  · have hnl : ((xs.length : Int) != (ys.length : Int)) = true := by simp; omega
    obtain ⟨ad, c, rfl, _⟩ := hx.form
    obtain ⟨ad2, c2, rfl, _⟩ := hy.form
    have HF : Hid (decide (xs = ys) = false) := by
      show decide (xs = ys) = false
      simp; intro e; exact hlen (by rw [e])
    rw [HF.out]
    clear hx hy hlen HF
    go_enter Tryd.func44, Tryd.ntmps44
    go_wp2
    go_ret
    exact ⟨rfl, Quiet.refl _⟩

set_option maxHeartbeats 1600000 in
theorem refWords_any (va la vb lb : Value) (a b : Wd) (w : World) (h1 : Lets w va a.stem) (h2 : Lets w la a.loop) (h3 : Lets w vb b.stem) (h4 : Lets w lb b.loop) :
    Calls Tryd.prog 30 #[.agg #[va, la], .agg #[vb, lb]] w fun e w' => e = .returned (.bool (eqW a b)) ∧ Kept [] w w' := by
  obtain ⟨s, l⟩ := a
  obtain ⟨s2, l2⟩ := b
  simp only at h1 h2 h3 h4
  obtain ⟨a1, c1, rfl, _⟩ := h1.form
  obtain ⟨a2, c2, rfl, _⟩ := h2.form
  obtain ⟨a3, c3, rfl, _⟩ := h3.form
  obtain ⟨a4, c4, rfl, _⟩ := h4.form
  obtain ⟨V, hV⟩ : ∃ V, (w.alloc (.cells #[.slice a1 s.length c1, .slice a2 l.length c2] 24)).alloc (.cells #[.slice a3 s2.length c3, .slice a4 l2.length c4] 24) = V := ⟨_, rfl⟩
  have kV : Kept [] w V := by rw [← hV]; exact ((Kept.refl [] w).alloc _).alloc _
  have hN := two_new w (.cells #[.slice a1 s.length c1, .slice a2 l.length c2] 24) (.cells #[.slice a3 s2.length c3, .slice a4 l2.length c4] 24)
  rw [hV] at hN
  have HA : Hid (Wd2 V w.heap.size (.slice a1 s.length c1) (.slice a2 l.length c2)) := hN.1
  have HB : Hid (Wd2 V (w.heap.size + 1) (.slice a3 s2.length c3) (.slice a4 l2.length c4)) := hN.2
  have HKV : Hid (Kept [] w V) := kV
  have HV : Hid _ := hV
  have d0 := HA.out.cells.1
  have d1 := HB.out.cells.1
  by_cases hs : s = s2
  · have HE : Hid (decide (l = l2) = eqW ⟨s, l⟩ ⟨s2, l2⟩) := by show decide (l = l2) = _; rw [← hs]; simp [eqW]
    have HS : Hid (Calls Tryd.prog 44 #[.slice a1 s.length c1, .slice a3 s2.length c3] V fun e w1 => e = .returned (.bool true) ∧ Hid (Quiet V w1)) := by
      have := refLetters_any _ _ s s2 V (h1.kept kV) (h3.kept kV)
      rw [decide_eq_true hs] at this
      exact this
    have HL : Hid (∀ W, Quiet V W → Calls Tryd.prog 44 #[.slice a2 l.length c2, .slice a4 l2.length c4] W fun e w1 => e = .returned (.bool (decide (l = l2))) ∧ Hid (Quiet W w1)) := fun W q => refLetters_any _ _ l l2 W ((h2.kept kV).kept q.kept) ((h4.kept kV).kept q.kept)
    clear h1 h2 h3 h4 hN hV kV hs
    go_enter Tryd.func30, Tryd.ntmps30
    rw [← HE.out]
    generalize decide (l = l2) = r at HL HE
    go_wp2_with (first
      | (go_at_call 44; rw [HV.out]; refine HS.out.mono ?_; clear HS; rintro e w1 ⟨rfl, HQ⟩; have e0 := (HA.out.kept HQ.out.kept).cells.2.1; have e1 := (HB.out.kept HQ.out.kept).cells.2.1)
      | (go_at_call 44; refine (HL.out _ HQ.out).mono ?_; clear HL; rintro e w2 ⟨rfl, HQ2⟩))
    go_ret
    exact ⟨rfl, kept_same (kept_same HKV.out HQ.out.kept) HQ2.out.kept⟩
  · have HE : Hid (eqW ⟨s, l⟩ ⟨s2, l2⟩ = false) := by show eqW _ _ = false; simp [eqW, hs]
    have HS : Hid (Calls Tryd.prog 44 #[.slice a1 s.length c1, .slice a3 s2.length c3] V fun e w1 => e = .returned (.bool false) ∧ Hid (Quiet V w1)) := by
      have := refLetters_any _ _ s s2 V (h1.kept kV) (h3.kept kV)
      rw [decide_eq_false hs] at this
      exact this
    clear h1 h2 h3 h4 hN hV kV hs
    rw [HE.out]
    go_enter Tryd.func30, Tryd.ntmps30
    go_wp2_with (go_at_call 44; rw [HV.out]; refine HS.out.mono ?_; clear HS; rintro e w1 ⟨rfl, HQ⟩)
    go_ret
    exact ⟨rfl, HKV.out.trans HQ.out.kept (by simp) (by simp)⟩
/-- The document's Normal, of whatever word. -/
theorem refNormal_any (sv lv : Value) (q : Wd) (w : World) (h : IsW w sv lv q) (hf : q.stem.length + q.loop.length ≤ 100000) : Calls Tryd.prog 31 #[.agg #[sv, lv]] w (RefMade w q) := by
  obtain ⟨st, lp⟩ := q
  obtain ⟨ads, cs, rfl, _, _⟩ := h.st.form
  by_cases h0 : 0 < lp.length
  · obtain ⟨b, o, c, rfl, _⟩ := h.lp.there h0
    exact refNormal_some ads cs b o c st lp w h.st h.lp h0 hf
  · obtain rfl : lp = [] := List.length_eq_zero_iff.1 (by omega)
    obtain ⟨ad, c, rfl, _, _⟩ := h.lp.form
    exact refNormal_none ads cs ad c st w
theorem same_norms {a b r1 r2 : Wd} (ha : 0 < a.loop.length) (hb : 0 < b.loop.length) (h1 : NormOf a r1) (h2 : NormOf b r2) : eqW r1 r2 = sameB a b := by
  obtain ⟨n1, e1⟩ := h1.2 (fun e => by rw [e] at ha; simp at ha)
  obtain ⟨n2, e2⟩ := h2.2 (fun e => by rw [e] at hb; simp at hb)
  rw [Bool.eq_iff_iff, eqW_iff, sameB_iff ha hb]
  constructor
  · rintro rfl i
    rw [← e1, e2]
  · intro h
    exact n1.unique n2 (fun i => by rw [e1, e2, h])
theorem sameB_none {a b : Wd} (h : ¬ (0 < a.loop.length ∧ 0 < b.loop.length)) : sameB a b = false := by
  unfold sameB
  by_cases ha : 0 < a.loop.length
  · rw [decide_eq_false (fun hb => h ⟨ha, hb⟩)]; simp
  · rw [decide_eq_false ha]; simp
set_option maxHeartbeats 2000000 in
set_option maxRecDepth 10000 in
theorem refSame_any (va la vb lb : Value) (a b : Wd) (w : World) (h1 : IsW w va la a) (h2 : IsW w vb lb b) (ha : a.stem.length + a.loop.length ≤ 100000) (hb : b.stem.length + b.loop.length ≤ 100000) :
    Calls Tryd.prog 10 #[.agg #[va, la], .agg #[vb, lb]] w fun e w' => e = .returned (.bool (sameB a b)) ∧ Kept [] w w' := by
  obtain ⟨V, hV⟩ : ∃ V, (w.alloc (.cells #[va, la] 24)).alloc (.cells #[vb, lb] 24) = V := ⟨_, rfl⟩
  have kV : Kept [] w V := by rw [← hV]; exact ((Kept.refl [] w).alloc _).alloc _
  have hA : Wd2 V w.heap.size va la := by rw [← hV]; exact alUp (al0 _ _) _
  have hB : Wd2 V (w.heap.size + 1) vb lb := by rw [← hV]; exact al1 _ _ _
  have HN1 : Hid (∀ W, Kept [] V W → Calls Tryd.prog 31 #[.agg #[va, la]] W (RefMade W a)) := fun W k => refNormal_any va la a W ((h1.kept kV).kept k) ha
  have HN2 : Hid (∀ W, Kept [] V W → Calls Tryd.prog 31 #[.agg #[vb, lb]] W (RefMade W b)) := fun W k => refNormal_any vb lb b W ((h2.kept kV).kept k) hb
  have HSW : Hid (∀ W x1 x2 y1 y2 r1 r2, IsW W x1 x2 r1 → IsW W y1 y2 r2 → Calls Tryd.prog 30 #[.agg #[x1, x2], .agg #[y1, y2]] W fun e w' => e = .returned (.bool (eqW r1 r2)) ∧ Kept [] W w') := fun W x1 x2 y1 y2 r1 r2 i1 i2 => refWords_any x1 x2 y1 y2 r1 r2 W i1.st i1.lp i2.st i2.lp
  have HS : Hid (∀ W, Kept [] V W → W.cell? ⟨w.heap.size, 0, none⟩ = some va ∧ W.cell? ⟨w.heap.size, 1, none⟩ = some la ∧ W.cell? ⟨w.heap.size + 1, 0, none⟩ = some vb ∧ W.cell? ⟨w.heap.size + 1, 1, none⟩ = some lb) := fun W k => ⟨(hA.kept k).cells.1, (hA.kept k).cells.2.1, (hB.kept k).cells.1, (hB.kept k).cells.2.1⟩
  have HKV : Hid (Kept [] w V) := kV
  have HVV : Hid (_ = V) := hV
  have HSB : Hid (∀ r1 r2, NormOf a r1 → NormOf b r2 → 0 < a.loop.length → 0 < b.loop.length → eqW r1 r2 = sameB a b) := fun r1 r2 n1 n2 q1 q2 => same_norms q1 q2 n1 n2
  have HNO : Hid (¬ (0 < a.loop.length ∧ 0 < b.loop.length) → sameB a b = false) := sameB_none
  obtain ⟨s, l⟩ := a
  obtain ⟨s2, l2⟩ := b
  obtain ⟨a1, c1, rfl, _⟩ := h1.st.form
  obtain ⟨a2, c2, rfl, _⟩ := h1.lp.form
  obtain ⟨a3, c3, rfl, _⟩ := h2.st.form
  obtain ⟨a4, c4, rfl, _⟩ := h2.lp.form
  simp only at ha hb
  clear h1 h2 kV hA hB hV
  by_cases q1 : 0 < l.length
  · have q1i : (0 : Int) < (l.length : Int) := by omega
    have q1d : decide (0 < l.length) = true := decide_eq_true q1
    by_cases q2 : 0 < l2.length
    · have q2i : (0 : Int) < (l2.length : Int) := by omega
      have q2d : decide (0 < l2.length) = true := decide_eq_true q2
      have HQ : Hid (0 < l.length ∧ 0 < l2.length) := ⟨q1, q2⟩
      clear q1 q2
      obtain ⟨sb, hsb⟩ : ∃ sb, sameB ⟨s, l⟩ ⟨s2, l2⟩ = sb := ⟨_, rfl⟩
      rw [hsb] at HSB HNO ⊢
      clear hsb HNO
      obtain ⟨f0, f1, g0, g1⟩ := HS.out V (Kept.refl [] V)
      have T1 : Hid True := trivial
      have HKc : Hid (Kept [] V V) := Kept.refl [] V
      go_enter Tryd.func10, Tryd.ntmps10
      go_upto_region 1 with fail
      rw [HVV.out]
      clear HVV
      go_region_held3 (fun w' => w'.cell? ⟨w.heap.size, 0, none⟩ = some (.slice a1 s.length c1) ∧ w'.cell? ⟨w.heap.size, 1, none⟩ = some (.slice a2 l.length c2) ∧ w'.cell? ⟨w.heap.size + 1, 0, none⟩ = some (.slice a3 s2.length c3) ∧ w'.cell? ⟨w.heap.size + 1, 1, none⟩ = some (.slice a4 l2.length c4))
        ((refine HS.out _ ?_; (first | exact HKc.out | exact HKc.out.drew)))
        (first
          | (clear T1; go_at_call 31; refine (HN1.out _ (by first | exact HKc.out | exact HKc.out.drew)).mono ?_; rintro e Wa ⟨x1, m1, d1, x2, m2, d2, r1, rfl, HI1, HM1, hka⟩; have HKn : Hid (Kept [] V Wa) := (by first | exact HKc.out.trans hka.out (by simp) (by simp) | exact HKc.out.drew.trans hka.out (by simp) (by simp)); clear HKc hka; have HKc : Hid (Kept [] V Wa) := HKn.out; clear HKn; have T2 : Hid True := trivial)
          | (clear T2; go_at_call 31; refine (HN2.out _ HKc.out).mono ?_; rintro e Wb ⟨y1, m3, d3, y2, m4, d4, r2, rfl, HI2, HM2, hkb⟩; have HKn : Hid (Kept [] V Wb) := HKc.out.trans hkb.out (by simp) (by simp); have HI3 : Hid (IsW Wb (.slice x1 m1 d1) (.slice x2 m2 d2) r1) := HI1.out.kept hkb.out; clear HKc hkb HI1; have HKc : Hid (Kept [] V Wb) := HKn.out; clear HKn)
          | (go_at_call 30; refine (HSW.out _ _ _ _ _ r1 r2 HI3.out HI2.out).mono ?_; rintro e Wc ⟨rfl, kc⟩; rw [HSB.out r1 r2 HM1.out HM2.out HQ.out.1 HQ.out.2]; have HKn : Hid (Kept [] V Wc) := HKc.out.trans kc (by simp) (by simp); clear HKc kc; have HKc : Hid (Kept [] V Wc) := HKn.out; clear HKn))
      all_goals go_wp2
      all_goals go_ret
      all_goals exact ⟨rfl, HKV.out.trans HKc.out (by simp) (by simp)⟩
    · have q2d : decide (0 < l2.length) = false := decide_eq_false q2
      have q2e : decide ((0 : Int) < (l2.length : Int)) = false := decide_eq_false (by omega)
      rw [HNO.out (fun h => q2 h.2)]
      clear q1 q2 HNO HSB HN1 HN2 HSW
      go_enter Tryd.func10, Tryd.ntmps10
      go_upto_region 1 with fail
      rw [HVV.out]
      clear HVV
      refine wp_region_quiet (C := fun w' => Kept [] V w') (by kernel_rfl) (by kernel_rfl) ((Kept.refl [] V).drew) ?_
      simp only []
      go_big_quiet_want
      refine ⟨.pointer (some ⟨w.heap.size, 1, none⟩), fun w' hw => (by go_simp), ?_⟩
      go_big_quiet_on
      simp only [Act.put, Array.setIfInBounds, List.size_toArray, List.length_cons, List.length_nil, Nat.reduceAdd, Nat.reduceLT, ↓reduceDIte, List.set_toArray, List.set_cons_succ, List.set_cons_zero]
      go_big_quiet_want
      refine ⟨.slice a2 l.length c2, fun w' hw => ?_, ?_⟩
      · obtain ⟨f0, f1, g0, g1⟩ := HS.out w' hw
        go_simp
      go_big_quiet_on
      simp only [Act.put, Array.setIfInBounds, List.size_toArray, List.length_cons, List.length_nil, Nat.reduceAdd, Nat.reduceLT, ↓reduceDIte, List.set_toArray, List.set_cons_succ, List.set_cons_zero]
      go_big_quiet_want
      refine ⟨.int .i64 (l.length : Nat), fun w' hw => (by go_simp), ?_⟩
      go_big_quiet_on
      simp only [Act.put, Array.setIfInBounds, List.size_toArray, List.length_cons, List.length_nil, Nat.reduceAdd, Nat.reduceLT, ↓reduceDIte, List.set_toArray, List.set_cons_succ, List.set_cons_zero]
      go_big_quiet_want
      refine ⟨.bool true, fun w' hw => (by go_simp), ?_⟩
      go_big_quiet_on
      simp only [Act.put, Array.setIfInBounds, List.size_toArray, List.length_cons, List.length_nil, Nat.reduceAdd, Nat.reduceLT, ↓reduceDIte, List.set_toArray, List.set_cons_succ, List.set_cons_zero]
      go_big_quiet_want
      refine ⟨.bool true, fun w' hw => (by go_simp), ?_⟩
      go_big_quiet_on
      simp only [Act.put, Array.setIfInBounds, List.size_toArray, List.length_cons, List.length_nil, Nat.reduceAdd, Nat.reduceLT, ↓reduceDIte, List.set_toArray, List.set_cons_succ, List.set_cons_zero]
      go_big_quiet_want
      refine ⟨.pointer (some ⟨w.heap.size + 1, 1, none⟩), fun w' hw => (by go_simp), ?_⟩
      go_big_quiet_on
      simp only [Act.put, Array.setIfInBounds, List.size_toArray, List.length_cons, List.length_nil, Nat.reduceAdd, Nat.reduceLT, ↓reduceDIte, List.set_toArray, List.set_cons_succ, List.set_cons_zero]
      go_big_quiet_want
      refine ⟨.slice a4 l2.length c4, fun w' hw => ?_, ?_⟩
      · obtain ⟨f0, f1, g0, g1⟩ := HS.out w' hw
        go_simp
      go_big_quiet_on
      simp only [Act.put, Array.setIfInBounds, List.size_toArray, List.length_cons, List.length_nil, Nat.reduceAdd, Nat.reduceLT, ↓reduceDIte, List.set_toArray, List.set_cons_succ, List.set_cons_zero]
      go_big_quiet_want
      refine ⟨.int .i64 (l2.length : Nat), fun w' hw => (by go_simp), ?_⟩
      go_big_quiet_on
      simp only [Act.put, Array.setIfInBounds, List.size_toArray, List.length_cons, List.length_nil, Nat.reduceAdd, Nat.reduceLT, ↓reduceDIte, List.set_toArray, List.set_cons_succ, List.set_cons_zero]
      go_big_quiet_want
      refine ⟨.bool false, fun w' hw => (by go_simp), ?_⟩
      go_big_quiet_on
      simp only [Act.put, Array.setIfInBounds, List.size_toArray, List.length_cons, List.length_nil, Nat.reduceAdd, Nat.reduceLT, ↓reduceDIte, List.set_toArray, List.set_cons_succ, List.set_cons_zero]
      go_big_quiet_want
      refine ⟨.bool false, fun w' hw => (by go_simp), ?_⟩
      go_big_quiet_on
      simp only [Act.put, Array.setIfInBounds, List.size_toArray, List.length_cons, List.length_nil, Nat.reduceAdd, Nat.reduceLT, ↓reduceDIte, List.set_toArray, List.set_cons_succ, List.set_cons_zero]
      go_big_quiet_want
      refine ⟨.bool false, fun w' hw => (by go_simp), ?_⟩
      go_big_quiet_on
      simp only [Act.put, Array.setIfInBounds, List.size_toArray, List.length_cons, List.length_nil, Nat.reduceAdd, Nat.reduceLT, ↓reduceDIte, List.set_toArray, List.set_cons_succ, List.set_cons_zero]
      go_big_quiet_skip
      go_big_quiet_skip
      go_big_quiet_skip
      go_big_quiet_skip
      go_big_quiet_skip
      go_big_quiet_want
      refine ⟨.bool false, fun w' hw => (by go_simp), ?_⟩
      go_big_quiet_on
      simp only [Act.put, Array.setIfInBounds, List.size_toArray, List.length_cons, List.length_nil, Nat.reduceAdd, Nat.reduceLT, ↓reduceDIte, List.set_toArray, List.set_cons_succ, List.set_cons_zero]
      go_big_quiet_want
      refine ⟨.bool false, fun w' hw => (by go_simp), ?_⟩
      go_big_quiet_on
      simp only [Act.put, Array.setIfInBounds, List.size_toArray, List.length_cons, List.length_nil, Nat.reduceAdd, Nat.reduceLT, ↓reduceDIte, List.set_toArray, List.set_cons_succ, List.set_cons_zero]
      refine wpQuiet_nil ?_
      intro W1 hk1
      go_wp2
      go_ret
      exact ⟨rfl, HKV.out.trans hk1 (by simp) (by simp)⟩
  · have q1d : decide (0 < l.length) = false := decide_eq_false q1
    have q1e : decide ((0 : Int) < (l.length : Int)) = false := decide_eq_false (by omega)
    rw [HNO.out (fun h => q1 h.1)]
    clear q1 HNO HSB HN1 HN2 HSW
    go_enter Tryd.func10, Tryd.ntmps10
    go_upto_region 1 with fail
    rw [HVV.out]
    clear HVV
    refine wp_region_quiet (C := fun w' => Kept [] V w') (by kernel_rfl) (by kernel_rfl) ((Kept.refl [] V).drew) ?_
    simp only []
    go_big_quiet_want
    refine ⟨.pointer (some ⟨w.heap.size, 1, none⟩), fun w' hw => (by go_simp), ?_⟩
    go_big_quiet_on
    simp only [Act.put, Array.setIfInBounds, List.size_toArray, List.length_cons, List.length_nil, Nat.reduceAdd, Nat.reduceLT, ↓reduceDIte, List.set_toArray, List.set_cons_succ, List.set_cons_zero]
    go_big_quiet_want
    refine ⟨.slice a2 l.length c2, fun w' hw => ?_, ?_⟩
    · obtain ⟨f0, f1, g0, g1⟩ := HS.out w' hw
      go_simp
    go_big_quiet_on
    simp only [Act.put, Array.setIfInBounds, List.size_toArray, List.length_cons, List.length_nil, Nat.reduceAdd, Nat.reduceLT, ↓reduceDIte, List.set_toArray, List.set_cons_succ, List.set_cons_zero]
    go_big_quiet_want
    refine ⟨.int .i64 (l.length : Nat), fun w' hw => (by go_simp), ?_⟩
    go_big_quiet_on
    simp only [Act.put, Array.setIfInBounds, List.size_toArray, List.length_cons, List.length_nil, Nat.reduceAdd, Nat.reduceLT, ↓reduceDIte, List.set_toArray, List.set_cons_succ, List.set_cons_zero]
    go_big_quiet_want
    refine ⟨.bool false, fun w' hw => (by go_simp), ?_⟩
    go_big_quiet_on
    simp only [Act.put, Array.setIfInBounds, List.size_toArray, List.length_cons, List.length_nil, Nat.reduceAdd, Nat.reduceLT, ↓reduceDIte, List.set_toArray, List.set_cons_succ, List.set_cons_zero]
    go_big_quiet_want
    refine ⟨.bool false, fun w' hw => (by go_simp), ?_⟩
    go_big_quiet_on
    simp only [Act.put, Array.setIfInBounds, List.size_toArray, List.length_cons, List.length_nil, Nat.reduceAdd, Nat.reduceLT, ↓reduceDIte, List.set_toArray, List.set_cons_succ, List.set_cons_zero]
    go_big_quiet_skip
    go_big_quiet_skip
    go_big_quiet_skip
    go_big_quiet_skip
    go_big_quiet_want
    refine ⟨.bool false, fun w' hw => (by go_simp), ?_⟩
    go_big_quiet_on
    simp only [Act.put, Array.setIfInBounds, List.size_toArray, List.length_cons, List.length_nil, Nat.reduceAdd, Nat.reduceLT, ↓reduceDIte, List.set_toArray, List.set_cons_succ, List.set_cons_zero]
    go_big_quiet_want
    refine ⟨.bool false, fun w' hw => (by go_simp), ?_⟩
    go_big_quiet_on
    simp only [Act.put, Array.setIfInBounds, List.size_toArray, List.length_cons, List.length_nil, Nat.reduceAdd, Nat.reduceLT, ↓reduceDIte, List.set_toArray, List.set_cons_succ, List.set_cons_zero]
    go_big_quiet_skip
    go_big_quiet_skip
    go_big_quiet_skip
    go_big_quiet_skip
    go_big_quiet_skip
    go_big_quiet_want
    refine ⟨.bool false, fun w' hw => (by go_simp), ?_⟩
    go_big_quiet_on
    simp only [Act.put, Array.setIfInBounds, List.size_toArray, List.length_cons, List.length_nil, Nat.reduceAdd, Nat.reduceLT, ↓reduceDIte, List.set_toArray, List.set_cons_succ, List.set_cons_zero]
    go_big_quiet_want
    refine ⟨.bool false, fun w' hw => (by go_simp), ?_⟩
    go_big_quiet_on
    simp only [Act.put, Array.setIfInBounds, List.size_toArray, List.length_cons, List.length_nil, Nat.reduceAdd, Nat.reduceLT, ↓reduceDIte, List.set_toArray, List.set_cons_succ, List.set_cons_zero]
    refine wpQuiet_nil ?_
    intro W1 hk1
    go_wp2
    go_ret
    exact ⟨rfl, HKV.out.trans hk1 (by simp) (by simp)⟩
end Go.Proofs.YtjnbfiikgogknaaDoor
