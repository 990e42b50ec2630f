/- words.Same. -/
import Derived.Test.YtamfnefnaelgfaaDoorWdPre
namespace Go.Proofs.YtamfnefnaelgfaaDoor
open Go.RowKit
attribute [local go_sem ↓] Go.wp_at_zero Go.wp_at_succ

/-- Are they the same infinite word? -/
def sameB (a b : Wd) : Bool := decide (0 < a.loop.length) && decide (0 < b.loop.length) && (List.range (max a.stem.length b.stem.length + a.loop.length + b.loop.length)).all fun i => a.at i == b.at i
theorem sameB_iff {a b : Wd} (ha : 0 < a.loop.length) (hb : 0 < b.loop.length) : sameB a b = true ↔ ∀ i, a.at i = b.at i := by
  unfold sameB
  rw [decide_eq_true ha, decide_eq_true hb, Bool.true_and, Bool.true_and, List.all_eq_true]
  constructor
  · intro h
    exact Wd.agree ha hb (fun i hi => by simpa using h i (by simpa using hi))
  · intro h i _
    simpa using h i
theorem same_norm {a b ra rb : Wd} (ha : 0 < a.loop.length) (hb : 0 < b.loop.length) (h1 : NormOf a ra) (h2 : NormOf b rb) : sameB a b = true ↔ ra = rb := by
  obtain ⟨n1, e1⟩ := h1.2 (fun e => by rw [e] at ha; simp at ha)
  obtain ⟨n2, e2⟩ := h2.2 (fun e => by rw [e] at hb; simp at hb)
  rw [sameB_iff ha hb]
  constructor
  · intro h
    exact n1.unique n2 (fun i => by rw [e1, e2, h])
  · rintro rfl i
    rw [← e1, ← e2]

set_option maxHeartbeats 800000 in
theorem same_out (va la vb lb : Value) (a b : Wd) (w : World) (h1 : IsW w va la a) (h2 : IsW w vb lb b) (h0 : a.loop.length = 0 ∨ b.loop.length = 0) :
    Calls Tryd.prog 19 #[.agg #[va, la], .agg #[vb, lb]] w fun e w' => e = .returned (.bool (sameB a b)) ∧ Kept [] w w' := by
  have hF : sameB a b = false := by
    unfold sameB
    rcases h0 with h | h
    · rw [decide_eq_false (by omega)]; simp
    · rw [decide_eq_false (p := 0 < b.loop.length) (by omega)]; simp
  rw [hF]
  clear hF
  obtain ⟨a1, c1, rfl, _, _⟩ := h1.st.form
  obtain ⟨a2, c2, rfl, _, _⟩ := h1.lp.form
  obtain ⟨a3, c3, rfl, _, _⟩ := h2.st.form
  obtain ⟨a4, c4, rfl, _, _⟩ := h2.lp.form
  have hN := two_new w (.cells #[.slice a1 a.stem.length c1, .slice a2 a.loop.length c2] 47) (.cells #[.slice a3 b.stem.length c3, .slice a4 b.loop.length c4] 47)
  have HN : Hid _ := hN
  clear h1 h2 hN
  by_cases h : a.loop.length = 0
  · have b4 : decide (0 < a.loop.length) = false := decide_eq_false (by omega)
    clear h0 h
    go_enter Tryd.func19, Tryd.ntmps19
    go_wp2_with (go_at_call 41; refine (endless_any _ _ _ _ _).mono ?_; rintro e w1 ⟨rfl, hk⟩; rw [b4]; have HK : Hid (Kept [] w w1) := Kept.trans (F := []) (G := []) (H := []) (((Kept.refl [] w).alloc _).alloc _) hk (by simp) (by simp); clear hk)
    go_ret
    exact ⟨rfl, HK.out⟩
  · have b4 : decide (0 < a.loop.length) = true := decide_eq_true (by omega)
    have b5 : decide (0 < b.loop.length) = false := decide_eq_false (by omega)
    have HE1 : Hid (∀ W, Calls Tryd.prog 41 #[.agg #[.slice a1 a.stem.length c1, .slice a2 a.loop.length c2]] W fun e w' => e = .returned (.bool true) ∧ Kept [] W w') := fun W => by have := endless_any (.slice a1 a.stem.length c1) a2 a.loop.length c2 W; rw [b4] at this; exact this
    have HE2 : Hid (∀ W, Calls Tryd.prog 41 #[.agg #[.slice a3 b.stem.length c3, .slice a4 b.loop.length c4]] W fun e w' => e = .returned (.bool false) ∧ Kept [] W w') := fun W => by have := endless_any (.slice a3 b.stem.length c3) a4 b.loop.length c4 W; rw [b5] at this; exact this
    clear h0 h b4 b5
    go_enter Tryd.func19, Tryd.ntmps19
    go_wp2_with (first | (go_at_call 41; refine (HE1.out _).mono ?_; rintro e w1 ⟨rfl, hk⟩; have c5 : Wd2 w1 (w.heap.size + 1) (.slice a3 b.stem.length c3) (.slice a4 b.loop.length c4) := hk.at HN.out.2 (by simp); obtain ⟨d0, d1, _, _⟩ := c5.cells; have HK : Hid (Kept [] w w1) := Kept.trans (F := []) (G := []) (H := []) (((Kept.refl [] w).alloc _).alloc _) hk (by simp) (by simp); clear hk HE1 c5) | (go_at_call 41; refine (HE2.out _).mono ?_; rintro e w2 ⟨rfl, hk⟩; have HK2 : Hid (Kept [] w w2) := HK.out.trans hk (by simp) (by simp); clear hk))
    go_ret
    exact ⟨rfl, HK2.out⟩

/-- A word that was made, and where. -/
def MadeAt (W : World) (q : Wd) (e : Ending) (W3 : World) : Prop := ∃ a3 n3 c3 a4 n4 c4 r, e = .returned (.agg #[.slice a3 n3 c3, .slice a4 n4 c4]) ∧ Kept [] W W3 ∧ NewW W.heap.size W3 (.slice a3 n3 c3) (.slice a4 n4 c4) r ∧ NormOf q r
theorem normal_at (sv lv : Value) (q : Wd) (w : World) (h : IsW w sv lv q) : Calls Tryd.prog 11 #[.agg #[sv, lv]] w (MadeAt w q) := by
  refine (normal_any sv lv q w h.st h.lp h.few).mono ?_
  rintro e W3 ⟨s3, l3, r, rfl, hn, ho, k3⟩
  obtain ⟨a3, c3, e3⟩ := own_form hn.own1
  obtain ⟨a4, c4, e4⟩ := own_form hn.own2
  subst e3 e4
  exact ⟨a3, _, c3, a4, _, c4, r, rfl, k3, hn, ho⟩
/-- The two words are stored over the two that came. -/
theorem same_mem {w w2 wb : World} {x1 x2 y1 y2 p q r s : Value} {ra rb : Wd} (hk : Kept [] w w2) (h1 : Wd2 w2 w.heap.size x1 x2) (h2 : Wd2 w2 (w.heap.size + 1) y1 y2) (kb : Kept [] w2 wb) (ha : NewW w2.heap.size wb p q ra) (hb : NewW w2.heap.size wb r s rb) :
    ∃ E, (((wb.setCell ⟨w.heap.size, 0, none⟩ p).setCell ⟨w.heap.size, 1, none⟩ q).setCell ⟨w.heap.size + 1, 0, none⟩ r).setCell ⟨w.heap.size + 1, 1, none⟩ s = E ∧ Wd2 E w.heap.size p q ∧ Wd2 E (w.heap.size + 1) r s ∧ NewW w2.heap.size E p q ra ∧ NewW w2.heap.size E r s rb ∧ Kept [] w E := by
  refine ⟨_, rfl, ?_, ?_, ?_, ?_, ?_⟩
  · have := (h1.kept kb).set p q
    exact this.keptF (F := [w.heap.size + 1]) (((Kept.refl _ _).setCell (.inl (by simp)) _).setCell (.inl (by simp)) _) (by simp)
  · have := (h2.kept kb).keptF (F := [w.heap.size]) (W' := (wb.setCell ⟨w.heap.size, 0, none⟩ p).setCell ⟨w.heap.size, 1, none⟩ q) (((Kept.refl _ _).setCell (.inl (by simp)) _).setCell (.inl (by simp)) _) (by simp)
    exact this.set r s
  · have l2 := lt_of h2
    exact ha.keptF (F := [w.heap.size, w.heap.size + 1]) (((((Kept.refl _ _).setCell (.inl (by simp)) _).setCell (.inl (by simp)) _).setCell (.inl (by simp)) _).setCell (.inl (by simp)) _) (by intro x hx; simp at hx; omega)
  · have l2 := lt_of h2
    exact hb.keptF (F := [w.heap.size, w.heap.size + 1]) (((((Kept.refl _ _).setCell (.inl (by simp)) _).setCell (.inl (by simp)) _).setCell (.inl (by simp)) _).setCell (.inl (by simp)) _) (by intro x hx; simp at hx; omega)
  · exact kept_set2 (kept_set2 (hk.trans kb (by simp) (by simp)) (Nat.le_refl _) _ _) (by simp) _ _
theorem quiet_kept {w W W' : World} (k : Kept [] w W) (q : Quiet W W') : Kept [] w W' := k.trans q.kept (by simp) (by simp)
set_option maxHeartbeats 4000000 in
set_option maxRecDepth 10000 in
theorem same_in (va la vb lb : Value) (a b : Wd) (w : World) (h1 : IsW w va la a) (h2 : IsW w vb lb b) (ha : 0 < a.loop.length) (hb : 0 < b.loop.length) :
    Calls Tryd.prog 19 #[.agg #[va, la], .agg #[vb, lb]] w fun e w' => e = .returned (.bool (sameB a b)) ∧ Kept [] w w' := by
  have HA : Hid (∀ W, Kept [] w W → Calls Tryd.prog 11 #[.agg #[va, la]] W (MadeAt W a)) := fun W k => normal_at va la a W (h1.kept k)
  have HB : Hid (∀ W, Kept [] w W → Calls Tryd.prog 11 #[.agg #[vb, lb]] W (MadeAt W b)) := fun W k => normal_at vb lb b W (h2.kept k)
  obtain ⟨a1, c1, rfl, _, _⟩ := h1.st.form
  obtain ⟨a2, c2, rfl, _, _⟩ := h1.lp.form
  obtain ⟨a3, c3, rfl, _, _⟩ := h2.st.form
  obtain ⟨a4, c4, rfl, _, _⟩ := h2.lp.form
  have hN := two_new w (.cells #[.slice a1 a.stem.length c1, .slice a2 a.loop.length c2] 47) (.cells #[.slice a3 b.stem.length c3, .slice a4 b.loop.length c4] 47)
  have HN : Hid _ := hN
  have b4 : decide (0 < a.loop.length) = true := decide_eq_true ha
  have b5 : decide (0 < b.loop.length) = true := decide_eq_true hb
  have HE1 : Hid (∀ W, Calls Tryd.prog 41 #[.agg #[.slice a1 a.stem.length c1, .slice a2 a.loop.length c2]] W fun e w' => e = .returned (.bool true) ∧ Kept [] W w') := fun W => by have := endless_any (.slice a1 a.stem.length c1) a2 a.loop.length c2 W; rw [b4] at this; exact this
  have HE2 : Hid (∀ W, Calls Tryd.prog 41 #[.agg #[.slice a3 b.stem.length c3, .slice a4 b.loop.length c4]] W fun e w' => e = .returned (.bool true) ∧ Kept [] W w') := fun W => by have := endless_any (.slice a3 b.stem.length c3) a4 b.loop.length c4 W; rw [b5] at this; exact this
  clear h1 h2 hN b4 b5
  go_enter Tryd.func19, Tryd.ntmps19
  go_wp2_with (first | (go_at_call 41; refine (HE1.out _).mono ?_; rintro e w1 ⟨rfl, hk⟩; have c5 : Wd2 w1 (w.heap.size + 1) (.slice a3 b.stem.length c3) (.slice a4 b.loop.length c4) := hk.at HN.out.2 (by simp); obtain ⟨d0, d1, _, _⟩ := c5.cells; have HC5 : Hid (Wd2 w1 w.heap.size (.slice a1 a.stem.length c1) (.slice a2 a.loop.length c2)) := hk.at HN.out.1 (by simp); have HC6 : Hid (Wd2 w1 (w.heap.size + 1) (.slice a3 b.stem.length c3) (.slice a4 b.loop.length c4)) := c5; have HK : Hid (Kept [] w w1) := Kept.trans (F := []) (G := []) (H := []) (((Kept.refl [] w).alloc _).alloc _) hk (by simp) (by simp); clear hk HE1 c5) | (go_at_call 41; refine (HE2.out _).mono ?_; rintro e w2 ⟨rfl, hk⟩; have HK2 : Hid (Kept [] w w2) := HK.out.trans hk (by simp) (by simp); have HC7 : Hid (Wd2 w2 w.heap.size (.slice a1 a.stem.length c1) (.slice a2 a.loop.length c2)) := HC5.out.kept hk; have HC8 : Hid (Wd2 w2 (w.heap.size + 1) (.slice a3 b.stem.length c3) (.slice a4 b.loop.length c4)) := HC6.out.kept hk; clear hk HE2 d0 d1))
  obtain ⟨x0, x1, x2, x3⟩ := HC7.out.cells
  obtain ⟨y0, y1, y2, y3⟩ := HC8.out.cells
  go_region_with (first
    | (go_at_call 11; (with_reducible show Calls _ _ #[.agg #[.slice a1 _ _, _]] _ _); refine (HA.out _ (by first | exact HK2.out | exact HK2.out.drew | exact (HK2.out.trans HKB.out (by simp) (by simp)) | exact (HK2.out.trans HKB.out (by simp) (by simp)).drew)).mono ?_; rintro e wa hm; unfold MadeAt at hm; obtain ⟨p1, p2, p3, p4, p5, p6, ra, he, ka, hna, hoa⟩ := hm; subst he; have HKA : Hid (Kept [] w2 wa) := (by first | exact ka | exact (Kept.refl [] w2).drew.trans ka (by simp) (by simp) | exact HKB.out.trans ka (by simp) (by simp) | exact HKB.out.drew.trans ka (by simp) (by simp)); have HNA : Hid (NewW w2.heap.size wa (.slice p1 p2 p3) (.slice p4 p5 p6) ra) := hna.low (by first | exact Nat.le_refl _ | exact HKB.out.size); have HOA : Hid (NormOf a ra) := hoa; (try have HNB2 : Hid (NewW w2.heap.size wa (.slice q1 q2 q3) (.slice q4 q5 q6) rb) := HNB.out.kept (by first | exact ka | exact (Kept.refl [] _).drew.trans ka (by simp) (by simp))); obtain ⟨u0, u1, u2, u3⟩ := (HC7.out.kept HKA.out).cells; obtain ⟨v0, v1, v2, v3⟩ := (HC8.out.kept HKA.out).cells; clear ka hna hoa)
    | (go_at_call 11; (with_reducible show Calls _ _ #[.agg #[.slice a3 _ _, _]] _ _); refine (HB.out _ (by first | exact HK2.out | exact HK2.out.drew | exact (HK2.out.trans HKA.out (by simp) (by simp)) | exact (HK2.out.trans HKA.out (by simp) (by simp)).drew)).mono ?_; rintro e wb hm; unfold MadeAt at hm; obtain ⟨q1, q2, q3, q4, q5, q6, rb, he, kb, hnb, hob⟩ := hm; subst he; have HKB : Hid (Kept [] w2 wb) := (by first | exact kb | exact (Kept.refl [] w2).drew.trans kb (by simp) (by simp) | exact HKA.out.trans kb (by simp) (by simp) | exact HKA.out.drew.trans kb (by simp) (by simp)); have HNB : Hid (NewW w2.heap.size wb (.slice q1 q2 q3) (.slice q4 q5 q6) rb) := hnb.low (by first | exact Nat.le_refl _ | exact HKA.out.size); have HOB : Hid (NormOf b rb) := hob; (try have HNA2 : Hid (NewW w2.heap.size wb (.slice p1 p2 p3) (.slice p4 p5 p6) ra) := HNA.out.kept (by first | exact kb | exact (Kept.refl [] _).drew.trans kb (by simp) (by simp))); obtain ⟨z0, z1, z2, z3⟩ := (HC7.out.kept HKB.out).cells; obtain ⟨t0, t1, t2, t3⟩ := (HC8.out.kept HKB.out).cells; clear kb hnb hob))
  all_goals
    obtain ⟨E, hE, e1, e2, e3, e4, e5⟩ := same_mem HK2.out HC7.out HC8.out HKB.out HNA2.out HNB.out
    have HSN : Hid _ := same_norm ha hb HOA.out HOB.out
    have HE3 : Hid (NewW w2.heap.size E (.slice p1 p2 p3) (.slice p4 p5 p6) ra) := e3
    have HE4 : Hid (NewW w2.heap.size E (.slice q1 q2 q3) (.slice q4 q5 q6) rb) := e4
    have HE5 : Hid (Kept [] w E) := e5
    have HE1 : Hid (Wd2 E w.heap.size (.slice p1 p2 p3) (.slice p4 p5 p6)) := e1
    have HE2 : Hid (Wd2 E (w.heap.size + 1) (.slice q1 q2 q3) (.slice q4 q5 q6)) := e2
    rw [hE]
    clear hE e3 e4 e5 HA HB HC5 HC6 HC7 HC8 HK HK2 HKA HKB HNA HNB HNA2 HN HOA HOB x0 x1 x2 x3 y0 y1 y2 y3 u0 u1 u2 u3 v0 v1 v2 v3 z0 z1 z2 z3 t0 t1 t2 t3
    obtain ⟨f0, f1, _, _⟩ := e1.cells
    obtain ⟨g0, g1, _, _⟩ := e2.cells
    clear e1 e2
    have HQ1 : Hid (Calls Tryd.prog 49 #[.slice p1 p2 p3, .slice q1 q2 q3] E fun e w' => e = .returned (.bool (decide (ra.stem = rb.stem))) ∧ Quiet E w') := equal_any _ _ _ _ _ HE3.out.lets1 HE4.out.lets1
    have HQ2 : Hid (∀ W, Quiet E W → Calls Tryd.prog 49 #[.slice p4 p5 p6, .slice q4 q5 q6] W fun e w' => e = .returned (.bool (decide (ra.loop = rb.loop))) ∧ Quiet W w') := fun W k => equal_any _ _ _ _ _ (HE3.out.lets2.kept k.kept) (HE4.out.lets2.kept k.kept)
    by_cases hs : ra.stem = rb.stem
    · have HB1 : Hid (sameB a b = decide (ra.loop = rb.loop)) := by
        show sameB a b = _
        obtain ⟨s1, l1⟩ := ra
        obtain ⟨s2, l2⟩ := rb
        simp only at hs
        subst hs
        rw [Bool.eq_iff_iff, HSN.out]
        simp
      rw [decide_eq_true hs] at HQ1
      clear hs HSN
      go_wp2_with (first | (go_at_call 49; refine HQ1.out.mono ?_; rintro e w5 ⟨rfl, hq5⟩; have h6 := HE1.out.kept hq5.kept; have h7 := HE2.out.kept hq5.kept; obtain ⟨f2, f3, _, _⟩ := h6.cells; obtain ⟨g2, g3, _, _⟩ := h7.cells; have HQ5 : Hid (Quiet E w5) := hq5; clear h6 h7 hq5 HQ1) | (go_at_call 49; refine (HQ2.out _ HQ5.out).mono ?_; rintro e w6 ⟨rfl, hq6⟩; have HQ6 : Hid (Quiet w5 w6) := hq6; clear hq6))
      go_ret
      exact ⟨ret_bool HB1.out.symm, quiet_kept (quiet_kept HE5.out HQ5.out) HQ6.out⟩
    · have HB1 : Hid (sameB a b = false) := by
        show sameB a b = false
        rw [Bool.eq_false_iff]
        intro h
        exact hs (by rw [HSN.out.1 h])
      rw [decide_eq_false hs] at HQ1
      clear hs HSN
      go_wp2_with (first | (go_at_call 49; refine HQ1.out.mono ?_; rintro e w5 ⟨rfl, hq5⟩; have HQ5 : Hid (Quiet E w5) := hq5; clear hq5 HQ1))
      go_ret
      exact ⟨ret_bool HB1.out.symm, quiet_kept HE5.out HQ5.out⟩
/-- words.Same, of whatever two words. -/
theorem same_any (va la vb lb : Value) (a b : Wd) (w : World) (h1 : IsW w va la a) (h2 : IsW w vb lb b) :
    Calls Tryd.prog 19 #[.agg #[va, la], .agg #[vb, lb]] w fun e w' => e = .returned (.bool (sameB a b)) ∧ Kept [] w w' := by
  by_cases h0 : a.loop.length = 0 ∨ b.loop.length = 0
  · exact same_out va la vb lb a b w h1 h2 h0
  · exact same_in va la vb lb a b w h1 h2 (by omega) (by omega)
end Go.Proofs.YtamfnefnaelgfaaDoor
