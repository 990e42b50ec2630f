/- The document's sameness: SameLetters, SameWord, Same. -/
import Derived.Test.YtamfnefnaelgfaaDoorWdRefM
import Derived.Test.YtamfnefnaelgfaaDoorWdSame
import Derived.Deep.RegionHeld3
import Derived.Test.YtamfnefnaelgfaaDoorHC
import Derived.Test.YtamfnefnaelgfaaDoorWdCheck
import Derived.Deep.AppendLies
namespace Go.Proofs.YtamfnefnaelgfaaDoor
open Go.RowKit Go.Shelf
attribute [local go_sem ↓] Go.wp_at_zero Go.wp_at_succ

set_option maxHeartbeats 1600000 in
theorem refLetters_any (v u : Value) (xs ys : List Nat) (w : World) (hx : Lets w v xs) (hy : Lets w u ys) :
    Calls Tryd.prog 65 #[v, u] w fun e w' => e = .returned (.bool (decide (xs = ys))) ∧ Quiet w w' := by
  have fx := hx.few
  have fy := hy.few
  by_cases hlen : xs.length = ys.length
  · by_cases h0 : 0 < xs.length
    · obtain ⟨b, o, c, rfl, _, _, HC⟩ := hx.there h0
      obtain ⟨b2, o2, c2, rfl, _, _, HC2⟩ := hy.there (by omega)
      have hnl : ((xs.length : Int) != (ys.length : Int)) = false := by simp; omega
      have HC' : Hid (∀ i, i < xs.length → w.cell? ⟨b, o + i, none⟩ = some (.int .u16 (xs.getD i 0 : Nat))) := HC
      have HC2' : Hid (∀ i, i < ys.length → w.cell? ⟨b2, o2 + i, none⟩ = some (.int .u16 (ys.getD i 0 : Nat))) := HC2
      have HL : Hid (xs.length = ys.length) := hlen
      clear hx hy HC HC2 hlen
      go_enter Tryd.func65, Tryd.ntmps65
      go_wp2_with fail
      go_loopw [5] (fun i wr => ∃ k : Nat, k ≤ xs.length ∧ i = .int .i64 k ∧ (∀ j, j < k → xs.getD j 0 = ys.getD j 0) ∧ Quiet w wr) (fun i _ => xs.length - (intOf i).toNat)
      case atStart => exact ⟨0, Nat.zero_le _, rfl, fun j hj => by omega, Quiet.refl _⟩
      case round =>
        obtain ⟨k, hk, rfl, hd, q, rfl⟩ := hrel
        have HD : Hid (∀ j, j < k → xs.getD j 0 = ys.getD j 0) := hd
        clear hd
        by_cases hlt : k < xs.length
        · have hlt' : (k : Int) < (xs.length : Int) := by omega
          have hlt2 : (k : Int) < (ys.length : Int) := by have := HL.out; omega
          have d1 := HC'.out k hlt
          have d2 := HC2'.out k (by have := HL.out; omega)
          have b0 : (0 : Int) ≤ (k : Int) := by omega
          by_cases he : xs.getD k 0 = ys.getD k 0
          · have HD2 : Hid (∀ j, j < k + 1 → xs.getD j 0 = ys.getD j 0) := fun j hj => by
              rcases Nat.lt_or_ge j k with h | h
              · exact HD.out j h
              · obtain rfl : j = k := by omega
                exact he
            rw [← he] at d2
            generalize xs.getD k 0 = x at d1 d2
            have hne : ((x : Int) != (x : Int)) = false := by simp
            clear he
            go_wp2_with fail
            go_quiet (fail)
            go_wp2
            go_roundw
            case rel => exact ⟨k + 1, by omega, by go_num, HD2.out, _, rfl⟩
            case measure => simp [intOf]; omega
          · have HF : Hid (decide (xs = ys) = false) := by
              show decide (xs = ys) = false
              simp; intro e; exact he (by rw [e])
            generalize xs.getD k 0 = x at d1 he
            generalize ys.getD k 0 = y at d2 he
            have hne : ((x : Int) != (y : Int)) = true := by simp; omega
            clear he
            go_wp2_with fail
            go_quiet (fail)
            go_wp2
            go_ret
            exact ⟨ret_bool HF.out.symm, quiet_more _ _ _⟩
        · have hlt' : ¬ (k : Int) < (xs.length : Int) := by omega
          have HF : Hid (decide (xs = ys) = true) := by
            show decide (xs = ys) = true
            simp; exact ext_getD HL.out (fun j hj => HD.out j (by omega))
          go_wp2
          go_ret
          exact ⟨ret_bool HF.out.symm, _, rfl⟩
    · obtain rfl : xs = [] := List.length_eq_zero_iff.1 (by omega)
      obtain rfl : ys = [] := List.length_eq_zero_iff.1 (by simpa using hlen.symm)
      obtain ⟨ad, c, rfl, _⟩ := hx.form
      obtain ⟨ad2, c2, rfl, _⟩ := hy.form
      clear hx hy
      have e0 : (([] : List Nat).length : Int) = 0 := rfl
      simp only [List.length_nil]
      go_enter Tryd.func65, Tryd.ntmps65
      go_wp2_with fail
      go_loopw [5] (fun i wr => i = .int .i64 0 ∧ wr = w) (fun _ _ => 0)
      case atStart => exact ⟨rfl, rfl⟩
      case round =>
        obtain ⟨rfl, rfl⟩ := hrel
        go_wp2
        go_ret
        exact ⟨rfl, Quiet.refl _⟩
  · have hnl : ((xs.length : Int) != (ys.length : Int)) = true := by simp; omega
    obtain ⟨ad, c, rfl, _⟩ := hx.form
    obtain ⟨ad2, c2, rfl, _⟩ := hy.form
    have HF : Hid (decide (xs = ys) = false) := by
      show decide (xs = ys) = false
      simp; intro e; exact hlen (by rw [e])
    rw [HF.out]
    clear hx hy hlen HF
    go_enter Tryd.func65, Tryd.ntmps65
    go_wp2
    go_ret
    exact ⟨rfl, Quiet.refl _⟩

set_option maxHeartbeats 1600000 in
theorem refWords_any (va la vb lb : Value) (a b : Wd) (w : World) (h1 : Lets w va a.stem) (h2 : Lets w la a.loop) (h3 : Lets w vb b.stem) (h4 : Lets w lb b.loop) :
    Calls Tryd.prog 51 #[.agg #[va, la], .agg #[vb, lb]] w fun e w' => e = .returned (.bool (eqW a b)) ∧ Kept [] w w' := by
  obtain ⟨s, l⟩ := a
  obtain ⟨s2, l2⟩ := b
  simp only at h1 h2 h3 h4
  obtain ⟨a1, c1, rfl, _⟩ := h1.form
  obtain ⟨a2, c2, rfl, _⟩ := h2.form
  obtain ⟨a3, c3, rfl, _⟩ := h3.form
  obtain ⟨a4, c4, rfl, _⟩ := h4.form
  obtain ⟨V, hV⟩ : ∃ V, (w.alloc (.cells #[.slice a1 s.length c1, .slice a2 l.length c2] 47)).alloc (.cells #[.slice a3 s2.length c3, .slice a4 l2.length c4] 47) = V := ⟨_, rfl⟩
  have kV : Kept [] w V := by rw [← hV]; exact ((Kept.refl [] w).alloc _).alloc _
  have hN := two_new w (.cells #[.slice a1 s.length c1, .slice a2 l.length c2] 47) (.cells #[.slice a3 s2.length c3, .slice a4 l2.length c4] 47)
  rw [hV] at hN
  have HA : Hid (Wd2 V w.heap.size (.slice a1 s.length c1) (.slice a2 l.length c2)) := hN.1
  have HB : Hid (Wd2 V (w.heap.size + 1) (.slice a3 s2.length c3) (.slice a4 l2.length c4)) := hN.2
  have HKV : Hid (Kept [] w V) := kV
  have HV : Hid _ := hV
  have d0 := HA.out.cells.1
  have d1 := HB.out.cells.1
  by_cases hs : s = s2
  · have HE : Hid (decide (l = l2) = eqW ⟨s, l⟩ ⟨s2, l2⟩) := by show decide (l = l2) = _; rw [← hs]; simp [eqW]
    have HS : Hid (Calls Tryd.prog 65 #[.slice a1 s.length c1, .slice a3 s2.length c3] V fun e w1 => e = .returned (.bool true) ∧ Hid (Quiet V w1)) := by
      have := refLetters_any _ _ s s2 V (h1.kept kV) (h3.kept kV)
      rw [decide_eq_true hs] at this
      exact this
    have HL : Hid (∀ W, Quiet V W → Calls Tryd.prog 65 #[.slice a2 l.length c2, .slice a4 l2.length c4] W fun e w1 => e = .returned (.bool (decide (l = l2))) ∧ Hid (Quiet W w1)) := fun W q => refLetters_any _ _ l l2 W ((h2.kept kV).kept q.kept) ((h4.kept kV).kept q.kept)
    clear h1 h2 h3 h4 hN hV kV hs
    go_enter Tryd.func51, Tryd.ntmps51
    rw [← HE.out]
    generalize decide (l = l2) = r at HL HE
    go_wp2_with (first
      | (go_at_call 65; rw [HV.out]; refine HS.out.mono ?_; clear HS; rintro e w1 ⟨rfl, HQ⟩; have e0 := (HA.out.kept HQ.out.kept).cells.2.1; have e1 := (HB.out.kept HQ.out.kept).cells.2.1)
      | (go_at_call 65; refine (HL.out _ HQ.out).mono ?_; clear HL; rintro e w2 ⟨rfl, HQ2⟩))
    go_ret
    exact ⟨rfl, kept_same (kept_same HKV.out HQ.out.kept) HQ2.out.kept⟩
  · have HE : Hid (eqW ⟨s, l⟩ ⟨s2, l2⟩ = false) := by show eqW _ _ = false; simp [eqW, hs]
    have HS : Hid (Calls Tryd.prog 65 #[.slice a1 s.length c1, .slice a3 s2.length c3] V fun e w1 => e = .returned (.bool false) ∧ Hid (Quiet V w1)) := by
      have := refLetters_any _ _ s s2 V (h1.kept kV) (h3.kept kV)
      rw [decide_eq_false hs] at this
      exact this
    clear h1 h2 h3 h4 hN hV kV hs
    rw [HE.out]
    go_enter Tryd.func51, Tryd.ntmps51
    go_wp2_with (go_at_call 65; rw [HV.out]; refine HS.out.mono ?_; clear HS; rintro e w1 ⟨rfl, HQ⟩)
    go_ret
    exact ⟨rfl, HKV.out.trans HQ.out.kept (by simp) (by simp)⟩
/-- The document's Normal, of whatever word. -/
theorem refNormal_any (sv lv : Value) (q : Wd) (w : World) (h : IsW w sv lv q) (hf : q.stem.length + q.loop.length ≤ 100000000) : Calls Tryd.prog 52 #[.agg #[sv, lv]] w (RefMade w q) := by
  obtain ⟨st, lp⟩ := q
  obtain ⟨ads, cs, rfl, _, _⟩ := h.st.form
  by_cases h0 : 0 < lp.length
  · obtain ⟨b, o, c, rfl, _⟩ := h.lp.there h0
    exact refNormal_some ads cs b o c st lp w h.st h.lp h0 hf
  · obtain rfl : lp = [] := List.length_eq_zero_iff.1 (by omega)
    obtain ⟨ad, c, rfl, _, _⟩ := h.lp.form
    exact refNormal_none ads cs ad c st w
theorem same_norms {a b r1 r2 : Wd} (ha : 0 < a.loop.length) (hb : 0 < b.loop.length) (h1 : NormOf a r1) (h2 : NormOf b r2) : eqW r1 r2 = sameB a b := by
  obtain ⟨n1, e1⟩ := h1.2 (fun e => by rw [e] at ha; simp at ha)
  obtain ⟨n2, e2⟩ := h2.2 (fun e => by rw [e] at hb; simp at hb)
  rw [Bool.eq_iff_iff, eqW_iff, sameB_iff ha hb]
  constructor
  · rintro rfl i
    rw [← e1, e2]
  · intro h
    exact n1.unique n2 (fun i => by rw [e1, e2, h])
theorem sameB_none {a b : Wd} (h : ¬ (0 < a.loop.length ∧ 0 < b.loop.length)) : sameB a b = false := by
  unfold sameB
  by_cases ha : 0 < a.loop.length
  · rw [decide_eq_false (fun hb => h ⟨ha, hb⟩)]; simp
  · rw [decide_eq_false ha]; simp
end Go.Proofs.YtamfnefnaelgfaaDoor

/- The document's Join and Suffix. -/
namespace Go.Proofs.YtamfnefnaelgfaaDoor
open Go.RowKit Go.Shelf
attribute [local go_sem ↓] Go.wp_at_zero Go.wp_at_succ

theorem cell_keptF {F : List Nat} {W W' : World} (k : Kept F W W') {b o : Nat} {v : Value} (hb : b ∉ F) (h : W.cell? ⟨b, o, none⟩ = some v) : W'.cell? ⟨b, o, none⟩ = some v := by
  have hlt : b < W.heap.size := by
    rcases Nat.lt_or_ge b W.heap.size with h' | h'
    · exact h'
    · simp [World.cell?, Array.getElem?_eq_none h'] at h
  have e := k.block b hlt hb
  simp only [World.cell?] at h ⊢
  rw [e]
  exact h
/-- Letters do not lie in a word's own block. -/
theorem Lets.off {W W' : World} {B : Nat} {a a' : Option Addr} {n n' c c' : Nat} {v : Value} {xs : List Nat} (h : Lets W v xs) (hb : Wd2 W B (.slice a n c) (.slice a' n' c')) (k : Kept [B] W W') : Lets W' v xs := by
  refine ⟨h.small, h.few, ?_⟩
  rcases h.lie with h1 | ⟨b, o, c, h1, h2, h3, h4⟩
  · exact .inl h1
  · refine .inr ⟨b, o, c, h1, h2, h3, fun i hi => ?_⟩
    have h5 := h4 i hi
    refine cell_keptF k ?_ h5
    intro hm
    obtain rfl : b = B := by simpa using hm
    rw [cell_of hb] at h5
    rcases ho : o + i with _ | _ | j
    · rw [ho] at h5; cases h5
    · rw [ho] at h5; cases h5
    · rw [ho] at h5; cases h5
theorem IsW.off {W W' : World} {B : Nat} {a a' : Option Addr} {n n' c c' : Nat} {x y : Value} {q : Wd} (h : IsW W x y q) (hb : Wd2 W B (.slice a n c) (.slice a' n' c')) (k : Kept [B] W W') : IsW W' x y q := ⟨h.st.off hb k, h.lp.off hb k, h.few⟩
theorem kept_two {B : Nat} (W : World) (x y : Value) : Kept [B] W ((W.setCell ⟨B, 0, none⟩ x).setCell ⟨B, 1, none⟩ y) := ((Kept.refl _ W).setCell (.inl (by simp)) _).setCell (.inl (by simp)) _
theorem refMade_set {w W W3 : World} {q r : Wd} {B : Nat} {a1 a2 : Option Addr} {n1 c1 n2 c2 : Nat} (hb : Wd2 W B (.slice none 0 0) (.slice none 0 0)) (hB : w.heap.size ≤ B) (hk : Kept [] w W) (k3 : Kept [] W W3) (hn : IsW W3 (.slice a1 n1 c1) (.slice a2 n2 c2) r) (ho : NormOf q r) :
    RefMade w q (.returned (.agg #[.slice a1 n1 c1, .slice a2 n2 c2])) ((W3.setCell ⟨B, 0, none⟩ (.slice a1 n1 c1)).setCell ⟨B, 1, none⟩ (.slice a2 n2 c2)) :=
  ⟨_, _, _, _, _, _, r, rfl, hn.off (hb.kept k3) (kept_two _ _ _), ho, kept_set2 (hk.trans k3 (by simp) (by simp)) hB _ _⟩
set_option maxHeartbeats 800000 in
theorem refJoin_none (au : Option Addr) (cu nu : Nat) (us : List Nat) (ads : Option Addr) (cs : Nat) (ad : Option Addr) (c : Nat) (st : List Nat) (w : World) :
    Calls Tryd.prog 53 #[.slice au nu cu, .agg #[.slice ads st.length cs, .slice ad 0 c]] w (RefMade w ⟨us ++ st, []⟩) := by
  have HN : Hid _ := two_new w (.cells #[.slice ads st.length cs, .slice ad 0 c] 47) (.cells #[.slice none 0 0, .slice none 0 0] 47)
  go_enter Tryd.func53, Tryd.ntmps53
  go_wp2
  refine ret_word rfl rfl rfl HN.out.2 ⟨none, 0, 0, none, 0, 0, ⟨[], []⟩, rfl, ⟨Lets.nil _, Lets.nil _, by simp⟩, ⟨fun _ => rfl, fun h => absurd rfl h⟩, ?_⟩
  exact ((Kept.refl [] w).alloc _).alloc _
set_option maxHeartbeats 4000000 in
set_option maxRecDepth 10000 in
theorem refJoin_some (uv : Value) (us : List Nat) (ads : Option Addr) (cs bl ol cl : Nat) (st lp : List Nat) (w : World) (hu : Lets w uv us) (hs : Lets w (.slice ads st.length cs) st) (hl : Lets w (.slice (some ⟨bl, ol, none⟩) lp.length cl) lp) (h0 : 0 < lp.length) (hf : us.length + st.length + lp.length ≤ 100000000) :
    Calls Tryd.prog 53 #[uv, .agg #[.slice ads st.length cs, .slice (some ⟨bl, ol, none⟩) lp.length cl]] w (RefMade w ⟨us ++ st, lp⟩) := by
  obtain ⟨au, cu, rfl, _, _⟩ := hu.form
  obtain ⟨V, hV⟩ : ∃ V, ((w.alloc (.cells #[.slice ads st.length cs, .slice (some ⟨bl, ol, none⟩) lp.length cl] 47)).alloc (.cells #[.slice none 0 0, .slice none 0 0] 47)) = V := ⟨_, rfl⟩
  have kV : Kept [] w V := by rw [← hV]; exact ((Kept.refl [] w).alloc _).alloc _
  have hA : Wd2 V w.heap.size (.slice ads st.length cs) (.slice (some ⟨bl, ol, none⟩) lp.length cl) := by rw [← hV]; exact alUp (al0 _ _) _
  have hB : Wd2 V (w.heap.size + 1) (.slice none 0 0) (.slice none 0 0) := by rw [← hV]; exact al1 _ _ _
  obtain ⟨Y, hY⟩ : ∃ Y, V.alloc (.cells #[.slice none 0 0, .slice none 0 0] 47) = Y := ⟨_, rfl⟩
  have hO0 : Oth V [] [] Y (.slice none 0 0) (.slice none 0 0) := by rw [← hY]; exact Oth.new V
  obtain ⟨a1, n1, c1, w1, hr1, hb1, hO1⟩ := hO0.put (U := Y) (Kept.refl [] Y) (zs := us) (u := .slice au us.length cu) ((hu.kept kV).kept hO0.kept) (by simp only [List.length_nil]; omega)
  obtain ⟨Y1, hY1⟩ : ∃ Y1, w1.setCell ⟨V.heap.size, 0, none⟩ (.slice a1 n1 c1) = Y1 := ⟨_, rfl⟩
  rw [hY1] at hO1
  obtain ⟨a2, n2, c2, w2, hr2, hb2, hO2⟩ := hO1.put (U := Y1) (Kept.refl [] Y1) (zs := st) (u := .slice ads st.length cs) ((hs.kept kV).kept hO1.kept) (by simp only [List.nil_append]; omega)
  obtain ⟨Y2, hY2⟩ : ∃ Y2, w2.setCell ⟨V.heap.size, 0, none⟩ (.slice a2 n2 c2) = Y2 := ⟨_, rfl⟩
  rw [hY2] at hO2
  simp only [List.nil_append] at hO1 hO2
  obtain ⟨Y3, hY3⟩ : ∃ Y3, Y2.setCell ⟨V.heap.size, 1, none⟩ (.slice (some ⟨bl, ol, none⟩) lp.length cl) = Y3 := ⟨_, rfl⟩
  have kB3 : Kept [V.heap.size] Y2 Y3 := by rw [← hY3]; exact (Kept.refl _ Y2).setCell (.inl (by simp)) _
  have k3 : Kept [] V Y3 := by rw [← hY3]; exact hO2.kept.setCell (.inr (Nat.le_refl _)) _
  have l2 : Lets Y2 (.slice a2 n2 c2) (us ++ st) := lets_own hO2.own1 (fun x hx => (List.mem_append.1 hx).elim (hu.small x) (hs.small x)) (by rw [List.length_append]; omega)
  have hw3 : IsW Y3 (.slice a2 n2 c2) (.slice (some ⟨bl, ol, none⟩) lp.length cl) ⟨us ++ st, lp⟩ := ⟨l2.off hO2.box kB3, (hl.kept kV).kept k3, by show (us ++ st).length + lp.length ≤ _; rw [List.length_append]; omega⟩
  have hb3 : Wd2 Y3 V.heap.size (.slice a2 n2 c2) (.slice (some ⟨bl, ol, none⟩) lp.length cl) := by
    rw [← hY3]; unfold Wd2; rw [row_set hO2.box]; rfl
  have HNM : Hid (Calls Tryd.prog 52 #[.agg #[.slice a2 n2 c2, .slice (some ⟨bl, ol, none⟩) lp.length cl]] Y3 (RefMade Y3 ⟨us ++ st, lp⟩)) := refNormal_any _ _ ⟨us ++ st, lp⟩ Y3 hw3 (by show (us ++ st).length + lp.length ≤ _; rw [List.length_append]; omega)
  have HR1 : Hid (∀ ty, (Builtin.append_ #[45, 45] ty #[.slice none 0 0, .slice au us.length cu]).run Tryd.prog Y = .ok (.slice a1 n1 c1) w1) := hr1
  have HR2 : Hid (∀ ty, (Builtin.append_ #[45, 45] ty #[.slice a1 n1 c1, .slice ads st.length cs]).run Tryd.prog Y1 = .ok (.slice a2 n2 c2) w2) := hr2
  have HV : Hid (_ = V) := hV
  have HY : Hid (_ = Y) := hY
  have HY1 : Hid (_ = Y1) := hY1
  have HY2 : Hid (_ = Y2) := hY2
  have HY3 : Hid (_ = Y3) := hY3
  have HB : Hid (Wd2 Y3 (w.heap.size + 1) (.slice none 0 0) (.slice none 0 0)) := hB.kept k3
  have HK3 : Hid (Kept [] w Y3) := kV.trans k3 (by simp) (by simp)
  obtain ⟨p0, p1, p2, p3⟩ := hO0.box.cells
  obtain ⟨q0, q1, q2, q3⟩ := (show Wd2 w1 V.heap.size _ _ from hb1).cells
  obtain ⟨r0, r1, r2, r3⟩ := hO1.box.cells
  obtain ⟨t0, t1, t2, t3⟩ := (show Wd2 w2 V.heap.size _ _ from hb2).cells
  obtain ⟨s0, s1, s2, s3⟩ := hO2.box.cells
  obtain ⟨v0, v1, v2, v3⟩ := hb3.cells
  obtain ⟨e0, e1, _, _⟩ := (hA.kept hO1.kept).cells
  obtain ⟨f0, f1, _, _⟩ := (hA.kept hO2.kept).cells
  obtain ⟨d0, d1, _, _⟩ := hA.cells
  have b2 : ((lp.length : Int) == 0) = false := by rw [beq_eq_false_iff_ne]; omega
  have T1 : Hid True := trivial
  clear hV hY hY1 hY2 hY3 hr1 hr2 hb1 hb2 hO0 hO1 hO2 l2 hw3 hb3 hA hB kV k3 kB3 hu hs hl
  go_enter Tryd.func53, Tryd.ntmps53
  go_upto_region 1 with fail
  rw [HV.out]
  go_upto_region 4 with fail
  rw [HY.out]
  go_upto_region 5 with (at_builtin; refine Lib.wpList_append_run _ rfl _ _ _ _ rfl _ _ rfl rfl _ _ (HR1.out _) ?_)
  rw [HY1.out]
  go_upto_region 6 with (at_builtin; refine Lib.wpList_append_run _ rfl _ _ _ _ rfl _ _ rfl rfl _ _ (HR2.out _) ?_)
  rw [HY2.out]
  go_upto_region 7 with fail
  rw [HY3.out]
  go_wp2_with (go_at_call 52; refine HNM.out.mono ?_; rintro e W3 ⟨x1, m1, d1, x2, m2, d2, r, rfl, HI, HO, HK⟩; obtain ⟨g0, g1, g2, g3⟩ := (HB.out.kept HK.out).cells)
  exact ret_word rfl rfl rfl ((HB.out.kept HK.out).set _ _) (refMade_set HB.out (by omega) HK3.out HK.out HI.out HO.out)
end Go.Proofs.YtamfnefnaelgfaaDoor

/- The words that All goes through: which they are, and their order. Plain mathematics. -/
namespace Go.Proofs.YtamfnefnaelgfaaDoor
open Go.RowKit

theorem mem_ext {below stem : Nat} {q : Wd} : ∀ (k : Nat) (row : List Nat), q ∈ ext below stem k row ↔ ∃ t : List Nat, t.length = k ∧ (∀ c ∈ t, c < below) ∧ q = wdOf stem (row ++ t) ∧ normB q = true := by
  intro k
  induction k with
  | zero =>
    intro row
    unfold ext
    constructor
    · intro h
      by_cases hn : normB (wdOf stem row) = true
      · rw [if_pos hn] at h
        obtain rfl := List.mem_singleton.1 h
        exact ⟨[], rfl, by simp, by rw [List.append_nil], hn⟩
      · rw [if_neg hn] at h; cases h
    · rintro ⟨t, ht, _, rfl, hn⟩
      obtain rfl : t = [] := List.length_eq_zero_iff.1 ht
      rw [List.append_nil] at hn ⊢
      rw [if_pos hn]; simp
  | succ k ih =>
    intro row
    unfold ext
    rw [List.mem_flatMap]
    constructor
    · rintro ⟨c, hc, hq⟩
      obtain ⟨t, h1, h2, h3, h4⟩ := (ih _).1 hq
      refine ⟨c :: t, by simp [h1], fun x hx => ?_, by rw [h3, List.append_assoc]; rfl, h4⟩
      rcases List.mem_cons.1 hx with rfl | hx
      · exact List.mem_range.1 hc
      · exact h2 x hx
    · rintro ⟨t, h1, h2, h3, h4⟩
      obtain ⟨c, t, rfl⟩ : ∃ c t', t = c :: t' := by cases t with | nil => simp at h1 | cons c t => exact ⟨c, t, rfl⟩
      refine ⟨c, List.mem_range.2 (h2 c (by simp)), (ih _).2 ⟨t, by simpa using h1, fun x hx => h2 x (by simp [hx]), by rw [h3, List.append_assoc]; rfl, h4⟩⟩
theorem wdOf_len {stem : Nat} {r : List Nat} (h : stem ≤ r.length) : (wdOf stem r).stem.length = stem ∧ (wdOf stem r).loop.length = r.length - stem := by
  constructor
  · show (r.take stem).length = stem; rw [List.length_take]; omega
  · show (r.drop stem).length = _; rw [List.length_drop]
theorem wdOf_at {stem i : Nat} {r : List Nat} (h : stem ≤ r.length) (hi : i < r.length) : (wdOf stem r).at i = r.getD i 0 := by
  obtain ⟨l1, l2⟩ := wdOf_len h
  unfold Wd.at
  rw [l1, l2]
  by_cases h1 : i < stem
  · rw [if_pos h1]
    show (r.take stem).getD i 0 = _
    simp [List.getD_eq_getElem?_getD, h1]
  · rw [if_neg h1, Nat.mod_eq_of_lt (by omega)]
    show (r.drop stem).getD (i - stem) 0 = _
    simp [List.getD_eq_getElem?_getD, List.getElem?_drop, show stem + (i - stem) = i by omega]
/-- Which word stands ahead, as All goes. -/
def AheadP (a b : Wd) : Prop :=
  a.stem.length + a.loop.length < b.stem.length + b.loop.length ∨ (a.stem.length + a.loop.length = b.stem.length + b.loop.length ∧
    (a.stem.length < b.stem.length ∨ (a.stem.length = b.stem.length ∧ ∃ i, i < a.stem.length + a.loop.length ∧ (∀ j, j < i → a.at j = b.at j) ∧ a.at i < b.at i)))
theorem ext_rises {below stem : Nat} : ∀ (k : Nat) (row : List Nat), stem ≤ row.length + k → (ext below stem k row).Pairwise AheadP := by
  intro k
  induction k with
  | zero =>
    intro row _
    unfold ext
    split
    · exact List.pairwise_singleton _ _
    · exact List.Pairwise.nil
  | succ k ih =>
    intro row hs
    unfold ext
    rw [List.pairwise_flatMap]
    refine ⟨fun c _ => ih _ (by simp; omega), List.pairwise_lt_range.imp fun {c c'} hc x hx y hy => ?_⟩
    obtain ⟨t, t1, _, rfl, _⟩ := (mem_ext _ _).1 hx
    obtain ⟨u, u1, _, rfl, _⟩ := (mem_ext _ _).1 hy
    have lx : (row ++ [c] ++ t).length = row.length + 1 + k := by simp [t1]; omega
    have ly : (row ++ [c'] ++ u).length = row.length + 1 + k := by simp [u1]; omega
    obtain ⟨a1, a2⟩ := wdOf_len (stem := stem) (r := row ++ [c] ++ t) (by omega)
    obtain ⟨b1, b2⟩ := wdOf_len (stem := stem) (r := row ++ [c'] ++ u) (by omega)
    refine .inr ⟨by omega, .inr ⟨by omega, row.length, by omega, fun j hj => ?_, ?_⟩⟩
    · rw [wdOf_at (by omega) (by omega), wdOf_at (by omega) (by omega)]
      simp [List.getD_eq_getElem?_getD, List.append_assoc, List.getElem?_append_left hj]
    · rw [wdOf_at (by omega) (by omega), wdOf_at (by omega) (by omega)]
      simpa [List.getD_eq_getElem?_getD, List.append_assoc, List.getElem?_append_right (Nat.le_refl row.length)] using hc
theorem mem_places {below p s : Nat} {q : Wd} (hs : s ≤ p) (h : q ∈ ofPlaces below p s) : q.stem.length + q.loop.length = p ∧ 0 < q.loop.length ∧ q.Norm ∧ (∀ c ∈ q.stem, c < below) ∧ ∀ c ∈ q.loop, c < below := by
  unfold ofPlaces at h
  obtain ⟨s', hs', hq⟩ := List.mem_flatMap.1 h
  have h1 := List.mem_range.1 hs'
  obtain ⟨t, t1, t2, rfl, t4⟩ := (mem_ext _ _).1 hq
  rw [List.nil_append] at t4 ⊢
  obtain ⟨l1, l2⟩ := wdOf_len (stem := s') (r := t) (by omega)
  have h0 : 0 < (wdOf s' t).loop.length := by omega
  exact ⟨by omega, h0, (normB_iff h0).1 t4, fun c hc => t2 c (List.mem_of_mem_take hc), fun c hc => t2 c (List.mem_of_mem_drop hc)⟩
theorem mem_all {props size : Nat} {q : Wd} : q ∈ allW props size ↔ q.Norm ∧ (∀ c ∈ q.stem, c < 2 ^ props) ∧ (∀ c ∈ q.loop, c < 2 ^ props) ∧ q.stem.length + q.loop.length ≤ size := by
  unfold allW allTo
  constructor
  · intro h
    obtain ⟨p, hp, hq⟩ := List.mem_flatMap.1 h
    have h1 := List.mem_range.1 hp
    obtain ⟨m1, m2, m3, m4, m5⟩ := mem_places (Nat.le_refl _) hq
    exact ⟨m3, m4, m5, by omega⟩
  · rintro ⟨hn, h1, h2, h3⟩
    have h0 := hn.1
    refine List.mem_flatMap.2 ⟨q.stem.length + q.loop.length - 1, List.mem_range.2 (by omega), ?_⟩
    unfold ofPlaces
    refine List.mem_flatMap.2 ⟨q.stem.length, List.mem_range.2 (by omega), (mem_ext _ _).2 ⟨q.stem ++ q.loop, by rw [List.length_append]; omega, fun c hc => (List.mem_append.1 hc).elim (h1 c) (h2 c), ?_, (normB_iff h0).2 hn⟩⟩
    unfold wdOf
    simp
theorem all_rises (props size : Nat) : (allW props size).Pairwise AheadP := by
  unfold allW allTo
  rw [List.pairwise_flatMap]
  refine ⟨fun p _ => ?_, List.pairwise_lt_range.imp fun {p p'} hp x hx y hy => ?_⟩
  · unfold ofPlaces
    rw [List.pairwise_flatMap]
    refine ⟨fun s hs => ext_rises _ _ (by have := List.mem_range.1 hs; simp; omega), ?_⟩
    have hr : (List.range (p + 1)).Pairwise (fun a b => a < b ∧ b < p + 1) := by
      rw [List.pairwise_iff_getElem]
      intro i j hi hj hij
      simp at hi hj ⊢
      omega
    refine hr.imp fun {s s'} hs x hx y hy => ?_
    obtain ⟨t, t1, _, rfl, _⟩ := (mem_ext _ _).1 hx
    obtain ⟨u, u1, _, rfl, _⟩ := (mem_ext _ _).1 hy
    rw [List.nil_append, List.nil_append]
    obtain ⟨a1, a2⟩ := wdOf_len (stem := s) (r := t) (by omega)
    obtain ⟨b1, b2⟩ := wdOf_len (stem := s') (r := u) (by omega)
    exact .inr ⟨by omega, .inl (by omega)⟩
  · have m := (mem_places (Nat.le_refl _) hx).1
    have m' := (mem_places (Nat.le_refl _) hy).1
    exact .inl (by omega)
/-- Each word stands behind the one before. -/
theorem all_next {props size : Nat} {pre : List Wd} {a b : Wd} (h : pre ++ [a] ++ [b] <+: allW props size) : AheadP a b := by
  have hp := (all_rises props size).sublist h.sublist
  rw [List.append_assoc, List.pairwise_append] at hp
  have := hp.2.1
  simpa using this
theorem at_below {q : Wd} {b : Nat} (h0 : 0 < q.loop.length) (h1 : ∀ c ∈ q.stem, c < b) (h2 : ∀ c ∈ q.loop, c < b) (i : Nat) : q.at i < b := by
  rcases Nat.lt_or_ge i q.stem.length with h | h
  · rw [Wd.at_lo h]
    refine h1 _ ?_
    rw [List.getD_eq_getElem?_getD, List.getElem?_eq_getElem h]
    exact List.getElem_mem _
  · rw [Wd.at_hi h]
    unfold cyc
    have hm := Nat.mod_lt (i - q.stem.length) h0
    refine h2 _ ?_
    rw [List.getD_eq_getElem?_getD, List.getElem?_eq_getElem hm]
    exact List.getElem_mem _
/-- A word's normal form is among them just if its letters are small and its places few. -/
theorem all_small {props n : Nat} {q r : Wd} (h : NormOf q r) (hp : props ≤ 8) : (r ∈ allW props n) ↔ (checkE q (props : Int) = 0 ∧ placesN r ≤ n) := by
  have hC : checkE q (props : Int) = 0 ↔ (0 < q.loop.length ∧ (∀ c ∈ q.stem, c < 2 ^ props) ∧ ∀ c ∈ q.loop, c < 2 ^ props) := by
    unfold checkE anyGreat
    rw [if_neg (by omega)]
    simp only [Int.toNat_natCast]
    constructor
    · intro hc
      by_cases hx : q.loop.length = 0 ∨ (q.stem.any fun x => decide (2 ^ props ≤ x)) = true ∨ (q.loop.any fun x => decide (2 ^ props ≤ x)) = true
      · rw [if_pos hx] at hc; cases hc
      · refine ⟨by omega, fun c hc' => ?_, fun c hc' => ?_⟩
        · rcases Nat.lt_or_ge c (2 ^ props) with h | h
          · exact h
          · exact absurd (.inr (.inl (List.any_eq_true.2 ⟨c, hc', by simpa using h⟩))) hx
        · rcases Nat.lt_or_ge c (2 ^ props) with h | h
          · exact h
          · exact absurd (.inr (.inr (List.any_eq_true.2 ⟨c, hc', by simpa using h⟩))) hx
    · rintro ⟨h1, h2, h3⟩
      rw [if_neg]
      rintro (hx | hx | hx)
      · omega
      · obtain ⟨c, hc, hx⟩ := List.any_eq_true.1 hx
        have := h2 c hc
        simp at hx; omega
      · obtain ⟨c, hc, hx⟩ := List.any_eq_true.1 hx
        have := h3 c hc
        simp at hx; omega
  rw [hC, mem_all]
  constructor
  · rintro ⟨hn, h1, h2, h3⟩
    have h0 := hn.1
    by_cases hq : q.loop = []
    · rw [h.1 hq] at h0; simp at h0
    · have hq0 : 0 < q.loop.length := List.length_pos_iff.2 hq
      obtain ⟨_, he⟩ := h.2 hq
      have hat : ∀ i, q.at i < 2 ^ props := fun i => by rw [← he]; exact at_below h0 h1 h2 i
      refine ⟨⟨hq0, fun c hc => ?_, fun c hc => ?_⟩, by unfold placesN; rw [if_neg (by omega)]; exact h3⟩
      · obtain ⟨j, hj, rfl⟩ := List.getElem_of_mem hc
        have := hat j
        rw [Wd.at_lo hj] at this
        simpa [List.getD_eq_getElem?_getD, hj] using this
      · obtain ⟨j, hj, rfl⟩ := List.getElem_of_mem hc
        have := hat (q.stem.length + j)
        rw [Wd.at_hi (by omega), show q.stem.length + j - q.stem.length = j by omega] at this
        unfold cyc at this
        rw [Nat.mod_eq_of_lt hj] at this
        simpa [List.getD_eq_getElem?_getD, hj] using this
  · rintro ⟨⟨hq0, h1, h2⟩, h3⟩
    have hq : q.loop ≠ [] := List.length_pos_iff.1 hq0
    obtain ⟨hn, he⟩ := h.2 hq
    have h0 := hn.1
    have hat : ∀ i, r.at i < 2 ^ props := fun i => by rw [he]; exact at_below hq0 h1 h2 i
    refine ⟨hn, fun c hc => ?_, fun c hc => ?_, by unfold placesN at h3; rw [if_neg (by omega)] at h3; exact h3⟩
    · obtain ⟨j, hj, rfl⟩ := List.getElem_of_mem hc
      have := hat j
      rw [Wd.at_lo hj] at this
      simpa [List.getD_eq_getElem?_getD, hj] using this
    · obtain ⟨j, hj, rfl⟩ := List.getElem_of_mem hc
      have := hat (r.stem.length + j)
      rw [Wd.at_hi (by omega), show r.stem.length + j - r.stem.length = j by omega] at this
      unfold cyc at this
      rw [Nat.mod_eq_of_lt hj] at this
      simpa [List.getD_eq_getElem?_getD, hj] using this
end Go.Proofs.YtamfnefnaelgfaaDoor

/- The document's own words of a shape: a counter over rows goes through them as All does. Plain mathematics. -/
namespace Go.Proofs.YtamfnefnaelgfaaDoor
open Go.RowKit

/-- A row as a number. -/
def rowN (b : Nat) : List Nat → Nat
  | [] => 0
  | c :: r => c * b ^ r.length + rowN b r
/-- The row of a number. -/
def rowAt (b : Nat) : Nat → Nat → List Nat
  | 0, _ => []
  | n + 1, k => (k / b ^ n) :: rowAt b n (k % b ^ n)
theorem rowN_app (b : Nat) (xs ys : List Nat) : rowN b (xs ++ ys) = rowN b xs * b ^ ys.length + rowN b ys := by
  induction xs with
  | nil => simp [rowN]
  | cons c r ih =>
    show c * b ^ (r ++ ys).length + rowN b (r ++ ys) = (c * b ^ r.length + rowN b r) * b ^ ys.length + rowN b ys
    rw [ih, List.length_append, Nat.pow_add, Nat.add_mul, Nat.mul_assoc]; omega
theorem rowN_lt {b : Nat} : ∀ {l : List Nat}, (∀ c ∈ l, c < b) → rowN b l < b ^ l.length
  | [], _ => by simp [rowN]
  | c :: r, h => by
    have h1 := rowN_lt (l := r) fun x hx => h x (by simp [hx])
    have h2 : c < b := h c (by simp)
    show c * b ^ r.length + rowN b r < b ^ (r.length + 1)
    have h3 : (c + 1) * b ^ r.length ≤ b * b ^ r.length := Nat.mul_le_mul_right _ h2
    rw [Nat.add_mul] at h3
    rw [Nat.pow_succ, Nat.mul_comm (b ^ r.length) b]; omega
theorem rowN_zeros (b j : Nat) : rowN b (List.replicate j 0) = 0 := by
  induction j with
  | zero => rfl
  | succ j ih => rw [List.replicate_succ]; show 0 * _ + _ = 0; rw [ih]; simp
theorem rowN_tops {b : Nat} (h : 0 < b) (j : Nat) : rowN b (List.replicate j (b - 1)) + 1 = b ^ j := by
  induction j with
  | zero => rfl
  | succ j ih =>
    rw [List.replicate_succ]
    show (b - 1) * b ^ (List.replicate j (b - 1)).length + _ + 1 = _
    rw [List.length_replicate, Nat.add_assoc, ih, Nat.pow_succ, Nat.sub_mul, Nat.mul_comm (b ^ j) b, Nat.one_mul]
    have : 1 * b ^ j ≤ b * b ^ j := Nat.mul_le_mul_right _ h
    omega
theorem rowAt_len (b : Nat) : ∀ n k, (rowAt b n k).length = n
  | 0, _ => rfl
  | n + 1, k => by show (rowAt b n (k % b ^ n)).length + 1 = n + 1; rw [rowAt_len b n]
theorem rowAt_rowN {b : Nat} : ∀ {l : List Nat}, (∀ c ∈ l, c < b) → rowAt b l.length (rowN b l) = l
  | [], _ => rfl
  | c :: r, h => by
    have hr : ∀ x ∈ r, x < b := fun x hx => h x (by simp [hx])
    have h1 := rowN_lt hr
    show (c * b ^ r.length + rowN b r) / b ^ r.length :: rowAt b r.length ((c * b ^ r.length + rowN b r) % b ^ r.length) = c :: r
    have h0 : 0 < b ^ r.length := by omega
    rw [Nat.mul_comm c, Nat.mul_add_div h0, Nat.mul_add_mod, Nat.div_eq_of_lt h1, Nat.mod_eq_of_lt h1, rowAt_rowN hr]; rfl
theorem rowAt_zero {b : Nat} (h : 0 < b) (n : Nat) : rowAt b n 0 = List.replicate n 0 := by
  have := rowAt_rowN (b := b) (l := List.replicate n 0) (fun c hc => by rw [(List.mem_replicate.1 hc).2]; exact h)
  rwa [List.length_replicate, rowN_zeros] at this
/-- The counter's step: the last j letters are the highest, the one ahead of them is not. -/
theorem row_step {b j c : Nat} {pre : List Nat} (h : ∀ x ∈ pre, x < b) (hc : c + 1 < b) : rowAt b (pre.length + 1 + j) (rowN b (pre ++ c :: List.replicate j (b - 1)) + 1) = pre ++ (c + 1) :: List.replicate j 0 := by
  have hb : 0 < b := by omega
  have e : rowN b (pre ++ c :: List.replicate j (b - 1)) + 1 = rowN b (pre ++ (c + 1) :: List.replicate j 0) := by
    rw [rowN_app, rowN_app]
    show _ * b ^ ((List.replicate j (b - 1)).length + 1) + (c * b ^ (List.replicate j (b - 1)).length + rowN b (List.replicate j (b - 1))) + 1 = _ * b ^ ((List.replicate j 0).length + 1) + ((c + 1) * b ^ (List.replicate j 0).length + rowN b (List.replicate j 0))
    rw [rowN_zeros, List.length_replicate, List.length_replicate, Nat.add_mul, Nat.one_mul, ← rowN_tops hb j]; omega
  have := rowAt_rowN (b := b) (l := pre ++ (c + 1) :: List.replicate j 0) (fun x hx => by
    rcases List.mem_append.1 hx with hx | hx
    · exact h x hx
    · rcases List.mem_cons.1 hx with rfl | hx
      · exact hc
      · rw [(List.mem_replicate.1 hx).2]; exact hb)
  rw [e]
  rw [show (pre ++ (c + 1) :: List.replicate j 0).length = pre.length + 1 + j by simp; omega] at this
  exact this
theorem range_mul (b m : Nat) : List.range (b * m) = (List.range b).flatMap fun c => (List.range m).map fun k => c * m + k := by
  induction b with
  | zero => simp
  | succ b ih => rw [List.range_succ, List.flatMap_append, ← ih, Nat.add_mul, Nat.one_mul, List.range_add]; simp
/-- The words of a shape, by the counter. -/
def oneW (stem : Nat) (row : List Nat) : List Wd := if normB (wdOf stem row) = true then [wdOf stem row] else []
def cntW (b stem n k : Nat) : List Wd := (List.range k).flatMap fun k => oneW stem (rowAt b n k)
theorem cntW_succ (b stem n k : Nat) : cntW b stem n (k + 1) = cntW b stem n k ++ oneW stem (rowAt b n k) := by
  unfold cntW; rw [List.range_succ, List.flatMap_append]; simp
theorem flatMap_same {α β : Type} {f g : α → List β} : ∀ {l : List α}, (∀ x ∈ l, f x = g x) → l.flatMap f = l.flatMap g
  | [], _ => rfl
  | a :: l, h => by rw [List.flatMap_cons, List.flatMap_cons, h a (by simp), flatMap_same fun x hx => h x (by simp [hx])]
theorem ext_cnt (b stem : Nat) : ∀ (n : Nat) (row : List Nat), ext b stem n row = (List.range (b ^ n)).flatMap fun k => oneW stem (row ++ rowAt b n k)
  | 0, row => by
    show oneW stem row = _
    simp [rowAt]
  | n + 1, row => by
    show (List.range b).flatMap _ = _
    rw [Nat.pow_succ, Nat.mul_comm, range_mul, List.flatMap_assoc]
    congr 1
    funext c
    rw [ext_cnt b stem n, List.flatMap_map]
    by_cases hm : b ^ n = 0
    · rw [hm]; rfl
    · refine flatMap_same fun k hk => ?_
      have hk := List.mem_range.1 hk
      show _ = oneW stem (row ++ ((c * b ^ n + k) / b ^ n :: rowAt b n ((c * b ^ n + k) % b ^ n)))
      rw [Nat.mul_comm c, Nat.mul_add_div (by omega), Nat.mul_add_mod, Nat.div_eq_of_lt hk, Nat.mod_eq_of_lt hk, List.append_assoc]; rfl
theorem ext_all (b stem n : Nat) : ext b stem n [] = cntW b stem n (b ^ n) := by rw [ext_cnt]; rfl
theorem cntW_prefix {b stem n k : Nat} (h : k ≤ b ^ n) : cntW b stem n k <+: ext b stem n [] := by
  rw [ext_all]
  obtain ⟨m, e⟩ : ∃ m, b ^ n = k + m := ⟨b ^ n - k, by omega⟩
  rw [e]; unfold cntW; rw [List.range_add, List.flatMap_append]; exact List.prefix_append _ _
/-- Where the count ends: at the last row, or when there are enough. -/
theorem some_full {b stem n k most : Nat} (h : k ≤ b ^ n) (hl : (cntW b stem n k).length = most) : cntW b stem n k = (ext b stem n []).take most := by
  obtain ⟨t, e⟩ := cntW_prefix (b := b) (stem := stem) (n := n) h
  rw [← e, ← hl, List.take_left']; rfl
theorem some_last {b stem n k most : Nat} (h : k = b ^ n) (hl : (cntW b stem n k).length ≤ most) : cntW b stem n k = (ext b stem n []).take most := by
  subst h; rw [← ext_all] at hl ⊢; rw [List.take_of_length_le hl]
end Go.Proofs.YtamfnefnaelgfaaDoor

/- A list of words in memory, each word in rows of its own. -/
namespace Go.Proofs.YtamfnefnaelgfaaDoor
open Go.RowKit Go.Shelf

theorem Tryd.infoWord : (Tryd.prog.info? 47).map (fun i => (i.zero, i.size, i.bytes)) = some (some (.agg #[.slice none 0 0, .slice none 0 0]), 2, 48) := by kernel_rfl
theorem Tryd.underWords : Tryd.prog.underlying 24 = some (.slice 47) := by kernel_rfl
def WdsR (n₀ : Nat) (W : World) : List Value → List Wd → Prop
  | [], [] => True
  | v1 :: v2 :: vs, q :: qs => NewW n₀ W v1 v2 q ∧ WdsR n₀ W vs qs
  | _, _ => False
theorem WdsR.app {n₀ : Nat} {W : World} {v1 v2 : Value} {q : Wd} (hq : NewW n₀ W v1 v2 q) : ∀ {vs : List Value} {qs : List Wd}, WdsR n₀ W vs qs → WdsR n₀ W (vs ++ [v1, v2]) (qs ++ [q])
  | [], [], _ => ⟨hq, trivial⟩
  | _ :: _ :: _, _ :: _, h => ⟨h.1, WdsR.app hq h.2⟩
theorem WdsR.turn {n₀ n₁ : Nat} {W W' : World} (ht : ∀ v1 v2 q, NewW n₀ W v1 v2 q → NewW n₁ W' v1 v2 q) : ∀ {vs : List Value} {qs : List Wd}, WdsR n₀ W vs qs → WdsR n₁ W' vs qs
  | [], [], _ => trivial
  | _ :: _ :: _, _ :: _, h => ⟨ht _ _ _ h.1, WdsR.turn ht h.2⟩
theorem WdsR.get {n₀ : Nat} {W : World} : ∀ {vs : List Value} {qs : List Wd}, WdsR n₀ W vs qs → ∀ {i : Nat} {q : Wd}, qs[i]? = some q → ∃ v1 v2, vs[i * 2]? = some v1 ∧ vs[i * 2 + 1]? = some v2 ∧ NewW n₀ W v1 v2 q
  | [], [], _, i, q, h => by simp at h
  | v1 :: v2 :: vs, q0 :: qs, h, 0, q, e => by
    obtain rfl : q0 = q := by simpa using e
    exact ⟨v1, v2, rfl, rfl, h.1⟩
  | v1 :: v2 :: vs, q0 :: qs, h, i + 1, q, e => by
    obtain ⟨a, b, h1, h2, h3⟩ := h.2.get (i := i) (q := q) (by simpa using e)
    refine ⟨a, b, ?_, ?_, h3⟩
    · rw [show (i + 1) * 2 = i * 2 + 1 + 1 by omega]; simpa using h1
    · rw [show (i + 1) * 2 + 1 = i * 2 + 1 + 1 + 1 by omega]; simpa using h2
theorem own_type {W : World} {base : Nat} {e : TypeId} {size : Nat} {v : Value} {n g : Nat} {xs : List Value} (h : W.ownsRow base e size v n xs) (hg : v.ownBlock = some g) : ∃ cur, W.heap[g]? = some (.cells cur e (0, 0)) := by
  rcases h.2 with ⟨rfl, _⟩ | ⟨g', cap, cur, rfl, _, hc, _⟩
  · cases hg
  · cases hg; exact ⟨cur, hc⟩
/-- The list. -/
def Wds (n₀ : Nat) (W : World) (v : Value) (L : List Wd) : Prop := ∃ vs, W.ownsRow n₀ 47 2 v L.length vs ∧ WdsR n₀ W vs L
theorem Wds.nil (n₀ : Nat) (W : World) : Wds n₀ W (.slice none 0 0) [] := ⟨[], World.ownsRow_nil _ _ _ _, trivial⟩
theorem Wds.keptF {n₀ : Nat} {F : List Nat} {W W' : World} {v : Value} {L : List Wd} (h : Wds n₀ W v L) (k : Kept F W W') (hF : ∀ x ∈ F, x < n₀) : Wds n₀ W' v L := by
  obtain ⟨vs, h1, h2⟩ := h
  exact ⟨vs, owns_keptF h1 k (fun g e hg => by have := own_base h1 e; have := hF g hg; omega), h2.turn fun _ _ _ q => q.keptF k hF⟩
theorem Wds.kept {n₀ : Nat} {W W' : World} {v : Value} {L : List Wd} (h : Wds n₀ W v L) (k : Kept [] W W') : Wds n₀ W' v L := h.keptF k (by simp)
theorem Wds.form {n₀ : Nat} {W : World} {v : Value} {L : List Wd} (h : Wds n₀ W v L) : ∃ ad cap, v = .slice ad L.length cap := by
  obtain ⟨vs, h1, _⟩ := h
  rcases h1.2 with ⟨rfl, e⟩ | ⟨g, cap, cur, rfl, _⟩
  · exact ⟨none, 0, by rw [e]⟩
  · exact ⟨_, _, rfl⟩
theorem NewW.grown {n₀ base : Nat} {W W' : World} {v v1 v2 : Value} {n : Nat} {vs : List Value} {q : Wd} (h : NewW n₀ W v1 v2 q) (ho : W.ownsRow base 47 2 v n vs) (hg : W.grownBy W' v.ownBlock) : NewW n₀ W' v1 v2 q := by
  have key : ∀ {u : Value} {m : Nat} {ys : List Value}, W.ownsRow n₀ 51 1 u m ys → u.ownBlock = none ∨ u.ownBlock ≠ v.ownBlock := fun {u m ys} hu => by
    cases e : u.ownBlock with
    | none => exact .inl rfl
    | some g =>
      right
      intro e2
      obtain ⟨c1, h1⟩ := own_type hu e
      obtain ⟨c2, h2⟩ := own_type ho e2.symm
      rw [h1] at h2
      cases h2
  exact ⟨h.own1.kept hg (key h.own1), h.own2.kept hg (key h.own2), h.apart, h.small1, h.small2, h.few1, h.few2⟩
/-- One more. -/
theorem Wds.push {n₀ : Nat} {W : World} {v v1 v2 : Value} {L : List Wd} {q : Wd} (h : Wds n₀ W v L) (hq : NewW n₀ W v1 v2 q) (hl : L.length ≤ 100000) (hn : n₀ ≤ W.heap.size) (o1 : v1.oneCell' = true) (o2 : v2.oneCell' = true) :
    ∃ g cap w', (∀ ty, (Builtin.append_ #[24, 24] ty #[v, .slice (some ⟨W.heap.size, 0, none⟩) 1 1]).run Tryd.prog (W.alloc (.cells #[v1, v2] 47)) = .ok (.slice (some ⟨g, 0, none⟩) (L.length + 1) cap) w') ∧
      Wds n₀ w' (.slice (some ⟨g, 0, none⟩) (L.length + 1) cap) (L ++ [q]) ∧ W.heap.size ≤ w'.heap.size ∧ w'.os = W.os ∧ w'.tape = W.tape ∧ w'.output = W.output ∧ ∀ k, k < n₀ → w'.heap[k]? = W.heap[k]? := by
  obtain ⟨vs, h1, h2⟩ := h
  have kU : Kept [] W (W.alloc (.cells #[v1, v2] 47)) := (Kept.refl [] W).alloc _
  obtain ⟨i0, hi, hz0, hz1, hz2⟩ := info_parts Tryd.infoWord
  have h1U := owns_keptF h1 kU (by simp)
  have hnew := heap_alloc_new W (.cells #[v1, v2] 47)
  obtain ⟨g, cap, w', hr, g1, g2, g3, g4⟩ := run_append_lies (P := Tryd.prog) (W.alloc (.cells #[v1, v2] 47)) 24 0 n₀ 47 i0 _ 2 48 Tryd.underWords hi hz0 hz1 hz2 rfl (by decide) v _ _ h1U ⟨W.heap.size, 0, none⟩ 1 1 [v1, v2] rfl
    (fun j x hj => by
      rw [show (⟨W.heap.size, 0, none⟩ : Addr).add j = ⟨W.heap.size, j, none⟩ from by unfold Addr.add; by_cases h : j = 0 <;> simp [h], cell_of hnew, ← hj, ← List.getElem?_toArray])
    (fun x hx => by
      simp only [List.mem_cons, List.not_mem_nil, or_false] at hx
      rcases hx with rfl | rfl
      · exact o1
      · exact o2) (by decide) (by unfold maxLen; omega) (by omega) (by rw [World.size_alloc]; omega) _ rfl
  refine ⟨g, cap, w', fun ty => hr, ⟨vs ++ [v1, v2], ?_, (WdsR.app hq h2).turn fun _ _ _ q => (q.kept kU).grown h1U g2⟩, ?_, g2.os, g2.tape, g2.output, fun k hk => ?_⟩
  · rw [List.length_append, List.length_singleton]; exact g1
  · have := g2.size; rw [World.size_alloc] at this; omega
  · rw [g2.block k (by rw [World.size_alloc]; omega) (fun e => by have := own_base h1 e.symm; omega)]
    exact kU.block k (by omega) (by simp)
end Go.Proofs.YtamfnefnaelgfaaDoor

/- The document's Normal and Join: where the word that they make lies. -/
namespace Go.Proofs.YtamfnefnaelgfaaDoor
open Go.RowKit Go.Shelf
attribute [local go_sem ↓] Go.wp_at_zero Go.wp_at_succ

theorem refNormal_anyN (sv lv : Value) (q : Wd) (w : World) (h : IsW w sv lv q) (hf : q.stem.length + q.loop.length ≤ 100000000) : Calls Tryd.prog 52 #[.agg #[sv, lv]] w (RefMadeN w q) := by
  obtain ⟨st, lp⟩ := q
  obtain ⟨ads, cs, rfl, _, _⟩ := h.st.form
  by_cases h0 : 0 < lp.length
  · obtain ⟨b, o, c, rfl, _⟩ := h.lp.there h0
    exact refNormal_someN ads cs b o c st lp w h.st h.lp h0 hf
  · obtain rfl : lp = [] := List.length_eq_zero_iff.1 (by omega)
    obtain ⟨ad, c, rfl, _, _⟩ := h.lp.form
    exact refNormal_noneN ads cs ad c st w
theorem new_off {w W W3 : World} {r : Wd} {B : Nat} {v1 v2 a b x y : Value} (hf : NewW W.heap.size W3 v1 v2 r) (hb : Wd2 W3 B a b) (hk : Kept [] w W) : NewW w.heap.size ((W3.setCell ⟨B, 0, none⟩ x).setCell ⟨B, 1, none⟩ y) v1 v2 r := by
  have k := kept_two (B := B) W3 x y
  have key : ∀ {u : Value} {m : Nat} {ys : List Value}, W3.ownsRow W.heap.size 51 1 u m ys → ∀ g, u.ownBlock = some g → g ∉ [B] := fun ho g hg hm => by
    obtain rfl : g = B := by simpa using hm
    rcases ho.2 with ⟨rfl, _⟩ | ⟨g', cap, cur, rfl, _, hc, _⟩
    · cases hg
    · cases hg
      exact absurd (hc.symm.trans hb) (by intro e; cases e)
  exact ⟨owns_low (owns_keptF hf.own1 k (key hf.own1)) hk.size, owns_low (owns_keptF hf.own2 k (key hf.own2)) hk.size, hf.apart, hf.small1, hf.small2, hf.few1, hf.few2⟩
theorem refMade_setN {w W W3 : World} {q r : Wd} {B : Nat} {a1 a2 : Option Addr} {n1 c1 n2 c2 : Nat} (hb : Wd2 W B (.slice none 0 0) (.slice none 0 0)) (hB : w.heap.size ≤ B) (hk : Kept [] w W) (k3 : Kept [] W W3) (hn : IsW W3 (.slice a1 n1 c1) (.slice a2 n2 c2) r) (ho : NormOf q r) (hf : NewW W.heap.size W3 (.slice a1 n1 c1) (.slice a2 n2 c2) r) :
    RefMadeN w q (.returned (.agg #[.slice a1 n1 c1, .slice a2 n2 c2])) ((W3.setCell ⟨B, 0, none⟩ (.slice a1 n1 c1)).setCell ⟨B, 1, none⟩ (.slice a2 n2 c2)) :=
  ⟨_, _, _, _, _, _, r, rfl, hn.off (hb.kept k3) (kept_two _ _ _), ho, kept_set2 (hk.trans k3 (by simp) (by simp)) hB _ _, new_off hf (hb.kept k3) hk⟩
set_option maxHeartbeats 4000000 in
set_option maxRecDepth 10000 in
theorem refJoin_someN (uv : Value) (us : List Nat) (ads : Option Addr) (cs bl ol cl : Nat) (st lp : List Nat) (w : World) (hu : Lets w uv us) (hs : Lets w (.slice ads st.length cs) st) (hl : Lets w (.slice (some ⟨bl, ol, none⟩) lp.length cl) lp) (h0 : 0 < lp.length) (hf : us.length + st.length + lp.length ≤ 100000000) :
    Calls Tryd.prog 53 #[uv, .agg #[.slice ads st.length cs, .slice (some ⟨bl, ol, none⟩) lp.length cl]] w (RefMadeN w ⟨us ++ st, lp⟩) := by
  obtain ⟨au, cu, rfl, _, _⟩ := hu.form
  obtain ⟨V, hV⟩ : ∃ V, ((w.alloc (.cells #[.slice ads st.length cs, .slice (some ⟨bl, ol, none⟩) lp.length cl] 47)).alloc (.cells #[.slice none 0 0, .slice none 0 0] 47)) = V := ⟨_, rfl⟩
  have kV : Kept [] w V := by rw [← hV]; exact ((Kept.refl [] w).alloc _).alloc _
  have hA : Wd2 V w.heap.size (.slice ads st.length cs) (.slice (some ⟨bl, ol, none⟩) lp.length cl) := by rw [← hV]; exact alUp (al0 _ _) _
  have hB : Wd2 V (w.heap.size + 1) (.slice none 0 0) (.slice none 0 0) := by rw [← hV]; exact al1 _ _ _
  obtain ⟨Y, hY⟩ : ∃ Y, V.alloc (.cells #[.slice none 0 0, .slice none 0 0] 47) = Y := ⟨_, rfl⟩
  have hO0 : Oth V [] [] Y (.slice none 0 0) (.slice none 0 0) := by rw [← hY]; exact Oth.new V
  obtain ⟨a1, n1, c1, w1, hr1, hb1, hO1⟩ := hO0.put (U := Y) (Kept.refl [] Y) (zs := us) (u := .slice au us.length cu) ((hu.kept kV).kept hO0.kept) (by simp only [List.length_nil]; omega)
  obtain ⟨Y1, hY1⟩ : ∃ Y1, w1.setCell ⟨V.heap.size, 0, none⟩ (.slice a1 n1 c1) = Y1 := ⟨_, rfl⟩
  rw [hY1] at hO1
  obtain ⟨a2, n2, c2, w2, hr2, hb2, hO2⟩ := hO1.put (U := Y1) (Kept.refl [] Y1) (zs := st) (u := .slice ads st.length cs) ((hs.kept kV).kept hO1.kept) (by simp only [List.nil_append]; omega)
  obtain ⟨Y2, hY2⟩ : ∃ Y2, w2.setCell ⟨V.heap.size, 0, none⟩ (.slice a2 n2 c2) = Y2 := ⟨_, rfl⟩
  rw [hY2] at hO2
  simp only [List.nil_append] at hO1 hO2
  obtain ⟨Y3, hY3⟩ : ∃ Y3, Y2.setCell ⟨V.heap.size, 1, none⟩ (.slice (some ⟨bl, ol, none⟩) lp.length cl) = Y3 := ⟨_, rfl⟩
  have kB3 : Kept [V.heap.size] Y2 Y3 := by rw [← hY3]; exact (Kept.refl _ Y2).setCell (.inl (by simp)) _
  have k3 : Kept [] V Y3 := by rw [← hY3]; exact hO2.kept.setCell (.inr (Nat.le_refl _)) _
  have l2 : Lets Y2 (.slice a2 n2 c2) (us ++ st) := lets_own hO2.own1 (fun x hx => (List.mem_append.1 hx).elim (hu.small x) (hs.small x)) (by rw [List.length_append]; omega)
  have hw3 : IsW Y3 (.slice a2 n2 c2) (.slice (some ⟨bl, ol, none⟩) lp.length cl) ⟨us ++ st, lp⟩ := ⟨l2.off hO2.box kB3, (hl.kept kV).kept k3, by show (us ++ st).length + lp.length ≤ _; rw [List.length_append]; omega⟩
  have hb3 : Wd2 Y3 V.heap.size (.slice a2 n2 c2) (.slice (some ⟨bl, ol, none⟩) lp.length cl) := by
    rw [← hY3]; unfold Wd2; rw [row_set hO2.box]; rfl
  have HNM : Hid (Calls Tryd.prog 52 #[.agg #[.slice a2 n2 c2, .slice (some ⟨bl, ol, none⟩) lp.length cl]] Y3 (RefMadeN Y3 ⟨us ++ st, lp⟩)) := refNormal_anyN _ _ ⟨us ++ st, lp⟩ Y3 hw3 (by show (us ++ st).length + lp.length ≤ _; rw [List.length_append]; omega)
  have HR1 : Hid (∀ ty, (Builtin.append_ #[45, 45] ty #[.slice none 0 0, .slice au us.length cu]).run Tryd.prog Y = .ok (.slice a1 n1 c1) w1) := hr1
  have HR2 : Hid (∀ ty, (Builtin.append_ #[45, 45] ty #[.slice a1 n1 c1, .slice ads st.length cs]).run Tryd.prog Y1 = .ok (.slice a2 n2 c2) w2) := hr2
  have HV : Hid (_ = V) := hV
  have HY : Hid (_ = Y) := hY
  have HY1 : Hid (_ = Y1) := hY1
  have HY2 : Hid (_ = Y2) := hY2
  have HY3 : Hid (_ = Y3) := hY3
  have HB : Hid (Wd2 Y3 (w.heap.size + 1) (.slice none 0 0) (.slice none 0 0)) := hB.kept k3
  have HK3 : Hid (Kept [] w Y3) := kV.trans k3 (by simp) (by simp)
  obtain ⟨p0, p1, p2, p3⟩ := hO0.box.cells
  obtain ⟨q0, q1, q2, q3⟩ := (show Wd2 w1 V.heap.size _ _ from hb1).cells
  obtain ⟨r0, r1, r2, r3⟩ := hO1.box.cells
  obtain ⟨t0, t1, t2, t3⟩ := (show Wd2 w2 V.heap.size _ _ from hb2).cells
  obtain ⟨s0, s1, s2, s3⟩ := hO2.box.cells
  obtain ⟨v0, v1, v2, v3⟩ := hb3.cells
  obtain ⟨e0, e1, _, _⟩ := (hA.kept hO1.kept).cells
  obtain ⟨f0, f1, _, _⟩ := (hA.kept hO2.kept).cells
  obtain ⟨d0, d1, _, _⟩ := hA.cells
  have b2 : ((lp.length : Int) == 0) = false := by rw [beq_eq_false_iff_ne]; omega
  have T1 : Hid True := trivial
  clear hV hY hY1 hY2 hY3 hr1 hr2 hb1 hb2 hO0 hO1 hO2 l2 hw3 hb3 hA hB kV k3 kB3 hu hs hl
  go_enter Tryd.func53, Tryd.ntmps53
  go_upto_region 1 with fail
  rw [HV.out]
  go_upto_region 4 with fail
  rw [HY.out]
  go_upto_region 5 with (at_builtin; refine Lib.wpList_append_run _ rfl _ _ _ _ rfl _ _ rfl rfl _ _ (HR1.out _) ?_)
  rw [HY1.out]
  go_upto_region 6 with (at_builtin; refine Lib.wpList_append_run _ rfl _ _ _ _ rfl _ _ rfl rfl _ _ (HR2.out _) ?_)
  rw [HY2.out]
  go_upto_region 7 with fail
  rw [HY3.out]
  go_wp2_with (go_at_call 52; refine HNM.out.mono ?_; rintro e W3 ⟨x1, m1, d1, x2, m2, d2, r, rfl, HI, HO, HK, HF⟩; obtain ⟨g0, g1, g2, g3⟩ := (HB.out.kept HK.out).cells)
  exact ret_word rfl rfl rfl ((HB.out.kept HK.out).set _ _) (refMade_setN HB.out (by omega) HK3.out HK.out HI.out HO.out HF.out)
end Go.Proofs.YtamfnefnaelgfaaDoor

/- The counter's row in memory. -/
namespace Go.Proofs.YtamfnefnaelgfaaDoor
open Go.RowKit Go.Shelf

/-- The last j letters are zero. -/
def rowZ (row : List Nat) (j : Nat) : List Nat := row.take (row.length - j) ++ List.replicate j 0
theorem rowZ_zero (row : List Nat) : rowZ row 0 = row := by simp [rowZ]
theorem rowZ_len {row : List Nat} {j : Nat} (h : j ≤ row.length) : (rowZ row j).length = row.length := by simp [rowZ]; omega
/-- The row around a letter. -/
theorem row_parts {row : List Nat} {i j : Nat} (h : row.length = i + 1 + j) : row = row.take i ++ row.getD i 0 :: row.drop (i + 1) := by
  have hi : i < row.length := by omega
  have e : row.getD i 0 = row[i] := by simp [List.getD_eq_getElem?_getD, hi]
  rw [e, ← List.drop_eq_getElem_cons hi, List.take_append_drop]
theorem rowZ_parts {row : List Nat} {i j : Nat} (h : row.length = i + 1 + j) : rowZ row j = row.take i ++ row.getD i 0 :: List.replicate j 0 := by
  have hi : i < row.length := by omega
  unfold rowZ
  rw [show row.length - j = i + 1 by omega, List.take_succ_eq_append_getElem hi, List.append_assoc]
  simp [List.getD_eq_getElem?_getD, hi]
theorem rowZ_at {row : List Nat} {i j : Nat} (h : row.length = i + 1 + j) : (rowZ row j)[i]? = some (row.getD i 0) := by
  rw [rowZ_parts h, List.getElem?_append_right (by rw [List.length_take]; omega), List.length_take, show i - min i row.length = 0 by omega]; rfl
theorem rowZ_set {row : List Nat} {i j x : Nat} (h : row.length = i + 1 + j) : (rowZ row j).set i x = row.take i ++ x :: List.replicate j 0 := by
  have hl : (row.take i).length = i := by rw [List.length_take]; omega
  rw [rowZ_parts h, List.set_append_right _ _ (by omega), hl, Nat.sub_self]; rfl
theorem rowZ_next {row : List Nat} {i j : Nat} (h : row.length = i + 1 + j) : (rowZ row j).set i 0 = rowZ row (j + 1) := by
  rw [rowZ_set h]; unfold rowZ; rw [show row.length - (j + 1) = i by omega, List.replicate_succ]
/-- The last j letters of a row are the highest. -/
def Tops (b : Nat) (row : List Nat) (j : Nat) : Prop := row.drop (row.length - j) = List.replicate j (b - 1)
theorem Tops.zero (b : Nat) (row : List Nat) : Tops b row 0 := by unfold Tops; simp
theorem Tops.next {b i j : Nat} {row : List Nat} (h : Tops b row j) (hi : row.length = i + 1 + j) (hc : row.getD i 0 = b - 1) : Tops b row (j + 1) := by
  unfold Tops at h ⊢
  rw [show row.length - j = i + 1 by omega] at h
  rw [show row.length - (j + 1) = i by omega, List.replicate_succ, ← h, ← hc]
  have hlt : i < row.length := by omega
  rw [List.drop_eq_getElem_cons hlt]
  simp [List.getD_eq_getElem?_getD, hlt]
theorem rowAt_small {b : Nat} (hb : 0 < b) : ∀ (n k : Nat), k < b ^ n → ∀ c ∈ rowAt b n k, c < b
  | 0, _, _, c, hc => by cases hc
  | n + 1, k, hk, c, hc => by
    have hp : 0 < b ^ n := Nat.pow_pos hb
    rcases List.mem_cons.1 hc with rfl | hc
    · exact Nat.div_lt_of_lt_mul (by rw [Nat.pow_succ] at hk; exact hk)
    · exact rowAt_small hb n _ (Nat.mod_lt _ hp) c hc
theorem rowN_rowAt {b : Nat} (hb : 0 < b) : ∀ (n k : Nat), k < b ^ n → rowN b (rowAt b n k) = k
  | 0, k, hk => by have : k < 1 := hk; show 0 = k; omega
  | n + 1, k, hk => by
    have hp : 0 < b ^ n := Nat.pow_pos hb
    show k / b ^ n * b ^ (rowAt b n (k % b ^ n)).length + rowN b (rowAt b n (k % b ^ n)) = k
    rw [rowAt_len, rowN_rowAt hb n _ (Nat.mod_lt _ hp), Nat.mul_comm]
    exact Nat.div_add_mod k (b ^ n)
theorem tops_all {b n k : Nat} (hb : 0 < b) (hk : k < b ^ n) (h : Tops b (rowAt b n k) n) : k + 1 = b ^ n := by
  unfold Tops at h
  rw [rowAt_len, Nat.sub_self, List.drop_zero] at h
  have e := rowN_rowAt hb n k hk
  rw [h] at e
  rw [← e]; exact rowN_tops hb n
theorem tops_step {b n k i j : Nat} (hb : 0 < b) (hk : k < b ^ n) (hi : n = i + 1 + j) (h : Tops b (rowAt b n k) j) (hc : (rowAt b n k).getD i 0 ≠ b - 1) :
    (rowZ (rowAt b n k) j).set i ((rowAt b n k).getD i 0 + 1) = rowAt b n (k + 1) ∧ k + 1 < b ^ n := by
  have hl := rowAt_len b n k
  have hil : (rowAt b n k).length = i + 1 + j := by rw [hl]; exact hi
  have hs := rowAt_small hb n k hk
  obtain ⟨row, hr⟩ : ∃ row, rowAt b n k = row := ⟨_, rfl⟩
  have hN := rowN_rowAt hb n k hk
  rw [hr] at hl hil hs hN h hc ⊢
  have hlt : i < row.length := by omega
  have hcb : row.getD i 0 < b := hs _ (by rw [show row.getD i 0 = row[i] by simp [List.getD_eq_getElem?_getD, hlt]]; exact List.getElem_mem _)
  have hd : row.drop (i + 1) = List.replicate j (b - 1) := by unfold Tops at h; rw [show row.length - j = i + 1 by omega] at h; exact h
  have hp := row_parts hil
  rw [hd] at hp
  have ht : (row.take i).length = i := by rw [List.length_take]; omega
  have st := row_step (b := b) (j := j) (c := row.getD i 0) (pre := row.take i) (fun x hx => hs x (List.mem_of_mem_take hx)) (by omega)
  rw [← hp, hN, ht, ← hi] at st
  refine ⟨by rw [rowZ_set hil]; exact st.symm, ?_⟩
  have e2 : rowN b (row.take i ++ (row.getD i 0 + 1) :: List.replicate j 0) = k + 1 := by
    rw [rowN_app]
    show _ * b ^ ((List.replicate j 0).length + 1) + ((row.getD i 0 + 1) * b ^ (List.replicate j 0).length + rowN b (List.replicate j 0)) = _
    have e3 : rowN b (row.take i ++ row.getD i 0 :: List.replicate j (b - 1)) = k := by rw [← hp]; exact hN
    rw [rowN_app] at e3
    have e4 : rowN b (row.take i) * b ^ ((List.replicate j (b - 1)).length + 1) + (row.getD i 0 * b ^ (List.replicate j (b - 1)).length + rowN b (List.replicate j (b - 1))) = k := e3
    rw [List.length_replicate] at e4 ⊢
    have e5 := rowN_tops hb j
    rw [rowN_zeros, Nat.add_mul, Nat.one_mul]; omega
  have := rowN_lt (b := b) (l := row.take i ++ (row.getD i 0 + 1) :: List.replicate j 0) (fun x hx => by
    rcases List.mem_append.1 hx with hx | hx
    · exact hs x (List.mem_of_mem_take hx)
    · rcases List.mem_cons.1 hx with rfl | hx
      · omega
      · rw [(List.mem_replicate.1 hx).2]; exact hb)
  rw [e2] at this
  rwa [show (row.take i ++ (row.getD i 0 + 1) :: List.replicate j 0).length = n by simp; omega] at this
/-- The counter's row, and what is made so far. -/
structure SmC (w : World) (row : List Nat) (L : List Wd) (v : Value) (wr : World) : Prop where
  kept : Kept [] w wr
  row : wr.heap[w.heap.size]? = some (.cells (u16s row).toArray 51 (0, 0))
  lst : Wds (w.heap.size + 1) wr v L
theorem Wds.low {n₀ n₁ : Nat} {W : World} {v : Value} {L : List Wd} (h : Wds n₀ W v L) (hn : n₁ ≤ n₀) : Wds n₁ W v L := by
  obtain ⟨vs, h1, h2⟩ := h
  exact ⟨vs, owns_low h1 hn, h2.turn fun _ _ _ q => q.low hn⟩
theorem SmC.go {w wr W : World} {row : List Nat} {L : List Wd} {v : Value} (h : SmC w row L v wr) (k : Kept [] wr W) : SmC w row L v W :=
  ⟨h.kept.trans k (by simp) (by simp), k.at h.row (by simp), h.lst.kept k⟩
theorem SmC.lt {w wr : World} {row : List Nat} {L : List Wd} {v : Value} (h : SmC w row L v wr) : w.heap.size < wr.heap.size := lt_of h.row
theorem SmC.put {w wr : World} {row : List Nat} {L : List Wd} {v : Value} (h : SmC w row L v wr) (i x : Nat) : SmC w (row.set i x) L v (wr.setCell ⟨w.heap.size, i, none⟩ (.int .u16 (x : Nat))) := by
  refine ⟨h.kept.setCell (p := ⟨w.heap.size, i, none⟩) (.inr (Nat.le_refl _)) _, ?_, h.lst.keptF ((Kept.refl [w.heap.size] wr).setCell (.inl (by simp)) _) (by simp)⟩
  rw [row_set h.row]
  congr 2
  apply Array.toList_inj.1
  simp [u16s, List.map_set]
theorem SmC.at {w wr : World} {row : List Nat} {L : List Wd} {v : Value} {i x : Nat} (h : SmC w row L v wr) (hx : row[i]? = some x) : wr.cell? ⟨w.heap.size, i, none⟩ = some (.int .u16 (x : Nat)) ∧ wr.frozen? ⟨w.heap.size, i, none⟩ = false := by
  refine ⟨?_, free_of h.row i⟩
  rw [cell_of h.row]
  simp [u16s, hx]
/-- The word that the row says. -/
theorem SmC.word {w wr : World} {row : List Nat} {L : List Wd} {v : Value} {stem n : Nat} (h : SmC w row L v wr) (hs : ∀ x ∈ row, x < 65536) (hn : row.length = n) (hf : n ≤ 1000) (hst : stem < n) :
    IsW wr (.slice (some ⟨w.heap.size, 0, none⟩) stem n) (.slice (some ⟨w.heap.size, stem, none⟩) (n - stem) (n - stem)) (wdOf stem row) := by
  subst hn
  have ho : wr.ownsRow w.heap.size 51 1 (.slice (some ⟨w.heap.size, 0, none⟩) row.length row.length) row.length (u16s row) :=
    ⟨by simp [u16s], .inr ⟨w.heap.size, row.length, _, rfl, Nat.le_refl _, h.row, Nat.le_refl _, by unfold maxLen; omega, by simp [u16s], by simp [u16s, List.take_of_length_le]⟩⟩
  have := grow_word ho hs hf (Nat.le_of_lt hst)
  rwa [if_neg (by omega)] at this
end Go.Proofs.YtamfnefnaelgfaaDoor
