/- NnfMeans: the walk. -/
import Derived.Test.YtnpeghaficghaaaGreatDoorGS
import Derived.Test.YtnpeghaficghaaaGreatDoorGQ
import Derived.Test.YtnpeghaficghaaaGreatDoorGR
namespace Go.Proofs.YtnpeghaficghaaaGreatDoor
open Go.RowKit Go.Shelf Go.Maps

theorem along_of {p : Tr} {xs : List ByteArray} {q : Wd} (hG : p.Good) (hs : p.size ≤ 1000) (hd : p.depth ≤ 100) (hN : p.Named xs) (hl : listBool xs = true) (hc : checkE q xs.length = 0) : alongE p xs q = 0 := by
  have hf : fitsN p xs = 0 := by
    unfold fitsN
    rw [if_neg (by simp [right_of_good0 hG hs hd]), lack_of_named hN]; rfl
  unfold alongE
  rw [if_neg (by simp [hf]), if_neg (by simp [hl]), if_neg (by simp [hc])]
theorem row_alike {xs : List ByteArray} {q : Wd} {t u : Tr} (h0 : 0 < q.loop.length) (gt : t.Good) (gu : u.Good) (h : sat q.at xs u 0 ↔ sat q.at xs t 0) : rowT q xs u 0 = rowT q xs t 0 := by
  have hp : plc q 0 = 0 := plc_of_lt (by unfold Wd.len; omega)
  have h1 := row_sat h0 xs t gt 0
  have h2 := row_sat h0 xs u gu 0
  rw [hp] at h1 h2
  rw [Bool.eq_iff_iff, h1, h2]; exact h
theorem row_contrary {xs : List ByteArray} {q : Wd} {t u : Tr} (h0 : 0 < q.loop.length) (gt : t.Good) (gu : u.Good) (h : sat q.at xs u 0 ↔ ¬ sat q.at xs t 0) : rowT q xs u 0 = !rowT q xs t 0 := by
  have hp : plc q 0 = 0 := plc_of_lt (by unfold Wd.len; omega)
  have h1 := row_sat h0 xs t gt 0
  have h2 := row_sat h0 xs u gu 0
  rw [hp] at h1 h2
  rw [Bool.eq_iff_iff, h2, h, ← h1]; simp
theorem fit_of {t p : Tr} (h : madeE t p = 0) : p.size ≤ 1000 ∧ p.depth ≤ 100 := by
  unfold madeE at h
  split at h
  · cases h
  · split at h
    · rename_i hf; unfold fitB at hf; simpa using hf
    · cases h
theorem hid_app {p r : Prop} (h : Hid (p → r)) (x : p) : Hid r := h x
theorem much_case {f : Tr} {m : Nat} (h : m ≤ 1048576 → f.wsum = m) : (100000 : Int) < (m : Int) ∨ (¬ (100000 : Int) < (m : Int) ∧ Hid (f.size ≤ 100000)) := by
  rcases Nat.lt_or_ge 100000 m with h1 | h1
  · exact Or.inl (by omega)
  · refine Or.inr ⟨by omega, ?_⟩
    have h2 := h (by omega)
    have h3 := Tr.size_wsum f
    show f.size ≤ 100000
    omega
set_option maxHeartbeats 4000000 in
set_option maxRecDepth 20000 in
theorem nnfMeans_walk (f : Tr) (fv nv sv lv : Value) (xs : List ByteArray) (q : Wd) (w : World) (hI : IsF w f fv) (hF : f.Fine) (hM : f.Modest) (hN : Strs w nv xs) (_hX : ∀ x ∈ xs, x.size ≤ 140737488351232) (hS : Lets w sv q.stem) (hL : Lets w lv q.loop) (hT : KidsTab w) (hU : TurnTab w) :
    Calls Tryz.prog 3 #[.agg #[.int .u8 (f.op : Nat), .string f.name, fv], nv, .agg #[sv, lv]] w fun e w' => e = .returned (.bool true) ∧ Kept [] w w' := by
  obtain ⟨kad, kcap, rfl⟩ := hI.slice
  have hfs := hS.few
  have hfl := hL.few
  obtain ⟨ad, c, rfl, _⟩ := hN.form
  obtain ⟨ast, cs, rfl, _, _⟩ := hS.form
  obtain ⟨al, cl, rfl, _, _⟩ := hL.form
  obtain ⟨V, hV⟩ : ∃ V, (w.alloc (.cells #[.int .u8 (f.op : Nat), .string f.name, .slice kad f.kids.length kcap] 25)).alloc (.cells #[.slice ast q.stem.length cs, .slice al q.loop.length cl] 29) = V := ⟨_, rfl⟩
  have kV : Kept [] w V := by rw [← hV]; exact ((Kept.refl [] w).alloc _).alloc _
  have v0 : For3 V w.heap.size (.int .u8 (f.op : Nat)) (.string f.name) (.slice kad f.kids.length kcap) := by rw [← hV]; exact alUp (al0 _ _) _
  have v1 : Wd2 V (w.heap.size + 1) (.slice ast q.stem.length cs) (.slice al q.loop.length cl) := by rw [← hV]; exact al1 _ _ _
  have HWT : Hid (Calls Tryz.prog 4 #[.agg #[.int .u8 (f.op : Nat), .string f.name, .slice kad f.kids.length kcap]] V fun e w' => ∃ n : Nat, e = .returned (.int .i64 (n : Nat)) ∧ n ≤ 145036750680577 ∧ (n ≤ 1048576 → f.wsum = n) ∧ Kept [] V w') := weightAll_any f _ V (hI.kept kV) hM
  have HKV : Hid (Kept [] w V) := kV
  have HV0 : Hid (For3 V w.heap.size (.int .u8 (f.op : Nat)) (.string f.name) (.slice kad f.kids.length kcap)) := v0
  have HV1 : Hid (Wd2 V (w.heap.size + 1) (.slice ast q.stem.length cs) (.slice al q.loop.length cl)) := v1
  have HVV : Hid (_ = V) := hV
  rw [← hV] at HWT
  by_cases hx : xs.length ≤ 8
  · have hxi : ¬ (8 : Int) < (xs.length : Int) := by omega
    by_cases hq : q.stem.length + q.loop.length ≤ 300
    · have hqi : ¬ (300 : Int) < (q.stem.length : Int) + (q.loop.length : Int) := by omega
      have hW : IsW w (.slice ast q.stem.length cs) (.slice al q.loop.length cl) q := ⟨hS, hL, by omega⟩
      have HKN : Hid (∀ W, Kept [] V W → Calls Tryz.prog 5 #[] W fun e w' => e = .returned (.bool true) ∧ Kept [] W w') := fun W k => known_any W ((hT.kept kV).kept k) ((hU.kept kV).kept k)
      have HHO : Hid (∀ (p : Tr) (pa : Option Addr) (pc : Nat) (W : World), Kept [] V W → IsF W p (.slice pa p.kids.length pc) → p.Good → p.size ≤ 1000 → p.depth ≤ 100 → p.Named xs → listBool xs = true → checkE q xs.length = 0 → Calls Tryz.prog 6 #[.agg #[.int .u8 (p.op : Nat), .string p.name, .slice pa p.kids.length pc], .slice ad xs.length c, .agg #[.slice ast q.stem.length cs, .slice al q.loop.length cl]] W fun e w' => e = .returned (.tuple #[.bool (rowT q xs p 0), .int .i64 0]) ∧ Kept [] W w') := fun p pa pc W k hp g1 g2 g3 g4 g5 g6 => holds_ok p _ _ _ _ xs q W hp (good_fine g1) ((hN.kept kV).kept k) ((hW.kept kV).kept k) ((hT.kept kV).kept k) (by omega) (by omega) (along_of g1 g2 g3 g4 g5 g6)
      by_cases he : alongE f xs q = 0
      · obtain ⟨hf, hl, hc⟩ := along_zero he
        obtain ⟨g1, g2, g4, hr⟩ := fits_zero hf
        have g3 : f.depth ≤ 100 := (good_of_right0 hr).2.2
        have h0 := check_zero hc
        have gS := simp_names (P := fun s => hasN xs s = true) f g1 g4
        have gN := nd_names (P := fun s => hasN xs s = true) f g1
        have hless := simp_less f g1
        have hgd := nd_good f g1
        obtain ⟨b, hb⟩ : ∃ b, rowT q xs f 0 = b := ⟨_, rfl⟩
        have eS : rowT q xs (simpT f) 0 = b := by rw [← hb]; exact row_alike h0 g1 gS.1 (simp_sat q.at xs f g1 0)
        have eN : rowT q xs (nd f).1 0 = b := by rw [← hb]; exact row_alike h0 g1 hgd.1 ((nd_sat q.at xs f g1).1 0)
        have eD : rowT q xs (nd f).2 0 = !b := by rw [← hb]; exact row_contrary h0 g1 hgd.2 ((nd_sat q.at xs f g1).2 0)
        have HHF : Hid (∀ W, Kept [] V W → Calls Tryz.prog 6 #[.agg #[.int .u8 (f.op : Nat), .string f.name, .slice kad f.kids.length kcap], .slice ad xs.length c, .agg #[.slice ast q.stem.length cs, .slice al q.loop.length cl]] W fun e w' => e = .returned (.tuple #[.bool b, .int .i64 0]) ∧ Kept [] W w') := fun W k => by
          have := HHO.out f kad kcap W k ((hI.kept kV).kept k) g1 g2 g3 g4 hl hc
          rw [hb] at this
          exact this
        have HSI : Hid (∀ W, Kept [] V W → Calls Tryz.prog 7 #[.agg #[.int .u8 (f.op : Nat), .string f.name, .slice kad f.kids.length kcap]] W (MadeAs W 0 (simpT f))) := fun W k => by
          have := simple_any f _ W ((hI.kept kV).kept k) (by omega) (by omega) hF ((hT.kept kV).kept k) ((hU.kept kV).kept k)
          rw [if_neg (by simp [hr])] at this
          exact this
        have HNO : Hid (∀ W, Kept [] V W → Calls Tryz.prog 8 #[.agg #[.int .u8 (f.op : Nat), .string f.name, .slice kad f.kids.length kcap]] W (MadeAs W (madeE f (nd f).1) (nd f).1)) := fun W k => normal_any f _ W ((hI.kept kV).kept k) (by omega) (by omega) hF ((hT.kept kV).kept k)
        have HDU : Hid (∀ W, Kept [] V W → Calls Tryz.prog 9 #[.agg #[.int .u8 (f.op : Nat), .string f.name, .slice kad f.kids.length kcap]] W (MadeAs W (madeE f (nd f).2) (nd f).2)) := fun W k => dual_any f _ W ((hI.kept kV).kept k) (by omega) (by omega) hF ((hT.kept kV).kept k)
        have HHS : Hid (∀ (W : World) pa pc, Kept [] V W → IsF W (simpT f) (.slice pa (simpT f).kids.length pc) → Calls Tryz.prog 6 #[.agg #[.int .u8 ((simpT f).op : Nat), .string (simpT f).name, .slice pa (simpT f).kids.length pc], .slice ad xs.length c, .agg #[.slice ast q.stem.length cs, .slice al q.loop.length cl]] W fun e w' => e = .returned (.tuple #[.bool b, .int .i64 0]) ∧ Kept [] W w') := fun W pa pc k hp => by
          have := HHO.out (simpT f) pa pc W k hp gS.1 (by omega) (by omega) gS.2 hl hc
          rw [eS] at this
          exact this
        have HHN : Hid (madeE f (nd f).1 = 0 → ∀ (W : World) pa pc, Kept [] V W → IsF W (nd f).1 (.slice pa (nd f).1.kids.length pc) → Calls Tryz.prog 6 #[.agg #[.int .u8 ((nd f).1.op : Nat), .string (nd f).1.name, .slice pa (nd f).1.kids.length pc], .slice ad xs.length c, .agg #[.slice ast q.stem.length cs, .slice al q.loop.length cl]] W fun e w' => e = .returned (.tuple #[.bool b, .int .i64 0]) ∧ Kept [] W w') := fun hm W pa pc k hp => by
          have := HHO.out (nd f).1 pa pc W k hp hgd.1 (fit_of hm).1 (fit_of hm).2 (gN.1.2 g4) hl hc
          rw [eN] at this
          exact this
        have HHD : Hid (madeE f (nd f).2 = 0 → ∀ (W : World) pa pc, Kept [] V W → IsF W (nd f).2 (.slice pa (nd f).2.kids.length pc) → Calls Tryz.prog 6 #[.agg #[.int .u8 ((nd f).2.op : Nat), .string (nd f).2.name, .slice pa (nd f).2.kids.length pc], .slice ad xs.length c, .agg #[.slice ast q.stem.length cs, .slice al q.loop.length cl]] W fun e w' => e = .returned (.tuple #[.bool (!b), .int .i64 0]) ∧ Kept [] W w') := fun hm W pa pc k hp => by
          have := HHO.out (nd f).2 pa pc W k hp hgd.2 (fit_of hm).1 (fit_of hm).2 (gN.2.2 g4) hl hc
          rw [eD] at this
          exact this
        clear HHO he hr hb hless hgd
        generalize madeE f (nd f).1 = en at *
        generalize madeE f (nd f).2 = ed at *
        generalize simpT f = ps at *
        generalize (nd f).1 = pn at *
        generalize (nd f).2 = pd at *
        by_cases hn : en = 0
        · subst hn
          replace HHN := hid_app HHN rfl
          by_cases hd : ed = 0
          · subst hd
            replace HHD := hid_app HHD rfl
            cases b
            · skip
              have T0 : Hid True := trivial
              have T1 : Hid True := trivial
              have T2 : Hid True := trivial
              have T3 : Hid True := trivial
              have T4 : Hid True := trivial
              have T5 : Hid True := trivial
              have T6 : Hid True := trivial
              have T7 : Hid True := trivial
              have T8 : Hid True := trivial
              clear hI hF hM hN hS hL hT hU kV v0 v1 hV hx hq hW g1 g2 g3 g4 h0 hf hl hc gS gN
              clear eS eN eD
              (try clear hn); (try clear hd)
              go_enter Tryz.func3, Tryz.ntmps3
              go_wp2_with (first
                | (clear T0; go_at_call 4; refine HWT.out.mono ?_; rintro e W1 ⟨m, rfl, hm1, hm2, k1⟩; rw [HVV.out] at k1; have HK1 : Hid (Kept [] V W1) := k1; obtain ⟨g0, g1, _, _⟩ := (HV1.out.kept k1).cells; clear k1; rcases much_case hm2 with h1i | ⟨h1i, HSZ⟩)
                | (clear T1; go_at_call 5; refine (HKN.out _ HK1.out).mono ?_; rintro e W2 ⟨rfl, k2⟩; have HK2 : Hid (Kept [] V W2) := HK1.out.trans k2 (by simp) (by simp); obtain ⟨f0, f1, f2, -⟩ := (HV0.out.kept HK2.out).cells; obtain ⟨j0, j1, _, _⟩ := (HV1.out.kept HK2.out).cells; clear k2)
                | (clear T2; go_at_call 6; refine (HHF.out _ HK2.out).mono ?_; rintro e W3 ⟨rfl, kk⟩; have HK3 : Hid (Kept [] V W3) := HK2.out.trans kk (by simp) (by simp); obtain ⟨x3_0, x3_1, x3_2, -⟩ := (HV0.out.kept HK3.out).cells; clear kk)
                | (clear T3; go_at_call 7; refine (HSI.out _ HK3.out).mono ?_; rintro e W4 hm; obtain ⟨sa, sc, rfl, i1, kk⟩ := hm.ok; have HK4 : Hid (Kept [] V W4) := HK3.out.trans kk (by simp) (by simp); have y4_0 := (fun o => cell_kept0 ((Kept.refl [] W4).alloc o) (HV1.out.kept HK4.out).cells.1); have y4_1 := (fun o => cell_kept0 ((Kept.refl [] W4).alloc o) (HV1.out.kept HK4.out).cells.2.1); have HSB : Hid (∀ o, IsF (W4.alloc o) ps (.slice sa ps.kids.length sc)) := (fun o => i1.kept ((Kept.refl [] W4).alloc o)); clear kk i1)
                | (clear T4; go_at_call 6; refine (HHS.out _ _ _ (HK4.out.alloc _) (HSB.out _)).mono ?_; rintro e W5 ⟨rfl, kk⟩; have HK5 : Hid (Kept [] V W5) := (HK4.out.alloc _).trans kk (by simp) (by simp); obtain ⟨x5_0, x5_1, x5_2, -⟩ := (HV0.out.kept HK5.out).cells; clear kk)
                | (clear T5; go_at_call 8; refine (HNO.out _ HK5.out).mono ?_; rintro e W6 hm; obtain ⟨na, nc, rfl, i1, kk⟩ := hm.ok; have HK6 : Hid (Kept [] V W6) := HK5.out.trans kk (by simp) (by simp); have y6_0 := (fun o => cell_kept0 ((Kept.refl [] W6).alloc o) (HV1.out.kept HK6.out).cells.1); have y6_1 := (fun o => cell_kept0 ((Kept.refl [] W6).alloc o) (HV1.out.kept HK6.out).cells.2.1); have HNI : Hid (∀ o, IsF (W6.alloc o) pn (.slice na pn.kids.length nc)) := (fun o => i1.kept ((Kept.refl [] W6).alloc o)); clear kk i1)
                | (clear T6; go_at_call 6; refine (HHN.out _ _ _ (HK6.out.alloc _) (HNI.out _)).mono ?_; rintro e W7 ⟨rfl, kk⟩; have HK7 : Hid (Kept [] V W7) := (HK6.out.alloc _).trans kk (by simp) (by simp); obtain ⟨x7_0, x7_1, x7_2, -⟩ := (HV0.out.kept HK7.out).cells; clear kk)
                | (clear T7; go_at_call 9; refine (HDU.out _ HK7.out).mono ?_; rintro e W8 hm; obtain ⟨da, dc, rfl, i1, kk⟩ := hm.ok; have HK8 : Hid (Kept [] V W8) := HK7.out.trans kk (by simp) (by simp); have y8_0 := (fun o => cell_kept0 ((Kept.refl [] W8).alloc o) (HV1.out.kept HK8.out).cells.1); have y8_1 := (fun o => cell_kept0 ((Kept.refl [] W8).alloc o) (HV1.out.kept HK8.out).cells.2.1); have HDI : Hid (∀ o, IsF (W8.alloc o) pd (.slice da pd.kids.length dc)) := (fun o => i1.kept ((Kept.refl [] W8).alloc o)); clear kk i1)
                | (clear T8; go_at_call 6; refine (HHD.out _ _ _ (HK8.out.alloc _) (HDI.out _)).mono ?_; rintro e W9 ⟨rfl, kk⟩; have HK9 : Hid (Kept [] V W9) := (HK8.out.alloc _).trans kk (by simp) (by simp); clear kk))
              all_goals go_ret
              all_goals first
                | exact ⟨rfl, HKV.out.trans HK9.out (by simp) (by simp)⟩
                | exact ⟨rfl, (HKV.out.trans HK9.out (by simp) (by simp)).alloc _⟩
                | exact ⟨rfl, HKV.out.trans HK1.out (by simp) (by simp)⟩
            · skip
              have T0 : Hid True := trivial
              have T1 : Hid True := trivial
              have T2 : Hid True := trivial
              have T3 : Hid True := trivial
              have T4 : Hid True := trivial
              have T5 : Hid True := trivial
              have T6 : Hid True := trivial
              have T7 : Hid True := trivial
              have T8 : Hid True := trivial
              clear hI hF hM hN hS hL hT hU kV v0 v1 hV hx hq hW g1 g2 g3 g4 h0 hf hl hc gS gN
              clear eS eN eD
              (try clear hn); (try clear hd)
              go_enter Tryz.func3, Tryz.ntmps3
              go_wp2_with (first
                | (clear T0; go_at_call 4; refine HWT.out.mono ?_; rintro e W1 ⟨m, rfl, hm1, hm2, k1⟩; rw [HVV.out] at k1; have HK1 : Hid (Kept [] V W1) := k1; obtain ⟨g0, g1, _, _⟩ := (HV1.out.kept k1).cells; clear k1; rcases much_case hm2 with h1i | ⟨h1i, HSZ⟩)
                | (clear T1; go_at_call 5; refine (HKN.out _ HK1.out).mono ?_; rintro e W2 ⟨rfl, k2⟩; have HK2 : Hid (Kept [] V W2) := HK1.out.trans k2 (by simp) (by simp); obtain ⟨f0, f1, f2, -⟩ := (HV0.out.kept HK2.out).cells; obtain ⟨j0, j1, _, _⟩ := (HV1.out.kept HK2.out).cells; clear k2)
                | (clear T2; go_at_call 6; refine (HHF.out _ HK2.out).mono ?_; rintro e W3 ⟨rfl, kk⟩; have HK3 : Hid (Kept [] V W3) := HK2.out.trans kk (by simp) (by simp); obtain ⟨x3_0, x3_1, x3_2, -⟩ := (HV0.out.kept HK3.out).cells; clear kk)
                | (clear T3; go_at_call 7; refine (HSI.out _ HK3.out).mono ?_; rintro e W4 hm; obtain ⟨sa, sc, rfl, i1, kk⟩ := hm.ok; have HK4 : Hid (Kept [] V W4) := HK3.out.trans kk (by simp) (by simp); have y4_0 := (fun o => cell_kept0 ((Kept.refl [] W4).alloc o) (HV1.out.kept HK4.out).cells.1); have y4_1 := (fun o => cell_kept0 ((Kept.refl [] W4).alloc o) (HV1.out.kept HK4.out).cells.2.1); have HSB : Hid (∀ o, IsF (W4.alloc o) ps (.slice sa ps.kids.length sc)) := (fun o => i1.kept ((Kept.refl [] W4).alloc o)); clear kk i1)
                | (clear T4; go_at_call 6; refine (HHS.out _ _ _ (HK4.out.alloc _) (HSB.out _)).mono ?_; rintro e W5 ⟨rfl, kk⟩; have HK5 : Hid (Kept [] V W5) := (HK4.out.alloc _).trans kk (by simp) (by simp); obtain ⟨x5_0, x5_1, x5_2, -⟩ := (HV0.out.kept HK5.out).cells; clear kk)
                | (clear T5; go_at_call 8; refine (HNO.out _ HK5.out).mono ?_; rintro e W6 hm; obtain ⟨na, nc, rfl, i1, kk⟩ := hm.ok; have HK6 : Hid (Kept [] V W6) := HK5.out.trans kk (by simp) (by simp); have y6_0 := (fun o => cell_kept0 ((Kept.refl [] W6).alloc o) (HV1.out.kept HK6.out).cells.1); have y6_1 := (fun o => cell_kept0 ((Kept.refl [] W6).alloc o) (HV1.out.kept HK6.out).cells.2.1); have HNI : Hid (∀ o, IsF (W6.alloc o) pn (.slice na pn.kids.length nc)) := (fun o => i1.kept ((Kept.refl [] W6).alloc o)); clear kk i1)
                | (clear T6; go_at_call 6; refine (HHN.out _ _ _ (HK6.out.alloc _) (HNI.out _)).mono ?_; rintro e W7 ⟨rfl, kk⟩; have HK7 : Hid (Kept [] V W7) := (HK6.out.alloc _).trans kk (by simp) (by simp); obtain ⟨x7_0, x7_1, x7_2, -⟩ := (HV0.out.kept HK7.out).cells; clear kk)
                | (clear T7; go_at_call 9; refine (HDU.out _ HK7.out).mono ?_; rintro e W8 hm; obtain ⟨da, dc, rfl, i1, kk⟩ := hm.ok; have HK8 : Hid (Kept [] V W8) := HK7.out.trans kk (by simp) (by simp); have y8_0 := (fun o => cell_kept0 ((Kept.refl [] W8).alloc o) (HV1.out.kept HK8.out).cells.1); have y8_1 := (fun o => cell_kept0 ((Kept.refl [] W8).alloc o) (HV1.out.kept HK8.out).cells.2.1); have HDI : Hid (∀ o, IsF (W8.alloc o) pd (.slice da pd.kids.length dc)) := (fun o => i1.kept ((Kept.refl [] W8).alloc o)); clear kk i1)
                | (clear T8; go_at_call 6; refine (HHD.out _ _ _ (HK8.out.alloc _) (HDI.out _)).mono ?_; rintro e W9 ⟨rfl, kk⟩; have HK9 : Hid (Kept [] V W9) := (HK8.out.alloc _).trans kk (by simp) (by simp); clear kk))
              all_goals go_ret
              all_goals first
                | exact ⟨rfl, HKV.out.trans HK9.out (by simp) (by simp)⟩
                | exact ⟨rfl, (HKV.out.trans HK9.out (by simp) (by simp)).alloc _⟩
                | exact ⟨rfl, HKV.out.trans HK1.out (by simp) (by simp)⟩
          · have HBDual : Hid (ed ≠ 0) := hd
            have hdi : ((ed : Int) == 0) = false := by rw [beq_eq_false_iff_ne]; omega
            cases b
            · skip
              have T0 : Hid True := trivial
              have T1 : Hid True := trivial
              have T2 : Hid True := trivial
              have T3 : Hid True := trivial
              have T4 : Hid True := trivial
              have T5 : Hid True := trivial
              have T6 : Hid True := trivial
              have T7 : Hid True := trivial
              have T8 : Hid True := trivial
              clear hI hF hM hN hS hL hT hU kV v0 v1 hV hx hq hW g1 g2 g3 g4 h0 hf hl hc gS gN
              clear eS eN eD
              (try clear hn); (try clear hd)
              go_enter Tryz.func3, Tryz.ntmps3
              go_wp2_with (first
                | (clear T0; go_at_call 4; refine HWT.out.mono ?_; rintro e W1 ⟨m, rfl, hm1, hm2, k1⟩; rw [HVV.out] at k1; have HK1 : Hid (Kept [] V W1) := k1; obtain ⟨g0, g1, _, _⟩ := (HV1.out.kept k1).cells; clear k1; rcases much_case hm2 with h1i | ⟨h1i, HSZ⟩)
                | (clear T1; go_at_call 5; refine (HKN.out _ HK1.out).mono ?_; rintro e W2 ⟨rfl, k2⟩; have HK2 : Hid (Kept [] V W2) := HK1.out.trans k2 (by simp) (by simp); obtain ⟨f0, f1, f2, -⟩ := (HV0.out.kept HK2.out).cells; obtain ⟨j0, j1, _, _⟩ := (HV1.out.kept HK2.out).cells; clear k2)
                | (clear T2; go_at_call 6; refine (HHF.out _ HK2.out).mono ?_; rintro e W3 ⟨rfl, kk⟩; have HK3 : Hid (Kept [] V W3) := HK2.out.trans kk (by simp) (by simp); obtain ⟨x3_0, x3_1, x3_2, -⟩ := (HV0.out.kept HK3.out).cells; clear kk)
                | (clear T3; go_at_call 7; refine (HSI.out _ HK3.out).mono ?_; rintro e W4 hm; obtain ⟨sa, sc, rfl, i1, kk⟩ := hm.ok; have HK4 : Hid (Kept [] V W4) := HK3.out.trans kk (by simp) (by simp); have y4_0 := (fun o => cell_kept0 ((Kept.refl [] W4).alloc o) (HV1.out.kept HK4.out).cells.1); have y4_1 := (fun o => cell_kept0 ((Kept.refl [] W4).alloc o) (HV1.out.kept HK4.out).cells.2.1); have HSB : Hid (∀ o, IsF (W4.alloc o) ps (.slice sa ps.kids.length sc)) := (fun o => i1.kept ((Kept.refl [] W4).alloc o)); clear kk i1)
                | (clear T4; go_at_call 6; refine (HHS.out _ _ _ (HK4.out.alloc _) (HSB.out _)).mono ?_; rintro e W5 ⟨rfl, kk⟩; have HK5 : Hid (Kept [] V W5) := (HK4.out.alloc _).trans kk (by simp) (by simp); obtain ⟨x5_0, x5_1, x5_2, -⟩ := (HV0.out.kept HK5.out).cells; clear kk)
                | (clear T5; go_at_call 8; refine (HNO.out _ HK5.out).mono ?_; rintro e W6 hm; obtain ⟨na, nc, rfl, i1, kk⟩ := hm.ok; have HK6 : Hid (Kept [] V W6) := HK5.out.trans kk (by simp) (by simp); have y6_0 := (fun o => cell_kept0 ((Kept.refl [] W6).alloc o) (HV1.out.kept HK6.out).cells.1); have y6_1 := (fun o => cell_kept0 ((Kept.refl [] W6).alloc o) (HV1.out.kept HK6.out).cells.2.1); have HNI : Hid (∀ o, IsF (W6.alloc o) pn (.slice na pn.kids.length nc)) := (fun o => i1.kept ((Kept.refl [] W6).alloc o)); clear kk i1)
                | (clear T6; go_at_call 6; refine (HHN.out _ _ _ (HK6.out.alloc _) (HNI.out _)).mono ?_; rintro e W7 ⟨rfl, kk⟩; have HK7 : Hid (Kept [] V W7) := (HK6.out.alloc _).trans kk (by simp) (by simp); obtain ⟨x7_0, x7_1, x7_2, -⟩ := (HV0.out.kept HK7.out).cells; clear kk)
                | (clear T7; go_at_call 9; refine (HDU.out _ HK7.out).mono ?_; rintro e W8 hm; obtain ⟨rfl, kk⟩ := hm.bad HBDual.out; have HK8 : Hid (Kept [] V W8) := HK7.out.trans kk (by simp) (by simp); have x8_0 := (fun o => cell_kept0 ((Kept.refl [] W8).alloc o) (HV0.out.kept HK8.out).cells.1); have x8_1 := (fun o => cell_kept0 ((Kept.refl [] W8).alloc o) (HV0.out.kept HK8.out).cells.2.1); have x8_2 := (fun o => cell_kept0 ((Kept.refl [] W8).alloc o) (HV0.out.kept HK8.out).cells.2.2.1); clear kk))
              all_goals go_ret
              all_goals first
                | exact ⟨rfl, HKV.out.trans HK8.out (by simp) (by simp)⟩
                | exact ⟨rfl, (HKV.out.trans HK8.out (by simp) (by simp)).alloc _⟩
                | exact ⟨rfl, HKV.out.trans HK1.out (by simp) (by simp)⟩
            · skip
              have T0 : Hid True := trivial
              have T1 : Hid True := trivial
              have T2 : Hid True := trivial
              have T3 : Hid True := trivial
              have T4 : Hid True := trivial
              have T5 : Hid True := trivial
              have T6 : Hid True := trivial
              have T7 : Hid True := trivial
              have T8 : Hid True := trivial
              clear hI hF hM hN hS hL hT hU kV v0 v1 hV hx hq hW g1 g2 g3 g4 h0 hf hl hc gS gN
              clear eS eN eD
              (try clear hn); (try clear hd)
              go_enter Tryz.func3, Tryz.ntmps3
              go_wp2_with (first
                | (clear T0; go_at_call 4; refine HWT.out.mono ?_; rintro e W1 ⟨m, rfl, hm1, hm2, k1⟩; rw [HVV.out] at k1; have HK1 : Hid (Kept [] V W1) := k1; obtain ⟨g0, g1, _, _⟩ := (HV1.out.kept k1).cells; clear k1; rcases much_case hm2 with h1i | ⟨h1i, HSZ⟩)
                | (clear T1; go_at_call 5; refine (HKN.out _ HK1.out).mono ?_; rintro e W2 ⟨rfl, k2⟩; have HK2 : Hid (Kept [] V W2) := HK1.out.trans k2 (by simp) (by simp); obtain ⟨f0, f1, f2, -⟩ := (HV0.out.kept HK2.out).cells; obtain ⟨j0, j1, _, _⟩ := (HV1.out.kept HK2.out).cells; clear k2)
                | (clear T2; go_at_call 6; refine (HHF.out _ HK2.out).mono ?_; rintro e W3 ⟨rfl, kk⟩; have HK3 : Hid (Kept [] V W3) := HK2.out.trans kk (by simp) (by simp); obtain ⟨x3_0, x3_1, x3_2, -⟩ := (HV0.out.kept HK3.out).cells; clear kk)
                | (clear T3; go_at_call 7; refine (HSI.out _ HK3.out).mono ?_; rintro e W4 hm; obtain ⟨sa, sc, rfl, i1, kk⟩ := hm.ok; have HK4 : Hid (Kept [] V W4) := HK3.out.trans kk (by simp) (by simp); have y4_0 := (fun o => cell_kept0 ((Kept.refl [] W4).alloc o) (HV1.out.kept HK4.out).cells.1); have y4_1 := (fun o => cell_kept0 ((Kept.refl [] W4).alloc o) (HV1.out.kept HK4.out).cells.2.1); have HSB : Hid (∀ o, IsF (W4.alloc o) ps (.slice sa ps.kids.length sc)) := (fun o => i1.kept ((Kept.refl [] W4).alloc o)); clear kk i1)
                | (clear T4; go_at_call 6; refine (HHS.out _ _ _ (HK4.out.alloc _) (HSB.out _)).mono ?_; rintro e W5 ⟨rfl, kk⟩; have HK5 : Hid (Kept [] V W5) := (HK4.out.alloc _).trans kk (by simp) (by simp); obtain ⟨x5_0, x5_1, x5_2, -⟩ := (HV0.out.kept HK5.out).cells; clear kk)
                | (clear T5; go_at_call 8; refine (HNO.out _ HK5.out).mono ?_; rintro e W6 hm; obtain ⟨na, nc, rfl, i1, kk⟩ := hm.ok; have HK6 : Hid (Kept [] V W6) := HK5.out.trans kk (by simp) (by simp); have y6_0 := (fun o => cell_kept0 ((Kept.refl [] W6).alloc o) (HV1.out.kept HK6.out).cells.1); have y6_1 := (fun o => cell_kept0 ((Kept.refl [] W6).alloc o) (HV1.out.kept HK6.out).cells.2.1); have HNI : Hid (∀ o, IsF (W6.alloc o) pn (.slice na pn.kids.length nc)) := (fun o => i1.kept ((Kept.refl [] W6).alloc o)); clear kk i1)
                | (clear T6; go_at_call 6; refine (HHN.out _ _ _ (HK6.out.alloc _) (HNI.out _)).mono ?_; rintro e W7 ⟨rfl, kk⟩; have HK7 : Hid (Kept [] V W7) := (HK6.out.alloc _).trans kk (by simp) (by simp); obtain ⟨x7_0, x7_1, x7_2, -⟩ := (HV0.out.kept HK7.out).cells; clear kk)
                | (clear T7; go_at_call 9; refine (HDU.out _ HK7.out).mono ?_; rintro e W8 hm; obtain ⟨rfl, kk⟩ := hm.bad HBDual.out; have HK8 : Hid (Kept [] V W8) := HK7.out.trans kk (by simp) (by simp); have x8_0 := (fun o => cell_kept0 ((Kept.refl [] W8).alloc o) (HV0.out.kept HK8.out).cells.1); have x8_1 := (fun o => cell_kept0 ((Kept.refl [] W8).alloc o) (HV0.out.kept HK8.out).cells.2.1); have x8_2 := (fun o => cell_kept0 ((Kept.refl [] W8).alloc o) (HV0.out.kept HK8.out).cells.2.2.1); clear kk))
              all_goals go_ret
              all_goals first
                | exact ⟨rfl, HKV.out.trans HK8.out (by simp) (by simp)⟩
                | exact ⟨rfl, (HKV.out.trans HK8.out (by simp) (by simp)).alloc _⟩
                | exact ⟨rfl, HKV.out.trans HK1.out (by simp) (by simp)⟩
        · have HBNormal : Hid (en ≠ 0) := hn
          have hni : ((en : Int) == 0) = false := by rw [beq_eq_false_iff_ne]; omega
          by_cases hd : ed = 0
          · subst hd
            replace HHD := hid_app HHD rfl
            cases b
            · skip
              have T0 : Hid True := trivial
              have T1 : Hid True := trivial
              have T2 : Hid True := trivial
              have T3 : Hid True := trivial
              have T4 : Hid True := trivial
              have T5 : Hid True := trivial
              have T6 : Hid True := trivial
              have T7 : Hid True := trivial
              have T8 : Hid True := trivial
              clear hI hF hM hN hS hL hT hU kV v0 v1 hV hx hq hW g1 g2 g3 g4 h0 hf hl hc gS gN
              clear eS eN eD
              (try clear hn); (try clear hd)
              go_enter Tryz.func3, Tryz.ntmps3
              go_wp2_with (first
                | (clear T0; go_at_call 4; refine HWT.out.mono ?_; rintro e W1 ⟨m, rfl, hm1, hm2, k1⟩; rw [HVV.out] at k1; have HK1 : Hid (Kept [] V W1) := k1; obtain ⟨g0, g1, _, _⟩ := (HV1.out.kept k1).cells; clear k1; rcases much_case hm2 with h1i | ⟨h1i, HSZ⟩)
                | (clear T1; go_at_call 5; refine (HKN.out _ HK1.out).mono ?_; rintro e W2 ⟨rfl, k2⟩; have HK2 : Hid (Kept [] V W2) := HK1.out.trans k2 (by simp) (by simp); obtain ⟨f0, f1, f2, -⟩ := (HV0.out.kept HK2.out).cells; obtain ⟨j0, j1, _, _⟩ := (HV1.out.kept HK2.out).cells; clear k2)
                | (clear T2; go_at_call 6; refine (HHF.out _ HK2.out).mono ?_; rintro e W3 ⟨rfl, kk⟩; have HK3 : Hid (Kept [] V W3) := HK2.out.trans kk (by simp) (by simp); obtain ⟨x3_0, x3_1, x3_2, -⟩ := (HV0.out.kept HK3.out).cells; clear kk)
                | (clear T3; go_at_call 7; refine (HSI.out _ HK3.out).mono ?_; rintro e W4 hm; obtain ⟨sa, sc, rfl, i1, kk⟩ := hm.ok; have HK4 : Hid (Kept [] V W4) := HK3.out.trans kk (by simp) (by simp); have y4_0 := (fun o => cell_kept0 ((Kept.refl [] W4).alloc o) (HV1.out.kept HK4.out).cells.1); have y4_1 := (fun o => cell_kept0 ((Kept.refl [] W4).alloc o) (HV1.out.kept HK4.out).cells.2.1); have HSB : Hid (∀ o, IsF (W4.alloc o) ps (.slice sa ps.kids.length sc)) := (fun o => i1.kept ((Kept.refl [] W4).alloc o)); clear kk i1)
                | (clear T4; go_at_call 6; refine (HHS.out _ _ _ (HK4.out.alloc _) (HSB.out _)).mono ?_; rintro e W5 ⟨rfl, kk⟩; have HK5 : Hid (Kept [] V W5) := (HK4.out.alloc _).trans kk (by simp) (by simp); obtain ⟨x5_0, x5_1, x5_2, -⟩ := (HV0.out.kept HK5.out).cells; clear kk)
                | (clear T5; go_at_call 8; refine (HNO.out _ HK5.out).mono ?_; rintro e W6 hm; obtain ⟨rfl, kk⟩ := hm.bad HBNormal.out; have HK6 : Hid (Kept [] V W6) := HK5.out.trans kk (by simp) (by simp); have x6_0 := (fun o => cell_kept0 ((Kept.refl [] W6).alloc o) (HV0.out.kept HK6.out).cells.1); have x6_1 := (fun o => cell_kept0 ((Kept.refl [] W6).alloc o) (HV0.out.kept HK6.out).cells.2.1); have x6_2 := (fun o => cell_kept0 ((Kept.refl [] W6).alloc o) (HV0.out.kept HK6.out).cells.2.2.1); clear kk)
                | (clear T7; go_at_call 9; refine (HDU.out _ (HK6.out.alloc _)).mono ?_; rintro e W7 hm; obtain ⟨da, dc, rfl, i1, kk⟩ := hm.ok; have HK7 : Hid (Kept [] V W7) := (HK6.out.alloc _).trans kk (by simp) (by simp); have y7_0 := (fun o => cell_kept0 ((Kept.refl [] W7).alloc o) (HV1.out.kept HK7.out).cells.1); have y7_1 := (fun o => cell_kept0 ((Kept.refl [] W7).alloc o) (HV1.out.kept HK7.out).cells.2.1); have HDI : Hid (∀ o, IsF (W7.alloc o) pd (.slice da pd.kids.length dc)) := (fun o => i1.kept ((Kept.refl [] W7).alloc o)); clear kk i1)
                | (clear T8; go_at_call 6; refine (HHD.out _ _ _ (HK7.out.alloc _) (HDI.out _)).mono ?_; rintro e W8 ⟨rfl, kk⟩; have HK8 : Hid (Kept [] V W8) := (HK7.out.alloc _).trans kk (by simp) (by simp); clear kk))
              all_goals go_ret
              all_goals first
                | exact ⟨rfl, HKV.out.trans HK8.out (by simp) (by simp)⟩
                | exact ⟨rfl, (HKV.out.trans HK8.out (by simp) (by simp)).alloc _⟩
                | exact ⟨rfl, HKV.out.trans HK1.out (by simp) (by simp)⟩
            · skip
              have T0 : Hid True := trivial
              have T1 : Hid True := trivial
              have T2 : Hid True := trivial
              have T3 : Hid True := trivial
              have T4 : Hid True := trivial
              have T5 : Hid True := trivial
              have T6 : Hid True := trivial
              have T7 : Hid True := trivial
              have T8 : Hid True := trivial
              clear hI hF hM hN hS hL hT hU kV v0 v1 hV hx hq hW g1 g2 g3 g4 h0 hf hl hc gS gN
              clear eS eN eD
              (try clear hn); (try clear hd)
              go_enter Tryz.func3, Tryz.ntmps3
              go_wp2_with (first
                | (clear T0; go_at_call 4; refine HWT.out.mono ?_; rintro e W1 ⟨m, rfl, hm1, hm2, k1⟩; rw [HVV.out] at k1; have HK1 : Hid (Kept [] V W1) := k1; obtain ⟨g0, g1, _, _⟩ := (HV1.out.kept k1).cells; clear k1; rcases much_case hm2 with h1i | ⟨h1i, HSZ⟩)
                | (clear T1; go_at_call 5; refine (HKN.out _ HK1.out).mono ?_; rintro e W2 ⟨rfl, k2⟩; have HK2 : Hid (Kept [] V W2) := HK1.out.trans k2 (by simp) (by simp); obtain ⟨f0, f1, f2, -⟩ := (HV0.out.kept HK2.out).cells; obtain ⟨j0, j1, _, _⟩ := (HV1.out.kept HK2.out).cells; clear k2)
                | (clear T2; go_at_call 6; refine (HHF.out _ HK2.out).mono ?_; rintro e W3 ⟨rfl, kk⟩; have HK3 : Hid (Kept [] V W3) := HK2.out.trans kk (by simp) (by simp); obtain ⟨x3_0, x3_1, x3_2, -⟩ := (HV0.out.kept HK3.out).cells; clear kk)
                | (clear T3; go_at_call 7; refine (HSI.out _ HK3.out).mono ?_; rintro e W4 hm; obtain ⟨sa, sc, rfl, i1, kk⟩ := hm.ok; have HK4 : Hid (Kept [] V W4) := HK3.out.trans kk (by simp) (by simp); have y4_0 := (fun o => cell_kept0 ((Kept.refl [] W4).alloc o) (HV1.out.kept HK4.out).cells.1); have y4_1 := (fun o => cell_kept0 ((Kept.refl [] W4).alloc o) (HV1.out.kept HK4.out).cells.2.1); have HSB : Hid (∀ o, IsF (W4.alloc o) ps (.slice sa ps.kids.length sc)) := (fun o => i1.kept ((Kept.refl [] W4).alloc o)); clear kk i1)
                | (clear T4; go_at_call 6; refine (HHS.out _ _ _ (HK4.out.alloc _) (HSB.out _)).mono ?_; rintro e W5 ⟨rfl, kk⟩; have HK5 : Hid (Kept [] V W5) := (HK4.out.alloc _).trans kk (by simp) (by simp); obtain ⟨x5_0, x5_1, x5_2, -⟩ := (HV0.out.kept HK5.out).cells; clear kk)
                | (clear T5; go_at_call 8; refine (HNO.out _ HK5.out).mono ?_; rintro e W6 hm; obtain ⟨rfl, kk⟩ := hm.bad HBNormal.out; have HK6 : Hid (Kept [] V W6) := HK5.out.trans kk (by simp) (by simp); have x6_0 := (fun o => cell_kept0 ((Kept.refl [] W6).alloc o) (HV0.out.kept HK6.out).cells.1); have x6_1 := (fun o => cell_kept0 ((Kept.refl [] W6).alloc o) (HV0.out.kept HK6.out).cells.2.1); have x6_2 := (fun o => cell_kept0 ((Kept.refl [] W6).alloc o) (HV0.out.kept HK6.out).cells.2.2.1); clear kk)
                | (clear T7; go_at_call 9; refine (HDU.out _ (HK6.out.alloc _)).mono ?_; rintro e W7 hm; obtain ⟨da, dc, rfl, i1, kk⟩ := hm.ok; have HK7 : Hid (Kept [] V W7) := (HK6.out.alloc _).trans kk (by simp) (by simp); have y7_0 := (fun o => cell_kept0 ((Kept.refl [] W7).alloc o) (HV1.out.kept HK7.out).cells.1); have y7_1 := (fun o => cell_kept0 ((Kept.refl [] W7).alloc o) (HV1.out.kept HK7.out).cells.2.1); have HDI : Hid (∀ o, IsF (W7.alloc o) pd (.slice da pd.kids.length dc)) := (fun o => i1.kept ((Kept.refl [] W7).alloc o)); clear kk i1)
                | (clear T8; go_at_call 6; refine (HHD.out _ _ _ (HK7.out.alloc _) (HDI.out _)).mono ?_; rintro e W8 ⟨rfl, kk⟩; have HK8 : Hid (Kept [] V W8) := (HK7.out.alloc _).trans kk (by simp) (by simp); clear kk))
              all_goals go_ret
              all_goals first
                | exact ⟨rfl, HKV.out.trans HK8.out (by simp) (by simp)⟩
                | exact ⟨rfl, (HKV.out.trans HK8.out (by simp) (by simp)).alloc _⟩
                | exact ⟨rfl, HKV.out.trans HK1.out (by simp) (by simp)⟩
          · have HBDual : Hid (ed ≠ 0) := hd
            have hdi : ((ed : Int) == 0) = false := by rw [beq_eq_false_iff_ne]; omega
            cases b
            · skip
              have T0 : Hid True := trivial
              have T1 : Hid True := trivial
              have T2 : Hid True := trivial
              have T3 : Hid True := trivial
              have T4 : Hid True := trivial
              have T5 : Hid True := trivial
              have T6 : Hid True := trivial
              have T7 : Hid True := trivial
              have T8 : Hid True := trivial
              clear hI hF hM hN hS hL hT hU kV v0 v1 hV hx hq hW g1 g2 g3 g4 h0 hf hl hc gS gN
              clear eS eN eD
              (try clear hn); (try clear hd)
              go_enter Tryz.func3, Tryz.ntmps3
              go_wp2_with (first
                | (clear T0; go_at_call 4; refine HWT.out.mono ?_; rintro e W1 ⟨m, rfl, hm1, hm2, k1⟩; rw [HVV.out] at k1; have HK1 : Hid (Kept [] V W1) := k1; obtain ⟨g0, g1, _, _⟩ := (HV1.out.kept k1).cells; clear k1; rcases much_case hm2 with h1i | ⟨h1i, HSZ⟩)
                | (clear T1; go_at_call 5; refine (HKN.out _ HK1.out).mono ?_; rintro e W2 ⟨rfl, k2⟩; have HK2 : Hid (Kept [] V W2) := HK1.out.trans k2 (by simp) (by simp); obtain ⟨f0, f1, f2, -⟩ := (HV0.out.kept HK2.out).cells; obtain ⟨j0, j1, _, _⟩ := (HV1.out.kept HK2.out).cells; clear k2)
                | (clear T2; go_at_call 6; refine (HHF.out _ HK2.out).mono ?_; rintro e W3 ⟨rfl, kk⟩; have HK3 : Hid (Kept [] V W3) := HK2.out.trans kk (by simp) (by simp); obtain ⟨x3_0, x3_1, x3_2, -⟩ := (HV0.out.kept HK3.out).cells; clear kk)
                | (clear T3; go_at_call 7; refine (HSI.out _ HK3.out).mono ?_; rintro e W4 hm; obtain ⟨sa, sc, rfl, i1, kk⟩ := hm.ok; have HK4 : Hid (Kept [] V W4) := HK3.out.trans kk (by simp) (by simp); have y4_0 := (fun o => cell_kept0 ((Kept.refl [] W4).alloc o) (HV1.out.kept HK4.out).cells.1); have y4_1 := (fun o => cell_kept0 ((Kept.refl [] W4).alloc o) (HV1.out.kept HK4.out).cells.2.1); have HSB : Hid (∀ o, IsF (W4.alloc o) ps (.slice sa ps.kids.length sc)) := (fun o => i1.kept ((Kept.refl [] W4).alloc o)); clear kk i1)
                | (clear T4; go_at_call 6; refine (HHS.out _ _ _ (HK4.out.alloc _) (HSB.out _)).mono ?_; rintro e W5 ⟨rfl, kk⟩; have HK5 : Hid (Kept [] V W5) := (HK4.out.alloc _).trans kk (by simp) (by simp); obtain ⟨x5_0, x5_1, x5_2, -⟩ := (HV0.out.kept HK5.out).cells; clear kk)
                | (clear T5; go_at_call 8; refine (HNO.out _ HK5.out).mono ?_; rintro e W6 hm; obtain ⟨rfl, kk⟩ := hm.bad HBNormal.out; have HK6 : Hid (Kept [] V W6) := HK5.out.trans kk (by simp) (by simp); have x6_0 := (fun o => cell_kept0 ((Kept.refl [] W6).alloc o) (HV0.out.kept HK6.out).cells.1); have x6_1 := (fun o => cell_kept0 ((Kept.refl [] W6).alloc o) (HV0.out.kept HK6.out).cells.2.1); have x6_2 := (fun o => cell_kept0 ((Kept.refl [] W6).alloc o) (HV0.out.kept HK6.out).cells.2.2.1); clear kk)
                | (clear T7; go_at_call 9; refine (HDU.out _ (HK6.out.alloc _)).mono ?_; rintro e W7 hm; obtain ⟨rfl, kk⟩ := hm.bad HBDual.out; have HK7 : Hid (Kept [] V W7) := (HK6.out.alloc _).trans kk (by simp) (by simp); have x7_0 := (fun o => cell_kept0 ((Kept.refl [] W7).alloc o) (HV0.out.kept HK7.out).cells.1); have x7_1 := (fun o => cell_kept0 ((Kept.refl [] W7).alloc o) (HV0.out.kept HK7.out).cells.2.1); have x7_2 := (fun o => cell_kept0 ((Kept.refl [] W7).alloc o) (HV0.out.kept HK7.out).cells.2.2.1); clear kk))
              all_goals go_ret
              all_goals first
                | exact ⟨rfl, HKV.out.trans HK7.out (by simp) (by simp)⟩
                | exact ⟨rfl, (HKV.out.trans HK7.out (by simp) (by simp)).alloc _⟩
                | exact ⟨rfl, HKV.out.trans HK1.out (by simp) (by simp)⟩
            · skip
              have T0 : Hid True := trivial
              have T1 : Hid True := trivial
              have T2 : Hid True := trivial
              have T3 : Hid True := trivial
              have T4 : Hid True := trivial
              have T5 : Hid True := trivial
              have T6 : Hid True := trivial
              have T7 : Hid True := trivial
              have T8 : Hid True := trivial
              clear hI hF hM hN hS hL hT hU kV v0 v1 hV hx hq hW g1 g2 g3 g4 h0 hf hl hc gS gN
              clear eS eN eD
              (try clear hn); (try clear hd)
              go_enter Tryz.func3, Tryz.ntmps3
              go_wp2_with (first
                | (clear T0; go_at_call 4; refine HWT.out.mono ?_; rintro e W1 ⟨m, rfl, hm1, hm2, k1⟩; rw [HVV.out] at k1; have HK1 : Hid (Kept [] V W1) := k1; obtain ⟨g0, g1, _, _⟩ := (HV1.out.kept k1).cells; clear k1; rcases much_case hm2 with h1i | ⟨h1i, HSZ⟩)
                | (clear T1; go_at_call 5; refine (HKN.out _ HK1.out).mono ?_; rintro e W2 ⟨rfl, k2⟩; have HK2 : Hid (Kept [] V W2) := HK1.out.trans k2 (by simp) (by simp); obtain ⟨f0, f1, f2, -⟩ := (HV0.out.kept HK2.out).cells; obtain ⟨j0, j1, _, _⟩ := (HV1.out.kept HK2.out).cells; clear k2)
                | (clear T2; go_at_call 6; refine (HHF.out _ HK2.out).mono ?_; rintro e W3 ⟨rfl, kk⟩; have HK3 : Hid (Kept [] V W3) := HK2.out.trans kk (by simp) (by simp); obtain ⟨x3_0, x3_1, x3_2, -⟩ := (HV0.out.kept HK3.out).cells; clear kk)
                | (clear T3; go_at_call 7; refine (HSI.out _ HK3.out).mono ?_; rintro e W4 hm; obtain ⟨sa, sc, rfl, i1, kk⟩ := hm.ok; have HK4 : Hid (Kept [] V W4) := HK3.out.trans kk (by simp) (by simp); have y4_0 := (fun o => cell_kept0 ((Kept.refl [] W4).alloc o) (HV1.out.kept HK4.out).cells.1); have y4_1 := (fun o => cell_kept0 ((Kept.refl [] W4).alloc o) (HV1.out.kept HK4.out).cells.2.1); have HSB : Hid (∀ o, IsF (W4.alloc o) ps (.slice sa ps.kids.length sc)) := (fun o => i1.kept ((Kept.refl [] W4).alloc o)); clear kk i1)
                | (clear T4; go_at_call 6; refine (HHS.out _ _ _ (HK4.out.alloc _) (HSB.out _)).mono ?_; rintro e W5 ⟨rfl, kk⟩; have HK5 : Hid (Kept [] V W5) := (HK4.out.alloc _).trans kk (by simp) (by simp); obtain ⟨x5_0, x5_1, x5_2, -⟩ := (HV0.out.kept HK5.out).cells; clear kk)
                | (clear T5; go_at_call 8; refine (HNO.out _ HK5.out).mono ?_; rintro e W6 hm; obtain ⟨rfl, kk⟩ := hm.bad HBNormal.out; have HK6 : Hid (Kept [] V W6) := HK5.out.trans kk (by simp) (by simp); have x6_0 := (fun o => cell_kept0 ((Kept.refl [] W6).alloc o) (HV0.out.kept HK6.out).cells.1); have x6_1 := (fun o => cell_kept0 ((Kept.refl [] W6).alloc o) (HV0.out.kept HK6.out).cells.2.1); have x6_2 := (fun o => cell_kept0 ((Kept.refl [] W6).alloc o) (HV0.out.kept HK6.out).cells.2.2.1); clear kk)
                | (clear T7; go_at_call 9; refine (HDU.out _ (HK6.out.alloc _)).mono ?_; rintro e W7 hm; obtain ⟨rfl, kk⟩ := hm.bad HBDual.out; have HK7 : Hid (Kept [] V W7) := (HK6.out.alloc _).trans kk (by simp) (by simp); have x7_0 := (fun o => cell_kept0 ((Kept.refl [] W7).alloc o) (HV0.out.kept HK7.out).cells.1); have x7_1 := (fun o => cell_kept0 ((Kept.refl [] W7).alloc o) (HV0.out.kept HK7.out).cells.2.1); have x7_2 := (fun o => cell_kept0 ((Kept.refl [] W7).alloc o) (HV0.out.kept HK7.out).cells.2.2.1); clear kk))
              all_goals go_ret
              all_goals first
                | exact ⟨rfl, HKV.out.trans HK7.out (by simp) (by simp)⟩
                | exact ⟨rfl, (HKV.out.trans HK7.out (by simp) (by simp)).alloc _⟩
                | exact ⟨rfl, HKV.out.trans HK1.out (by simp) (by simp)⟩
      · have HHB : Hid (∀ W, Kept [] V W → f.size ≤ 100000 → Calls Tryz.prog 6 #[.agg #[.int .u8 (f.op : Nat), .string f.name, .slice kad f.kids.length kcap], .slice ad xs.length c, .agg #[.slice ast q.stem.length cs, .slice al q.loop.length cl]] W fun e w' => e = .returned (.tuple #[.bool false, .int .i64 (alongE f xs q : Nat)]) ∧ Kept [] W w') := fun W k hsz => holds_bad f _ _ _ _ xs q W ((hI.kept kV).kept k) hF ((hN.kept kV).kept k) ((hW.kept kV).kept k) ((hT.kept kV).kept k) (by omega) (by have := f.depth_size; omega) he
        have hne : ((alongE f xs q : Int) != 0) = true := by rw [bne_iff_ne]; omega
        generalize alongE f xs q = er at *
        have T0 : Hid True := trivial
        have T1 : Hid True := trivial
        have T2 : Hid True := trivial
        clear hI hF hM hN hS hL hT hU kV v0 v1 hV hx hq hW HHO
        go_enter Tryz.func3, Tryz.ntmps3
        go_wp2_with (first
          | (clear T0; go_at_call 4; refine HWT.out.mono ?_; rintro e W1 ⟨m, rfl, hm1, hm2, k1⟩; rw [HVV.out] at k1; have HK1 : Hid (Kept [] V W1) := k1; obtain ⟨g0, g1, _, _⟩ := (HV1.out.kept k1).cells; clear k1; rcases much_case hm2 with h1i | ⟨h1i, HSZ⟩)
          | (clear T1; go_at_call 5; refine (HKN.out _ HK1.out).mono ?_; rintro e W2 ⟨rfl, k2⟩; have HK2 : Hid (Kept [] V W2) := HK1.out.trans k2 (by simp) (by simp); obtain ⟨f0, f1, f2, -⟩ := (HV0.out.kept HK2.out).cells; obtain ⟨j0, j1, _, _⟩ := (HV1.out.kept HK2.out).cells; clear k2)
          | (clear T2; go_at_call 6; refine (HHB.out _ HK2.out HSZ.out).mono ?_; rintro e W3 ⟨rfl, kk⟩; have HK3 : Hid (Kept [] V W3) := HK2.out.trans kk (by simp) (by simp); clear kk))
        all_goals go_ret
        all_goals first
          | exact ⟨rfl, HKV.out.trans HK3.out (by simp) (by simp)⟩
          | exact ⟨rfl, (HKV.out.trans HK3.out (by simp) (by simp)).alloc _⟩
          | exact ⟨rfl, HKV.out.trans HK1.out (by simp) (by simp)⟩
    · have hqi : (300 : Int) < (q.stem.length : Int) + (q.loop.length : Int) := by omega
      clear hI hF hM hN hS hL hT hU kV v0 v1 hV hx hq
      go_enter Tryz.func3, Tryz.ntmps3
      go_wp2_with (go_at_call 4; refine HWT.out.mono ?_; rintro e W1 ⟨m, rfl, hm1, hm2, k1⟩; rw [HVV.out] at k1; have HK1 : Hid (Kept [] V W1) := k1; obtain ⟨g0, g1, _, _⟩ := (HV1.out.kept k1).cells; clear k1; rcases much_case hm2 with h1i | ⟨h1i, HSZ⟩)
      all_goals go_ret
      all_goals exact ⟨rfl, HKV.out.trans HK1.out (by simp) (by simp)⟩
  · have hxi : (8 : Int) < (xs.length : Int) := by omega
    clear hI hF hM hN hS hL hT hU kV v0 v1 hV hx
    go_enter Tryz.func3, Tryz.ntmps3
    go_wp2_with (go_at_call 4; refine HWT.out.mono ?_; rintro e W1 ⟨m, rfl, hm1, hm2, k1⟩; rw [HVV.out] at k1; have HK1 : Hid (Kept [] V W1) := k1; clear k1; rcases much_case hm2 with h1i | ⟨h1i, HSZ⟩)
    all_goals go_ret
    all_goals exact ⟨rfl, HKV.out.trans HK1.out (by simp) (by simp)⟩
end Go.Proofs.YtnpeghaficghaaaGreatDoor
