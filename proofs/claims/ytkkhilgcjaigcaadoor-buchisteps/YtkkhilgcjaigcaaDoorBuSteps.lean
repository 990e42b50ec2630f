/- The law BuchiSteps: its walk. -/
import Derived.Test.YtkkhilgcjaigcaaDoorHG
import Derived.Test.YtkkhilgcjaigcaaDoorHK
import Derived.Test.YtkkhilgcjaigcaaDoorHK
import Derived.Test.YtkkhilgcjaigcaaDoorHR
import Derived.Test.YtkkhilgcjaigcaaDoorBuKnown
import Derived.Test.YtkkhilgcjaigcaaDoorLenK
namespace Go.Proofs.YtkkhilgcjaigcaaDoor
open Go.RowKit Go.Shelf

theorem box_newS (W : World) (T : TypeId) (a b c d e : Value) : Five T (W.alloc (.cells #[a, b, c, d, e] T)) W.heap.size a b c d e ∧ Kept [] W (W.alloc (.cells #[a, b, c, d, e] T)) ∧ W.heap.size < (W.alloc (.cells #[a, b, c, d, e] T)).heap.size :=
  ⟨al0 _ _, (Kept.refl [] W).alloc _, lt_of (al0 W _)⟩
theorem BucL.keptS {W W' : World} {n b1 b2 b3 b4 : Nat} {g : Gen} {fin : List Int} (h : BucL W n b1 b2 b3 b4 g fin) (k : Kept [] W W') : BucL W' n b1 b2 b3 b4 g fin := h.keptF k (by simp)
theorem cell_keptS {F : List Nat} {W W' : World} (k : Kept F W W') {b o : Nat} {v : Value} (h : W.cell? ⟨b, o, none⟩ = some v) (hb : b ∉ F) : W'.cell? ⟨b, o, none⟩ = some v := by
  obtain ⟨ob, hob⟩ : ∃ ob, W.heap[b]? = some ob := ⟨_, Array.getElem?_eq_getElem (World.block_lt_of_cell? W _ h)⟩
  exact (World.cell?_of_block (w := W) (a := ⟨b, o, none⟩) ((k.at hob hb).trans hob.symm)).trans h
/-- The list 'yes' as far as it is written. -/
structure YesA (U W : World) (Y n k : Nat) (bs : List Bool) (ws : List Nat) : Prop where
  row : W.heap[Y]? = some (.cells (bs.map Value.bool).toArray 4 (0, 0))
  len : bs.length = n
  is : ∀ i, i < k → bs.getD i false = mem ws i
  kept : Kept [Y] U W
theorem YesA.cellAt {U W : World} {Y n k : Nat} {bs : List Bool} {ws : List Nat} (h : YesA U W Y n k bs ws) {x : Nat} (hx : x < n) : W.cell? ⟨Y, x, none⟩ = some (.bool (bs.getD x false)) := by
  rw [cell_of h.row]
  have hl := h.len
  simp [List.getD_eq_getElem?_getD, List.getElem?_eq_getElem (show x < bs.length by omega)]
theorem YesA.put {U W W' : World} {Y n k : Nat} {bs : List Bool} {ws : List Nat} (h : YesA U W Y n k bs ws) (hk : k < n) (q : Kept [] W W') : YesA U (W'.setCell ⟨Y, k, none⟩ (.bool (mem ws k))) Y n (k + 1) (bs.set k (mem ws k)) ws := by
  have hl := h.len
  refine ⟨?_, by rw [List.length_set]; exact hl, fun i hi => ?_, (h.kept.trans q (fun _ h => h) (by simp)).setCell (.inl (by simp)) _⟩
  · rw [row_set (q.at h.row (by simp))]
    congr 2
    apply Array.ext'
    simp [Array.setIfInBounds, hl, hk, List.map_set]
  · by_cases hik : i = k
    · subst hik
      simp [List.getD_eq_getElem?_getD, List.getElem?_set_self (show i < bs.length by omega)]
    · rw [List.getD_eq_getElem?_getD, List.getElem?_set_ne (fun e => hik e.symm), ← List.getD_eq_getElem?_getD]
      exact h.is i (by omega)

set_option maxHeartbeats 4000000 in
set_option maxRecDepth 10000 in
theorem steps_exit (pv iv ev fv : Value) (g : Gen) (fin : List Int) (xv : Value) (xs : List Int) (cl : Nat) (w : World) (hB : IsB w pv iv ev fv g fin) (hX : Ints w xv xs) (hno : ¬ (g.st ≤ 60 ∧ g.es.length ≤ 300 ∧ xs.length ≤ 1000 ∧ 0 ≤ g.st)) :
    Calls Tryd.prog 3 #[.agg #[pv, .int .i64 g.st, iv, ev, fv], xv, .int .u16 (cl : Nat)] w fun e w' => e = .returned (.bool true) ∧ Kept [] w w' := by
  obtain ⟨pad, pc, rfl, _, _⟩ := hB.ps.form
  obtain ⟨iad, ic, rfl, _, _⟩ := hB.ini.form
  obtain ⟨ead, ec, rfl, _, _⟩ := hB.es.form
  obtain ⟨fad, fc, rfl, _, _⟩ := hB.fin.form
  obtain ⟨xad, xc, rfl, _, _⟩ := hX.form
  obtain ⟨V0, hV0⟩ : ∃ V0, w.alloc (.cells #[.slice pad g.ps.length pc, .int .i64 g.st, .slice iad g.ini.length ic, .slice ead g.es.length ec, .slice fad fin.length fc] 26) = V0 := ⟨_, rfl⟩
  have HK0 : Hid (Kept [] w V0) := by show Kept _ _ _; rw [← hV0]; exact (Kept.refl [] w).alloc _
  have HA0 : Hid (Five 26 V0 w.heap.size (.slice pad g.ps.length pc) (.int .i64 g.st) (.slice iad g.ini.length ic) (.slice ead g.es.length ec) (.slice fad fin.length fc)) := by show Five _ _ _ _ _ _ _ _; rw [← hV0]; exact al0 _ _
  have HV0 : Hid (_ = V0) := hV0
  obtain ⟨f0, f1, f2, f3, f4⟩ := HA0.out.cells
  obtain ⟨fb, hfb⟩ : ∃ fb, (decide (g.st ≤ 60) && decide (g.es.length ≤ 300)) = fb := ⟨_, rfl⟩
  have hfx := hX.few
  cases fb with
  | false =>
    clear hB hX hno hV0
    go_enter Tryd.func3, Tryd.ntmps3
    go_upto_region 1 with fail
    rw [HV0.out]
    clear HV0
    go_wp2_with (first
      | (go_at_call 5; refine (refGeneral_any _ _ _ _ _ _ _ _ _ _ _ _ _ V0).mono ?_; rintro e w1 ⟨GB, rfl, HGB, HK1⟩; clear f0 f1 f2 f3 f4; obtain ⟨f0, f1, f2, f3, f4⟩ := (HA0.out.keptF HK1.out (by simp)).cells)
      | (go_at_call 4; refine (few_any _ _ _ _ _ _ _ _ _ _ _ _ w1).mono ?_; rw [hfb]; rintro e w2 ⟨rfl, k2⟩; have HK2 : Hid (Kept [] V0 w2) := keptB HK1.out k2; clear k2 f0 f1 f2 f3 f4; obtain ⟨f0, f1, f2, f3, f4⟩ := (HA0.out.keptF HK2.out (by simp)).cells))
    go_ret
    exact ⟨rfl, keptB HK0.out HK2.out⟩
  | true =>
    have HFB : Hid ((decide (g.st ≤ 60) && decide (g.es.length ≤ 300)) = true) := hfb
    rw [Bool.and_eq_true, decide_eq_true_eq, decide_eq_true_eq] at hfb
    by_cases hl : xs.length ≤ 1000
    · have hli : ¬ (1000 : Int) < (xs.length : Int) := by omega
      have hneg : g.st < 0 := by
        rcases Int.lt_or_le g.st 0 with h | h
        · exact h
        · exact absurd ⟨hfb.1, hfb.2, hl, h⟩ hno
      have hng : decide (g.st < 0) = true := decide_eq_true hneg
      clear hB hX hno hV0 hfb hl
      go_enter Tryd.func3, Tryd.ntmps3
      go_upto_region 1 with fail
      rw [HV0.out]
      clear HV0
      go_wp2_with (first
        | (go_at_call 5; refine (refGeneral_any _ _ _ _ _ _ _ _ _ _ _ _ _ V0).mono ?_; rintro e w1 ⟨GB, rfl, HGB, HK1⟩; clear f0 f1 f2 f3 f4; obtain ⟨f0, f1, f2, f3, f4⟩ := (HA0.out.keptF HK1.out (by simp)).cells)
        | (go_at_call 4; refine (few_any _ _ _ _ _ _ _ _ _ _ _ _ w1).mono ?_; rw [HFB.out]; rintro e w2 ⟨rfl, k2⟩; have HK2 : Hid (Kept [] V0 w2) := keptB HK1.out k2; clear k2 f0 f1 f2 f3 f4; obtain ⟨f0, f1, f2, f3, f4⟩ := (HA0.out.keptF HK2.out (by simp)).cells))
      go_ret
      exact ⟨rfl, keptB HK0.out HK2.out⟩
    · have hli : (1000 : Int) < (xs.length : Int) := by omega
      clear hB hX hno hV0 hfb hl
      go_enter Tryd.func3, Tryd.ntmps3
      go_upto_region 1 with fail
      rw [HV0.out]
      clear HV0
      go_wp2_with (first
        | (go_at_call 5; refine (refGeneral_any _ _ _ _ _ _ _ _ _ _ _ _ _ V0).mono ?_; rintro e w1 ⟨GB, rfl, HGB, HK1⟩; clear f0 f1 f2 f3 f4; obtain ⟨f0, f1, f2, f3, f4⟩ := (HA0.out.keptF HK1.out (by simp)).cells)
        | (go_at_call 4; refine (few_any _ _ _ _ _ _ _ _ _ _ _ _ w1).mono ?_; rw [HFB.out]; rintro e w2 ⟨rfl, k2⟩; have HK2 : Hid (Kept [] V0 w2) := keptB HK1.out k2; clear k2 f0 f1 f2 f3 f4; obtain ⟨f0, f1, f2, f3, f4⟩ := (HA0.out.keptF HK2.out (by simp)).cells))
      go_ret
      exact ⟨rfl, keptB HK0.out HK2.out⟩
set_option maxHeartbeats 8000000 in
set_option maxRecDepth 10000 in
theorem steps_main (pv iv ev fv : Value) (g : Gen) (fin : List Int) (xv : Value) (xs : List Int) (cl : Nat) (w : World) (hB : IsB w pv iv ev fv g fin) (hX : Ints w xv xs) (hcl : cl < 65536) (hT : Tab w) (h60 : g.st ≤ 60) (h300 : g.es.length ≤ 300) (h1000 : xs.length ≤ 1000) (hpos : 0 ≤ g.st) :
    Calls Tryd.prog 3 #[.agg #[pv, .int .i64 g.st, iv, ev, fv], xv, .int .u16 (cl : Nat)] w fun e w' => e = .returned (.bool true) ∧ Kept [] w w' := by
  obtain ⟨n, hn⟩ : ∃ n : Nat, g.st = (n : Int) := ⟨g.st.toNat, by omega⟩
  obtain ⟨ps, st, ini, es, sets⟩ := g
  simp only at hn h60 h300 hpos
  subst hn
  have hn60 : n ≤ 60 := by omega
  have hfit := hB.fit
  obtain ⟨pad, pc, rfl, _, _⟩ := hB.ps.form
  obtain ⟨iad, ic, rfl, _, _⟩ := hB.ini.form
  obtain ⟨ead, ec, rfl, _, _⟩ := hB.es.form
  obtain ⟨fad, fc, rfl, _, _⟩ := hB.fin.form
  obtain ⟨xad, xc, rfl, _, _⟩ := hX.form
  simp only
  obtain ⟨V0, hV0⟩ : ∃ V0, w.alloc (.cells #[.slice pad ps.length pc, .int .i64 (n : Nat), .slice iad ini.length ic, .slice ead es.length ec, .slice fad fin.length fc] 26) = V0 := ⟨_, rfl⟩
  have k0 : Kept [] w V0 := by rw [← hV0]; exact (Kept.refl [] w).alloc _
  have HK0 : Hid (Kept [] w V0) := k0
  have HA0 : Hid (Five 26 V0 w.heap.size (.slice pad ps.length pc) (.int .i64 (n : Nat)) (.slice iad ini.length ic) (.slice ead es.length ec) (.slice fad fin.length fc)) := by show Five _ _ _ _ _ _ _ _; rw [← hV0]; exact al0 _ _
  have HV0 : Hid (_ = V0) := hV0
  obtain ⟨f0, f1, f2, f3, f4⟩ := HA0.out.cells
  have hfb : (decide ((n : Int) ≤ 60) && decide (es.length ≤ 300)) = true := by rw [Bool.and_eq_true, decide_eq_true_eq, decide_eq_true_eq]; exact ⟨h60, h300⟩
  have hli : ¬ (1000 : Int) < (xs.length : Int) := by omega
  have HD1 : Hid (decide ((1000 : Int) < (xs.length : Int)) = false) := decide_eq_false (by omega)
  have hng : decide ((n : Int) < 0) = false := decide_eq_false (by omega)
  have HKN : Hid (∀ W, Kept [] V0 W → Calls Tryd.prog 6 #[] W fun e w' => e = .returned (.bool true) ∧ Kept [] W w') := fun W k => known_any W ((hT.kept k0 (by simp)).kept k (by simp))
  have HSE : Hid (∀ W, Kept [] w W → Calls Tryd.prog 7 #[.int .i64 (n : Nat), .slice xad xs.length xc] W (Makes W n (ofW n xs))) := fun W k => set_any n _ xs W (by omega) (hX.kept k)
  have HSO : Hid (∀ W, Kept [] w W → Calls Tryd.prog 7 #[.int .i64 ((n : Int) + 1), .slice xad xs.length xc] W (Makes W (n + 1) (ofW (n + 1) xs))) := fun W k => by
    rw [show ((n : Int) + 1) = ((n + 1 : Nat) : Int) from by omega]
    exact set_any (n + 1) _ xs W (by omega) (hX.kept k)
  have HGN : Hid (Good n (ofW n xs)) := Good.ofW (by omega) xs
  have HGO : Hid (Good (n + 1) (ofW (n + 1) xs)) := Good.ofW (by omega) xs
  have HLB : Hid (∀ W, Kept [] w W → Calls Tryd.prog 8 #[.agg #[.slice pad ps.length pc, .int .i64 (n : Nat), .slice iad ini.length ic, .slice ead es.length ec, .slice fad fin.length fc]] W (BucEnd W ⟨ps, (n : Int), ini, es, sets⟩ fin)) := fun W k => lentBuchi_any _ _ _ _ ⟨ps, (n : Int), ini, es, sets⟩ fin W (hB.kept k) ⟨hB.ps.few, hB.ini.few, (show es.length ≤ 100000000 from by omega), hB.fin.few⟩
  have HWB : Hid (∀ W m c1 c2 c3 c4, BucL W m c1 c2 c3 c4 ⟨ps, (n : Int), ini, es, sets⟩ fin → Kept [] w W → Calls Tryd.prog 10 #[.agg #[.slice (some ⟨c1, 0, none⟩) ps.length (ps.length + 2), .int .i64 (n : Nat), .slice (some ⟨c2, 0, none⟩) ini.length (ini.length + 2), .slice (some ⟨c3, 0, none⟩) es.length (es.length + 2), .slice (some ⟨c4, 0, none⟩) fin.length (fin.length + 2)], .agg #[.slice pad ps.length pc, .int .i64 (n : Nat), .slice iad ini.length ic, .slice ead es.length ec, .slice fad fin.length fc]] W fun e w' => e = .returned (.bool true) ∧ Kept [] W w') := fun W m c1 c2 c3 c4 h k => wholeBuchi_any c1 c2 c3 c4 _ _ _ _ ⟨ps, (n : Int), ini, es, sets⟩ fin m W h (hB.kept k)
  have HSP : Hid (∀ W m c1 c2 c3 c4 b sg c q vs, BucL W m c1 c2 c3 c4 ⟨ps, (n : Int), ini, es, sets⟩ fin → Kept [] w W → IsSet W b sg c q vs → Good q vs → Calls Tryd.prog 9 #[.agg #[.slice (some ⟨c1, 0, none⟩) ps.length (ps.length + 2), .int .i64 (n : Nat), .slice (some ⟨c2, 0, none⟩) ini.length (ini.length + 2), .slice (some ⟨c3, 0, none⟩) es.length (es.length + 2), .slice (some ⟨c4, 0, none⟩) fin.length (fin.length + 2)], .pointer (some ⟨b, 0, none⟩), .int .u16 (cl : Nat)] W (StepAll W ⟨ps, (n : Int), ini, es, sets⟩ fin q cl vs)) := fun W m c1 c2 c3 c4 b sg c q vs h k hs hg => stepB_any _ _ _ _ ⟨ps, (n : Int), ini, es, sets⟩ fin b sg c q cl vs W (h.isB hfit hB.fin.wf hB.fin.few) hs hg (hT.kept k (by simp)) hcl
  have HSA : Hid (∀ W b sg c b2 g2 c2, IsSet W b sg c n (ofW n xs) → IsSet W b2 g2 c2 n (ofW n xs) → Calls Tryd.prog 11 #[.pointer (some ⟨b, 0, none⟩), .pointer (some ⟨b2, 0, none⟩)] W fun e w' => e = .returned (.bool true) ∧ Kept [] W w') := fun W b sg c b2 g2 c2 h1 h2 => (sameS_any b sg c n b2 g2 c2 n _ _ W h1 HGN.out h2).mono fun e w' ⟨q1, q2⟩ => ⟨by rw [q1]; simp, q2.kept⟩
  obtain ⟨en, hen⟩ : ∃ en, errG ((⟨ps, (n : Int), ini, es, sets⟩ : Gen).with fin) = en := ⟨_, rfl⟩
  have HRC : Hid (∀ W, Kept [] w W → Calls Tryd.prog 12 #[.agg #[.slice pad ps.length pc, .int .i64 (n : Nat), .slice iad ini.length ic, .slice ead es.length ec, .slice fad fin.length fc]] W fun e w' => e = .returned (.int .i64 (en : Nat)) ∧ Kept [] W w') := fun W k => by
    have q := refCheckB_any refCheckG_any _ _ _ _ ⟨ps, (n : Int), ini, es, sets⟩ fin W (hB.kept k)
    rw [hen] at q
    exact q
  have HBK : Hid (∀ W, Kept [] w W → IsB W (.slice pad ps.length pc) (.slice iad ini.length ic) (.slice ead es.length ec) (.slice fad fin.length fc) ⟨ps, (n : Int), ini, es, sets⟩ fin) := fun W k => hB.kept k
  have HFX := hX.few
  have HNO : Hid (stepOk ⟨ps, (n : Int), ini, es, sets⟩ fin (n + 1) cl = false) := by
    show stepOk _ _ _ _ = _
    unfold stepOk
    rw [decide_eq_false (p := (Gen.st ⟨ps, (n : Int), ini, es, sets⟩) = ((n + 1 : Nat) : Int)) (by show ¬ (n : Int) = _; omega), Bool.and_false]
    rfl
  have HSZ : Hid (∀ W m c1 c2 c3 c4 b sg c vs, BucL W m c1 c2 c3 c4 ⟨ps, (n : Int), ini, es, sets⟩ fin → Kept [] w W → IsSet W b sg c (n + 1) vs → Good (n + 1) vs → Calls Tryd.prog 9 #[.agg #[.slice (some ⟨c1, 0, none⟩) ps.length (ps.length + 2), .int .i64 (n : Nat), .slice (some ⟨c2, 0, none⟩) ini.length (ini.length + 2), .slice (some ⟨c3, 0, none⟩) es.length (es.length + 2), .slice (some ⟨c4, 0, none⟩) fin.length (fin.length + 2)], .pointer (some ⟨b, 0, none⟩), .int .u16 (cl : Nat)] W fun e w' => e = .returned (.pointer none) ∧ Kept [] W w') := fun W m c1 c2 c3 c4 b sg c vs h k hs hg => (HSP.out W m c1 c2 c3 c4 b sg c (n + 1) vs h k hs hg).mono fun e w' q => by
    rcases q with ⟨hno, _⟩ | ⟨_, q⟩
    · rw [HNO.out] at hno; cases hno
    · exact q
  have HTW : Hid (Tab w) := hT
  have hpl := hB.ps.few
  by_cases hr : rightG ((⟨ps, (n : Int), ini, es, sets⟩ : Gen).with fin) = true
  rotate_left
  · have hr' : rightG ((⟨ps, (n : Int), ini, es, sets⟩ : Gen).with fin) = false := by simpa using hr
    obtain rfl : 100 = en := by rw [← hen]; unfold errG; rw [hr']; rfl
    have HOK : Hid (stepOk ⟨ps, (n : Int), ini, es, sets⟩ fin n cl = false) := by show stepOk _ _ _ _ = _; unfold stepOk; rw [hr']; rfl
    have HSN : Hid (∀ W m c1 c2 c3 c4 b sg c vs, BucL W m c1 c2 c3 c4 ⟨ps, (n : Int), ini, es, sets⟩ fin → Kept [] w W → IsSet W b sg c n vs → Good n vs → Calls Tryd.prog 9 #[.agg #[.slice (some ⟨c1, 0, none⟩) ps.length (ps.length + 2), .int .i64 (n : Nat), .slice (some ⟨c2, 0, none⟩) ini.length (ini.length + 2), .slice (some ⟨c3, 0, none⟩) es.length (es.length + 2), .slice (some ⟨c4, 0, none⟩) fin.length (fin.length + 2)], .pointer (some ⟨b, 0, none⟩), .int .u16 (cl : Nat)] W fun e w' => e = .returned (.pointer none) ∧ Kept [] W w') := fun W m c1 c2 c3 c4 b sg c vs h k hs hg => (HSP.out W m c1 c2 c3 c4 b sg c n vs h k hs hg).mono fun e w' q => by
      rcases q with ⟨hno, _⟩ | ⟨_, q⟩
      · rw [HOK.out] at hno; cases hno
      · exact q
    clear hB hX hT hfit k0 hV0 h60 h300 h1000 hpos hen hr hr'
    go_enter Tryd.func3, Tryd.ntmps3
    go_upto_region 1 with fail
    rw [HV0.out]
    clear HV0
    go_upto_region 4 with (first
      | (go_at_call 5; refine (refGeneral_any _ _ _ _ _ _ _ _ _ _ _ _ _ V0).mono ?_; rintro e w1 ⟨GB, rfl, HGB, HK1⟩; clear f0 f1 f2 f3 f4; obtain ⟨f0, f1, f2, f3, f4⟩ := (HA0.out.keptF HK1.out (by simp)).cells)
      | (go_at_call 4; refine (few_any _ _ _ _ _ _ _ _ _ _ _ _ w1).mono ?_; rw [hfb]; rintro e w2 ⟨rfl, k2⟩; have HK2 : Hid (Kept [] V0 w2) := keptB HK1.out k2; clear k2 f0 f1 f2 f3 f4; obtain ⟨f0, f1, f2, f3, f4⟩ := (HA0.out.keptF HK2.out (by simp)).cells)
      | (go_at_call 6; refine (HKN.out w2 HK2.out).mono ?_; rintro e w3 ⟨rfl, k3⟩; have HK3 : Hid (Kept [] V0 w3) := keptB HK2.out k3; clear k3 f0 f1 f2 f3 f4; obtain ⟨f0, f1, f2, f3, f4⟩ := (HA0.out.keptF HK3.out (by simp)).cells))
    go_upto_region 5 with (first
      | (go_at_call 7; refine (HSE.out w3 (keptB HK0.out HK3.out)).mono ?_; rintro e w4 ⟨sb, sg, sc, rfl, hs, hb1, hb2, k4⟩; have HS4 : Hid (IsSet w4 sb sg sc n (ofW n xs)) := hs; have HK4 : Hid (Kept [] V0 w4) := keptB HK3.out k4; clear k4 hs hb1 hb2 f0 f1 f2 f3 f4; obtain ⟨f0, f1, f2, f3, f4⟩ := (HA0.out.keptF HK4.out (by simp)).cells))
    go_upto_region 6 with (first
      | (go_at_call 7; refine (HSO.out w4 (keptB HK0.out HK4.out)).mono ?_; rintro e w5 ⟨ob, og, oc, rfl, hs, hb1, hb2, k5⟩; have HO5 : Hid (IsSet w5 ob og oc (n + 1) (ofW (n + 1) xs)) := hs; have HS5 : Hid (IsSet w5 sb sg sc n (ofW n xs)) := HS4.out.kept k5 (by simp) (by simp); have HK5 : Hid (Kept [] V0 w5) := keptB HK4.out k5; clear k5 hs hb1 hb2 f0 f1 f2 f3 f4; obtain ⟨f0, f1, f2, f3, f4⟩ := (HA0.out.keptF HK5.out (by simp)).cells))
    go_upto_region 9 with (first
      | (go_at_call 8; refine (HLB.out w5 (keptB HK0.out HK5.out)).mono ?_; rintro e w9 ⟨c1, c2, c3, c4, rfl, hl, k9⟩; have HBL : Hid (BucL w9 w5.heap.size c1 c2 c3 c4 ⟨ps, (n : Int), ini, es, sets⟩ fin) := hl; have HK9 : Hid (Kept [] w5 w9) := k9; clear hl k9))
    obtain ⟨V9, hV9⟩ : ∃ V9, w9.alloc (.cells #[.slice (some ⟨c1, 0, none⟩) ps.length (ps.length + 2), .int .i64 (n : Nat), .slice (some ⟨c2, 0, none⟩) ini.length (ini.length + 2), .slice (some ⟨c3, 0, none⟩) es.length (es.length + 2), .slice (some ⟨c4, 0, none⟩) fin.length (fin.length + 2)] 26) = V9 := ⟨_, rfl⟩
    rw [hV9]
    have b9 := box_newS w9 26 (.slice (some ⟨c1, 0, none⟩) ps.length (ps.length + 2)) (.int .i64 (n : Nat)) (.slice (some ⟨c2, 0, none⟩) ini.length (ini.length + 2)) (.slice (some ⟨c3, 0, none⟩) es.length (es.length + 2)) (.slice (some ⟨c4, 0, none⟩) fin.length (fin.length + 2))
    have HB9 : Hid (Five 26 V9 w9.heap.size (.slice (some ⟨c1, 0, none⟩) ps.length (ps.length + 2)) (.int .i64 (n : Nat)) (.slice (some ⟨c2, 0, none⟩) ini.length (ini.length + 2)) (.slice (some ⟨c3, 0, none⟩) es.length (es.length + 2)) (.slice (some ⟨c4, 0, none⟩) fin.length (fin.length + 2)) ∧ Kept [] w9 V9 ∧ w9.heap.size < V9.heap.size) := by
      show Five _ _ _ _ _ _ _ _ ∧ _
      rw [← hV9]
      exact b9
    clear hV9 b9
    have HKV : Hid (Kept [] V0 V9) := keptB HK5.out (keptB HK9.out HB9.out.2.1)
    have HW9 : Hid (Kept [] w V9) := keptB HK0.out HKV.out
    have HL9 : Hid (BucL V9 w5.heap.size c1 c2 c3 c4 ⟨ps, (n : Int), ini, es, sets⟩ fin) := HBL.out.keptS HB9.out.2.1
    have HS9 : Hid (IsSet V9 sb sg sc n (ofW n xs)) := HS5.out.kept (keptB HK9.out HB9.out.2.1) (by simp) (by simp)
    have HO9 : Hid (IsSet V9 ob og oc (n + 1) (ofW (n + 1) xs)) := HO5.out.kept (keptB HK9.out HB9.out.2.1) (by simp) (by simp)
    have HCE : Hid (∀ F W, Kept F V9 W → w.heap.size ∉ F → w9.heap.size ∉ F → (W.cell? ⟨w.heap.size, 0, none⟩ = some (.slice pad ps.length pc) ∧ W.cell? ⟨w.heap.size, 1, none⟩ = some (.int .i64 (n : Nat)) ∧ W.cell? ⟨w.heap.size, 2, none⟩ = some (.slice iad ini.length ic) ∧ W.cell? ⟨w.heap.size, 3, none⟩ = some (.slice ead es.length ec) ∧ W.cell? ⟨w.heap.size, 4, none⟩ = some (.slice fad fin.length fc)) ∧ W.cell? ⟨w9.heap.size, 0, none⟩ = some (.slice (some ⟨c1, 0, none⟩) ps.length (ps.length + 2)) ∧ W.cell? ⟨w9.heap.size, 1, none⟩ = some (.int .i64 (n : Nat)) ∧ W.cell? ⟨w9.heap.size, 2, none⟩ = some (.slice (some ⟨c2, 0, none⟩) ini.length (ini.length + 2)) ∧ W.cell? ⟨w9.heap.size, 3, none⟩ = some (.slice (some ⟨c3, 0, none⟩) es.length (es.length + 2)) ∧ W.cell? ⟨w9.heap.size, 4, none⟩ = some (.slice (some ⟨c4, 0, none⟩) fin.length (fin.length + 2))) := fun F W k n1 n2 => ⟨((HA0.out.keptF HKV.out (by simp)).keptF k n1).cells, (HB9.out.1.keptF k n2).cells⟩
    have HZV : Hid (w.heap.size < V9.heap.size ∧ w9.heap.size < V9.heap.size) := ⟨Nat.lt_of_lt_of_le (lt_of HA0.out) HKV.out.size, HB9.out.2.2⟩
    clear f0 f1 f2 f3 f4 HK9 HBL HB9 HKV HA0 HS4 HS5 HO5 HK1 HK2 HK3 HK4 HK5 HGB HKN
    obtain ⟨⟨f0, f1, f2, f3, f4⟩, d0, d1, d2, d3, d4⟩ := HCE.out [] V9 (Kept.refl [] V9) (by simp) (by simp)
    go_upto_region 10 with (first
      | (go_at_call 9; refine (HSN.out V9 _ c1 c2 c3 c4 sb sg sc (ofW n xs) HL9.out HW9.out HS9.out HGN.out).mono ?_; rintro e x1 ⟨rfl, k⟩; have HKn : Hid (Kept [] V9 x1) := k; clear k; have HKx : Hid (Kept [] V9 x1) := HKn.out; clear HKn; clear f0 f1 f2 f3 f4 d0 d1 d2 d3 d4; obtain ⟨⟨f0, f1, f2, f3, f4⟩, d0, d1, d2, d3, d4⟩ := HCE.out [] x1 HKx.out (by simp) (by simp)))
    go_upto_region 11 with (first
      | (go_at_call 9; refine (HSN.out x1 _ c1 c2 c3 c4 sb sg sc (ofW n xs) (HL9.out.keptS HKx.out) (keptB HW9.out HKx.out) (HS9.out.kept HKx.out (by simp) (by simp)) HGN.out).mono ?_; rintro e x2 ⟨rfl, k⟩; have HKn : Hid (Kept [] V9 x2) := keptB HKx.out k; clear k; clear HKx; have HKx : Hid (Kept [] V9 x2) := HKn.out; clear HKn; clear f0 f1 f2 f3 f4 d0 d1 d2 d3 d4; obtain ⟨⟨f0, f1, f2, f3, f4⟩, d0, d1, d2, d3, d4⟩ := HCE.out [] x2 HKx.out (by simp) (by simp)))
    go_upto_region 12 with (first
      | (go_at_call 9; refine (HSZ.out x2 _ c1 c2 c3 c4 ob og oc (ofW (n + 1) xs) (HL9.out.keptS HKx.out) (keptB HW9.out HKx.out) (HO9.out.kept HKx.out (by simp) (by simp)) HGO.out).mono ?_; rintro e x3 ⟨rfl, k⟩; have HK23 : Hid (Kept [] x2 x3) := k; have HKn : Hid (Kept [] V9 x3) := keptB HKx.out k; clear HKx k; have HKx : Hid (Kept [] V9 x3) := HKn.out; clear HKn; clear f0 f1 f2 f3 f4 d0 d1 d2 d3 d4; obtain ⟨⟨f0, f1, f2, f3, f4⟩, d0, d1, d2, d3, d4⟩ := HCE.out [] x3 HKx.out (by simp) (by simp)))
    go_upto_region 13 with (first
      | (go_at_call 10; refine (HWB.out x3 _ c1 c2 c3 c4 (HL9.out.keptS HKx.out) (keptB HW9.out HKx.out)).mono ?_; rintro e x4 ⟨rfl, k⟩; have HK24 : Hid (Kept [] x2 x4) := keptB HK23.out k; have HKn : Hid (Kept [] V9 x4) := keptB HKx.out k; clear HKx k; have HKx : Hid (Kept [] V9 x4) := HKn.out; clear HKn; clear f0 f1 f2 f3 f4 d0 d1 d2 d3 d4; obtain ⟨⟨f0, f1, f2, f3, f4⟩, d0, d1, d2, d3, d4⟩ := HCE.out [] x4 HKx.out (by simp) (by simp)))
    go_upto_region 15 with (first
      | (go_at_call 7; refine (HSE.out x4 (keptB HW9.out HKx.out)).mono ?_; rintro e x5 ⟨tb, tg, tc, rfl, hs, hb1, hb2, k⟩; have HS5 : Hid (IsSet x5 tb tg tc n (ofW n xs)) := hs; have HK25 : Hid (Kept [] x2 x5) := keptB HK24.out k; have HKn : Hid (Kept [] V9 x5) := keptB HKx.out k; clear HKx k hs hb1 hb2; have HKx : Hid (Kept [] V9 x5) := HKn.out; clear HKn; clear f0 f1 f2 f3 f4 d0 d1 d2 d3 d4; obtain ⟨⟨f0, f1, f2, f3, f4⟩, d0, d1, d2, d3, d4⟩ := HCE.out [] x5 HKx.out (by simp) (by simp))
      | (go_at_call 11; refine (HSA.out x5 sb sg sc tb tg tc (HS9.out.kept HKx.out (by simp) (by simp)) HS5.out).mono ?_; rintro e x6 ⟨rfl, k⟩; have HK26 : Hid (Kept [] x2 x6) := keptB HK25.out k; have HKn : Hid (Kept [] V9 x6) := keptB HKx.out k; clear HKx k; have HKx : Hid (Kept [] V9 x6) := HKn.out; clear HKn; clear f0 f1 f2 f3 f4 d0 d1 d2 d3 d4; obtain ⟨⟨f0, f1, f2, f3, f4⟩, d0, d1, d2, d3, d4⟩ := HCE.out [] x6 HKx.out (by simp) (by simp)))
    go_wp2_with (first
      | (go_at_call 12; refine (HRC.out x6 (keptB HW9.out HKx.out)).mono ?_; rintro e x7 ⟨rfl, k⟩; have HK27 : Hid (Kept [] x2 x7) := keptB HK26.out k; have HKn : Hid (Kept [] V9 x7) := keptB HKx.out k; clear HKx k; have HKx : Hid (Kept [] V9 x7) := HKn.out; clear HKn; clear f0 f1 f2 f3 f4 d0 d1 d2 d3 d4; obtain ⟨⟨f0, f1, f2, f3, f4⟩, d0, d1, d2, d3, d4⟩ := HCE.out [] x7 HKx.out (by simp) (by simp)))
    go_ret
    exact ⟨rfl, keptB HW9.out HKx.out⟩
  obtain rfl : 0 = en := by rw [← hen]; unfold errG; rw [if_pos hr]
  have h8 : ps.length ≤ 8 := by
    have q := hr
    unfold rightG at q
    simp only [Bool.and_eq_true] at q
    exact listB_few q.1.1.1.1.1
  obtain ⟨tp, htp⟩ : ∃ tp : Nat, 2 ^ ps.length = tp := ⟨_, rfl⟩
  have htb : tp ≤ 256 := by rw [← htp]; exact Nat.pow_le_pow_right (by omega) h8
  have hwr : IntKind.i64.wrap ((2 : Int) ^ ps.length) = (tp : Int) := by
    rw [show ((2 : Int) ^ ps.length) = ((2 ^ ps.length : Nat) : Int) by norm_cast, htp, IntKind.wrap_i64]
    omega
  have hlb : letterB cl ps.length = decide (cl < tp) := letterB_lt h8 htp
  have hpi : ¬ ((ps.length : Int) < 0) := by omega
  by_cases hct : cl < tp
  rotate_left
  · have HOK : Hid (stepOk ⟨ps, (n : Int), ini, es, sets⟩ fin n cl = false) := by
      show stepOk _ _ _ _ = _
      unfold stepOk
      rw [show letterB cl (Gen.ps ⟨ps, (n : Int), ini, es, sets⟩).length = false from by rw [show (Gen.ps ⟨ps, (n : Int), ini, es, sets⟩) = ps from rfl, hlb]; exact decide_eq_false hct, Bool.and_false]
    have hge : decide ((tp : Int) ≤ (cl : Int)) = true := decide_eq_true (by omega)
    have hge2 : (tp : Int) ≤ (cl : Int) := by omega
    have HSN : Hid (∀ W m c1 c2 c3 c4 b sg c vs, BucL W m c1 c2 c3 c4 ⟨ps, (n : Int), ini, es, sets⟩ fin → Kept [] w W → IsSet W b sg c n vs → Good n vs → Calls Tryd.prog 9 #[.agg #[.slice (some ⟨c1, 0, none⟩) ps.length (ps.length + 2), .int .i64 (n : Nat), .slice (some ⟨c2, 0, none⟩) ini.length (ini.length + 2), .slice (some ⟨c3, 0, none⟩) es.length (es.length + 2), .slice (some ⟨c4, 0, none⟩) fin.length (fin.length + 2)], .pointer (some ⟨b, 0, none⟩), .int .u16 (cl : Nat)] W fun e w' => e = .returned (.pointer none) ∧ Kept [] W w') := fun W m c1 c2 c3 c4 b sg c vs h k hs hg => (HSP.out W m c1 c2 c3 c4 b sg c n vs h k hs hg).mono fun e w' q => by
      rcases q with ⟨hno, _⟩ | ⟨_, q⟩
      · rw [HOK.out] at hno; cases hno
      · exact q
    clear hB hX hT hfit k0 hV0 h60 h300 h1000 hpos hen hr hlb hct htp
    go_enter Tryd.func3, Tryd.ntmps3
    go_upto_region 1 with fail
    rw [HV0.out]
    clear HV0
    go_upto_region 4 with (first
      | (go_at_call 5; refine (refGeneral_any _ _ _ _ _ _ _ _ _ _ _ _ _ V0).mono ?_; rintro e w1 ⟨GB, rfl, HGB, HK1⟩; clear f0 f1 f2 f3 f4; obtain ⟨f0, f1, f2, f3, f4⟩ := (HA0.out.keptF HK1.out (by simp)).cells)
      | (go_at_call 4; refine (few_any _ _ _ _ _ _ _ _ _ _ _ _ w1).mono ?_; rw [hfb]; rintro e w2 ⟨rfl, k2⟩; have HK2 : Hid (Kept [] V0 w2) := keptB HK1.out k2; clear k2 f0 f1 f2 f3 f4; obtain ⟨f0, f1, f2, f3, f4⟩ := (HA0.out.keptF HK2.out (by simp)).cells)
      | (go_at_call 6; refine (HKN.out w2 HK2.out).mono ?_; rintro e w3 ⟨rfl, k3⟩; have HK3 : Hid (Kept [] V0 w3) := keptB HK2.out k3; clear k3 f0 f1 f2 f3 f4; obtain ⟨f0, f1, f2, f3, f4⟩ := (HA0.out.keptF HK3.out (by simp)).cells))
    go_upto_region 5 with (first
      | (go_at_call 7; refine (HSE.out w3 (keptB HK0.out HK3.out)).mono ?_; rintro e w4 ⟨sb, sg, sc, rfl, hs, hb1, hb2, k4⟩; have HS4 : Hid (IsSet w4 sb sg sc n (ofW n xs)) := hs; have HK4 : Hid (Kept [] V0 w4) := keptB HK3.out k4; clear k4 hs hb1 hb2 f0 f1 f2 f3 f4; obtain ⟨f0, f1, f2, f3, f4⟩ := (HA0.out.keptF HK4.out (by simp)).cells))
    go_upto_region 6 with (first
      | (go_at_call 7; refine (HSO.out w4 (keptB HK0.out HK4.out)).mono ?_; rintro e w5 ⟨ob, og, oc, rfl, hs, hb1, hb2, k5⟩; have HO5 : Hid (IsSet w5 ob og oc (n + 1) (ofW (n + 1) xs)) := hs; have HS5 : Hid (IsSet w5 sb sg sc n (ofW n xs)) := HS4.out.kept k5 (by simp) (by simp); have HK5 : Hid (Kept [] V0 w5) := keptB HK4.out k5; clear k5 hs hb1 hb2 f0 f1 f2 f3 f4; obtain ⟨f0, f1, f2, f3, f4⟩ := (HA0.out.keptF HK5.out (by simp)).cells))
    go_upto_region 9 with (first
      | (go_at_call 8; refine (HLB.out w5 (keptB HK0.out HK5.out)).mono ?_; rintro e w9 ⟨c1, c2, c3, c4, rfl, hl, k9⟩; have HBL : Hid (BucL w9 w5.heap.size c1 c2 c3 c4 ⟨ps, (n : Int), ini, es, sets⟩ fin) := hl; have HK9 : Hid (Kept [] w5 w9) := k9; clear hl k9))
    obtain ⟨V9, hV9⟩ : ∃ V9, w9.alloc (.cells #[.slice (some ⟨c1, 0, none⟩) ps.length (ps.length + 2), .int .i64 (n : Nat), .slice (some ⟨c2, 0, none⟩) ini.length (ini.length + 2), .slice (some ⟨c3, 0, none⟩) es.length (es.length + 2), .slice (some ⟨c4, 0, none⟩) fin.length (fin.length + 2)] 26) = V9 := ⟨_, rfl⟩
    rw [hV9]
    have b9 := box_newS w9 26 (.slice (some ⟨c1, 0, none⟩) ps.length (ps.length + 2)) (.int .i64 (n : Nat)) (.slice (some ⟨c2, 0, none⟩) ini.length (ini.length + 2)) (.slice (some ⟨c3, 0, none⟩) es.length (es.length + 2)) (.slice (some ⟨c4, 0, none⟩) fin.length (fin.length + 2))
    have HB9 : Hid (Five 26 V9 w9.heap.size (.slice (some ⟨c1, 0, none⟩) ps.length (ps.length + 2)) (.int .i64 (n : Nat)) (.slice (some ⟨c2, 0, none⟩) ini.length (ini.length + 2)) (.slice (some ⟨c3, 0, none⟩) es.length (es.length + 2)) (.slice (some ⟨c4, 0, none⟩) fin.length (fin.length + 2)) ∧ Kept [] w9 V9 ∧ w9.heap.size < V9.heap.size) := by
      show Five _ _ _ _ _ _ _ _ ∧ _
      rw [← hV9]
      exact b9
    clear hV9 b9
    have HKV : Hid (Kept [] V0 V9) := keptB HK5.out (keptB HK9.out HB9.out.2.1)
    have HW9 : Hid (Kept [] w V9) := keptB HK0.out HKV.out
    have HL9 : Hid (BucL V9 w5.heap.size c1 c2 c3 c4 ⟨ps, (n : Int), ini, es, sets⟩ fin) := HBL.out.keptS HB9.out.2.1
    have HS9 : Hid (IsSet V9 sb sg sc n (ofW n xs)) := HS5.out.kept (keptB HK9.out HB9.out.2.1) (by simp) (by simp)
    have HO9 : Hid (IsSet V9 ob og oc (n + 1) (ofW (n + 1) xs)) := HO5.out.kept (keptB HK9.out HB9.out.2.1) (by simp) (by simp)
    have HCE : Hid (∀ F W, Kept F V9 W → w.heap.size ∉ F → w9.heap.size ∉ F → (W.cell? ⟨w.heap.size, 0, none⟩ = some (.slice pad ps.length pc) ∧ W.cell? ⟨w.heap.size, 1, none⟩ = some (.int .i64 (n : Nat)) ∧ W.cell? ⟨w.heap.size, 2, none⟩ = some (.slice iad ini.length ic) ∧ W.cell? ⟨w.heap.size, 3, none⟩ = some (.slice ead es.length ec) ∧ W.cell? ⟨w.heap.size, 4, none⟩ = some (.slice fad fin.length fc)) ∧ W.cell? ⟨w9.heap.size, 0, none⟩ = some (.slice (some ⟨c1, 0, none⟩) ps.length (ps.length + 2)) ∧ W.cell? ⟨w9.heap.size, 1, none⟩ = some (.int .i64 (n : Nat)) ∧ W.cell? ⟨w9.heap.size, 2, none⟩ = some (.slice (some ⟨c2, 0, none⟩) ini.length (ini.length + 2)) ∧ W.cell? ⟨w9.heap.size, 3, none⟩ = some (.slice (some ⟨c3, 0, none⟩) es.length (es.length + 2)) ∧ W.cell? ⟨w9.heap.size, 4, none⟩ = some (.slice (some ⟨c4, 0, none⟩) fin.length (fin.length + 2))) := fun F W k n1 n2 => ⟨((HA0.out.keptF HKV.out (by simp)).keptF k n1).cells, (HB9.out.1.keptF k n2).cells⟩
    have HZV : Hid (w.heap.size < V9.heap.size ∧ w9.heap.size < V9.heap.size) := ⟨Nat.lt_of_lt_of_le (lt_of HA0.out) HKV.out.size, HB9.out.2.2⟩
    clear f0 f1 f2 f3 f4 HK9 HBL HB9 HKV HA0 HS4 HS5 HO5 HK1 HK2 HK3 HK4 HK5 HGB HKN
    obtain ⟨⟨f0, f1, f2, f3, f4⟩, d0, d1, d2, d3, d4⟩ := HCE.out [] V9 (Kept.refl [] V9) (by simp) (by simp)
    go_upto_region 10 with (first
      | (go_at_call 9; refine (HSN.out V9 _ c1 c2 c3 c4 sb sg sc (ofW n xs) HL9.out HW9.out HS9.out HGN.out).mono ?_; rintro e x1 ⟨rfl, k⟩; have HKn : Hid (Kept [] V9 x1) := k; clear k; have HKx : Hid (Kept [] V9 x1) := HKn.out; clear HKn; clear f0 f1 f2 f3 f4 d0 d1 d2 d3 d4; obtain ⟨⟨f0, f1, f2, f3, f4⟩, d0, d1, d2, d3, d4⟩ := HCE.out [] x1 HKx.out (by simp) (by simp)))
    go_upto_region 11 with (first
      | (go_at_call 9; refine (HSN.out x1 _ c1 c2 c3 c4 sb sg sc (ofW n xs) (HL9.out.keptS HKx.out) (keptB HW9.out HKx.out) (HS9.out.kept HKx.out (by simp) (by simp)) HGN.out).mono ?_; rintro e x2 ⟨rfl, k⟩; have HKn : Hid (Kept [] V9 x2) := keptB HKx.out k; clear k; clear HKx; have HKx : Hid (Kept [] V9 x2) := HKn.out; clear HKn; clear f0 f1 f2 f3 f4 d0 d1 d2 d3 d4; obtain ⟨⟨f0, f1, f2, f3, f4⟩, d0, d1, d2, d3, d4⟩ := HCE.out [] x2 HKx.out (by simp) (by simp)))
    go_upto_region 12 with (first
      | (go_at_call 9; refine (HSZ.out x2 _ c1 c2 c3 c4 ob og oc (ofW (n + 1) xs) (HL9.out.keptS HKx.out) (keptB HW9.out HKx.out) (HO9.out.kept HKx.out (by simp) (by simp)) HGO.out).mono ?_; rintro e x3 ⟨rfl, k⟩; have HK23 : Hid (Kept [] x2 x3) := k; have HKn : Hid (Kept [] V9 x3) := keptB HKx.out k; clear HKx k; have HKx : Hid (Kept [] V9 x3) := HKn.out; clear HKn; clear f0 f1 f2 f3 f4 d0 d1 d2 d3 d4; obtain ⟨⟨f0, f1, f2, f3, f4⟩, d0, d1, d2, d3, d4⟩ := HCE.out [] x3 HKx.out (by simp) (by simp)))
    go_upto_region 13 with (first
      | (go_at_call 10; refine (HWB.out x3 _ c1 c2 c3 c4 (HL9.out.keptS HKx.out) (keptB HW9.out HKx.out)).mono ?_; rintro e x4 ⟨rfl, k⟩; have HK24 : Hid (Kept [] x2 x4) := keptB HK23.out k; have HKn : Hid (Kept [] V9 x4) := keptB HKx.out k; clear HKx k; have HKx : Hid (Kept [] V9 x4) := HKn.out; clear HKn; clear f0 f1 f2 f3 f4 d0 d1 d2 d3 d4; obtain ⟨⟨f0, f1, f2, f3, f4⟩, d0, d1, d2, d3, d4⟩ := HCE.out [] x4 HKx.out (by simp) (by simp)))
    go_upto_region 15 with (first
      | (go_at_call 7; refine (HSE.out x4 (keptB HW9.out HKx.out)).mono ?_; rintro e x5 ⟨tb, tg, tc, rfl, hs, hb1, hb2, k⟩; have HS5 : Hid (IsSet x5 tb tg tc n (ofW n xs)) := hs; have HK25 : Hid (Kept [] x2 x5) := keptB HK24.out k; have HKn : Hid (Kept [] V9 x5) := keptB HKx.out k; clear HKx k hs hb1 hb2; have HKx : Hid (Kept [] V9 x5) := HKn.out; clear HKn; clear f0 f1 f2 f3 f4 d0 d1 d2 d3 d4; obtain ⟨⟨f0, f1, f2, f3, f4⟩, d0, d1, d2, d3, d4⟩ := HCE.out [] x5 HKx.out (by simp) (by simp))
      | (go_at_call 11; refine (HSA.out x5 sb sg sc tb tg tc (HS9.out.kept HKx.out (by simp) (by simp)) HS5.out).mono ?_; rintro e x6 ⟨rfl, k⟩; have HK26 : Hid (Kept [] x2 x6) := keptB HK25.out k; have HKn : Hid (Kept [] V9 x6) := keptB HKx.out k; clear HKx k; have HKx : Hid (Kept [] V9 x6) := HKn.out; clear HKn; clear f0 f1 f2 f3 f4 d0 d1 d2 d3 d4; obtain ⟨⟨f0, f1, f2, f3, f4⟩, d0, d1, d2, d3, d4⟩ := HCE.out [] x6 HKx.out (by simp) (by simp)))
    go_wp2_with (first
      | (go_at_call 12; refine (HRC.out x6 (keptB HW9.out HKx.out)).mono ?_; rintro e x7 ⟨rfl, k⟩; have HK27 : Hid (Kept [] x2 x7) := keptB HK26.out k; have HKn : Hid (Kept [] V9 x7) := keptB HKx.out k; clear HKx k; have HKx : Hid (Kept [] V9 x7) := HKn.out; clear HKn; clear f0 f1 f2 f3 f4 d0 d1 d2 d3 d4; obtain ⟨⟨f0, f1, f2, f3, f4⟩, d0, d1, d2, d3, d4⟩ := HCE.out [] x7 HKx.out (by simp) (by simp)))
    go_ret
    exact ⟨rfl, keptB HW9.out HKx.out⟩
  have HOK : Hid (stepOk ⟨ps, (n : Int), ini, es, sets⟩ fin n cl = true) := by
    show stepOk _ _ _ _ = _
    unfold stepOk
    rw [hr, show letterB cl (Gen.ps ⟨ps, (n : Int), ini, es, sets⟩).length = true from by rw [show (Gen.ps ⟨ps, (n : Int), ini, es, sets⟩) = ps from rfl, hlb]; exact decide_eq_true hct]
    simp
  have hge : ¬ ((tp : Int) ≤ (cl : Int)) := by omega
  have HD2 : Hid (decide (tp ≤ cl) = false) := decide_eq_false (by omega)
  have hed := (right_edges hr).1
  have HED : Hid (∀ e ∈ es, (0 ≤ e.fr ∧ e.fr < (n : Int)) ∧ 0 ≤ e.to ∧ e.to < (n : Int)) := hed
  have HCL : Hid (cl < 65536) := hcl
  have HSY : Hid (∀ W m c1 c2 c3 c4 b sg c vs, BucL W m c1 c2 c3 c4 ⟨ps, (n : Int), ini, es, sets⟩ fin → Kept [] w W → IsSet W b sg c n vs → Good n vs → Calls Tryd.prog 9 #[.agg #[.slice (some ⟨c1, 0, none⟩) ps.length (ps.length + 2), .int .i64 (n : Nat), .slice (some ⟨c2, 0, none⟩) ini.length (ini.length + 2), .slice (some ⟨c3, 0, none⟩) es.length (es.length + 2), .slice (some ⟨c4, 0, none⟩) fin.length (fin.length + 2)], .pointer (some ⟨b, 0, none⟩), .int .u16 (cl : Nat)] W (StepEnds W n cl vs es)) := fun W m c1 c2 c3 c4 b sg c vs h k hs hg => (HSP.out W m c1 c2 c3 c4 b sg c n vs h k hs hg).mono fun e w' q => by
    rcases q with ⟨_, q⟩ | ⟨hno, _⟩
    · exact q
    · rw [HOK.out] at hno; cases hno
  clear hB hX hT hfit k0 hV0 h60 h300 h1000 hpos hen hr hlb hct htp hed hcl
  go_enter Tryd.func3, Tryd.ntmps3
  go_upto_region 1 with fail
  rw [HV0.out]
  clear HV0
  go_upto_region 4 with (first
    | (go_at_call 5; refine (refGeneral_any _ _ _ _ _ _ _ _ _ _ _ _ _ V0).mono ?_; rintro e w1 ⟨GB, rfl, HGB, HK1⟩; clear f0 f1 f2 f3 f4; obtain ⟨f0, f1, f2, f3, f4⟩ := (HA0.out.keptF HK1.out (by simp)).cells)
    | (go_at_call 4; refine (few_any _ _ _ _ _ _ _ _ _ _ _ _ w1).mono ?_; rw [hfb]; rintro e w2 ⟨rfl, k2⟩; have HK2 : Hid (Kept [] V0 w2) := keptB HK1.out k2; clear k2 f0 f1 f2 f3 f4; obtain ⟨f0, f1, f2, f3, f4⟩ := (HA0.out.keptF HK2.out (by simp)).cells)
    | (go_at_call 6; refine (HKN.out w2 HK2.out).mono ?_; rintro e w3 ⟨rfl, k3⟩; have HK3 : Hid (Kept [] V0 w3) := keptB HK2.out k3; clear k3 f0 f1 f2 f3 f4; obtain ⟨f0, f1, f2, f3, f4⟩ := (HA0.out.keptF HK3.out (by simp)).cells))
  go_upto_region 5 with (first
    | (go_at_call 7; refine (HSE.out w3 (keptB HK0.out HK3.out)).mono ?_; rintro e w4 ⟨sb, sg, sc, rfl, hs, hb1, hb2, k4⟩; have HS4 : Hid (IsSet w4 sb sg sc n (ofW n xs)) := hs; have HK4 : Hid (Kept [] V0 w4) := keptB HK3.out k4; clear k4 hs hb1 hb2 f0 f1 f2 f3 f4; obtain ⟨f0, f1, f2, f3, f4⟩ := (HA0.out.keptF HK4.out (by simp)).cells))
  go_upto_region 6 with (first
    | (go_at_call 7; refine (HSO.out w4 (keptB HK0.out HK4.out)).mono ?_; rintro e w5 ⟨ob, og, oc, rfl, hs, hb1, hb2, k5⟩; have HO5 : Hid (IsSet w5 ob og oc (n + 1) (ofW (n + 1) xs)) := hs; have HS5 : Hid (IsSet w5 sb sg sc n (ofW n xs)) := HS4.out.kept k5 (by simp) (by simp); have HK5 : Hid (Kept [] V0 w5) := keptB HK4.out k5; clear k5 hs hb1 hb2 f0 f1 f2 f3 f4; obtain ⟨f0, f1, f2, f3, f4⟩ := (HA0.out.keptF HK5.out (by simp)).cells))
  go_upto_region 9 with (first
    | (go_at_call 8; refine (HLB.out w5 (keptB HK0.out HK5.out)).mono ?_; rintro e w9 ⟨c1, c2, c3, c4, rfl, hl, k9⟩; have HBL : Hid (BucL w9 w5.heap.size c1 c2 c3 c4 ⟨ps, (n : Int), ini, es, sets⟩ fin) := hl; have HK9 : Hid (Kept [] w5 w9) := k9; clear hl k9))
  obtain ⟨V9, hV9⟩ : ∃ V9, w9.alloc (.cells #[.slice (some ⟨c1, 0, none⟩) ps.length (ps.length + 2), .int .i64 (n : Nat), .slice (some ⟨c2, 0, none⟩) ini.length (ini.length + 2), .slice (some ⟨c3, 0, none⟩) es.length (es.length + 2), .slice (some ⟨c4, 0, none⟩) fin.length (fin.length + 2)] 26) = V9 := ⟨_, rfl⟩
  rw [hV9]
  have b9 := box_newS w9 26 (.slice (some ⟨c1, 0, none⟩) ps.length (ps.length + 2)) (.int .i64 (n : Nat)) (.slice (some ⟨c2, 0, none⟩) ini.length (ini.length + 2)) (.slice (some ⟨c3, 0, none⟩) es.length (es.length + 2)) (.slice (some ⟨c4, 0, none⟩) fin.length (fin.length + 2))
  have HB9 : Hid (Five 26 V9 w9.heap.size (.slice (some ⟨c1, 0, none⟩) ps.length (ps.length + 2)) (.int .i64 (n : Nat)) (.slice (some ⟨c2, 0, none⟩) ini.length (ini.length + 2)) (.slice (some ⟨c3, 0, none⟩) es.length (es.length + 2)) (.slice (some ⟨c4, 0, none⟩) fin.length (fin.length + 2)) ∧ Kept [] w9 V9 ∧ w9.heap.size < V9.heap.size) := by
    show Five _ _ _ _ _ _ _ _ ∧ _
    rw [← hV9]
    exact b9
  clear hV9 b9
  have HKV : Hid (Kept [] V0 V9) := keptB HK5.out (keptB HK9.out HB9.out.2.1)
  have HW9 : Hid (Kept [] w V9) := keptB HK0.out HKV.out
  have HL9 : Hid (BucL V9 w5.heap.size c1 c2 c3 c4 ⟨ps, (n : Int), ini, es, sets⟩ fin) := HBL.out.keptS HB9.out.2.1
  have HS9 : Hid (IsSet V9 sb sg sc n (ofW n xs)) := HS5.out.kept (keptB HK9.out HB9.out.2.1) (by simp) (by simp)
  have HO9 : Hid (IsSet V9 ob og oc (n + 1) (ofW (n + 1) xs)) := HO5.out.kept (keptB HK9.out HB9.out.2.1) (by simp) (by simp)
  have HCE : Hid (∀ F W, Kept F V9 W → w.heap.size ∉ F → w9.heap.size ∉ F → (W.cell? ⟨w.heap.size, 0, none⟩ = some (.slice pad ps.length pc) ∧ W.cell? ⟨w.heap.size, 1, none⟩ = some (.int .i64 (n : Nat)) ∧ W.cell? ⟨w.heap.size, 2, none⟩ = some (.slice iad ini.length ic) ∧ W.cell? ⟨w.heap.size, 3, none⟩ = some (.slice ead es.length ec) ∧ W.cell? ⟨w.heap.size, 4, none⟩ = some (.slice fad fin.length fc)) ∧ W.cell? ⟨w9.heap.size, 0, none⟩ = some (.slice (some ⟨c1, 0, none⟩) ps.length (ps.length + 2)) ∧ W.cell? ⟨w9.heap.size, 1, none⟩ = some (.int .i64 (n : Nat)) ∧ W.cell? ⟨w9.heap.size, 2, none⟩ = some (.slice (some ⟨c2, 0, none⟩) ini.length (ini.length + 2)) ∧ W.cell? ⟨w9.heap.size, 3, none⟩ = some (.slice (some ⟨c3, 0, none⟩) es.length (es.length + 2)) ∧ W.cell? ⟨w9.heap.size, 4, none⟩ = some (.slice (some ⟨c4, 0, none⟩) fin.length (fin.length + 2))) := fun F W k n1 n2 => ⟨((HA0.out.keptF HKV.out (by simp)).keptF k n1).cells, (HB9.out.1.keptF k n2).cells⟩
  have HZV : Hid (w.heap.size < V9.heap.size ∧ w9.heap.size < V9.heap.size) := ⟨Nat.lt_of_lt_of_le (lt_of HA0.out) HKV.out.size, HB9.out.2.2⟩
  clear f0 f1 f2 f3 f4 HK9 HBL HB9 HKV HA0 HS4 HS5 HO5 HK1 HK2 HK3 HK4 HK5 HGB HKN
  obtain ⟨⟨f0, f1, f2, f3, f4⟩, d0, d1, d2, d3, d4⟩ := HCE.out [] V9 (Kept.refl [] V9) (by simp) (by simp)
  go_upto_region 10 with (first
    | (go_at_call 9; refine (HSY.out V9 _ c1 c2 c3 c4 sb sg sc (ofW n xs) HL9.out HW9.out HS9.out HGN.out).mono ?_; rintro e x1 ⟨xb, xg, xc, us, rfl, hs, hg, hm, k, l1, l2⟩; have HX1 : Hid (IsSet x1 xb xg xc n us) := hs; have HGX : Hid (Good n us) := hg; have HMX : Hid (∀ x, x < n → mem us x = hitB ((elemsW n (ofW n xs) 0).flatMap (rowL es)) cl x) := hm; have HLX : Hid (V9.heap.size ≤ xb ∧ V9.heap.size ≤ xg) := ⟨l1, l2⟩; have HKx : Hid (Kept [] V9 x1) := k; clear hs hg hm l1 l2 k; clear f0 f1 f2 f3 f4 d0 d1 d2 d3 d4; obtain ⟨⟨f0, f1, f2, f3, f4⟩, d0, d1, d2, d3, d4⟩ := HCE.out [] x1 HKx.out (by simp) (by simp)))
  go_upto_region 11 with (first
    | (go_at_call 9; refine (HSY.out x1 _ c1 c2 c3 c4 sb sg sc (ofW n xs) (HL9.out.keptS HKx.out) (keptB HW9.out HKx.out) (HS9.out.kept HKx.out (by simp) (by simp)) HGN.out).mono ?_; rintro e x2 ⟨yb, yg, yc, zs, rfl, hs, hg, hm, k, l1, l2⟩; have HY2 : Hid (IsSet x2 yb yg yc n zs) := hs; have HGY : Hid (Good n zs) := hg; have HMY : Hid (∀ x, x < n → mem zs x = hitB ((elemsW n (ofW n xs) 0).flatMap (rowL es)) cl x) := hm; have HLY : Hid (x1.heap.size ≤ yb ∧ x1.heap.size ≤ yg) := ⟨l1, l2⟩; have HX2 : Hid (IsSet x2 xb xg xc n us) := HX1.out.kept k (by simp) (by simp); have HKn : Hid (Kept [] V9 x2) := keptB HKx.out k; clear HKx hs hg hm l1 l2 k; have HKx : Hid (Kept [] V9 x2) := HKn.out; clear HKn; clear f0 f1 f2 f3 f4 d0 d1 d2 d3 d4; obtain ⟨⟨f0, f1, f2, f3, f4⟩, d0, d1, d2, d3, d4⟩ := HCE.out [] x2 HKx.out (by simp) (by simp)))
  go_upto_region 12 with (first
    | (go_at_call 9; refine (HSZ.out x2 _ c1 c2 c3 c4 ob og oc (ofW (n + 1) xs) (HL9.out.keptS HKx.out) (keptB HW9.out HKx.out) (HO9.out.kept HKx.out (by simp) (by simp)) HGO.out).mono ?_; rintro e x3 ⟨rfl, k⟩; have HK23 : Hid (Kept [] x2 x3) := k; have HKn : Hid (Kept [] V9 x3) := keptB HKx.out k; clear HKx k; have HKx : Hid (Kept [] V9 x3) := HKn.out; clear HKn; clear f0 f1 f2 f3 f4 d0 d1 d2 d3 d4; obtain ⟨⟨f0, f1, f2, f3, f4⟩, d0, d1, d2, d3, d4⟩ := HCE.out [] x3 HKx.out (by simp) (by simp)))
  go_upto_region 13 with (first
    | (go_at_call 10; refine (HWB.out x3 _ c1 c2 c3 c4 (HL9.out.keptS HKx.out) (keptB HW9.out HKx.out)).mono ?_; rintro e x4 ⟨rfl, k⟩; have HK24 : Hid (Kept [] x2 x4) := keptB HK23.out k; have HKn : Hid (Kept [] V9 x4) := keptB HKx.out k; clear HKx k; have HKx : Hid (Kept [] V9 x4) := HKn.out; clear HKn; clear f0 f1 f2 f3 f4 d0 d1 d2 d3 d4; obtain ⟨⟨f0, f1, f2, f3, f4⟩, d0, d1, d2, d3, d4⟩ := HCE.out [] x4 HKx.out (by simp) (by simp)))
  go_upto_region 15 with (first
    | (go_at_call 7; refine (HSE.out x4 (keptB HW9.out HKx.out)).mono ?_; rintro e x5 ⟨tb, tg, tc, rfl, hs, hb1, hb2, k⟩; have HS5 : Hid (IsSet x5 tb tg tc n (ofW n xs)) := hs; have HK25 : Hid (Kept [] x2 x5) := keptB HK24.out k; have HKn : Hid (Kept [] V9 x5) := keptB HKx.out k; clear HKx k hs hb1 hb2; have HKx : Hid (Kept [] V9 x5) := HKn.out; clear HKn; clear f0 f1 f2 f3 f4 d0 d1 d2 d3 d4; obtain ⟨⟨f0, f1, f2, f3, f4⟩, d0, d1, d2, d3, d4⟩ := HCE.out [] x5 HKx.out (by simp) (by simp))
    | (go_at_call 11; refine (HSA.out x5 sb sg sc tb tg tc (HS9.out.kept HKx.out (by simp) (by simp)) HS5.out).mono ?_; rintro e x6 ⟨rfl, k⟩; have HK26 : Hid (Kept [] x2 x6) := keptB HK25.out k; have HKn : Hid (Kept [] V9 x6) := keptB HKx.out k; clear HKx k; have HKx : Hid (Kept [] V9 x6) := HKn.out; clear HKn; clear f0 f1 f2 f3 f4 d0 d1 d2 d3 d4; obtain ⟨⟨f0, f1, f2, f3, f4⟩, d0, d1, d2, d3, d4⟩ := HCE.out [] x6 HKx.out (by simp) (by simp)))
  have hmk : ∀ W : World, Sem.run Tryd.prog (Instr.makeSlice 45 (.int .i64 (n : Nat)) (.int .i64 (n : Nat))) W = .ok (.slice (some ⟨W.heap.size, 0, none⟩) n n) (W.alloc (.cells ((List.replicate n false).map Value.bool).toArray 4)) := fun W => make_bools W n (by omega)
  go_upto_region 17 with (first
    | (go_at_call 12; refine (HRC.out x6 (keptB HW9.out HKx.out)).mono ?_; rintro e x7 ⟨rfl, k⟩; have HK27 : Hid (Kept [] x2 x7) := keptB HK26.out k; have HKn : Hid (Kept [] V9 x7) := keptB HKx.out k; clear HKx k; have HKx : Hid (Kept [] V9 x7) := HKn.out; clear HKn; clear f0 f1 f2 f3 f4 d0 d1 d2 d3 d4; obtain ⟨⟨f0, f1, f2, f3, f4⟩, d0, d1, d2, d3, d4⟩ := HCE.out [] x7 HKx.out (by simp) (by simp)))
  go_upto_region 18 with fail
  obtain ⟨U, hU⟩ : ∃ U, x7.alloc (.cells (Array.replicate n (Value.bool false)) 4) = U := ⟨_, rfl⟩
  rw [hU]
  obtain ⟨Y, hY⟩ : ∃ Y, x7.heap.size = Y := ⟨_, rfl⟩
  have HY0 : Hid (YesA U U Y n 0 (List.replicate n false) (ofW n xs)) := by
    show YesA _ _ _ _ _ _ _
    refine ⟨?_, List.length_replicate, fun i hi => by omega, Kept.refl _ U⟩
    rw [← hU, ← hY, al0]
    congr 2
    simp
  have HKU : Hid (Kept [] V9 U) := by
    show Kept _ _ _
    rw [← hU]
    exact HKx.out.alloc _
  have HYL : Hid (V9.heap.size ≤ Y ∧ x2.heap.size ≤ Y ∧ Y < U.heap.size) := by
    have q1 := HKx.out.size
    have q2 := HK27.out.size
    have q3 := lt_of HY0.out.row
    exact ⟨by omega, by omega, q3⟩
  have HX7 : Hid (IsSet U xb xg xc n us) := by
    show IsSet _ _ _ _ _ _
    rw [← hU]
    exact HX2.out.kept (HK27.out.alloc _) (by simp) (by simp)
  have HY7 : Hid (IsSet U yb yg yc n zs) := by
    show IsSet _ _ _ _ _ _
    rw [← hU]
    exact HY2.out.kept (HK27.out.alloc _) (by simp) (by simp)
  have HS7 : Hid (IsSet U sb sg sc n (ofW n xs)) := HS9.out.kept HKU.out (by simp) (by simp)
  have HNE : Hid (sb ≠ Y ∧ sg ≠ Y ∧ xb ≠ Y ∧ xg ≠ Y ∧ yb ≠ Y ∧ yg ≠ Y) := by
    have q := HYL.out
    have q1 := HS9.out.ltb
    have q2 := HS9.out.ltg
    have q3 := HX2.out.ltb
    have q4 := HX2.out.ltg
    have q5 := HY2.out.ltb
    have q6 := HY2.out.ltg
    exact ⟨by omega, by omega, by omega, by omega, by omega, by omega⟩
  have HNX : Hid (yb ≠ xg ∧ yg ≠ xg ∧ w.heap.size ≠ xg ∧ xg < U.heap.size) := by
    have q1 := HX1.out.ltg
    have q2 := HLY.out
    have q3 := HLX.out
    have q4 := HZV.out
    have q5 := HX7.out.ltg
    exact ⟨by omega, by omega, by omega, q5⟩
  have HFA : Hid (∀ W, Kept [Y] U W → W.cell? ⟨w.heap.size, 1, none⟩ = some (.int .i64 (n : Nat))) := fun W k => (HCE.out [Y] W ((kept_moreG HKU.out).trans k (fun _ h => h) (fun _ h => .inl h)) (by have q := HYL.out; have z := HZV.out; simp; omega) (by have q := HYL.out; have z := HZV.out; simp; omega)).1.2.1
  have HWY : Hid (∀ W, Kept [Y] U W → Kept [] w W) := fun W k => (keptB HW9.out HKU.out).trans k (by simp) (fun x hx => .inr (by have q := HYL.out; have z := HZV.out; simp at hx; omega))
  rw [hY]
  clear hU hY f0 f1 f2 f3 f4 d0 d1 d2 d3 d4 HSE HSO HLB HWB HSP HSA HRC HSZ HSY hmk
  go_upto_region 19 with fail
  rw [HD1.out, HD2.out]
  go_loopw [16] (fun i wr => ∃ k : Nat, i = .int .i64 (k : Nat) ∧ k ≤ n ∧ Hid (∃ bs, YesA U wr Y n k bs (ofW n xs))) (fun i _ => n - (intOf i).toNat)
  case atStart => exact ⟨0, rfl, Nat.zero_le _, ⟨_, HY0.out⟩⟩
  case round =>
    obtain ⟨k, rfl, hk, HYK⟩ := hrel
    obtain ⟨bs, hYK⟩ := HYK.out
    have HYY : Hid (YesA U wr Y n k bs (ofW n xs)) := hYK
    have f1 := HFA.out wr hYK.kept
    by_cases hlt : k < n
    · have z0 : (k : Int) < (n : Int) := by omega
      have z1 : (0 : Int) ≤ (k : Int) := by omega
      obtain ⟨mb, hmb⟩ : ∃ mb, mem (ofW n xs) k = mb := ⟨_, rfl⟩
      have HMB : Hid (mem (ofW n xs) k = mb) := hmb
      have HHS : Hid (Calls Tryd.prog 13 #[.pointer (some ⟨sb, 0, none⟩), .int .i64 (k : Nat)] wr fun e w' => e = .returned (.bool mb) ∧ QuietK wr w') := by
        have q := HNE.out
        rw [← hmb]
        exact has_in sb sg sc n (ofW n xs) k wr (HS7.out.kept hYK.kept (by simp; omega) (by simp; omega)) HGN.out hlt
      clear hmb hYK
      go_wp2_with (first
        | (go_at_call 13; refine HHS.out.mono ?_; rintro e W2 ⟨rfl, q⟩; have HQ2 : Hid (Kept [] wr W2) := q.kept; have hz := cell_kept0 q.kept (HYY.out.cellAt hlt); have hfz : W2.frozen? ⟨Y, k, none⟩ = false := free_of (q.kept.at HYY.out.row (by simp)) k; clear q))
      go_roundw
      case rel =>
        refine ⟨k + 1, by go_num, by omega, ⟨bs.set k (mem (ofW n xs) k), ?_⟩⟩
        have q := HYY.out.put hlt HQ2.out
        rw [HMB.out] at q ⊢
        exact q
      case measure => simp [intOf]; omega
    · obtain rfl : k = n := by omega
      rename World => u1
      have z0 : ¬ ((k : Int) < (k : Int)) := by omega
      have hge0 : ∀ i, i < k → bs.getD i false = mem (ofW k xs) i := hYK.is
      have HRS : Hid (Calls Tryd.prog 14 #[.agg #[.slice pad ps.length pc, .int .i64 (k : Nat), .slice iad ini.length ic, .slice ead es.length ec, .slice fad fin.length fc], .slice (some ⟨Y, 0, none⟩) k k, .int .u16 (cl : Nat)] u1 (OutEnds u1 k cl bs es)) := by
        have q := refStep_any _ _ _ _ ⟨ps, (k : Int), ini, es, sets⟩ fin Y k k cl bs u1 (HBK.out u1 (HWY.out u1 hYK.kept)) (by omega) (fun i hi => hYK.cellAt hi) HED.out HCL.out
        exact q
      have HWM : Hid (∀ x, hitB ((elemsW k (ofW k xs) 0).flatMap (rowL es)) cl x = wantB es bs cl x) := fun x => hit_want hge0 (fun e he => (HED.out e he).1)
      have HXU : Hid (IsSet u1 xb xg xc k us) := HX7.out.kept hYK.kept (by have q := HNE.out; simp; omega) (by have q := HNE.out; simp; omega)
      have HYU : Hid (IsSet u1 yb yg yc k zs) := HY7.out.kept hYK.kept (by have q := HNE.out; simp; omega) (by have q := HNE.out; simp; omega)
      have HZU : Hid (xg < u1.heap.size ∧ w.heap.size < u1.heap.size) := ⟨HXU.out.ltg, World.block_lt_of_cell? u1 ⟨w.heap.size, 1, none⟩ f1⟩
      have HAX : Hid (u1.cell? ⟨w.heap.size, 0, none⟩ = some (.slice pad ps.length pc) ∧ u1.cell? ⟨w.heap.size, 1, none⟩ = some (.int .i64 (k : Nat)) ∧ u1.cell? ⟨w.heap.size, 2, none⟩ = some (.slice iad ini.length ic) ∧ u1.cell? ⟨w.heap.size, 3, none⟩ = some (.slice ead es.length ec) ∧ u1.cell? ⟨w.heap.size, 4, none⟩ = some (.slice fad fin.length fc)) := (HCE.out [Y] u1 ((kept_moreG HKU.out).trans hYK.kept (fun _ h => h) (fun _ h => .inl h)) (by have q := HYL.out; have z := HZV.out; simp; omega) (by have q := HYL.out; have z := HZV.out; simp; omega)).1
      have HKR : Hid (Kept [] w u1) := HWY.out u1 hYK.kept
      clear hYK hge0 f1
      obtain ⟨f0, f1, f2, f3, f4⟩ := HAX.out
      go_upto_region 23 with (first
        | (go_at_call 14; refine HRS.out.mono ?_; rintro e y1 ⟨OB, os, rfl, hO⟩; have HOA : Hid (OutA u1 y1 OB k cl os bs es) := hO; clear hO))
      have HF1 : Hid (∀ W, Kept [] y1 W → W.cell? ⟨w.heap.size, 1, none⟩ = some (.int .i64 (k : Nat))) := fun W q => cell_kept0 (keptB HOA.out.kept q) HAX.out.2.1
      have HWX : Hid (∀ W, Kept [] y1 W → Calls Tryd.prog 15 #[.pointer (some ⟨xb, 0, none⟩)] W fun e w' => e = .returned (.int .i64 (k : Nat)) ∧ Kept [] W w') := fun W q => (width_anyA xb xg xc k us W (HXU.out.kept (keptB HOA.out.kept q) (by simp) (by simp))).mono fun e w' ⟨h1, h2⟩ => ⟨h1, by rw [h2]; exact Kept.refl [] W⟩
      clear f0 f1 f2 f3 f4
      refine wp_region_quiet (C := fun w' => Kept [] y1 w') (by kernel_rfl) (by kernel_rfl) ((Kept.refl [] y1).drew) ?_
      simp only []
      go_big_quiet_want
      refine ⟨.pointer (some ⟨xb, 0, none⟩), fun w' hw => (by go_simp), ?_⟩
      go_big_quiet_on
      simp only [Act.put, Array.setIfInBounds, List.size_toArray, List.length_cons, List.length_nil, Nat.reduceAdd, Nat.reduceLT, ↓reduceDIte, List.set_toArray, List.set_cons_succ, List.set_cons_zero]
      go_big_quiet_want
      refine ⟨.bool false, fun w' hw => (by go_simp), ?_⟩
      go_big_quiet_on
      simp only [Act.put, Array.setIfInBounds, List.size_toArray, List.length_cons, List.length_nil, Nat.reduceAdd, Nat.reduceLT, ↓reduceDIte, List.set_toArray, List.set_cons_succ, List.set_cons_zero]
      go_big_quiet_want
      refine ⟨.bool false, fun w' hw => (by go_simp), ?_⟩
      go_big_quiet_on
      simp only [Act.put, Array.setIfInBounds, List.size_toArray, List.length_cons, List.length_nil, Nat.reduceAdd, Nat.reduceLT, ↓reduceDIte, List.set_toArray, List.set_cons_succ, List.set_cons_zero]
      go_big_quiet_want
      refine ⟨.pointer (some ⟨yb, 0, none⟩), fun w' hw => (by go_simp), ?_⟩
      go_big_quiet_on
      simp only [Act.put, Array.setIfInBounds, List.size_toArray, List.length_cons, List.length_nil, Nat.reduceAdd, Nat.reduceLT, ↓reduceDIte, List.set_toArray, List.set_cons_succ, List.set_cons_zero]
      go_big_quiet_want
      refine ⟨.bool false, fun w' hw => (by go_simp), ?_⟩
      go_big_quiet_on
      simp only [Act.put, Array.setIfInBounds, List.size_toArray, List.length_cons, List.length_nil, Nat.reduceAdd, Nat.reduceLT, ↓reduceDIte, List.set_toArray, List.set_cons_succ, List.set_cons_zero]
      go_big_quiet_want
      refine ⟨.bool false, fun w' hw => (by go_simp), ?_⟩
      go_big_quiet_on
      simp only [Act.put, Array.setIfInBounds, List.size_toArray, List.length_cons, List.length_nil, Nat.reduceAdd, Nat.reduceLT, ↓reduceDIte, List.set_toArray, List.set_cons_succ, List.set_cons_zero]
      go_big_quiet_want
      refine ⟨.bool false, fun w' hw => (by go_simp), ?_⟩
      go_big_quiet_on
      simp only [Act.put, Array.setIfInBounds, List.size_toArray, List.length_cons, List.length_nil, Nat.reduceAdd, Nat.reduceLT, ↓reduceDIte, List.set_toArray, List.set_cons_succ, List.set_cons_zero]
      go_big_quiet_want
      refine ⟨.pointer (some ⟨xb, 0, none⟩), fun w' hw => (by go_simp), ?_⟩
      go_big_quiet_on
      simp only [Act.put, Array.setIfInBounds, List.size_toArray, List.length_cons, List.length_nil, Nat.reduceAdd, Nat.reduceLT, ↓reduceDIte, List.set_toArray, List.set_cons_succ, List.set_cons_zero]
      go_big_quiet_want
      refine ⟨.int .i64 (k : Nat), fun w' hw => ?_, ?_⟩
      · go_simp
        exact (HWX.out w' hw).mono fun e w'' ⟨h1, h2⟩ => ⟨h1, hw.trans h2 (by simp) (by simp)⟩
      go_big_quiet_on
      simp only [Act.put, Array.setIfInBounds, List.size_toArray, List.length_cons, List.length_nil, Nat.reduceAdd, Nat.reduceLT, ↓reduceDIte, List.set_toArray, List.set_cons_succ, List.set_cons_zero]
      go_big_quiet_want
      refine ⟨.pointer (some ⟨w.heap.size, 1, none⟩), fun w' hw => (by go_simp), ?_⟩
      go_big_quiet_on
      simp only [Act.put, Array.setIfInBounds, List.size_toArray, List.length_cons, List.length_nil, Nat.reduceAdd, Nat.reduceLT, ↓reduceDIte, List.set_toArray, List.set_cons_succ, List.set_cons_zero]
      go_big_quiet_want
      refine ⟨.int .i64 (k : Nat), fun w' hw => ?_, ?_⟩
      · have fS := HF1.out w' hw
        go_simp
      go_big_quiet_on
      simp only [Act.put, Array.setIfInBounds, List.size_toArray, List.length_cons, List.length_nil, Nat.reduceAdd, Nat.reduceLT, ↓reduceDIte, List.set_toArray, List.set_cons_succ, List.set_cons_zero]
      go_big_quiet_want
      refine ⟨.bool false, fun w' hw => (by go_simp), ?_⟩
      go_big_quiet_on
      simp only [Act.put, Array.setIfInBounds, List.size_toArray, List.length_cons, List.length_nil, Nat.reduceAdd, Nat.reduceLT, ↓reduceDIte, List.set_toArray, List.set_cons_succ, List.set_cons_zero]
      go_big_quiet_want
      refine ⟨.bool false, fun w' hw => (by go_simp), ?_⟩
      go_big_quiet_on
      simp only [Act.put, Array.setIfInBounds, List.size_toArray, List.length_cons, List.length_nil, Nat.reduceAdd, Nat.reduceLT, ↓reduceDIte, List.set_toArray, List.set_cons_succ, List.set_cons_zero]
      refine wpQuiet_nil ?_
      intro y2 hk1
      have HK12 : Hid (Kept [] u1 y2) := keptB HOA.out.kept hk1
      have HOW : Hid (∀ F W, Kept F y2 W → OB ∉ F → ∀ x, x < k → W.cell? ⟨OB, x, none⟩ = some (.bool (wantB es bs cl x))) := fun F W q hn x hx => by
        have hr := (q.at (hk1.at HOA.out.row (by simp)) hn)
        have hl := HOA.out.len
        rw [cell_of hr, ← HOA.out.is x hx]
        simp [List.getD_eq_getElem?_getD, List.getElem?_eq_getElem (show x < os.length by omega)]
      have HOX : Hid (OB ≠ xg) := by
        have q1 := HZU.out.1
        have q2 := HOA.out.new
        show OB ≠ xg
        omega
      have HX2' : Hid (IsSet y2 xb xg xc k us) := HXU.out.kept HK12.out (by simp) (by simp)
      have HY2' : Hid (IsSet y2 yb yg yc k zs) := HYU.out.kept HK12.out (by simp) (by simp)
      have HFX : Hid (∀ W, Kept [xg] y2 W → W.cell? ⟨w.heap.size, 1, none⟩ = some (.int .i64 (k : Nat))) := fun W q => by
        have c := cell_kept0 HK12.out HAX.out.2.1
        exact cell_keptS q c (by have z := HNX.out; simp; omega)
      clear hk1
      go_upto_region 26 with fail
      go_loopw [18] (fun i wr => ∃ j : Nat, i = .int .i64 (j : Nat) ∧ j ≤ k ∧ Hid (∃ vs, IsSet wr xb xg xc k vs ∧ Good k vs ∧ ∀ x, x < k → mem vs x = (decide (j ≤ x) && wantB es bs cl x)) ∧ Hid (Kept [xg] y2 wr)) (fun i _ => k - (intOf i).toNat)
      case atStart => exact ⟨0, rfl, Nat.zero_le _, ⟨us, HX2'.out, HGX.out, fun x hx => by rw [HMX.out x hx, HWM.out]; simp⟩, Kept.refl _ y2⟩
      case round =>
        rename World => u2
        obtain ⟨j, rfl, hj, HVS, HKJ⟩ := hrel
        obtain ⟨vs, hvs, hvg, hvm⟩ := HVS.out
        have f1 := HFX.out u2 HKJ.out
        by_cases hjk : j < k
        · have z3 : (j : Int) < (k : Int) := by omega
          have z4 : (0 : Int) ≤ (j : Int) := by omega
          obtain ⟨wv, hwv⟩ : ∃ wv, wantB es bs cl j = wv := ⟨_, rfl⟩
          have HVV : Hid (IsSet u2 xb xg xc k vs ∧ Good k vs ∧ ∀ x, x < k → mem vs x = (decide (j ≤ x) && wantB es bs cl x)) := ⟨hvs, hvg, hvm⟩
          have HHX : Hid (∀ W, Kept [] u2 W → Calls Tryd.prog 13 #[.pointer (some ⟨xb, 0, none⟩), .int .i64 (j : Nat)] W fun e w' => e = .returned (.bool wv) ∧ Kept [] W w') := fun W q => (has_in xb xg xc k vs j W (hvs.kept q (by simp) (by simp)) hvg hjk).mono fun e w' ⟨h1, h2⟩ => ⟨by rw [h1, hvm j hjk, hwv]; simp, h2.kept⟩
          have HHY : Hid (∀ W, Kept [] u2 W → Calls Tryd.prog 13 #[.pointer (some ⟨yb, 0, none⟩), .int .i64 (j : Nat)] W fun e w' => e = .returned (.bool wv) ∧ Kept [] W w') := fun W q => (has_in yb yg yc k zs j W ((HY2'.out.kept HKJ.out (by have z := HNX.out; simp; omega) (by have z := HNX.out; simp; omega)).kept q (by simp) (by simp)) HGY.out hjk).mono fun e w' ⟨h1, h2⟩ => ⟨by rw [h1, HMY.out j hjk, HWM.out, hwv], h2.kept⟩
          have HOJ : Hid (∀ W, Kept [] u2 W → W.cell? ⟨OB, j, none⟩ = some (.bool wv)) := fun W q => by rw [← hwv]; exact HOW.out [xg] W (HKJ.out.trans q (fun _ h => h) (by simp)) (by simpa using HOX.out) j hjk
          clear hvs hvg hvm hwv
          go_upto_region 28 with fail
          clear f1
          refine wp_region_quiet (C := fun w' => Kept [] u2 w') (by kernel_rfl) (by kernel_rfl) ((Kept.refl [] u2).drew) ?_
          simp only []
          go_big_quiet_want
          refine ⟨.pointer (some ⟨xb, 0, none⟩), fun w' hw => (by go_simp), ?_⟩
          go_big_quiet_on
          simp only [Act.put, Array.setIfInBounds, List.size_toArray, List.length_cons, List.length_nil, Nat.reduceAdd, Nat.reduceLT, ↓reduceDIte, List.set_toArray, List.set_cons_succ, List.set_cons_zero]
          go_big_quiet_want
          refine ⟨.int .i64 (j : Nat), fun w' hw => (by go_simp), ?_⟩
          go_big_quiet_on
          simp only [Act.put, Array.setIfInBounds, List.size_toArray, List.length_cons, List.length_nil, Nat.reduceAdd, Nat.reduceLT, ↓reduceDIte, List.set_toArray, List.set_cons_succ, List.set_cons_zero]
          go_big_quiet_want
          refine ⟨.bool wv, fun w' hw => ?_, ?_⟩
          · go_simp
            exact (HHX.out w' hw).mono fun e w'' ⟨h1, h2⟩ => ⟨h1, hw.trans h2 (by simp) (by simp)⟩
          go_big_quiet_on
          simp only [Act.put, Array.setIfInBounds, List.size_toArray, List.length_cons, List.length_nil, Nat.reduceAdd, Nat.reduceLT, ↓reduceDIte, List.set_toArray, List.set_cons_succ, List.set_cons_zero]
          go_big_quiet_want
          refine ⟨.slice (some ⟨OB, 0, none⟩) k k, fun w' hw => (by go_simp), ?_⟩
          go_big_quiet_on
          simp only [Act.put, Array.setIfInBounds, List.size_toArray, List.length_cons, List.length_nil, Nat.reduceAdd, Nat.reduceLT, ↓reduceDIte, List.set_toArray, List.set_cons_succ, List.set_cons_zero]
          go_big_quiet_want
          refine ⟨.int .i64 (j : Nat), fun w' hw => (by go_simp), ?_⟩
          go_big_quiet_on
          simp only [Act.put, Array.setIfInBounds, List.size_toArray, List.length_cons, List.length_nil, Nat.reduceAdd, Nat.reduceLT, ↓reduceDIte, List.set_toArray, List.set_cons_succ, List.set_cons_zero]
          go_big_quiet_want
          refine ⟨.pointer (some ⟨OB, j, none⟩), fun w' hw => (by go_simp), ?_⟩
          go_big_quiet_on
          simp only [Act.put, Array.setIfInBounds, List.size_toArray, List.length_cons, List.length_nil, Nat.reduceAdd, Nat.reduceLT, ↓reduceDIte, List.set_toArray, List.set_cons_succ, List.set_cons_zero]
          go_big_quiet_want
          refine ⟨.bool wv, fun w' hw => ?_, ?_⟩
          · have fS := HOJ.out w' hw
            go_simp
          go_big_quiet_on
          simp only [Act.put, Array.setIfInBounds, List.size_toArray, List.length_cons, List.length_nil, Nat.reduceAdd, Nat.reduceLT, ↓reduceDIte, List.set_toArray, List.set_cons_succ, List.set_cons_zero]
          go_big_quiet_want
          refine ⟨.bool false, fun w' hw => (by go_simp), ?_⟩
          go_big_quiet_on
          simp only [Act.put, Array.setIfInBounds, List.size_toArray, List.length_cons, List.length_nil, Nat.reduceAdd, Nat.reduceLT, ↓reduceDIte, List.set_toArray, List.set_cons_succ, List.set_cons_zero]
          go_big_quiet_want
          refine ⟨.bool false, fun w' hw => (by go_simp), ?_⟩
          go_big_quiet_on
          simp only [Act.put, Array.setIfInBounds, List.size_toArray, List.length_cons, List.length_nil, Nat.reduceAdd, Nat.reduceLT, ↓reduceDIte, List.set_toArray, List.set_cons_succ, List.set_cons_zero]
          go_big_quiet_want
          refine ⟨.pointer (some ⟨yb, 0, none⟩), fun w' hw => (by go_simp), ?_⟩
          go_big_quiet_on
          simp only [Act.put, Array.setIfInBounds, List.size_toArray, List.length_cons, List.length_nil, Nat.reduceAdd, Nat.reduceLT, ↓reduceDIte, List.set_toArray, List.set_cons_succ, List.set_cons_zero]
          go_big_quiet_want
          refine ⟨.int .i64 (j : Nat), fun w' hw => (by go_simp), ?_⟩
          go_big_quiet_on
          simp only [Act.put, Array.setIfInBounds, List.size_toArray, List.length_cons, List.length_nil, Nat.reduceAdd, Nat.reduceLT, ↓reduceDIte, List.set_toArray, List.set_cons_succ, List.set_cons_zero]
          go_big_quiet_want
          refine ⟨.bool wv, fun w' hw => ?_, ?_⟩
          · go_simp
            exact (HHY.out w' hw).mono fun e w'' ⟨h1, h2⟩ => ⟨h1, hw.trans h2 (by simp) (by simp)⟩
          go_big_quiet_on
          simp only [Act.put, Array.setIfInBounds, List.size_toArray, List.length_cons, List.length_nil, Nat.reduceAdd, Nat.reduceLT, ↓reduceDIte, List.set_toArray, List.set_cons_succ, List.set_cons_zero]
          go_big_quiet_want
          refine ⟨.slice (some ⟨OB, 0, none⟩) k k, fun w' hw => (by go_simp), ?_⟩
          go_big_quiet_on
          simp only [Act.put, Array.setIfInBounds, List.size_toArray, List.length_cons, List.length_nil, Nat.reduceAdd, Nat.reduceLT, ↓reduceDIte, List.set_toArray, List.set_cons_succ, List.set_cons_zero]
          go_big_quiet_want
          refine ⟨.int .i64 (j : Nat), fun w' hw => (by go_simp), ?_⟩
          go_big_quiet_on
          simp only [Act.put, Array.setIfInBounds, List.size_toArray, List.length_cons, List.length_nil, Nat.reduceAdd, Nat.reduceLT, ↓reduceDIte, List.set_toArray, List.set_cons_succ, List.set_cons_zero]
          go_big_quiet_want
          refine ⟨.pointer (some ⟨OB, j, none⟩), fun w' hw => (by go_simp), ?_⟩
          go_big_quiet_on
          simp only [Act.put, Array.setIfInBounds, List.size_toArray, List.length_cons, List.length_nil, Nat.reduceAdd, Nat.reduceLT, ↓reduceDIte, List.set_toArray, List.set_cons_succ, List.set_cons_zero]
          go_big_quiet_want
          refine ⟨.bool wv, fun w' hw => ?_, ?_⟩
          · have fS := HOJ.out w' hw
            go_simp
          go_big_quiet_on
          simp only [Act.put, Array.setIfInBounds, List.size_toArray, List.length_cons, List.length_nil, Nat.reduceAdd, Nat.reduceLT, ↓reduceDIte, List.set_toArray, List.set_cons_succ, List.set_cons_zero]
          go_big_quiet_want
          refine ⟨.bool false, fun w' hw => (by go_simp), ?_⟩
          go_big_quiet_on
          simp only [Act.put, Array.setIfInBounds, List.size_toArray, List.length_cons, List.length_nil, Nat.reduceAdd, Nat.reduceLT, ↓reduceDIte, List.set_toArray, List.set_cons_succ, List.set_cons_zero]
          go_big_quiet_want
          refine ⟨.bool false, fun w' hw => (by go_simp), ?_⟩
          go_big_quiet_on
          simp only [Act.put, Array.setIfInBounds, List.size_toArray, List.length_cons, List.length_nil, Nat.reduceAdd, Nat.reduceLT, ↓reduceDIte, List.set_toArray, List.set_cons_succ, List.set_cons_zero]
          refine wpQuiet_nil ?_
          intro z9 hk1
          have HQ1 : Hid (Kept [] u2 z9) := hk1
          clear hk1
          go_wp2_with (first
            | (go_at_call 16; refine (cut_in xb xg xc k vs j z9 (HVV.out.1.kept HQ1.out (by simp) (by simp)) HVV.out.2.1 hjk).mono ?_; rintro e z8 ⟨rfl, hs8, hk8⟩; have HS8 : Hid (IsSet z8 xb xg xc k (cutW vs j)) := hs8; have HK8 : Hid (Kept [xg] z9 z8) := hk8; clear hs8 hk8))
          go_roundw
          case rel =>
            refine ⟨j + 1, by go_num, by omega, ⟨cutW vs j, HS8.out, HVV.out.2.1.cutW hjk, fun x hx => ?_⟩, ?_⟩
            · have hw := HVV.out.2.1.len
              rw [mem_cutW vs j x (by rw [hw]; omega), HVV.out.2.2 x hx, ← Bool.and_assoc]
              congr 1
              rw [Bool.eq_iff_iff]
              simp
              omega
            · exact (HKJ.out.trans HQ1.out (fun _ h => h) (by simp)).trans HK8.out (fun _ h => h) (fun _ h => .inl h)
          case measure => simp [intOf]; omega
        · obtain rfl : j = k := by omega
          have z3 : ¬ ((j : Int) < (j : Int)) := by omega
          have hl0 : lenW vs = 0 := len_zero hvg (fun x hx => by rw [hvm x hx, decide_eq_false (by omega)]; rfl)
          have HLN : Hid (∀ W, Kept [] u2 W → Calls Tryd.prog 17 #[.pointer (some ⟨xb, 0, none⟩)] W fun e w' => e = .returned (.int .i64 0) ∧ w' = W) := fun W q => (len_any xb xg xc j vs W (hvs.kept q (by simp) (by simp)) hvg).mono fun e w' ⟨h1, h2⟩ => ⟨by rw [h1, hl0]; rfl, h2⟩
          have HHY : Hid (∀ x, x < j → ∀ W, Kept [] u2 W → Calls Tryd.prog 13 #[.pointer (some ⟨yb, 0, none⟩), .int .i64 (x : Nat)] W fun e w' => e = .returned (.bool (wantB es bs cl x)) ∧ Kept [] W w') := fun x hx W q => (has_in yb yg yc j zs x W ((HY2'.out.kept HKJ.out (by have z := HNX.out; simp; omega) (by have z := HNX.out; simp; omega)).kept q (by simp) (by simp)) HGY.out hx).mono fun e w' ⟨h1, h2⟩ => ⟨by rw [h1, HMY.out x hx, HWM.out], h2.kept⟩
          have HOJ : Hid (∀ x, x < j → ∀ W, Kept [] u2 W → W.cell? ⟨OB, x, none⟩ = some (.bool (wantB es bs cl x))) := fun x hx W q => HOW.out [xg] W (HKJ.out.trans q (fun _ h => h) (by simp)) (by simpa using HOX.out) x hx
          have HF2 : Hid (∀ W, Kept [] u2 W → W.cell? ⟨w.heap.size, 1, none⟩ = some (.int .i64 (j : Nat))) := fun W q => cell_kept0 q f1
          clear hvs hvg hvm hl0
          go_upto_region 32 with fail
          clear f1
          go_loopw [19] (fun i wr => ∃ x : Nat, i = .int .i64 (x : Nat) ∧ x ≤ j ∧ Hid (Kept [] u2 wr)) (fun i _ => j - (intOf i).toNat)
          case atStart => exact ⟨0, rfl, Nat.zero_le _, Kept.refl _ u2⟩
          case round =>
            rename World => u3
            obtain ⟨x, rfl, hx, HK3⟩ := hrel
            have f1 := HF2.out u3 HK3.out
            by_cases hxj : x < j
            · have z5 : (x : Int) < (j : Int) := by omega
              have z6 : (0 : Int) ≤ (x : Int) := by omega
              obtain ⟨wv, hwv⟩ : ∃ wv, wantB es bs cl x = wv := ⟨_, rfl⟩
              have HH3 : Hid (∀ W, Kept [] u3 W → Calls Tryd.prog 13 #[.pointer (some ⟨yb, 0, none⟩), .int .i64 (x : Nat)] W fun e w' => e = .returned (.bool wv) ∧ Kept [] W w') := fun W q => by rw [← hwv]; exact HHY.out x hxj W (keptB HK3.out q)
              have HO3 : Hid (∀ W, Kept [] u3 W → W.cell? ⟨OB, x, none⟩ = some (.bool wv)) := fun W q => by rw [← hwv]; exact HOJ.out x hxj W (keptB HK3.out q)
              clear hwv
              go_upto_region 34 with fail
              clear f1
              refine wp_region_quiet (C := fun w' => Kept [] u3 w') (by kernel_rfl) (by kernel_rfl) ((Kept.refl [] u3).drew) ?_
              simp only []
              go_big_quiet_want
              refine ⟨.pointer (some ⟨yb, 0, none⟩), fun w' hw => (by go_simp), ?_⟩
              go_big_quiet_on
              simp only [Act.put, Array.setIfInBounds, List.size_toArray, List.length_cons, List.length_nil, Nat.reduceAdd, Nat.reduceLT, ↓reduceDIte, List.set_toArray, List.set_cons_succ, List.set_cons_zero]
              go_big_quiet_want
              refine ⟨.int .i64 (x : Nat), fun w' hw => (by go_simp), ?_⟩
              go_big_quiet_on
              simp only [Act.put, Array.setIfInBounds, List.size_toArray, List.length_cons, List.length_nil, Nat.reduceAdd, Nat.reduceLT, ↓reduceDIte, List.set_toArray, List.set_cons_succ, List.set_cons_zero]
              go_big_quiet_want
              refine ⟨.bool wv, fun w' hw => ?_, ?_⟩
              · go_simp
                exact (HH3.out w' hw).mono fun e w'' ⟨h1, h2⟩ => ⟨h1, hw.trans h2 (by simp) (by simp)⟩
              go_big_quiet_on
              simp only [Act.put, Array.setIfInBounds, List.size_toArray, List.length_cons, List.length_nil, Nat.reduceAdd, Nat.reduceLT, ↓reduceDIte, List.set_toArray, List.set_cons_succ, List.set_cons_zero]
              go_big_quiet_want
              refine ⟨.slice (some ⟨OB, 0, none⟩) j j, fun w' hw => (by go_simp), ?_⟩
              go_big_quiet_on
              simp only [Act.put, Array.setIfInBounds, List.size_toArray, List.length_cons, List.length_nil, Nat.reduceAdd, Nat.reduceLT, ↓reduceDIte, List.set_toArray, List.set_cons_succ, List.set_cons_zero]
              go_big_quiet_want
              refine ⟨.int .i64 (x : Nat), fun w' hw => (by go_simp), ?_⟩
              go_big_quiet_on
              simp only [Act.put, Array.setIfInBounds, List.size_toArray, List.length_cons, List.length_nil, Nat.reduceAdd, Nat.reduceLT, ↓reduceDIte, List.set_toArray, List.set_cons_succ, List.set_cons_zero]
              go_big_quiet_want
              refine ⟨.pointer (some ⟨OB, x, none⟩), fun w' hw => (by go_simp), ?_⟩
              go_big_quiet_on
              simp only [Act.put, Array.setIfInBounds, List.size_toArray, List.length_cons, List.length_nil, Nat.reduceAdd, Nat.reduceLT, ↓reduceDIte, List.set_toArray, List.set_cons_succ, List.set_cons_zero]
              go_big_quiet_want
              refine ⟨.bool wv, fun w' hw => ?_, ?_⟩
              · have fS := HO3.out w' hw
                go_simp
              go_big_quiet_on
              simp only [Act.put, Array.setIfInBounds, List.size_toArray, List.length_cons, List.length_nil, Nat.reduceAdd, Nat.reduceLT, ↓reduceDIte, List.set_toArray, List.set_cons_succ, List.set_cons_zero]
              go_big_quiet_want
              refine ⟨.bool false, fun w' hw => (by go_simp), ?_⟩
              go_big_quiet_on
              simp only [Act.put, Array.setIfInBounds, List.size_toArray, List.length_cons, List.length_nil, Nat.reduceAdd, Nat.reduceLT, ↓reduceDIte, List.set_toArray, List.set_cons_succ, List.set_cons_zero]
              refine wpQuiet_nil ?_
              intro z7 hk1
              have HQ1 : Hid (Kept [] u3 z7) := hk1
              clear hk1
              go_wp2
              go_roundw
              case rel => exact ⟨x + 1, by go_num, by omega, keptB HK3.out HQ1.out⟩
              case measure => simp [intOf]; omega
            · obtain rfl : x = j := by omega
              have z5 : ¬ ((x : Int) < (x : Int)) := by omega
              go_wp2_with (first
                | (go_at_call 17; refine (HLN.out u3 HK3.out).mono ?_; rintro e z6 ⟨rfl, hz6⟩; rw [hz6]; clear hz6))
              go_ret
              refine ⟨rfl, ?_⟩
              have q := HKR.out.trans (H := []) (keptB HK12.out (Kept.refl [] y2)) (by simp) (by simp)
              have q2 : Kept [] w u2 := q.trans HKJ.out (by simp) (fun b hb => .inr (by have z := HLX.out; have y := HZV.out; simp at hb; omega))
              exact keptB q2 HK3.out

theorem buchiSteps_walk (pv iv ev fv : Value) (g : Gen) (fin : List Int) (xv : Value) (xs : List Int) (cl : Nat) (w : World) (hB : IsB w pv iv ev fv g fin) (hX : Ints w xv xs) (hcl : cl < 65536) (hT : Tab w) :
    Calls Tryd.prog 3 #[.agg #[pv, .int .i64 g.st, iv, ev, fv], xv, .int .u16 (cl : Nat)] w fun e w' => e = .returned (.bool true) ∧ Kept [] w w' := by
  by_cases h : g.st ≤ 60 ∧ g.es.length ≤ 300 ∧ xs.length ≤ 1000 ∧ 0 ≤ g.st
  · exact steps_main pv iv ev fv g fin xv xs cl w hB hX hcl hT h.1 h.2.1 h.2.2.1 h.2.2.2
  · exact steps_exit pv iv ev fv g fin xv xs cl w hB hX h
end Go.Proofs.YtkkhilgcjaigcaaDoor
