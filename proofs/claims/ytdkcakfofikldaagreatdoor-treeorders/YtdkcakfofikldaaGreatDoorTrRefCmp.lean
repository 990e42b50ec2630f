/- augurref03.Cmp: the document's order. -/
import Derived.Test.YtdkcakfofikldaaGreatDoorTrFits
import Derived.Test.YtdkcakfofikldaaGreatDoorTrCmp2
import Derived.Deep.RegionHeld3
namespace Go.Proofs.YtdkcakfofikldaaGreatDoor
open Go.RowKit Go.Shelf

def RefCmpDoes (t : Tr) : Prop := ∀ (u : Tr) (kv lv : Value) (w : World), IsF w t kv → IsF w u lv → t.size ≤ 1099511627776 → u.size ≤ 1099511627776 →
  Calls Tryz.prog 20 #[.agg #[.int .u8 (t.op : Nat), .string t.name, kv], .agg #[.int .u8 (u.op : Nat), .string u.name, lv]] w fun e w' => e = .returned (.int .i64 (cmpT t u)) ∧ Kept [] w w'
theorem cmpT_head {t u : Tr} {x : Int} (h : cmpHead t u = x) (hx : x ≠ 0) : cmpT t u = x := by rw [cmpT_eq, h, if_neg hx]
theorem cmpN_lt {a b : Nat} (h : a < b) : cmpN a b = -1 := if_pos h
theorem cmpN_gt {a b : Nat} (h : b < a) : cmpN a b = 1 := by unfold cmpN; rw [if_neg (by omega), if_pos h]
theorem cmpN_self (a : Nat) : cmpN a a = 0 := by unfold cmpN; rw [if_neg (by omega), if_neg (by omega)]
theorem eight_cells {W W' : World} {b c i p q : Nat} {off loff : Nat} {x0 x1 x2 y0 y1 y2 p2 q2 : Value} (k : Kept [] W W') (h0 : W.cell? ⟨p, 2, none⟩ = some p2) (h1 : W.cell? ⟨q, 2, none⟩ = some q2) (a0 : W.cell? ⟨b, off + i * 3, none⟩ = some x0) (a1 : W.cell? ⟨b, off + i * 3 + 1, none⟩ = some x1) (a2 : W.cell? ⟨b, off + i * 3 + 2, none⟩ = some x2) (c0 : W.cell? ⟨c, loff + i * 3, none⟩ = some y0) (c1 : W.cell? ⟨c, loff + i * 3 + 1, none⟩ = some y1) (c2 : W.cell? ⟨c, loff + i * 3 + 2, none⟩ = some y2) :
    (W'.cell? ⟨p, 2, none⟩ = some p2 ∧ W'.cell? ⟨q, 2, none⟩ = some q2) ∧ (W'.cell? ⟨b, off + i * 3, none⟩ = some x0 ∧ W'.cell? ⟨b, off + i * 3 + 1, none⟩ = some x1 ∧ W'.cell? ⟨b, off + i * 3 + 2, none⟩ = some x2) ∧ (W'.cell? ⟨c, loff + i * 3, none⟩ = some y0 ∧ W'.cell? ⟨c, loff + i * 3 + 1, none⟩ = some y1 ∧ W'.cell? ⟨c, loff + i * 3 + 2, none⟩ = some y2) :=
  ⟨⟨cell_kept0 k h0, cell_kept0 k h1⟩, ⟨cell_kept0 k a0, cell_kept0 k a1, cell_kept0 k a2⟩, cell_kept0 k c0, cell_kept0 k c1, cell_kept0 k c2⟩

set_option maxHeartbeats 2000000 in
set_option maxRecDepth 20000 in
theorem refCmp_any (t : Tr) : RefCmpDoes t := by
  induction t using Tr.ind with
  | h t ih =>
    intro u kv lv w hI hJ hs hsu
    obtain ⟨kad, kcap, rfl⟩ := hI.slice
    obtain ⟨lad, lcap, rfl⟩ := hJ.slice
    obtain ⟨r, hr⟩ : ∃ r, cmpT t u = r := ⟨_, rfl⟩
    rw [hr]
    have HR : Hid (cmpT t u = r) := hr
    have HIH : Hid _ := fun k hk => ih k hk
    have HI : Hid (IsT (fun k => k < w.heap.size) w t (.slice kad t.kids.length kcap)) := hI
    have HJ : Hid (IsT (fun k => k < w.heap.size) w u (.slice lad u.kids.length lcap)) := hJ
    have hlt0 : t.kids.length ≤ 1099511627776 := by have := t.kids_size; omega
    have hlu0 : u.kids.length ≤ 1099511627776 := by have := u.kids_size; omega
    clear hr ih hI hJ
    by_cases o1 : (t.op : Int) < (u.op : Int)
    · have hr : (-1 : Int) = r := by rw [← HR.out]; exact (cmpT_head (by unfold cmpHead or3; rw [cmpN_lt (by omega)]; rfl) (by omega)).symm
      subst hr
      go_enter Tryz.func20, Tryz.ntmps20
      go_wp2
      go_ret
      exact ⟨rfl, ((Kept.refl [] w).alloc _).alloc _⟩
    by_cases o2 : (u.op : Int) < (t.op : Int)
    · have hr : (1 : Int) = r := by rw [← HR.out]; exact (cmpT_head (by unfold cmpHead or3; rw [cmpN_gt (by omega)]; rfl) (by omega)).symm
      subst hr
      go_enter Tryz.func20, Tryz.ntmps20
      go_wp2
      go_ret
      exact ⟨rfl, ((Kept.refl [] w).alloc _).alloc _⟩
    have oe : cmpN t.op u.op = 0 := by rw [show t.op = u.op by omega]; exact cmpN_self _
    have HOE : Hid _ := oe
    clear oe
    cases h1 : Op.bytesLess t.name.toList u.name.toList with
    | true =>
      have hr : (-1 : Int) = r := by rw [← HR.out]; exact (cmpT_head (by unfold cmpHead or3; rw [HOE.out]; unfold cmpS; rw [h1]; rfl) (by omega)).symm
      subst hr
      go_enter Tryz.func20, Tryz.ntmps20
      go_wp2
      go_ret
      exact ⟨rfl, ((Kept.refl [] w).alloc _).alloc _⟩
    | false =>
      cases h2 : t.name.toList == u.name.toList with
      | false =>
        have hr : (1 : Int) = r := by rw [← HR.out]; exact (cmpT_head (by unfold cmpHead or3; rw [HOE.out]; unfold cmpS; rw [h1, h2]; rfl) (by omega)).symm
        subst hr
        go_enter Tryz.func20, Tryz.ntmps20
        go_wp2
        go_ret
        exact ⟨rfl, ((Kept.refl [] w).alloc _).alloc _⟩
      | true =>
        have HSE : Hid (cmpS t.name u.name = 0) := by show cmpS _ _ = 0; unfold cmpS; rw [h1, h2]; rfl
        by_cases l1 : (t.kids.length : Int) < (u.kids.length : Int)
        · have hr : (-1 : Int) = r := by rw [← HR.out]; exact (cmpT_head (by unfold cmpHead or3; rw [HOE.out, HSE.out, cmpN_lt (by omega)]; rfl) (by omega)).symm
          subst hr
          go_enter Tryz.func20, Tryz.ntmps20
          go_wp2
          go_ret
          exact ⟨rfl, ((Kept.refl [] w).alloc _).alloc _⟩
        by_cases l2 : (u.kids.length : Int) < (t.kids.length : Int)
        · have hr : (1 : Int) = r := by rw [← HR.out]; exact (cmpT_head (by unfold cmpHead or3; rw [HOE.out, HSE.out, cmpN_gt (by omega)]; rfl) (by omega)).symm
          subst hr
          go_enter Tryz.func20, Tryz.ntmps20
          go_wp2
          go_ret
          exact ⟨rfl, ((Kept.refl [] w).alloc _).alloc _⟩
        have hle : t.kids.length = u.kids.length := by omega
        have HRR : Hid (rowCmp (t.kids.map cmpT) u.kids = r) := by
          show rowCmp (t.kids.map cmpT) u.kids = r
          rw [← HR.out, cmpT_eq, if_pos]
          unfold cmpHead or3
          rw [HOE.out, HSE.out, hle, cmpN_self]
          rfl
        obtain ⟨V, hV⟩ : ∃ V, (w.alloc (.cells #[.int .u8 (t.op : Nat), .string t.name, .slice kad t.kids.length kcap] 27)).alloc (.cells #[.int .u8 (u.op : Nat), .string u.name, .slice lad u.kids.length lcap] 27) = V := ⟨_, rfl⟩
        have HKV : Hid (Kept [] w V) := by show Kept [] w V; rw [← hV]; exact ((Kept.refl [] w).alloc _).alloc _
        have HB0 : Hid (For3 V w.heap.size (.int .u8 (t.op : Nat)) (.string t.name) (.slice kad t.kids.length kcap)) := by show For3 V _ _ _ _; rw [← hV]; exact alUp (al0 _ _) _
        have HB1 : Hid (For3 V (w.heap.size + 1) (.int .u8 (u.op : Nat)) (.string u.name) (.slice lad u.kids.length lcap)) := by show For3 V _ _ _ _; rw [← hV]; exact al1 _ _ _
        have HV : Hid _ := hV
        have HLE : Hid _ := hle
        clear hV HR hle
        go_enter Tryz.func20, Tryz.ntmps20
        go_wp2
        rw [HV.out]
        clear HV h1 h2 o1 o2
        go_loopw [5] (fun v wr => ∃ i : Nat, v = .int .i64 (i : Nat) ∧ i ≤ t.kids.length ∧ Hid (Kept [] V wr ∧ ∀ j (h : j < t.kids.length) (h' : j < u.kids.length), j < i → cmpT t.kids[j] u.kids[j] = 0)) (fun v _ => t.kids.length - (intOf v).toNat)
        case atStart => exact ⟨0, rfl, Nat.zero_le _, Kept.refl [] V, fun j _ _ h => by omega⟩
        case round =>
          obtain ⟨i, rfl, hi, HW⟩ := hrel
          obtain ⟨_, _, b2, _⟩ := (HB0.out.kept HW.out.1).cells
          obtain ⟨_, _, e2, _⟩ := (HB1.out.kept HW.out.1).cells
          by_cases hlt : i < t.kids.length
          · have hlu : i < u.kids.length := by have := HLE.out; omega
            have hli : (i : Int) < (t.kids.length : Int) := by omega
            have hlj : (i : Int) < (u.kids.length : Int) := by omega
            obtain ⟨kb, koff, rfl, _, hkid⟩ := HI.out.kid (by omega)
            obtain ⟨lb, loff, rfl, _, hlid⟩ := HJ.out.kid (by omega)
            obtain ⟨kv, c0, c1, c2, hIk⟩ := hkid i hlt
            obtain ⟨lv, d0, d1, d2, hIl⟩ := hlid i hlu
            obtain ⟨ckad, ckcap, rfl⟩ := hIk.slice
            obtain ⟨clad, clcap, rfl⟩ := hIl.slice
            obtain ⟨k, hk⟩ : ∃ k, t.kids[i] = k := ⟨_, rfl⟩
            obtain ⟨l, hll⟩ : ∃ l, u.kids[i] = l := ⟨_, rfl⟩
            have hkm : k ∈ t.kids := by rw [← hk]; exact List.getElem_mem _
            have hlm : l ∈ u.kids := by rw [← hll]; exact List.getElem_mem _
            rw [hk] at c0 c1 c2 hIk
            rw [hll] at d0 d1 d2 hIl
            have kw : Kept [] w wr := HKV.out.trans HW.out.1 (by simp) (by simp)
            have c0 := cell_kept0 kw c0
            have c1 := cell_kept0 kw c1
            have c2 := cell_kept0 kw c2
            have d0 := cell_kept0 kw d0
            have d1 := cell_kept0 kw d1
            have d2 := cell_kept0 kw d2
            have HS : Hid _ := fun W' (q : Kept [] wr W') => eight_cells q b2 e2 c0 c1 c2 d0 d1 d2
            obtain ⟨c, hc⟩ : ∃ c, cmpT k l = c := ⟨_, rfl⟩
            have HREC : Hid _ := fun W (q : Kept [] wr W) => HIH.out k hkm l (.slice ckad k.kids.length ckcap) (.slice clad l.kids.length clcap) W (IsF.kept (IsF.kept hIk kw) q) (IsF.kept (IsF.kept hIl kw) q) (by have := Tr.kid_size hkm; omega) (by have := Tr.kid_size hlm; omega)
            simp only [hc] at HREC
            have HC : Hid (cmpT t.kids[i] u.kids[i] = c) := by show cmpT t.kids[i] u.kids[i] = c; rw [hk, hll]; exact hc
            clear hIk hIl hkid hlid hc hk hll kw hkm hlm
            go_upto_region 16 with fail
            go_cut [6] from 54 to 64 (fun s wx => s = .int .i64 c ∧ Hid (Kept [] wr wx))
            case first =>
              go_region_held3 (fun w' => (w'.cell? ⟨w.heap.size, 2, none⟩ = some (.slice (some ⟨kb, koff, none⟩) t.kids.length kcap) ∧ w'.cell? ⟨w.heap.size + 1, 2, none⟩ = some (.slice (some ⟨lb, loff, none⟩) u.kids.length lcap)) ∧ (w'.cell? ⟨kb, koff + i * 3, none⟩ = some (.int .u8 (k.op : Nat)) ∧ w'.cell? ⟨kb, koff + i * 3 + 1, none⟩ = some (.string k.name) ∧ w'.cell? ⟨kb, koff + i * 3 + 2, none⟩ = some (.slice ckad k.kids.length ckcap)) ∧ (w'.cell? ⟨lb, loff + i * 3, none⟩ = some (.int .u8 (l.op : Nat)) ∧ w'.cell? ⟨lb, loff + i * 3 + 1, none⟩ = some (.string l.name) ∧ w'.cell? ⟨lb, loff + i * 3 + 2, none⟩ = some (.slice clad l.kids.length clcap)))
                ((refine HS.out _ ?_; (repeat (first | with_reducible exact Kept.refl [] _ | with_reducible refine Kept.drew ?_ | with_reducible refine Kept.trans (F := []) (G := []) (H := []) ?_ HKa.out (by simp) (by simp)))))
                ((go_at_call 20; refine (HREC.out _ (by (repeat (first | with_reducible exact Kept.refl [] _ | with_reducible refine Kept.drew ?_)))).mono ?_; rintro e Wa ⟨rfl, ka⟩; have HKa : Hid _ := ka; clear ka))
              all_goals (go_wp2_with fail; go_meet)
              all_goals refine ⟨rfl, ?_⟩
              all_goals (show Kept [] wr _; (repeat (first | with_reducible exact Kept.refl [] _ | with_reducible refine Kept.drew ?_ | with_reducible refine Kept.trans (F := []) (G := []) (H := []) ?_ HKa.out (by simp) (by simp))))
            case rest =>
              obtain ⟨rfl, HX⟩ := hcut
              by_cases hz : c = 0
              · have hb : (c != 0) = false := by simp [hz]
                have HZ : Hid _ := hz
                clear hz
                go_wp2
                go_roundw
                case rel =>
                  refine ⟨i + 1, by go_num, by omega, HW.out.1.trans HX.out (by simp) (by simp), fun j h h' hj => ?_⟩
                  rcases Nat.lt_or_ge j i with hh | hh
                  · exact HW.out.2 j h h' hh
                  · obtain rfl : j = i := by omega
                    exact HC.out.trans HZ.out
                case measure => simp [intOf]; omega
              · have hb : (c != 0) = true := by simp [hz]
                have HZ : Hid _ := hz
                clear hz
                go_wp2
                go_ret
                refine ⟨ret_int ?_, HKV.out.trans (HW.out.1.trans HX.out (H := []) (by simp) (by simp)) (by simp) (by simp)⟩
                rw [← HRR.out, rowCmp_at i (t.kids.map cmpT) u.kids (by simpa using hlt) hlu (fun j h h' hj => by simpa using HW.out.2 j (by simpa using h) h' hj) (by simpa using (fun h => HZ.out (HC.out.symm.trans h)))]
                simpa using HC.out.symm
          · have he : i = t.kids.length := by omega
            have hz : rowCmp (t.kids.map cmpT) u.kids = 0 := rowCmp_zero _ _ (fun j h h' => by simpa using HW.out.2 j (by simpa using h) h' (by rw [he]; simpa using h))
            have hlt' : ¬ ((t.kids.length : Int) < (t.kids.length : Int)) := by omega
            clear hlt
            subst he
            go_wp2
            go_ret
            exact ⟨ret_int (hz.symm.trans HRR.out), HKV.out.trans HW.out.1 (by simp) (by simp)⟩
end Go.Proofs.YtdkcakfofikldaaGreatDoor
