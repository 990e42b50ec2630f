/- tree.Cmp: of any two trees. -/
import Derived.Test.YtnjajafmmociiaaGreatDoorTrCmp
import Derived.Test.YtnjajafmmociiaaGreatDoorTrReb
import Derived.Deep.CutRange
import Derived.Sort.Grow
namespace Go.Proofs.YtnjajafmmociiaaGreatDoor
open Go.RowKit Go.Shelf

/-- Nothing has turned: draws and new blocks alone. -/
def Grew (w w' : World) : Prop := ∃ (q : Nat) (os : Array Obj), w' = Go.Sort.grow (w.drewN q) os
theorem Grew.refl (w : World) : Grew w w := ⟨0, #[], by simp [World.drewN]⟩
theorem Grew.alloc {w w' : World} (h : Grew w w') (o : Obj) : Grew w (w'.alloc o) := by
  obtain ⟨q, os, rfl⟩ := h
  exact ⟨q, os ++ #[o], by rw [Go.Sort.alloc_eq_grow, Go.Sort.grow_grow]⟩
theorem Grew.drew {w w' : World} (h : Grew w w') : Grew w w'.drew := by
  obtain ⟨q, os, rfl⟩ := h
  exact ⟨q + 1, os, rfl⟩
theorem Grew.trans {a b c : World} (h : Grew a b) (k : Grew b c) : Grew a c := by
  obtain ⟨q, os, rfl⟩ := h
  obtain ⟨r, os', rfl⟩ := k
  exact ⟨q + r, os ++ os', by simp [Go.Sort.grow, World.drewN, Array.append_assoc, Nat.add_assoc]⟩
theorem Grew.kept {w w' : World} (h : Grew w w') : Kept [] w w' := by
  obtain ⟨q, os, rfl⟩ := h
  exact ⟨rfl, rfl, rfl, by simp [Go.Sort.grow, World.drewN], fun i hi _ => by
    show ((w.heap ++ os)[i]?) = _
    rw [Array.getElem?_append_left hi]⟩
/-- What Cmp does of t, in each world. -/
def CmpDoes (t : Tr) : Prop := ∀ (u : Tr) (kv lv : Value) (w : World), IsF w t kv → IsF w u lv → t.size ≤ 1099511627776 → u.size ≤ 1099511627776 →
  Calls Tryz.prog 72 #[.agg #[.int .u8 (t.op : Nat), .string t.name, kv], .agg #[.int .u8 (u.op : Nat), .string u.name, lv]] w fun e w' => e = .returned (.int .i64 (cmpT t u)) ∧ Grew w w'

set_option maxHeartbeats 1000000 in
set_option maxRecDepth 20000 in
theorem compareRow (t u : Tr) (kv lv : Value) (w : World) (hI : IsF w t kv) (hJ : IsF w u lv) (hs : t.size ≤ 1099511627776) (hsu : u.size ≤ 1099511627776) (hl : t.kids.length = u.kids.length) (ih : ∀ k ∈ t.kids, CmpDoes k) :
    Calls Tryz.prog 99 #[kv, lv, .func (.func 72) #[] #[]] w fun e w' => e = .returned (.int .i64 (rowCmp (t.kids.map cmpT) u.kids)) ∧ Grew w w' := by
  obtain ⟨r, hr⟩ : ∃ r, rowCmp (t.kids.map cmpT) u.kids = r := ⟨_, rfl⟩
  rw [hr]
  obtain ⟨kad, kcap, rfl⟩ := hI.slice
  obtain ⟨lad, lcap, rfl⟩ := hJ.slice
  rw [← hl] at hJ ⊢
  have hen : ∀ args w, (callFunc 72 args).run Tryz.prog w = .ok (.enter 72 args) w := enters_of Tryz.func72 (by kernel_rfl) rfl
  have HR : Hid _ := hr
  have HL : Hid _ := hl
  have HIH : Hid _ := ih
  have HI : Hid (IsT (fun k => k < w.heap.size) w t (.slice kad t.kids.length kcap)) := hI
  have HJ : Hid (IsT (fun k => k < w.heap.size) w u (.slice lad t.kids.length lcap)) := hJ
  have hlen : t.kids.length ≤ 1099511627776 := by have := t.kids_size; omega
  clear hr hl ih hI hJ
  go_enter Tryz.func99, Tryz.ntmps99
  go_wp2
  go_loopw [13] (fun v wr => ∃ i : Nat, v = .int .i64 (i : Nat) ∧ i ≤ t.kids.length ∧ Hid (Grew w wr ∧ ∀ j (h : j < t.kids.length) (h' : j < u.kids.length), j < i → cmpT t.kids[j] u.kids[j] = 0)) (fun v _ => t.kids.length - (intOf v).toNat)
  case atStart => exact ⟨0, rfl, Nat.zero_le _, Grew.refl w, fun j _ _ h => by omega⟩
  case round =>
    obtain ⟨i, rfl, hi, HW⟩ := hrel
    by_cases hlt : i < t.kids.length
    · have hlu : i < u.kids.length := by have := HL.out; omega
      obtain ⟨kb, koff, rfl, _, hkid⟩ := HI.out.kid (by omega)
      obtain ⟨lb, loff, rfl, _, hlid⟩ := HJ.out.kid (by omega)
      obtain ⟨kv, c0, c1, c2, hIk⟩ := hkid i hlt
      obtain ⟨lv, e0, e1, e2, hIl⟩ := hlid i hlu
      obtain ⟨ckad, ckcap, rfl⟩ := hIk.slice
      obtain ⟨clad, clcap, rfl⟩ := hIl.slice
      obtain ⟨k, hk⟩ : ∃ k, t.kids[i] = k := ⟨_, rfl⟩
      obtain ⟨l, hll⟩ : ∃ l, u.kids[i] = l := ⟨_, rfl⟩
      have hkm : k ∈ t.kids := by rw [← hk]; exact List.getElem_mem _
      have hlm : l ∈ u.kids := by rw [← hll]; exact List.getElem_mem _
      rw [hk] at c0 c1 c2 hIk
      rw [hll] at e0 e1 e2 hIl
      have kw := HW.out.1
      have c0 := cell_kept0 kw.kept c0
      have c1 := cell_kept0 kw.kept c1
      have c2 := cell_kept0 kw.kept c2
      have e0 := cell_kept0 kw.kept e0
      have e1 := cell_kept0 kw.kept e1
      have e2 := cell_kept0 kw.kept e2
      have lk : kb < wr.heap.size := World.block_lt_of_cell? wr _ c0
      have ll : lb < wr.heap.size := World.block_lt_of_cell? wr _ e0
      have nk1 : ¬ kb = wr.heap.size := by omega
      have nk2 : ¬ wr.heap.size = kb := by omega
      have nl1 : ¬ lb = wr.heap.size := by omega
      have nl2 : ¬ wr.heap.size = lb := by omega
      have a0 := fun o => cell_kept0 ((Grew.refl wr).alloc o).kept e0
      have a1 := fun o => cell_kept0 ((Grew.refl wr).alloc o).kept e1
      have a2 := fun o => cell_kept0 ((Grew.refl wr).alloc o).kept e2
      obtain ⟨c, hc⟩ : ∃ c, cmpT k l = c := ⟨_, rfl⟩
      have hrec := fun W (kk : Grew wr W) => HIH.out k hkm l (.slice ckad k.kids.length ckcap) (.slice clad l.kids.length clcap) W (IsF.kept (IsF.kept hIk kw.kept) kk.kept) (IsF.kept (IsF.kept hIl kw.kept) kk.kept) (by have := Tr.kid_size hkm; omega) (by have := Tr.kid_size hlm; omega)
      rw [hc] at hrec
      have HREC : Hid _ := hrec
      have HC : Hid (cmpT t.kids[i] u.kids[i] = c) := by show cmpT t.kids[i] u.kids[i] = c; rw [hk, hll]; exact hc
      have hii : (i : Int) < (t.kids.length : Int) := by omega
      clear hIk hIl hkid hlid hrec hc hk hll kw
      by_cases hz : c = 0
      · have hb : (c != 0) = false := by simp [hz]
        have HZ : Hid _ := hz
        clear hz
        go_wp2_with (go_at_fn 72; refine (HREC.out _ (((Grew.refl wr).alloc _).alloc _)).mono ?_; rintro e W5 ⟨rfl, hk5⟩)
        go_roundw
        case rel =>
          refine ⟨i + 1, by go_num, by omega, (HW.out.1.trans (((Grew.refl wr).alloc _).alloc _)).trans hk5, fun j h h' hj => ?_⟩
          rcases Nat.lt_or_ge j i with hh | hh
          · exact HW.out.2 j h h' hh
          · obtain rfl : j = i := by omega
            exact HC.out.trans HZ.out
        case measure => simp [intOf]; omega
      · have hb : (c != 0) = true := by simp [hz]
        have HZ : Hid _ := hz
        clear hz
        go_wp2_with (go_at_fn 72; refine (HREC.out _ (((Grew.refl wr).alloc _).alloc _)).mono ?_; rintro e W5 ⟨rfl, hk5⟩)
        go_ret
        refine ⟨ret_int ?_, (HW.out.1.trans (((Grew.refl wr).alloc _).alloc _)).trans hk5⟩
        rw [← HR.out, rowCmp_at i (t.kids.map cmpT) u.kids (by simpa using hlt) hlu (fun j h h' hj => by simpa using HW.out.2 j (by simpa using h) h' hj) (by simpa using (fun h => HZ.out (HC.out.symm.trans h)))]
        simpa using HC.out.symm
    · have he : i = t.kids.length := by omega
      have hz : rowCmp (t.kids.map cmpT) u.kids = 0 := rowCmp_zero _ _ (fun j h h' => by simpa using HW.out.2 j (by simpa using h) h' (by rw [he]; simpa using h))
      have hlt' : ¬ ((t.kids.length : Int) < (t.kids.length : Int)) := by omega
      clear hlt
      subst he
      go_wp2
      go_ret
      exact ⟨ret_int (hz.symm.trans HR.out), HW.out.1⟩

set_option maxHeartbeats 2000000 in
set_option maxRecDepth 20000 in
theorem cmp_any (t : Tr) : CmpDoes t := by
  induction t using Tr.ind with
  | h t ih =>
    intro u kv lv w hI hJ hs hsu
    obtain ⟨r, hr⟩ : ∃ r, cmpT t u = r := ⟨_, rfl⟩
    rw [hr]
    have hrow := fun (hl : t.kids.length = u.kids.length) W (k : Grew w W) => compareRow t u kv lv W (hI.kept k.kept) (hJ.kept k.kept) hs hsu hl ih
    obtain ⟨kad, kcap, rfl⟩ := hI.slice
    obtain ⟨lad, lcap, rfl⟩ := hJ.slice
    rw [cmpT_eq] at hr
    have HR : Hid _ := hr
    have HROW : Hid _ := hrow
    have hlt : t.kids.length ≤ 1099511627776 := by have := t.kids_size; omega
    have hlu : u.kids.length ≤ 1099511627776 := by have := u.kids_size; omega
    clear hr hrow ih hI hJ
    obtain ⟨x, hx⟩ : ∃ x, cmpN t.op u.op = x := ⟨_, rfl⟩
    obtain ⟨y, hy⟩ : ∃ y, cmpS t.name u.name = y := ⟨_, rfl⟩
    obtain ⟨z, hz⟩ : ∃ z, cmpN t.kids.length u.kids.length = z := ⟨_, rfl⟩
    have HX : Hid _ := fun W => compareOp t.op u.op W
    have HY : Hid _ := fun W => compareStr t.name u.name W
    have HZ : Hid _ := fun W => compareInt t.kids.length u.kids.length W
    simp only [hx] at HX
    simp only [hy] at HY
    simp only [hz] at HZ
    have HH : Hid (cmpHead t u = or3 x y z) := by show cmpHead t u = _; unfold cmpHead; rw [hx, hy, hz]
    have HZZ : Hid _ := hz
    clear hx hy hz
    obtain ⟨V, hV⟩ : ∃ V, (w.alloc (.cells #[.int .u8 (t.op : Nat), .string t.name, .slice kad t.kids.length kcap] 25)).alloc (.cells #[.int .u8 (u.op : Nat), .string u.name, .slice lad u.kids.length lcap] 25) = V := ⟨_, rfl⟩
    have kV : Grew w V := by rw [← hV]; exact ((Grew.refl w).alloc _).alloc _
    have v0 : For3 V w.heap.size (.int .u8 (t.op : Nat)) (.string t.name) (.slice kad t.kids.length kcap) := by rw [← hV]; exact alUp (al0 _ _) _
    have v1 : For3 V (w.heap.size + 1) (.int .u8 (u.op : Nat)) (.string u.name) (.slice lad u.kids.length lcap) := by rw [← hV]; exact al1 _ _ _
    obtain ⟨c0, c1, c2, _⟩ := v0.cells
    obtain ⟨e0, e1, e2, _⟩ := v1.cells
    have l0 := lt_of v0
    have l1 := lt_of v1
    have n1 : ¬ w.heap.size = V.heap.size := by omega
    have n2 : ¬ V.heap.size = w.heap.size := by omega
    have n3 : ¬ w.heap.size + 1 = V.heap.size := by omega
    have n4 : ¬ V.heap.size = w.heap.size + 1 := by omega
    have HK : Hid (Grew w V) := kV
    have HV : Hid _ := hV
    have HV0 : Hid (For3 V w.heap.size (.int .u8 (t.op : Nat)) (.string t.name) (.slice kad t.kids.length kcap)) := v0
    have HV1 : Hid (For3 V (w.heap.size + 1) (.int .u8 (u.op : Nat)) (.string u.name) (.slice lad u.kids.length lcap)) := v1
    clear hV kV v0 v1
    go_enter Tryz.func72, Tryz.ntmps72
    go_wp2
    rw [HV.out]
    go_cut [5] from 6 to 24 (fun s5 wc => s5 = .int .i64 (or3 x y z) ∧ Hid (Grew V wc))
    case first =>
      clear HR HROW HH HZZ
      go_region_held3 (fun w' => w'.cell? ⟨w.heap.size, 0, none⟩ = some (.int .u8 (t.op : Nat)) ∧ w'.cell? ⟨w.heap.size, 1, none⟩ = some (.string t.name) ∧ w'.cell? ⟨w.heap.size, 2, none⟩ = some (.slice kad t.kids.length kcap) ∧ w'.cell? ⟨w.heap.size + 1, 0, none⟩ = some (.int .u8 (u.op : Nat)) ∧ w'.cell? ⟨w.heap.size + 1, 1, none⟩ = some (.string u.name) ∧ w'.cell? ⟨w.heap.size + 1, 2, none⟩ = some (.slice lad u.kids.length lcap))
        (go_keep)
        (first
        | (go_at_call 97; refine (HX.out _).mono ?_; rintro e w' ⟨rfl, rfl⟩)
        | (go_at_call 98; refine (HY.out _).mono ?_; rintro e w' ⟨rfl, rfl⟩)
        | (go_at_call 71; refine (HZ.out _).mono ?_; rintro e w' ⟨rfl, rfl⟩)
        | (go_at_call 96; refine (or_any x y z V.heap.size _ (by simp) (by simp) (by simp)).mono ?_; rintro e w' ⟨rfl, rfl⟩))
      all_goals (go_wp2_with fail; go_meet)
      all_goals exact ⟨rfl, ((Grew.refl V).alloc _).drew⟩
    case rest =>
      obtain ⟨rfl, HC⟩ := hcut
      obtain ⟨c0, c1, c2, _⟩ := (HV0.out.kept HC.out.kept).cells
      obtain ⟨e0, e1, e2, _⟩ := (HV1.out.kept HC.out.kept).cells
      have HKW : Hid (Grew w wc) := HK.out.trans HC.out
      by_cases ho : or3 x y z = 0
      · have hb : (or3 x y z != 0) = false := by simp [ho]
        have hl : t.kids.length = u.kids.length := by
          have hz0 : z = 0 := by
            unfold or3 at ho
            split at ho
            · rename_i h; exact absurd ho h
            · split at ho
              · rename_i h; exact absurd ho h
              · exact ho
          have := HZZ.out
          rw [hz0] at this
          unfold cmpN at this
          split at this
          · cases this
          · split at this
            · cases this
            · omega
        have HRW : Hid _ := HROW.out hl
        have HRR : Hid (rowCmp (t.kids.map cmpT) u.kids = r) := by
          show _ = r
          have := HR.out
          rwa [if_pos (HH.out.trans ho)] at this
        have HO : Hid _ := ho
        clear ho hl HROW
        rw [HRR.out] at HRW
        generalize hq : or3 x y z = q at hb ⊢
        clear hq
        go_wp2_with (go_at_call 99; refine (HRW.out _ HKW.out).mono ?_; rintro e w5 ⟨rfl, hk5⟩)
        go_ret
        exact ⟨rfl, HKW.out.trans hk5⟩
      · have hb : (or3 x y z != 0) = true := by simp [ho]
        have HRR : Hid (or3 x y z = r) := by
          show _ = r
          have := HR.out
          rwa [if_neg (fun h => ho (HH.out.symm.trans h)), HH.out] at this
        clear ho HROW
        rw [HRR.out] at hb ⊢
        go_wp2
        go_ret
        exact ⟨rfl, HKW.out⟩
end Go.Proofs.YtnjajafmmociiaaGreatDoor
