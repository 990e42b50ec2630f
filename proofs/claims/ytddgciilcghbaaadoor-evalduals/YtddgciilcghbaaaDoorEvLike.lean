/- The laws' own: how much is handed in; do two formulas hold at the same places. -/
import Derived.Test.YtddgciilcghbaaaDoorEvRef4
namespace Go.Proofs.YtddgciilcghbaaaDoor
open Go.RowKit Go.Shelf

def ot (n : Nat) : List ByteArray → Nat
  | [] => n
  | x :: r => if n ≤ 2147483647 then ot (n + (1 + x.size)) r else n
theorem ot_stop {n : Nat} (h : ¬ n ≤ 2147483647) : ∀ l, ot n l = n
  | [] => rfl
  | _ :: _ => by rw [ot, if_neg h]
theorem drop_cons {xs : List ByteArray} {k : Nat} (h : k < xs.length) : xs.drop k = xs[k] :: xs.drop (k + 1) := (List.getElem_cons_drop h).symm
set_option maxHeartbeats 1000000 in
theorem ofTexts_any (v : Value) (xs : List ByteArray) (w : World) (hx : Strs w v xs) (hm : ∀ x ∈ xs, x.size ≤ 140737488351232) :
    Calls Tryd.prog 33 #[v] w fun e w' => e = .returned (.int .i64 (ot 0 xs : Nat)) ∧ w' = w := by
  have fx := hx.few
  obtain ⟨r, hr⟩ : ∃ r, ot 0 xs = r := ⟨_, rfl⟩
  rw [hr]
  have HR : Hid (ot 0 xs = r) := hr
  have HM : Hid _ := hm
  clear hr hm
  by_cases h0 : 0 < xs.length
  · obtain ⟨b, o, c, rfl, _, _, hc⟩ := hx.there h0
    have HC : Hid (∀ i (h : i < xs.length), w.cell? ⟨b, o + i, none⟩ = some (.string xs[i])) := hc
    clear hx hc
    go_enter Tryd.func33, Tryd.ntmps33
    go_wp2_with fail
    go_loop [3, 4] (fun a i => ∃ n k : Nat, k ≤ xs.length ∧ i = .int .i64 (k : Nat) ∧ a = .int .i64 (n : Nat) ∧ n ≤ 140739635834880 ∧ Hid (ot n (xs.drop k) = r)) (fun _ i => xs.length - (intOf i).toNat)
    case atStart => exact ⟨0, 0, Nat.zero_le _, rfl, rfl, by omega, HR.out⟩
    case round =>
      obtain ⟨n, k, hk, rfl, rfl, hn, HF⟩ := hrel
      by_cases hlt : k < xs.length
      · have hlt' : (k : Int) < (xs.length : Int) := by omega
        have b0 : (0 : Int) ≤ (k : Int) := by omega
        by_cases hnb : n ≤ 2147483647
        · have hnbi : (n : Int) ≤ 2147483647 := by omega
          have d1 := HC.out k hlt
          have hxm := HM.out xs[k] (List.getElem_mem _)
          have HF2 : Hid (ot (n + (1 + xs[k].size)) (xs.drop (k + 1)) = r) := by
            show ot _ _ = r
            have := HF.out
            rw [drop_cons hlt, ot, if_pos hnb] at this
            exact this
          obtain ⟨x, hxk⟩ : ∃ x, xs[k] = x := ⟨_, rfl⟩
          rw [hxk] at d1 HF2 hxm
          clear hxk
          go_wp2
          go_round
          case rel => exact ⟨n + (1 + x.size), k + 1, by omega, by go_num, by go_num, by omega, HF2.out⟩
          case measure => simp [intOf]; omega
        · have hnbi : ¬ ((n : Int) ≤ 2147483647) := by omega
          have HE : Hid (n = r) := by have := HF.out; rw [ot_stop hnb] at this; exact this
          clear hnb
          go_wp2
          go_ret
          exact ⟨ret_int (by rw [HE.out]), rfl⟩
      · have hlt' : ¬ (k : Int) < (xs.length : Int) := by omega
        have HE : Hid (n = r) := by have := HF.out; rw [List.drop_eq_nil_of_le (by omega), ot] at this; exact this
        go_wp2
        go_ret
        exact ⟨ret_int (by rw [HE.out]), rfl⟩
  · obtain rfl : xs = [] := List.length_eq_zero_iff.1 (by omega)
    obtain ⟨ad, c, rfl, _⟩ := hx.form
    have HE : Hid (0 = r) := HR.out
    clear hx
    simp only [List.length_nil]
    go_enter Tryd.func33, Tryd.ntmps33
    go_wp2_with fail
    go_loop [3, 4] (fun a i => i = .int .i64 0 ∧ a = .int .i64 0) (fun _ _ => 0)
    case atStart => exact ⟨rfl, rfl⟩
    case round =>
      obtain ⟨rfl, rfl⟩ := hrel
      go_wp2
      go_ret
      exact ⟨ret_int (by rw [← HE.out]; rfl), rfl⟩
theorem ot_le (n : Nat) : ∀ (l : List ByteArray), n ≤ 140739635834880 → (∀ x ∈ l, x.size ≤ 140737488351232) → ot n l ≤ 140739635834880
  | [], h, _ => h
  | x :: r, h, hx => by
    rw [ot]
    split
    · exact ot_le _ r (by have := hx x (by simp); omega) (fun y hy => hx y (by simp [hy]))
    · exact h
set_option maxHeartbeats 2000000 in
set_option maxRecDepth 20000 in
theorem far_any (t : Tr) (kv v sv lv : Value) (xs : List ByteArray) (q : Wd) (w : World) (hI : IsF w t kv) (hM : t.Modest) (hN : Strs w v xs) (hXM : ∀ x ∈ xs, x.size ≤ 140737488351232) (hS : Lets w sv q.stem) (hL : Lets w lv q.loop) :
    Calls Tryd.prog 7 #[.agg #[.int .u8 (t.op : Nat), .string t.name, kv], v, .agg #[sv, lv]] w fun e w' => ∃ n : Nat, e = .returned (.bool (decide (0 < n))) ∧ (n = 0 → t.wsum ≤ 65536 ∧ q.stem.length + q.loop.length ≤ 65535) ∧ Kept [] w w' := by
  obtain ⟨kad, kcap, rfl⟩ := hI.slice
  have hfs := hS.few
  have hfl := hL.few
  obtain ⟨V, hV⟩ : ∃ V, (w.alloc (.cells #[.int .u8 (t.op : Nat), .string t.name, .slice kad t.kids.length kcap] 25)).alloc (.cells #[sv, lv] 29) = V := ⟨_, rfl⟩
  have kV : Kept [] w V := by rw [← hV]; exact ((Kept.refl [] w).alloc _).alloc _
  have v1 : Wd2 V (w.heap.size + 1) sv lv := by rw [← hV]; exact al1 _ _ _
  have HWT : Hid (Calls Tryd.prog 16 #[.agg #[.int .u8 (t.op : Nat), .string t.name, .slice kad t.kids.length kcap]] V fun e w' => ∃ n : Nat, e = .returned (.int .i64 (n : Nat)) ∧ n ≤ 145036750680577 ∧ (n ≤ 1048576 → t.wsum = n) ∧ Kept [] V w') := weightAll_any t _ V (hI.kept kV) hM
  have HOT : Hid (∀ W, Kept [] V W → Calls Tryd.prog 33 #[v] W fun e w' => e = .returned (.int .i64 (ot 0 xs : Nat)) ∧ w' = W) := fun W k => ofTexts_any v xs W ((hN.kept kV).kept k) hXM
  obtain ⟨ad, c, rfl, _⟩ := hN.form
  obtain ⟨ast, cs, rfl, _, _⟩ := hS.form
  obtain ⟨al, cl, rfl, _, _⟩ := hL.form
  have HKV : Hid (Kept [] w V) := kV
  have HV1 : Hid (Wd2 V (w.heap.size + 1) (.slice ast q.stem.length cs) (.slice al q.loop.length cl)) := v1
  have HVV : Hid (_ = V) := hV
  rw [← hV] at HWT
  obtain ⟨o, ho⟩ : ∃ o, ot 0 xs = o := ⟨_, rfl⟩
  rw [ho] at HOT
  clear hI hM hN hS hL kV v1 hV ho hXM
  go_enter Tryd.func7, Tryd.ntmps7
  go_upto_region 3 with (go_at_call 16; refine HWT.out.mono ?_; rintro e w1 ⟨m, rfl, hm1, hm2, k1⟩; rw [HVV.out] at k1; have HK1 : Hid (Kept [] V w1) := k1; have HM2 : Hid _ := hm2; obtain ⟨g0, g1, _, _⟩ := (HV1.out.kept k1).cells; clear k1 hm2)
  obtain ⟨pl, hpl⟩ : ∃ pl : Nat, 1 + (q.stem.length : Int) + (q.loop.length : Int) = (pl : Int) := ⟨1 + q.stem.length + q.loop.length, by omega⟩
  try rw [hpl]
  have hplb : pl ≤ 140737488355329 := by omega
  have HPQ : Hid (1 + q.stem.length + q.loop.length = pl) := by show _ = _; omega
  clear hpl HWT
  by_cases h1 : m ≤ 65536
  · have h1i : ¬ ((65536 : Int) < (m : Int)) := by omega
    by_cases h2 : o ≤ 4194304
    · have h2i : ¬ ((4194304 : Int) < (o : Int)) := by omega
      by_cases h3 : pl ≤ 65536
      · have h3i : ¬ ((65536 : Int) < (pl : Int)) := by omega
        obtain ⟨mp, hmp⟩ : ∃ mp : Nat, m * pl = mp := ⟨_, rfl⟩
        have hmpb : mp ≤ 4294967296 := by rw [← hmp]; exact Nat.le_trans (Nat.mul_le_mul h1 h3) (by decide)
        have hmpi : (m : Int) * (pl : Int) = (mp : Int) := by rw [← hmp]; exact (Int.natCast_mul m pl).symm
        by_cases h4 : mp ≤ 4194304
        · have h4i : ¬ ((4194304 : Int) < (mp : Int)) := by omega
          clear h2 h4 hmp
          go_wp2_with (go_at_call 33; refine (HOT.out _ HK1.out).mono ?_; rintro e w2 ⟨rfl, hw2⟩; rw [hw2]; clear hw2)
          go_ret
          exact ⟨0, (by first | rfl | exact ret_bool (by rw [Bool.eq_iff_iff]; simp; omega)), (fun _ => ⟨by rw [HM2.out (by omega)]; exact h1, by have := HPQ.out; omega⟩), HKV.out.trans HK1.out (by simp) (by simp)⟩
        · have h4i : (4194304 : Int) < (mp : Int) := by omega
          clear h2 h4 hmp
          go_wp2_with (go_at_call 33; refine (HOT.out _ HK1.out).mono ?_; rintro e w2 ⟨rfl, hw2⟩; rw [hw2]; clear hw2)
          go_ret
          exact ⟨1, (by first | rfl | exact ret_bool (by rw [Bool.eq_iff_iff]; simp; omega)), (fun h => by cases h), HKV.out.trans HK1.out (by simp) (by simp)⟩
      · have h3i : (65536 : Int) < (pl : Int) := by omega
        clear h2 h3
        go_wp2_with (go_at_call 33; refine (HOT.out _ HK1.out).mono ?_; rintro e w2 ⟨rfl, hw2⟩; rw [hw2]; clear hw2)
        go_ret
        exact ⟨1, (by first | rfl | exact ret_bool (by rw [Bool.eq_iff_iff]; simp; omega)), (fun h => by cases h), HKV.out.trans HK1.out (by simp) (by simp)⟩
    · have h2i : (4194304 : Int) < (o : Int) := by omega
      clear h2
      go_wp2_with (go_at_call 33; refine (HOT.out _ HK1.out).mono ?_; rintro e w2 ⟨rfl, hw2⟩; rw [hw2]; clear hw2)
      go_ret
      exact ⟨1, (by first | rfl | exact ret_bool (by rw [Bool.eq_iff_iff]; simp; omega)), (fun h => by cases h), HKV.out.trans HK1.out (by simp) (by simp)⟩
  · have h1i : (65536 : Int) < (m : Int) := by omega
    clear h1
    go_wp2
    go_ret
    exact ⟨1, (by first | rfl | exact ret_bool (by rw [Bool.eq_iff_iff]; simp; omega)), (fun h => by cases h), HKV.out.trans HK1.out (by simp) (by simp)⟩

set_option maxHeartbeats 1000000 in
set_option maxRecDepth 20000 in
theorem sameBools_any (b1 b2 n : Nat) (r1 r2 : Nat → Bool) (w : World) (h1 : RowB w b1 n r1) (h2 : RowB w b2 n r2) (hn : n ≤ 70368744177664) (h : ∀ i, i < n → r1 i = r2 i) :
    Calls Tryd.prog 37 #[.slice (some ⟨b1, 0, none⟩) n n, .slice (some ⟨b2, 0, none⟩) n n] w fun e w' => e = .returned (.bool true) ∧ Kept [] w w' := by
  have H1 : Hid (RowB w b1 n r1) := h1
  have H2 : Hid (RowB w b2 n r2) := h2
  have HH : Hid _ := h
  clear h1 h2 h
  go_enter Tryd.func37, Tryd.ntmps37
  go_wp2_with fail
  go_loopw [5] (fun v5 wr => ∃ k : Nat, k ≤ n ∧ v5 = .int .i64 (k : Nat) ∧ Hid (Kept [] w wr)) (fun v5 _ => n - (intOf v5).toNat)
  case atStart => exact ⟨0, Nat.zero_le _, rfl, Kept.refl [] w⟩
  case round =>
    obtain ⟨k, hk, rfl, HF⟩ := hrel
    by_cases hlt : k < n
    · have hlt' : (k : Int) < (n : Int) := by omega
      have b0 : (0 : Int) ≤ (k : Int) := by omega
      have d1 := cell_kept0 HF.out (H1.out.cell hlt)
      have d2 := cell_kept0 HF.out (H2.out.cell hlt)
      rw [HH.out k hlt] at d1
      generalize r2 k = x at d1 d2
      go_wp2_with fail
      go_quiet (fail)
      go_wp2
      go_roundw
      case rel => exact ⟨k + 1, by omega, by go_num, HF.out.drewN _⟩
      case measure => simp [intOf]; omega
    · have hlt' : ¬ ((k : Int) < (n : Int)) := by omega
      go_wp2
      go_ret
      exact ⟨rfl, HF.out⟩
/-- When two formulas must be found alike. -/
def Alike (xs : List ByteArray) (q : Wd) (t u : Tr) : Prop := rightN pastB t = 0 → rightN pastB u = 0 → alongE t xs q = 0 ∧ alongE u xs q = 0 ∧ ∀ i, i < q.len → rowT q xs t i = rowT q xs u i
set_option maxHeartbeats 2000000 in
set_option maxRecDepth 20000 in
theorem alike_any (t u : Tr) (kv jv v sv lv : Value) (xs : List ByteArray) (q : Wd) (w : World) (hI : IsF w t kv) (hJ : IsF w u jv) (hF : t.Fine) (hG : u.Fine) (hs : t.size ≤ 1000000000) (hz : u.size ≤ 1000000000) (hN : Strs w v xs) (hW : IsW w sv lv q) (hT : KidsTab w) (hA : Alike xs q t u) :
    Calls Tryd.prog 11 #[.agg #[.int .u8 (t.op : Nat), .string t.name, kv], .agg #[.int .u8 (u.op : Nat), .string u.name, jv], v, .agg #[sv, lv]] w fun e w' => e = .returned (.bool true) ∧ Kept [] w w' := by
  obtain ⟨kad, kcap, rfl⟩ := hI.slice
  obtain ⟨jad, jcap, rfl⟩ := hJ.slice
  have hdz : t.depth ≤ t.size := Tr.depth_size t
  have hdy : u.depth ≤ u.size := Tr.depth_size u
  have hfew := hW.few
  obtain ⟨V, hV⟩ : ∃ V, ((w.alloc (.cells #[.int .u8 (t.op : Nat), .string t.name, .slice kad t.kids.length kcap] 25)).alloc (.cells #[.int .u8 (u.op : Nat), .string u.name, .slice jad u.kids.length jcap] 25)).alloc (.cells #[sv, lv] 29) = V := ⟨_, rfl⟩
  have kV : Kept [] w V := by rw [← hV]; exact (((Kept.refl [] w).alloc _).alloc _).alloc _
  have v0 : For3 V w.heap.size (.int .u8 (t.op : Nat)) (.string t.name) (.slice kad t.kids.length kcap) := by rw [← hV]; exact alUp (alUp (al0 _ _) _) _
  have v1 : For3 V (w.heap.size + 1) (.int .u8 (u.op : Nat)) (.string u.name) (.slice jad u.kids.length jcap) := by rw [← hV]; exact alUp (al1 _ _ _) _
  have v2 : Wd2 V (w.heap.size + 1 + 1) sv lv := by rw [← hV]; exact al2 _ _ _ _
  have HRT : Hid (Calls Tryd.prog 34 #[.agg #[.int .u8 (t.op : Nat), .string t.name, .slice kad t.kids.length kcap]] V fun e w' => e = .returned (.int .i64 (rightN pastB t : Nat)) ∧ Kept [] V w') := refRight_any t _ V (hI.kept kV) (by omega) (by omega) hF
  have HRU : Hid (∀ W, Kept [] V W → Calls Tryd.prog 34 #[.agg #[.int .u8 (u.op : Nat), .string u.name, .slice jad u.kids.length jcap]] W fun e w' => e = .returned (.int .i64 (rightN pastB u : Nat)) ∧ Kept [] W w') := fun W k => refRight_any u _ W ((hJ.kept kV).kept k) (by omega) (by omega) hG
  have HAT : Hid (alongE t xs q = 0 → ∀ W, Kept [] V W → Calls Tryd.prog 12 #[.agg #[.int .u8 (t.op : Nat), .string t.name, .slice kad t.kids.length kcap], v, .agg #[sv, lv]] W fun e w' => ∃ b, e = .returned (.tuple #[.slice (some ⟨b, 0, none⟩) q.len q.len, .int .i64 0]) ∧ RowB w' b q.len (rowT q xs t) ∧ Kept [] W w') := fun he W k => along_ok t _ v sv lv xs q W ((hI.kept kV).kept k) hF ((hN.kept kV).kept k) ((hW.kept kV).kept k) ((hT.kept kV).kept k) (by omega) (by omega) he
  have HAU : Hid (alongE u xs q = 0 → ∀ W, Kept [] V W → Calls Tryd.prog 12 #[.agg #[.int .u8 (u.op : Nat), .string u.name, .slice jad u.kids.length jcap], v, .agg #[sv, lv]] W fun e w' => ∃ b, e = .returned (.tuple #[.slice (some ⟨b, 0, none⟩) q.len q.len, .int .i64 0]) ∧ RowB w' b q.len (rowT q xs u) ∧ Kept [] W w') := fun he W k => along_ok u _ v sv lv xs q W ((hJ.kept kV).kept k) hG ((hN.kept kV).kept k) ((hW.kept kV).kept k) ((hT.kept kV).kept k) (by omega) (by omega) he
  obtain ⟨ad, c, rfl, _⟩ := hN.form
  obtain ⟨ast, cs, rfl, _, _⟩ := hW.st.form
  obtain ⟨al, cl, rfl, _, _⟩ := hW.lp.form
  have HKV : Hid (Kept [] w V) := kV
  have HV0 : Hid (For3 V w.heap.size (.int .u8 (t.op : Nat)) (.string t.name) (.slice kad t.kids.length kcap)) := v0
  have HV1 : Hid (For3 V (w.heap.size + 1) (.int .u8 (u.op : Nat)) (.string u.name) (.slice jad u.kids.length jcap)) := v1
  have HV2 : Hid (Wd2 V (w.heap.size + 1 + 1) (.slice ast q.stem.length cs) (.slice al q.loop.length cl)) := v2
  have HVV : Hid (_ = V) := hV
  rw [← hV] at HRT
  have hql : q.len ≤ 70368744177664 := hfew
  have HAL : Hid (Alike xs q t u) := hA
  clear hI hJ hF hG hN hW hT kV v0 v1 v2 hV hA hdz hdy
  by_cases h1 : rightN pastB t = 0
  · rw [h1] at HRT
    by_cases h2 : rightN pastB u = 0
    · rw [h2] at HRU
      obtain ⟨a1, a2, a3⟩ := HAL.out h1 h2
      have HSB : Hid (∀ W b1 b2, RowB W b1 q.len (rowT q xs t) → RowB W b2 q.len (rowT q xs u) → Calls Tryd.prog 37 #[.slice (some ⟨b1, 0, none⟩) q.len q.len, .slice (some ⟨b2, 0, none⟩) q.len q.len] W fun e w' => e = .returned (.bool true) ∧ Kept [] W w') := fun W b1 b2 g1 g2 => sameBools_any b1 b2 q.len _ _ W g1 g2 hql a3
      have HA1 : Hid _ := HAT.out a1
      have HA2 : Hid _ := HAU.out a2
      clear h1 h2 a1 a2 a3 HAL HAT HAU
      have T1 : Hid True := trivial
      go_enter Tryd.func11, Tryd.ntmps11
      go_wp2_with (first
        | (clear T1; go_at_call 34; refine HRT.out.mono ?_; rintro e w1 ⟨rfl, k1⟩; rw [HVV.out] at k1; have HK1 : Hid (Kept [] V w1) := k1; obtain ⟨g0, g1, g2, _⟩ := (HV1.out.kept k1).cells; have T2 : Hid True := trivial; clear k1)
        | (clear T2; go_at_call 34; refine (HRU.out _ HK1.out).mono ?_; rintro e w2 ⟨rfl, k2⟩; have HK2 : Hid (Kept [] V w2) := HK1.out.trans k2 (by simp) (by simp); obtain ⟨f0, f1, f2, _⟩ := (HV0.out.kept HK2.out).cells; obtain ⟨d0, d1, _, _⟩ := (HV2.out.kept HK2.out).cells; have T3 : Hid True := trivial; clear k2)
        | (clear T3; go_at_call 12; refine (HA1.out _ HK2.out).mono ?_; rintro e w3 ⟨b3, rfl, hr3, k3⟩; have HK3 : Hid (Kept [] V w3) := HK2.out.trans k3 (by simp) (by simp); have HR3 : Hid (RowB w3 b3 q.len (rowT q xs t)) := hr3; obtain ⟨x0, x1, x2, _⟩ := (HV1.out.kept HK3.out).cells; obtain ⟨y0, y1, _, _⟩ := (HV2.out.kept HK3.out).cells; have T4 : Hid True := trivial; clear k3 hr3)
        | (clear T4; go_at_call 12; refine (HA2.out _ HK3.out).mono ?_; rintro e w4 ⟨b4, rfl, hr4, k4⟩; have HK4 : Hid (Kept [] V w4) := HK3.out.trans k4 (by simp) (by simp); have HR4 : Hid (RowB w4 b4 q.len (rowT q xs u)) := hr4; have HR34 : Hid (RowB w4 b3 q.len (rowT q xs t)) := HR3.out.kept k4; clear k4 hr4)
        | (go_at_call 37; refine (HSB.out _ _ _ HR34.out HR4.out).mono ?_; rintro e w5 ⟨rfl, k5⟩; have HK5 : Hid (Kept [] V w5) := HK4.out.trans k5 (by simp) (by simp); clear k5))
      go_ret
      exact ⟨rfl, HKV.out.trans HK5.out (by simp) (by simp)⟩
    · have h2i : ((rightN pastB u : Int) != 0) = true := by rw [bne_iff_ne]; omega
      obtain ⟨un, hun⟩ : ∃ un, rightN pastB u = un := ⟨_, rfl⟩
      rw [hun] at HRU h2i
      clear h1 h2 HAL HAT HAU hun
      have T1 : Hid True := trivial
      go_enter Tryd.func11, Tryd.ntmps11
      go_wp2_with (first
        | (clear T1; go_at_call 34; refine HRT.out.mono ?_; rintro e w1 ⟨rfl, k1⟩; rw [HVV.out] at k1; have HK1 : Hid (Kept [] V w1) := k1; obtain ⟨g0, g1, g2, _⟩ := (HV1.out.kept k1).cells; have T2 : Hid True := trivial; clear k1)
        | (clear T2; go_at_call 34; refine (HRU.out _ HK1.out).mono ?_; rintro e w2 ⟨rfl, k2⟩; have HK2 : Hid (Kept [] V w2) := HK1.out.trans k2 (by simp) (by simp); clear k2))
      go_ret
      exact ⟨rfl, HKV.out.trans HK2.out (by simp) (by simp)⟩
  · have h1i : ((rightN pastB t : Int) != 0) = true := by rw [bne_iff_ne]; omega
    obtain ⟨tn, htn⟩ : ∃ tn, rightN pastB t = tn := ⟨_, rfl⟩
    rw [htn] at HRT h1i
    clear h1 HAL HAT HAU htn
    go_enter Tryd.func11, Tryd.ntmps11
    go_wp2_with (go_at_call 34; refine HRT.out.mono ?_; rintro e w1 ⟨rfl, k1⟩; rw [HVV.out] at k1; have HK1 : Hid (Kept [] V w1) := k1; clear k1)
    go_ret
    exact ⟨rfl, HKV.out.trans HK1.out (by simp) (by simp)⟩
end Go.Proofs.YtddgciilcghbaaaDoor
