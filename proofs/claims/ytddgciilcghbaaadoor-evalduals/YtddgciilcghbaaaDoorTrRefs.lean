/- The document's answers: augurref03's Kids, Name, Size, Depth. -/
import Derived.Test.YtddgciilcghbaaaDoorTrRight
import Derived.Test.YtddgciilcghbaaaDoorTrWeight
namespace Go.Proofs.YtddgciilcghbaaaDoor
open Go.RowKit Go.Shelf

set_option maxHeartbeats 1000000 in
theorem refName_any (s : ByteArray) (w : World) (hs : s.size ≤ maxLen) :
    Calls Tryd.prog 114 #[.string s] w fun e w' => e = .returned (.bool (nameB s.data.toList)) ∧ w' = w := by
  have hl : s.size = s.data.toList.length := rfl
  unfold maxLen at hs
  obtain ⟨r, hr⟩ : ∃ r, nameB s.data.toList = r := ⟨_, rfl⟩
  rw [hr]
  have HR : Hid _ := hr
  have HL : Hid _ := hl
  clear hr hl
  by_cases h0 : s.size = 0
  · have h0i : (s.size : Int) < 1 := by omega
    go_enter Tryd.func114, Tryd.ntmps114
    go_wp2
    go_ret
    exact ⟨ret_bool ((nameB_short (HL.out.symm.trans h0)).symm.trans HR.out), rfl⟩
  have h0i : ¬ (s.size : Int) < 1 := by omega
  by_cases h1 : 32 < s.size
  · have h1i : (32 : Int) < (s.size : Int) := by omega
    go_enter Tryd.func114, Tryd.ntmps114
    go_wp2
    go_ret
    exact ⟨ret_bool ((nameB_long (by rw [← HL.out]; exact h1)).symm.trans HR.out), rfl⟩
  have h1i : ¬ (32 : Int) < (s.size : Int) := by omega
  go_enter Tryd.func114, Tryd.ntmps114
  go_wp2
  go_loop [3] (fun v => ∃ k : Nat, k ≤ s.size ∧ v = .int .i64 (k : Nat) ∧ Hid (∀ j (h : j < s.data.toList.length), j < k → okB (s.data.toList[j]).toNat = true)) (fun v => s.size - (intOf v).toNat)
  case atStart => exact ⟨0, Nat.zero_le _, rfl, fun j _ h => by omega⟩
  case round =>
    obtain ⟨k, hk, rfl, HA⟩ := hrel
    by_cases hlt : k < s.size
    · obtain ⟨c, hc⟩ : ∃ c : UInt8, s[k] = c := ⟨_, rfl⟩
      have hcd : s.data.toList[k]'(by rw [← HL.out]; exact hlt) = c := hc
      have HC : Hid _ := hcd
      have hki : (k : Int) < (s.size : Int) := by omega
      have hbad : okB c.toNat = false → false = r := fun h => (nameB_bad (by rw [← HC.out]; exact List.getElem_mem _) h).symm.trans HR.out
      have HB : Hid _ := hbad
      clear hcd hbad
      by_cases c1 : (c.toNat : Int) < 32
      · go_wp2
        go_ret
        exact ⟨ret_bool (HB.out (okB_no (by omega))), rfl⟩
      by_cases c2 : (126 : Int) < (c.toNat : Int)
      · go_wp2
        go_ret
        exact ⟨ret_bool (HB.out (okB_no (by omega))), rfl⟩
      by_cases c3 : (c.toNat : Int) = 34
      · have c3' : ((c.toNat : Int) == 34) = true := by rw [beq_iff_eq]; exact c3
        have HC3 : Hid _ := c3
        clear c3
        go_wp2
        go_ret
        exact ⟨ret_bool (HB.out (okB_no (by have := HC3.out; omega))), rfl⟩
      have c3' : ((c.toNat : Int) == 34) = false := by rw [beq_eq_false_iff_ne]; exact c3
      by_cases c4 : (c.toNat : Int) = 92
      · have c4' : ((c.toNat : Int) == 92) = true := by rw [beq_iff_eq]; exact c4
        have HC4 : Hid _ := c4
        clear c4
        go_wp2
        go_ret
        exact ⟨ret_bool (HB.out (okB_no (by have := HC4.out; omega))), rfl⟩
      have c4' : ((c.toNat : Int) == 92) = false := by rw [beq_eq_false_iff_ne]; exact c4
      go_wp2
      go_round
      case rel =>
        refine ⟨k + 1, by omega, by go_num, fun j h hj => ?_⟩
        rcases Nat.lt_or_ge j k with h' | h'
        · exact HA.out j h h'
        · obtain rfl : j = k := by omega
          rw [HC.out]
          exact okB_yes (by omega) (by omega) (by omega) (by omega)
      case measure => simp [intOf]; omega
    · go_wp2
      go_ret
      exact ⟨ret_bool ((nameB_good (by rw [← HL.out]; omega) (by rw [← HL.out]; omega) (fun j hj => HA.out j hj (by have := HL.out; omega))).symm.trans HR.out), rfl⟩

/-- How many kids the document gives an Op. -/
def kidsR (o : Nat) : Int := if 1 ≤ o ∧ o ≤ 21 then (kidsN o : Nat) else -1
set_option maxHeartbeats 1000000 in
theorem refKids_any (o : Nat) (w : World) : Calls Tryd.prog 153 #[.int .u8 (o : Nat)] w fun e w' => e = .returned (.int .i64 (kidsR o)) ∧ w' = w := by
  by_cases h : 1 ≤ o ∧ o ≤ 21
  · have : o = 1 ∨ o = 2 ∨ o = 3 ∨ o = 4 ∨ o = 5 ∨ o = 6 ∨ o = 7 ∨ o = 8 ∨ o = 9 ∨ o = 10 ∨ o = 11 ∨ o = 12 ∨ o = 13 ∨ o = 14 ∨ o = 15 ∨ o = 16 ∨ o = 17 ∨ o = 18 ∨ o = 19 ∨ o = 20 ∨ o = 21 := by omega
    rcases this with rfl | rfl | rfl | rfl | rfl | rfl | rfl | rfl | rfl | rfl | rfl | rfl | rfl | rfl | rfl | rfl | rfl | rfl | rfl | rfl | rfl
    all_goals
      go_enter Tryd.func153, Tryd.ntmps153
      go_wp2
      go_ret
      exact ⟨rfl, rfl⟩
  · have hr : kidsR o = -1 := if_neg h
    rw [hr]
    have n1 : ((o : Int) == 1) = false := by rw [beq_eq_false_iff_ne]; omega
    have n2 : ((o : Int) == 2) = false := by rw [beq_eq_false_iff_ne]; omega
    have n3 : ((o : Int) == 3) = false := by rw [beq_eq_false_iff_ne]; omega
    have n4 : ((o : Int) == 4) = false := by rw [beq_eq_false_iff_ne]; omega
    have n5 : ((o : Int) == 5) = false := by rw [beq_eq_false_iff_ne]; omega
    have n6 : ((o : Int) == 6) = false := by rw [beq_eq_false_iff_ne]; omega
    have n7 : ((o : Int) == 7) = false := by rw [beq_eq_false_iff_ne]; omega
    have n8 : ((o : Int) == 8) = false := by rw [beq_eq_false_iff_ne]; omega
    have n9 : ((o : Int) == 9) = false := by rw [beq_eq_false_iff_ne]; omega
    have n10 : ((o : Int) == 10) = false := by rw [beq_eq_false_iff_ne]; omega
    have n11 : ((o : Int) == 11) = false := by rw [beq_eq_false_iff_ne]; omega
    have n12 : ((o : Int) == 12) = false := by rw [beq_eq_false_iff_ne]; omega
    have n13 : ((o : Int) == 13) = false := by rw [beq_eq_false_iff_ne]; omega
    have n14 : ((o : Int) == 14) = false := by rw [beq_eq_false_iff_ne]; omega
    have n15 : ((o : Int) == 15) = false := by rw [beq_eq_false_iff_ne]; omega
    have n16 : ((o : Int) == 16) = false := by rw [beq_eq_false_iff_ne]; omega
    have n17 : ((o : Int) == 17) = false := by rw [beq_eq_false_iff_ne]; omega
    have n18 : ((o : Int) == 18) = false := by rw [beq_eq_false_iff_ne]; omega
    have n19 : ((o : Int) == 19) = false := by rw [beq_eq_false_iff_ne]; omega
    have n20 : ((o : Int) == 20) = false := by rw [beq_eq_false_iff_ne]; omega
    have n21 : ((o : Int) == 21) = false := by rw [beq_eq_false_iff_ne]; omega
    clear h hr
    go_enter Tryd.func153, Tryd.ntmps153
    go_wp2
    go_ret
    exact ⟨rfl, rfl⟩
theorem sum_take_le : ∀ (l : List Nat) (i : Nat), (l.take i).sum ≤ l.sum
  | [], _ => by simp
  | _ :: _, 0 => by simp
  | a :: l, i + 1 => by
    simp only [List.take_succ_cons, List.sum_cons]
    have := sum_take_le l i
    omega
theorem fold_ge : ∀ (l : List Nat) (a : Nat), a ≤ l.foldl max a
  | [], _ => Nat.le_refl _
  | b :: l, a => Nat.le_trans (Nat.le_max_left a b) (fold_ge l (max a b))
theorem fold_take_le : ∀ (l : List Nat) (i a : Nat), (l.take i).foldl max a ≤ l.foldl max a
  | [], _, _ => by simp
  | b :: l, 0, a => by simpa using fold_ge (b :: l) a
  | b :: l, i + 1, a => by
    simp only [List.take_succ_cons, List.foldl_cons]
    exact fold_take_le l i (max a b)

def RefSizeDoes (t : Tr) : Prop := ∀ (kv : Value) (w : World), IsF w t kv → t.size ≤ 1099511627776 →
  Calls Tryd.prog 112 #[.agg #[.int .u8 (t.op : Nat), .string t.name, kv]] w fun e w' => e = .returned (.int .i64 (t.size : Nat)) ∧ Kept [] w w'
set_option maxHeartbeats 1000000 in
set_option maxRecDepth 20000 in
theorem refSize_any (t : Tr) : RefSizeDoes t := by
  induction t using Tr.ind with
  | h t ih =>
    intro kv w hI hs
    obtain ⟨kad, kcap, rfl⟩ := hI.slice
    have HI : Hid (IsT (fun k => k < w.heap.size) w t (.slice kad t.kids.length kcap)) := hI
    have HIH : Hid _ := fun k hk => ih k hk
    have HSE : Hid _ := t.size_eq
    have hlen : t.kids.length ≤ 1099511627776 := by have := t.kids_size; omega
    have HPRE : Hid (∀ i, i < t.kids.length → 1 + ((t.kids.map Tr.size).take (i + 1)).sum ≤ t.size) := fun i hi => by
      rw [t.size_eq]
      have := sum_take_le (t.kids.map Tr.size) (i + 1)
      omega
    obtain ⟨sz, hsz⟩ : ∃ sz, t.size = sz := ⟨_, rfl⟩
    have HSZ : Hid _ := hsz
    rw [hsz] at hs
    rw [hsz]
    clear hI ih hsz
    obtain ⟨V, hV⟩ : ∃ V, w.alloc (.cells #[.int .u8 (t.op : Nat), .string t.name, .slice kad t.kids.length kcap] 25) = V := ⟨_, rfl⟩
    have HKV : Hid (Kept [] w V) := by show Kept [] w V; rw [← hV]; exact (Kept.refl [] w).alloc _
    have HB0 : Hid (For3 V w.heap.size (.int .u8 (t.op : Nat)) (.string t.name) (.slice kad t.kids.length kcap)) := by show For3 V _ _ _ _; rw [← hV]; exact al0 _ _
    have HV : Hid _ := hV
    clear hV
    go_enter Tryd.func112, Tryd.ntmps112
    go_wp2
    rw [HV.out]
    clear HV
    go_loopw [3, 4] (fun v3 v4 wr => ∃ i : Nat, v3 = .int .i64 ((1 + ((t.kids.map Tr.size).take i).sum : Nat) : Int) ∧ v4 = .int .i64 (i : Nat) ∧ i ≤ t.kids.length ∧ Hid (Kept [] V wr)) (fun _ v4 _ => t.kids.length - (intOf v4).toNat)
    case atStart => exact ⟨0, by simp, rfl, Nat.zero_le _, Kept.refl [] V⟩
    case round =>
      obtain ⟨i, rfl, rfl, hi, HR⟩ := hrel
      obtain ⟨_, _, b2, _⟩ := (HB0.out.kept HR.out).cells
      by_cases hlt : i < t.kids.length
      · have hli : (i : Int) < (t.kids.length : Int) := by omega
        obtain ⟨kb, koff, rfl, _, hkid⟩ := HI.out.kid (by omega)
        obtain ⟨kv, c0, c1, c2, hIk⟩ := hkid i hlt
        obtain ⟨ckad, ckcap, rfl⟩ := hIk.slice
        obtain ⟨k, hk⟩ : ∃ k, t.kids[i] = k := ⟨_, rfl⟩
        have hkm : k ∈ t.kids := by rw [← hk]; exact List.getElem_mem _
        rw [hk] at c0 c1 c2 hIk
        have kw : Kept [] w wr := HKV.out.trans HR.out (by simp) (by simp)
        have c0 := cell_kept0 kw c0
        have c1 := cell_kept0 kw c1
        have c2 := cell_kept0 kw c2
        have HREC : Hid _ := fun (_ : Unit) => HIH.out k hkm (.slice ckad k.kids.length ckcap) wr (IsF.kept hIk kw) (by have := Tr.kid_size hkm; have := HSZ.out; omega)
        have hstep : 1 + ((t.kids.map Tr.size).take (i + 1)).sum = (1 + ((t.kids.map Tr.size).take i).sum) + k.size := by
          rw [sum_take _ _ (by simpa using hlt), List.getElem_map, hk]; omega
        have hle := HPRE.out i hlt
        rw [HSZ.out, hstep] at hle
        have HST : Hid _ := hstep
        obtain ⟨acc, hacc⟩ : ∃ acc, 1 + ((t.kids.map Tr.size).take i).sum = acc := ⟨_, rfl⟩
        rw [hacc] at hle
        rw [hacc]
        have HAC : Hid _ := hacc
        clear hkid hk hIk hkm kw hstep hacc
        go_wp2_with (go_at_call 112; refine (HREC.out ()).mono ?_; rintro e W5 ⟨rfl, hk5⟩)
        go_roundw
        case rel =>
          refine ⟨i + 1, ?_, by go_num, by omega, HR.out.trans hk5 (by simp) (by simp)⟩
          rw [HST.out, HAC.out]
          go_num
        case measure => simp [intOf]; omega
      · obtain rfl : i = t.kids.length := by omega
        have hli : ¬ ((t.kids.length : Int) < (t.kids.length : Int)) := by omega
        have hfin : 1 + ((t.kids.map Tr.size).take t.kids.length).sum = sz := by
          rw [List.take_of_length_le (by simp), ← HSZ.out, HSE.out]
        rw [hfin]
        clear hfin
        go_wp2
        go_ret
        exact ⟨rfl, HKV.out.trans HR.out (by simp) (by simp)⟩

def RefDepthDoes (t : Tr) : Prop := ∀ (kv : Value) (w : World), IsF w t kv → t.size ≤ 1099511627776 → t.depth ≤ 1099511627776 →
  Calls Tryd.prog 113 #[.agg #[.int .u8 (t.op : Nat), .string t.name, kv]] w fun e w' => e = .returned (.int .i64 (t.depth : Nat)) ∧ Kept [] w w'
set_option maxHeartbeats 1000000 in
set_option maxRecDepth 20000 in
theorem refDepth_any (t : Tr) : RefDepthDoes t := by
  induction t using Tr.ind with
  | h t ih =>
    intro kv w hI hs0 hs
    have hlen : t.kids.length ≤ 1099511627776 := by have := t.kids_size; omega
    obtain ⟨kad, kcap, rfl⟩ := hI.slice
    have HI : Hid (IsT (fun k => k < w.heap.size) w t (.slice kad t.kids.length kcap)) := hI
    have HIH : Hid _ := fun k hk => ih k hk
    have HDE : Hid _ := t.depth_eq
    have HPRE : Hid (∀ i, ((t.kids.map Tr.depth).take i).foldl max 0 < t.depth) := fun i => by
      rw [t.depth_eq]
      have := fold_take_le (t.kids.map Tr.depth) i 0
      omega
    obtain ⟨dp, hdp⟩ : ∃ dp, t.depth = dp := ⟨_, rfl⟩
    have HDP : Hid _ := hdp
    rw [hdp] at hs
    rw [hdp]
    simp only [hdp] at HPRE
    clear hI ih hdp
    obtain ⟨V, hV⟩ : ∃ V, w.alloc (.cells #[.int .u8 (t.op : Nat), .string t.name, .slice kad t.kids.length kcap] 25) = V := ⟨_, rfl⟩
    have HKV : Hid (Kept [] w V) := by show Kept [] w V; rw [← hV]; exact (Kept.refl [] w).alloc _
    have HB0 : Hid (For3 V w.heap.size (.int .u8 (t.op : Nat)) (.string t.name) (.slice kad t.kids.length kcap)) := by show For3 V _ _ _ _; rw [← hV]; exact al0 _ _
    have HV : Hid _ := hV
    clear hV
    go_enter Tryd.func113, Tryd.ntmps113
    go_wp2
    rw [HV.out]
    clear HV
    go_loopw [3, 4] (fun v3 v4 wr => ∃ i : Nat, v3 = .int .i64 ((((t.kids.map Tr.depth).take i).foldl max 0 : Nat) : Int) ∧ v4 = .int .i64 (i : Nat) ∧ i ≤ t.kids.length ∧ Hid (Kept [] V wr)) (fun _ v4 _ => t.kids.length - (intOf v4).toNat)
    case atStart => exact ⟨0, rfl, rfl, Nat.zero_le _, Kept.refl [] V⟩
    case round =>
      obtain ⟨i, rfl, rfl, hi, HR⟩ := hrel
      obtain ⟨_, _, b2, _⟩ := (HB0.out.kept HR.out).cells
      by_cases hlt : i < t.kids.length
      · have hli : (i : Int) < (t.kids.length : Int) := by omega
        obtain ⟨kb, koff, rfl, _, hkid⟩ := HI.out.kid (by omega)
        obtain ⟨kv, c0, c1, c2, hIk⟩ := hkid i hlt
        obtain ⟨ckad, ckcap, rfl⟩ := hIk.slice
        obtain ⟨k, hk⟩ : ∃ k, t.kids[i] = k := ⟨_, rfl⟩
        have hkm : k ∈ t.kids := by rw [← hk]; exact List.getElem_mem _
        rw [hk] at c0 c1 c2 hIk
        have kw : Kept [] w wr := HKV.out.trans HR.out (by simp) (by simp)
        have c0 := cell_kept0 kw c0
        have c1 := cell_kept0 kw c1
        have c2 := cell_kept0 kw c2
        have hstep : ((t.kids.map Tr.depth).take (i + 1)).foldl max 0 = max (((t.kids.map Tr.depth).take i).foldl max 0) k.depth := by
          rw [List.take_succ_eq_append_getElem (by simpa using hlt), List.foldl_append, List.getElem_map, hk]
          rfl
        have hle1 := HPRE.out (i + 1)
        rw [hstep] at hle1
        have hkd : k.depth < dp := by omega
        have HREC : Hid _ := fun (_ : Unit) => HIH.out k hkm (.slice ckad k.kids.length ckcap) wr (IsF.kept hIk kw) (by have := Tr.kid_size hkm; omega) (by omega)
        have HST : Hid _ := hstep
        obtain ⟨acc, hacc⟩ : ∃ acc, ((t.kids.map Tr.depth).take i).foldl max 0 = acc := ⟨_, rfl⟩
        rw [hacc] at hle1
        rw [hacc]
        have HAC : Hid _ := hacc
        clear hkid hk hIk hkm kw hstep hacc
        go_wp2_with (go_at_call 113; refine (HREC.out ()).mono ?_; rintro e W5 ⟨rfl, hk5⟩)
        go_roundw
        case rel =>
          refine ⟨i + 1, ?_, by go_num, by omega, HR.out.trans hk5 (by simp) (by simp)⟩
          rw [HST.out, HAC.out]
          congr 1
          split <;> omega
        case measure => simp [intOf]; omega
      · obtain rfl : i = t.kids.length := by omega
        have hli : ¬ ((t.kids.length : Int) < (t.kids.length : Int)) := by omega
        have hfin : ((t.kids.map Tr.depth).take t.kids.length).foldl max 0 + 1 = dp := by
          rw [List.take_of_length_le (by simp), ← HDP.out, HDE.out]; omega
        obtain ⟨acc, hacc⟩ : ∃ acc, ((t.kids.map Tr.depth).take t.kids.length).foldl max 0 = acc := ⟨_, rfl⟩
        rw [hacc] at hfin
        rw [hacc]
        subst hfin
        clear hacc
        go_wp2
        go_ret
        exact ⟨rfl, HKV.out.trans HR.out (by simp) (by simp)⟩
end Go.Proofs.YtddgciilcghbaaaDoor
