/- The document's answers: augurref03's Kids, Name, Size, Depth. -/
import Derived.Test.YtnjajafmmociiaaGreatDoorTrRight
import Derived.Test.YtnjajafmmociiaaGreatDoorGM
import Derived.Test.YtnjajafmmociiaaGreatDoorTrFits
import Derived.Deep.RegionHeld3
import Derived.Deep.CutRange
namespace Go.Proofs.YtnjajafmmociiaaGreatDoor
open Go.RowKit Go.Shelf

set_option maxHeartbeats 1000000 in
theorem refName_any (s : ByteArray) (w : World) (hs : s.size ≤ maxLen) :
    Calls Tryz.prog 33 #[.string s] w fun e w' => e = .returned (.bool (nameB s.data.toList)) ∧ w' = w := by
  have hl : s.size = s.data.toList.length := rfl
  unfold maxLen at hs
  obtain ⟨r, hr⟩ : ∃ r, nameB s.data.toList = r := ⟨_, rfl⟩
  rw [hr]
  have HR : Hid _ := hr
  have HL : Hid _ := hl
  clear hr hl
  by_cases h0 : s.size = 0
  · have h0i : (s.size : Int) < 1 := by omega
    go_enter Tryz.func33, Tryz.ntmps33
    go_wp2
    go_ret
    exact ⟨ret_bool ((nameB_short (HL.out.symm.trans h0)).symm.trans HR.out), rfl⟩
  have h0i : ¬ (s.size : Int) < 1 := by omega
  by_cases h1 : 32 < s.size
  · have h1i : (32 : Int) < (s.size : Int) := by omega
    go_enter Tryz.func33, Tryz.ntmps33
    go_wp2
    go_ret
    exact ⟨ret_bool ((nameB_long (by rw [← HL.out]; exact h1)).symm.trans HR.out), rfl⟩
  have h1i : ¬ (32 : Int) < (s.size : Int) := by omega
  go_enter Tryz.func33, Tryz.ntmps33
  go_wp2
  go_loop [3] (fun v => ∃ k : Nat, k ≤ s.size ∧ v = .int .i64 (k : Nat) ∧ Hid (∀ j (h : j < s.data.toList.length), j < k → okB (s.data.toList[j]).toNat = true)) (fun v => s.size - (intOf v).toNat)
  case atStart => exact ⟨0, Nat.zero_le _, rfl, fun j _ h => by omega⟩
  case round =>
    obtain ⟨k, hk, rfl, HA⟩ := hrel
    by_cases hlt : k < s.size
    · obtain ⟨c, hc⟩ : ∃ c : UInt8, s[k] = c := ⟨_, rfl⟩
      have hcd : s.data.toList[k]'(by rw [← HL.out]; exact hlt) = c := hc
      have HC : Hid _ := hcd
      have hki : (k : Int) < (s.size : Int) := by omega
      have hbad : okB c.toNat = false → false = r := fun h => (nameB_bad (by rw [← HC.out]; exact List.getElem_mem _) h).symm.trans HR.out
      have HB : Hid _ := hbad
      clear hcd hbad
      by_cases c1 : (c.toNat : Int) < 32
      · go_wp2
        go_ret
        exact ⟨ret_bool (HB.out (okB_no (by omega))), rfl⟩
      by_cases c2 : (126 : Int) < (c.toNat : Int)
      · go_wp2
        go_ret
        exact ⟨ret_bool (HB.out (okB_no (by omega))), rfl⟩
      by_cases c3 : (c.toNat : Int) = 34
      · have c3' : ((c.toNat : Int) == 34) = true := by rw [beq_iff_eq]; exact c3
        have HC3 : Hid _ := c3
        clear c3
        go_wp2
        go_ret
        exact ⟨ret_bool (HB.out (okB_no (by have := HC3.out; omega))), rfl⟩
      have c3' : ((c.toNat : Int) == 34) = false := by rw [beq_eq_false_iff_ne]; exact c3
      by_cases c4 : (c.toNat : Int) = 92
      · have c4' : ((c.toNat : Int) == 92) = true := by rw [beq_iff_eq]; exact c4
        have HC4 : Hid _ := c4
        clear c4
        go_wp2
        go_ret
        exact ⟨ret_bool (HB.out (okB_no (by have := HC4.out; omega))), rfl⟩
      have c4' : ((c.toNat : Int) == 92) = false := by rw [beq_eq_false_iff_ne]; exact c4
      go_wp2
      go_round
      case rel =>
        refine ⟨k + 1, by omega, by go_num, fun j h hj => ?_⟩
        rcases Nat.lt_or_ge j k with h' | h'
        · exact HA.out j h h'
        · obtain rfl : j = k := by omega
          rw [HC.out]
          exact okB_yes (by omega) (by omega) (by omega) (by omega)
      case measure => simp [intOf]; omega
    · go_wp2
      go_ret
      exact ⟨ret_bool ((nameB_good (by rw [← HL.out]; omega) (by rw [← HL.out]; omega) (fun j hj => HA.out j hj (by have := HL.out; omega))).symm.trans HR.out), rfl⟩

/-- How many kids the document gives an Op. -/
def kidsR (o : Nat) : Int := if 1 ≤ o ∧ o ≤ 21 then (kidsN o : Nat) else -1
set_option maxHeartbeats 1000000 in
theorem refKids_any (o : Nat) (w : World) : Calls Tryz.prog 106 #[.int .u8 (o : Nat)] w fun e w' => e = .returned (.int .i64 (kidsR o)) ∧ w' = w := by
  by_cases h : 1 ≤ o ∧ o ≤ 21
  · have : o = 1 ∨ o = 2 ∨ o = 3 ∨ o = 4 ∨ o = 5 ∨ o = 6 ∨ o = 7 ∨ o = 8 ∨ o = 9 ∨ o = 10 ∨ o = 11 ∨ o = 12 ∨ o = 13 ∨ o = 14 ∨ o = 15 ∨ o = 16 ∨ o = 17 ∨ o = 18 ∨ o = 19 ∨ o = 20 ∨ o = 21 := by omega
    rcases this with rfl | rfl | rfl | rfl | rfl | rfl | rfl | rfl | rfl | rfl | rfl | rfl | rfl | rfl | rfl | rfl | rfl | rfl | rfl | rfl | rfl
    all_goals
      go_enter Tryz.func106, Tryz.ntmps106
      go_wp2
      go_ret
      exact ⟨rfl, rfl⟩
  · have hr : kidsR o = -1 := if_neg h
    rw [hr]
    have n1 : ((o : Int) == 1) = false := by rw [beq_eq_false_iff_ne]; omega
    have n2 : ((o : Int) == 2) = false := by rw [beq_eq_false_iff_ne]; omega
    have n3 : ((o : Int) == 3) = false := by rw [beq_eq_false_iff_ne]; omega
    have n4 : ((o : Int) == 4) = false := by rw [beq_eq_false_iff_ne]; omega
    have n5 : ((o : Int) == 5) = false := by rw [beq_eq_false_iff_ne]; omega
    have n6 : ((o : Int) == 6) = false := by rw [beq_eq_false_iff_ne]; omega
    have n7 : ((o : Int) == 7) = false := by rw [beq_eq_false_iff_ne]; omega
    have n8 : ((o : Int) == 8) = false := by rw [beq_eq_false_iff_ne]; omega
    have n9 : ((o : Int) == 9) = false := by rw [beq_eq_false_iff_ne]; omega
    have n10 : ((o : Int) == 10) = false := by rw [beq_eq_false_iff_ne]; omega
    have n11 : ((o : Int) == 11) = false := by rw [beq_eq_false_iff_ne]; omega
    have n12 : ((o : Int) == 12) = false := by rw [beq_eq_false_iff_ne]; omega
    have n13 : ((o : Int) == 13) = false := by rw [beq_eq_false_iff_ne]; omega
    have n14 : ((o : Int) == 14) = false := by rw [beq_eq_false_iff_ne]; omega
    have n15 : ((o : Int) == 15) = false := by rw [beq_eq_false_iff_ne]; omega
    have n16 : ((o : Int) == 16) = false := by rw [beq_eq_false_iff_ne]; omega
    have n17 : ((o : Int) == 17) = false := by rw [beq_eq_false_iff_ne]; omega
    have n18 : ((o : Int) == 18) = false := by rw [beq_eq_false_iff_ne]; omega
    have n19 : ((o : Int) == 19) = false := by rw [beq_eq_false_iff_ne]; omega
    have n20 : ((o : Int) == 20) = false := by rw [beq_eq_false_iff_ne]; omega
    have n21 : ((o : Int) == 21) = false := by rw [beq_eq_false_iff_ne]; omega
    clear h hr
    go_enter Tryz.func106, Tryz.ntmps106
    go_wp2
    go_ret
    exact ⟨rfl, rfl⟩
theorem sum_take_le : ∀ (l : List Nat) (i : Nat), (l.take i).sum ≤ l.sum
  | [], _ => by simp
  | _ :: _, 0 => by simp
  | a :: l, i + 1 => by
    simp only [List.take_succ_cons, List.sum_cons]
    have := sum_take_le l i
    omega
theorem fold_ge : ∀ (l : List Nat) (a : Nat), a ≤ l.foldl max a
  | [], _ => Nat.le_refl _
  | b :: l, a => Nat.le_trans (Nat.le_max_left a b) (fold_ge l (max a b))
theorem fold_take_le : ∀ (l : List Nat) (i a : Nat), (l.take i).foldl max a ≤ l.foldl max a
  | [], _, _ => by simp
  | b :: l, 0, a => by simpa using fold_ge (b :: l) a
  | b :: l, i + 1, a => by
    simp only [List.take_succ_cons, List.foldl_cons]
    exact fold_take_le l i (max a b)

def RefSizeDoes (t : Tr) : Prop := ∀ (kv : Value) (w : World), IsF w t kv → t.size ≤ 1099511627776 →
  Calls Tryz.prog 35 #[.agg #[.int .u8 (t.op : Nat), .string t.name, kv]] w fun e w' => e = .returned (.int .i64 (t.size : Nat)) ∧ Kept [] w w'
set_option maxHeartbeats 1000000 in
set_option maxRecDepth 20000 in
theorem refSize_any (t : Tr) : RefSizeDoes t := by
  induction t using Tr.ind with
  | h t ih =>
    intro kv w hI hs
    obtain ⟨kad, kcap, rfl⟩ := hI.slice
    have HI : Hid (IsT (fun k => k < w.heap.size) w t (.slice kad t.kids.length kcap)) := hI
    have HIH : Hid _ := fun k hk => ih k hk
    have HSE : Hid _ := t.size_eq
    have hlen : t.kids.length ≤ 1099511627776 := by have := t.kids_size; omega
    have HPRE : Hid (∀ i, i < t.kids.length → 1 + ((t.kids.map Tr.size).take (i + 1)).sum ≤ t.size) := fun i hi => by
      rw [t.size_eq]
      have := sum_take_le (t.kids.map Tr.size) (i + 1)
      omega
    obtain ⟨sz, hsz⟩ : ∃ sz, t.size = sz := ⟨_, rfl⟩
    have HSZ : Hid _ := hsz
    rw [hsz] at hs
    rw [hsz]
    clear hI ih hsz
    obtain ⟨V, hV⟩ : ∃ V, w.alloc (.cells #[.int .u8 (t.op : Nat), .string t.name, .slice kad t.kids.length kcap] 25) = V := ⟨_, rfl⟩
    have HKV : Hid (Kept [] w V) := by show Kept [] w V; rw [← hV]; exact (Kept.refl [] w).alloc _
    have HB0 : Hid (For3 V w.heap.size (.int .u8 (t.op : Nat)) (.string t.name) (.slice kad t.kids.length kcap)) := by show For3 V _ _ _ _; rw [← hV]; exact al0 _ _
    have HV : Hid _ := hV
    clear hV
    go_enter Tryz.func35, Tryz.ntmps35
    go_wp2
    rw [HV.out]
    clear HV
    go_loopw [3, 4] (fun v3 v4 wr => ∃ i : Nat, v3 = .int .i64 ((1 + ((t.kids.map Tr.size).take i).sum : Nat) : Int) ∧ v4 = .int .i64 (i : Nat) ∧ i ≤ t.kids.length ∧ Hid (Kept [] V wr)) (fun _ v4 _ => t.kids.length - (intOf v4).toNat)
    case atStart => exact ⟨0, by simp, rfl, Nat.zero_le _, Kept.refl [] V⟩
    case round =>
      obtain ⟨i, rfl, rfl, hi, HR⟩ := hrel
      obtain ⟨_, _, b2, _⟩ := (HB0.out.kept HR.out).cells
      by_cases hlt : i < t.kids.length
      · have hli : (i : Int) < (t.kids.length : Int) := by omega
        obtain ⟨kb, koff, rfl, _, hkid⟩ := HI.out.kid (by omega)
        obtain ⟨kv, c0, c1, c2, hIk⟩ := hkid i hlt
        obtain ⟨ckad, ckcap, rfl⟩ := hIk.slice
        obtain ⟨k, hk⟩ : ∃ k, t.kids[i] = k := ⟨_, rfl⟩
        have hkm : k ∈ t.kids := by rw [← hk]; exact List.getElem_mem _
        rw [hk] at c0 c1 c2 hIk
        have kw : Kept [] w wr := HKV.out.trans HR.out (by simp) (by simp)
        have c0 := cell_kept0 kw c0
        have c1 := cell_kept0 kw c1
        have c2 := cell_kept0 kw c2
        have HREC : Hid _ := fun (_ : Unit) => HIH.out k hkm (.slice ckad k.kids.length ckcap) wr (IsF.kept hIk kw) (by have := Tr.kid_size hkm; have := HSZ.out; omega)
        have hstep : 1 + ((t.kids.map Tr.size).take (i + 1)).sum = (1 + ((t.kids.map Tr.size).take i).sum) + k.size := by
          rw [sum_take _ _ (by simpa using hlt), List.getElem_map, hk]; omega
        have hle := HPRE.out i hlt
        rw [HSZ.out, hstep] at hle
        have HST : Hid _ := hstep
        obtain ⟨acc, hacc⟩ : ∃ acc, 1 + ((t.kids.map Tr.size).take i).sum = acc := ⟨_, rfl⟩
        rw [hacc] at hle
        rw [hacc]
        have HAC : Hid _ := hacc
        clear hkid hk hIk hkm kw hstep hacc
        go_wp2_with (go_at_call 35; refine (HREC.out ()).mono ?_; rintro e W5 ⟨rfl, hk5⟩)
        go_roundw
        case rel =>
          refine ⟨i + 1, ?_, by go_num, by omega, HR.out.trans hk5 (by simp) (by simp)⟩
          rw [HST.out, HAC.out]
          go_num
        case measure => simp [intOf]; omega
      · obtain rfl : i = t.kids.length := by omega
        have hli : ¬ ((t.kids.length : Int) < (t.kids.length : Int)) := by omega
        have hfin : 1 + ((t.kids.map Tr.size).take t.kids.length).sum = sz := by
          rw [List.take_of_length_le (by simp), ← HSZ.out, HSE.out]
        rw [hfin]
        clear hfin
        go_wp2
        go_ret
        exact ⟨rfl, HKV.out.trans HR.out (by simp) (by simp)⟩

def RefDepthDoes (t : Tr) : Prop := ∀ (kv : Value) (w : World), IsF w t kv → t.size ≤ 1099511627776 → t.depth ≤ 1099511627776 →
  Calls Tryz.prog 37 #[.agg #[.int .u8 (t.op : Nat), .string t.name, kv]] w fun e w' => e = .returned (.int .i64 (t.depth : Nat)) ∧ Kept [] w w'
set_option maxHeartbeats 1000000 in
set_option maxRecDepth 20000 in
theorem refDepth_any (t : Tr) : RefDepthDoes t := by
  induction t using Tr.ind with
  | h t ih =>
    intro kv w hI hs0 hs
    have hlen : t.kids.length ≤ 1099511627776 := by have := t.kids_size; omega
    obtain ⟨kad, kcap, rfl⟩ := hI.slice
    have HI : Hid (IsT (fun k => k < w.heap.size) w t (.slice kad t.kids.length kcap)) := hI
    have HIH : Hid _ := fun k hk => ih k hk
    have HDE : Hid _ := t.depth_eq
    have HPRE : Hid (∀ i, ((t.kids.map Tr.depth).take i).foldl max 0 < t.depth) := fun i => by
      rw [t.depth_eq]
      have := fold_take_le (t.kids.map Tr.depth) i 0
      omega
    obtain ⟨dp, hdp⟩ : ∃ dp, t.depth = dp := ⟨_, rfl⟩
    have HDP : Hid _ := hdp
    rw [hdp] at hs
    rw [hdp]
    simp only [hdp] at HPRE
    clear hI ih hdp
    obtain ⟨V, hV⟩ : ∃ V, w.alloc (.cells #[.int .u8 (t.op : Nat), .string t.name, .slice kad t.kids.length kcap] 25) = V := ⟨_, rfl⟩
    have HKV : Hid (Kept [] w V) := by show Kept [] w V; rw [← hV]; exact (Kept.refl [] w).alloc _
    have HB0 : Hid (For3 V w.heap.size (.int .u8 (t.op : Nat)) (.string t.name) (.slice kad t.kids.length kcap)) := by show For3 V _ _ _ _; rw [← hV]; exact al0 _ _
    have HV : Hid _ := hV
    clear hV
    go_enter Tryz.func37, Tryz.ntmps37
    go_wp2
    rw [HV.out]
    clear HV
    go_loopw [3, 4] (fun v3 v4 wr => ∃ i : Nat, v3 = .int .i64 ((((t.kids.map Tr.depth).take i).foldl max 0 : Nat) : Int) ∧ v4 = .int .i64 (i : Nat) ∧ i ≤ t.kids.length ∧ Hid (Kept [] V wr)) (fun _ v4 _ => t.kids.length - (intOf v4).toNat)
    case atStart => exact ⟨0, rfl, rfl, Nat.zero_le _, Kept.refl [] V⟩
    case round =>
      obtain ⟨i, rfl, rfl, hi, HR⟩ := hrel
      obtain ⟨_, _, b2, _⟩ := (HB0.out.kept HR.out).cells
      by_cases hlt : i < t.kids.length
      · have hli : (i : Int) < (t.kids.length : Int) := by omega
        obtain ⟨kb, koff, rfl, _, hkid⟩ := HI.out.kid (by omega)
        obtain ⟨kv, c0, c1, c2, hIk⟩ := hkid i hlt
        obtain ⟨ckad, ckcap, rfl⟩ := hIk.slice
        obtain ⟨k, hk⟩ : ∃ k, t.kids[i] = k := ⟨_, rfl⟩
        have hkm : k ∈ t.kids := by rw [← hk]; exact List.getElem_mem _
        rw [hk] at c0 c1 c2 hIk
        have kw : Kept [] w wr := HKV.out.trans HR.out (by simp) (by simp)
        have c0 := cell_kept0 kw c0
        have c1 := cell_kept0 kw c1
        have c2 := cell_kept0 kw c2
        have hstep : ((t.kids.map Tr.depth).take (i + 1)).foldl max 0 = max (((t.kids.map Tr.depth).take i).foldl max 0) k.depth := by
          rw [List.take_succ_eq_append_getElem (by simpa using hlt), List.foldl_append, List.getElem_map, hk]
          rfl
        have hle1 := HPRE.out (i + 1)
        rw [hstep] at hle1
        have hkd : k.depth < dp := by omega
        have HREC : Hid _ := fun (_ : Unit) => HIH.out k hkm (.slice ckad k.kids.length ckcap) wr (IsF.kept hIk kw) (by have := Tr.kid_size hkm; omega) (by omega)
        have HST : Hid _ := hstep
        obtain ⟨acc, hacc⟩ : ∃ acc, ((t.kids.map Tr.depth).take i).foldl max 0 = acc := ⟨_, rfl⟩
        rw [hacc] at hle1
        rw [hacc]
        have HAC : Hid _ := hacc
        clear hkid hk hIk hkm kw hstep hacc
        go_wp2_with (go_at_call 37; refine (HREC.out ()).mono ?_; rintro e W5 ⟨rfl, hk5⟩)
        go_roundw
        case rel =>
          refine ⟨i + 1, ?_, by go_num, by omega, HR.out.trans hk5 (by simp) (by simp)⟩
          rw [HST.out, HAC.out]
          congr 1
          split <;> omega
        case measure => simp [intOf]; omega
      · obtain rfl : i = t.kids.length := by omega
        have hli : ¬ ((t.kids.length : Int) < (t.kids.length : Int)) := by omega
        have hfin : ((t.kids.map Tr.depth).take t.kids.length).foldl max 0 + 1 = dp := by
          rw [List.take_of_length_le (by simp), ← HDP.out, HDE.out]; omega
        obtain ⟨acc, hacc⟩ : ∃ acc, ((t.kids.map Tr.depth).take t.kids.length).foldl max 0 = acc := ⟨_, rfl⟩
        rw [hacc] at hfin
        rw [hacc]
        subst hfin
        clear hacc
        go_wp2
        go_ret
        exact ⟨rfl, HKV.out.trans HR.out (by simp) (by simp)⟩
end Go.Proofs.YtnjajafmmociiaaGreatDoor

/- augurref03.formed, right, Right, RightPast. -/
namespace Go.Proofs.YtnjajafmmociiaaGreatDoor
open Go.RowKit Go.Shelf

theorem all_parts (q : Tr → Bool) (t : Tr) : ∀ p, ((t.parts p).all fun x => q x.2) = (q t && t.kids.all fun k => k.every q) := by
  induction t using Tr.ind with
  | h t ih =>
    intro p
    rw [Tr.parts_eq, List.all_cons]
    congr 1
    have key : ∀ (ks : List Tr) (i : Nat), (∀ k ∈ ks, ∀ p, ((k.parts p).all fun x => q x.2) = (q k && k.kids.all fun k => k.every q)) → ((rowsFrom p i (ks.map Tr.parts)).all fun x => q x.2) = ks.all fun k => k.every q := by
      intro ks
      induction ks with
      | nil => intro i _; rfl
      | cons k ks ih2 =>
        intro i hk
        rw [List.map_cons, rowsFrom, List.all_append, List.all_cons, ih2 (i + 1) (fun k h => hk k (by simp [h]))]
        congr 1
        unfold Tr.every
        rw [hk k (by simp), hk k (by simp)]
    exact key t.kids 0 (fun k hk p => ih k hk p)
theorem every_eq (q : Tr → Bool) (t : Tr) : t.every q = (q t && t.kids.all fun k => k.every q) := all_parts q t []
theorem every_bad {q : Tr → Bool} {t : Tr} (h : q t = false) : t.every q = false := by rw [every_eq, h]; rfl
theorem every_kid {q : Tr → Bool} {t k : Tr} (hk : k ∈ t.kids) (h : k.every q = false) : t.every q = false := by
  rw [every_eq, show (t.kids.all fun k => k.every q) = false from List.all_eq_false.2 ⟨k, hk, by simp [h]⟩, Bool.and_false]
theorem every_good {q : Tr → Bool} {t : Tr} (h : q t = true) (hk : ∀ i (hi : i < t.kids.length), (t.kids[i]).every q = true) : t.every q = true := by
  rw [every_eq, h, show (t.kids.all fun k => k.every q) = true from List.all_eq_true.2 fun k hk' => by obtain ⟨i, hi, rfl⟩ := List.getElem_of_mem hk'; exact hk i hi]; rfl
theorem formed_no1 {t : Tr} (h : ¬ (1 ≤ t.op ∧ t.op ≤ 21)) : formedB t = false := by
  unfold formedB
  rw [show (decide (1 ≤ t.op) && decide (t.op ≤ 21)) = false from by rw [← Bool.decide_and, decide_eq_false_iff_not]; exact h]; rfl
theorem formed_no2 {t : Tr} (h : t.kids.length ≠ kidsN t.op) : formedB t = false := by
  unfold formedB
  rw [show (t.kids.length == kidsN t.op) = false from by rw [beq_eq_false_iff_ne]; exact h, Bool.and_false]; rfl
theorem formed_no3 {t : Tr} (h : (if t.op = 3 then nameB t.name.data.toList else t.name.toList.isEmpty) = false) : formedB t = false := by
  unfold formedB; rw [h, Bool.and_false]
theorem formed_yes {t : Tr} (h1 : 1 ≤ t.op ∧ t.op ≤ 21) (h2 : t.kids.length = kidsN t.op) (h3 : (if t.op = 3 then nameB t.name.data.toList else t.name.toList.isEmpty) = true) : formedB t = true := by
  unfold formedB; rw [h3, decide_eq_true h1.1, decide_eq_true h1.2, show (t.kids.length == kidsN t.op) = true from by rw [beq_iff_eq]; exact h2]; rfl
theorem right_no {ob : Nat → Bool} {t : Tr} (h : formedB t = false) : rightQ ob t = false := by unfold rightQ; rw [h]; rfl

theorem right_kids {ob : Nat → Bool} {t : Tr} (h : rightQ ob t = true) : kidsR t.op = ((t.kids.length : Nat) : Int) := by
  unfold rightQ formedB at h
  simp only [Bool.and_eq_true, decide_eq_true_eq, beq_iff_eq] at h
  obtain ⟨⟨⟨⟨h1, h2⟩, h3⟩, _⟩, _⟩ := h
  unfold kidsR
  rw [if_pos ⟨h1, h2⟩, h3]
def FormedDoes (m : Int) (ob : Nat → Bool) (t : Tr) : Prop := ∀ (kv : Value) (w : World), IsF w t kv → t.size ≤ 1099511627776 → t.Fine →
  Calls Tryz.prog 81 #[.agg #[.int .u8 (t.op : Nat), .string t.name, kv], .int .i64 m] w fun e w' => e = .returned (.bool (t.every (rightQ ob))) ∧ Kept [] w w'

set_option maxHeartbeats 2000000 in
set_option maxRecDepth 20000 in
theorem formed_ref (m : Int) (ob : Nat → Bool) (hmo : (m = 1 ∧ ob = futureB) ∨ (m = 2 ∧ ob = pastB)) (t : Tr) : FormedDoes m ob t := by
  induction t using Tr.ind with
  | h t ih =>
    intro kv w hI hs hF
    obtain ⟨kad, kcap, rfl⟩ := hI.slice
    obtain ⟨⟨hop, hnm⟩, hFk⟩ := (Tr.all_eq t).1 hF
    have HI : Hid (IsT (fun k => k < w.heap.size) w t (.slice kad t.kids.length kcap)) := hI
    have HIH : Hid _ := fun k hk => ih k hk
    have HFK : Hid _ := hFk
    have hlen : t.kids.length ≤ 1099511627776 := by have := t.kids_size; omega
    obtain ⟨r, hr⟩ : ∃ r, t.every (rightQ ob) = r := ⟨_, rfl⟩
    rw [hr]
    have HR : Hid (t.every (rightQ ob) = r) := hr
    obtain ⟨kn, hkn⟩ : ∃ kn, kidsR t.op = kn := ⟨_, rfl⟩
    obtain ⟨nb, hnb⟩ : ∃ nb, nameB t.name.data.toList = nb := ⟨_, rfl⟩
    have HKN : Hid _ := fun W => refKids_any t.op W
    have HNB : Hid _ := fun W => refName_any t.name W hnm
    simp only [hkn] at HKN
    simp only [hnb] at HNB
    have HKD : Hid _ := hkn
    have HND : Hid _ := hnb
    obtain ⟨V, hV⟩ : ∃ V, w.alloc (.cells #[.int .u8 (t.op : Nat), .string t.name, .slice kad t.kids.length kcap] 25) = V := ⟨_, rfl⟩
    have HKV : Hid (Kept [] w V) := by show Kept [] w V; rw [← hV]; exact (Kept.refl [] w).alloc _
    have HB0 : Hid (For3 V w.heap.size (.int .u8 (t.op : Nat)) (.string t.name) (.slice kad t.kids.length kcap)) := by show For3 V _ _ _ _; rw [← hV]; exact al0 _ _
    have HV : Hid _ := hV
    have HS : Hid _ := hs
    clear hI ih hr hkn hnb hF hFk hV hs
    go_enter Tryz.func81, Tryz.ntmps81
    obtain ⟨b0, b1, b2, _⟩ := HB0.out.cells
    go_upto_region 3 with (first
      | (go_at_call 106; rw [HV.out]; refine (HKN.out _).mono ?_; rintro e w' ⟨rfl, hw⟩; rw [hw]; clear hw)
      | (go_at_call 33; refine (HNB.out _).mono ?_; rintro e w'' ⟨rfl, hw⟩; rw [hw]; clear hw))
    clear HV
    go_cut [7] from 17 to 24 (fun s wx => s = .bool (futureB t.op) ∧ wx = V)
    case first =>
      clear HKN HNB HR HIH HI HFK HKD HND
      by_cases h9 : 9 ≤ (t.op : Int)
      · by_cases h15 : (t.op : Int) ≤ 15
        · go_wp2_with fail
          go_meet
          exact ⟨congrArg Value.bool (by unfold futureB; rw [decide_eq_true (show 9 ≤ t.op by omega), decide_eq_true (show t.op ≤ 15 by omega)]; rfl), rfl⟩
        · go_wp2_with fail
          go_meet
          exact ⟨congrArg Value.bool (by unfold futureB; rw [decide_eq_false (show ¬ t.op ≤ 15 by omega), Bool.and_false]), rfl⟩
      · go_wp2_with fail
        go_meet
        exact ⟨congrArg Value.bool (by unfold futureB; rw [decide_eq_false (show ¬ 9 ≤ t.op by omega), Bool.false_and]), rfl⟩
    case rest =>
    obtain ⟨rfl, hw⟩ := hcut
    rw [hw]
    clear hw
    obtain ⟨fu, hfu⟩ : ∃ fu, futureB t.op = fu := ⟨_, rfl⟩
    rw [hfu]
    have HFU : Hid _ := hfu
    clear hfu
    go_upto_region 5 with fail
    go_cut [69] from 28 to 69 (fun s wx => s = .bool (!rightQ ob t) ∧ wx = V)
    case first =>
      clear HKN HNB HR HIH HI HFK
      rcases hmo with ⟨rfl, rfl⟩ | ⟨rfl, rfl⟩
      · skip
        by_cases ho : 1 ≤ t.op ∧ t.op ≤ 21
        · have hkn : kn = ((kidsN t.op : Nat) : Int) := by rw [← HKD.out]; exact if_pos ho
          have hk0 : ¬ (kn < 0) := by omega
          by_cases hl : t.kids.length = kidsN t.op
          · have hl1 : ((t.kids.length : Int) != kn) = false := by simp only [bne_eq_false_iff_eq]; omega
            by_cases h3 : t.op = 3
            · have h31 : ((t.op : Int) == 3) = true := by rw [beq_iff_eq]; omega
              have h32 : ((t.op : Int) != 3) = false := by simp only [bne_eq_false_iff_eq]; omega
              cases nb with
              | false =>
                have hq : rightQ futureB t = false := right_no (formed_no3 (by rw [if_pos h3]; exact HND.out))
                have HQ : Hid _ := hq
                clear hq hl h3 ho hkn
                go_wp2_with fail
                go_meet
                exact ⟨congrArg Value.bool (by rw [HQ.out]; rfl), rfl⟩
              | true =>
                have hfm : formedB t = true := formed_yes ho hl (by rw [if_pos h3]; exact HND.out)
                cases fu with
                | true =>
                  have hq : rightQ futureB t = false := by unfold rightQ; rw [hfm, HFU.out]; rfl
                  have HQ : Hid _ := hq
                  clear hq hfm hl h3 ho hkn
                  go_wp2_with fail
                  go_meet
                  exact ⟨congrArg Value.bool (by rw [HQ.out]; rfl), rfl⟩
                | false =>
                  have hq : rightQ futureB t = true := by unfold rightQ; rw [hfm, HFU.out]; rfl
                  have HQ : Hid _ := hq
                  clear hq hfm hl h3 ho hkn
                  go_wp2_with fail
                  go_meet
                  exact ⟨congrArg Value.bool (by rw [HQ.out]; rfl), rfl⟩
            · have h31 : ((t.op : Int) == 3) = false := by rw [beq_eq_false_iff_ne]; omega
              have h32 : ((t.op : Int) != 3) = true := by rw [bne_iff_ne]; omega
              cases he : t.name.toList.isEmpty with
              | false =>
                have hq : rightQ futureB t = false := right_no (formed_no3 (by rw [if_neg h3]; exact he))
                have HQ : Hid _ := hq
                clear hq hl h3 ho hkn
                go_wp2_with fail
                go_meet
                exact ⟨congrArg Value.bool (by rw [HQ.out]; rfl), rfl⟩
              | true =>
                have hfm : formedB t = true := formed_yes ho hl (by rw [if_neg h3]; exact he)
                cases fu with
                | true =>
                  have hq : rightQ futureB t = false := by unfold rightQ; rw [hfm, HFU.out]; rfl
                  have HQ : Hid _ := hq
                  clear hq hfm hl h3 ho hkn
                  go_wp2_with fail
                  go_meet
                  exact ⟨congrArg Value.bool (by rw [HQ.out]; rfl), rfl⟩
                | false =>
                  have hq : rightQ futureB t = true := by unfold rightQ; rw [hfm, HFU.out]; rfl
                  have HQ : Hid _ := hq
                  clear hq hfm hl h3 ho hkn
                  go_wp2_with fail
                  go_meet
                  exact ⟨congrArg Value.bool (by rw [HQ.out]; rfl), rfl⟩
          · have hl1 : ((t.kids.length : Int) != kn) = true := by rw [bne_iff_ne]; omega
            have hq : rightQ futureB t = false := right_no (formed_no2 hl)
            have HQ : Hid _ := hq
            clear hq hl ho hkn
            go_wp2_with fail
            go_meet
            exact ⟨congrArg Value.bool (by rw [HQ.out]; rfl), rfl⟩
        · have hkn : kn = -1 := by rw [← HKD.out]; exact if_neg ho
          have hq : rightQ futureB t = false := right_no (formed_no1 ho)
          have HQ : Hid _ := hq
          clear hq ho
          subst hkn
          go_wp2_with fail
          go_meet
          exact ⟨congrArg Value.bool (by rw [HQ.out]; rfl), rfl⟩
      · skip
        by_cases ho : 1 ≤ t.op ∧ t.op ≤ 21
        · have hkn : kn = ((kidsN t.op : Nat) : Int) := by rw [← HKD.out]; exact if_pos ho
          have hk0 : ¬ (kn < 0) := by omega
          by_cases hl : t.kids.length = kidsN t.op
          · have hl1 : ((t.kids.length : Int) != kn) = false := by simp only [bne_eq_false_iff_eq]; omega
            by_cases h3 : t.op = 3
            · have h31 : ((t.op : Int) == 3) = true := by rw [beq_iff_eq]; omega
              have h32 : ((t.op : Int) != 3) = false := by simp only [bne_eq_false_iff_eq]; omega
              cases nb with
              | false =>
                have hq : rightQ pastB t = false := right_no (formed_no3 (by rw [if_pos h3]; exact HND.out))
                have HQ : Hid _ := hq
                clear hq hl h3 ho hkn
                go_wp2_with fail
                go_meet
                exact ⟨congrArg Value.bool (by rw [HQ.out]; rfl), rfl⟩
              | true =>
                have hfm : formedB t = true := formed_yes ho hl (by rw [if_pos h3]; exact HND.out)
                have hq : rightQ pastB t = !(decide (16 ≤ (t.op : Int))) := by
                  unfold rightQ pastB; rw [hfm, decide_eq_true ho.2, Bool.and_true, Bool.true_and]; congr 1; rw [decide_eq_decide]; omega
                have HQ : Hid _ := hq
                clear hq hfm hl h3 ho hkn
                go_wp2_with fail
                go_meet
                exact ⟨congrArg Value.bool (by rw [HQ.out, Bool.not_not]), rfl⟩
            · have h31 : ((t.op : Int) == 3) = false := by rw [beq_eq_false_iff_ne]; omega
              have h32 : ((t.op : Int) != 3) = true := by rw [bne_iff_ne]; omega
              cases he : t.name.toList.isEmpty with
              | false =>
                have hq : rightQ pastB t = false := right_no (formed_no3 (by rw [if_neg h3]; exact he))
                have HQ : Hid _ := hq
                clear hq hl h3 ho hkn
                go_wp2_with fail
                go_meet
                exact ⟨congrArg Value.bool (by rw [HQ.out]; rfl), rfl⟩
              | true =>
                have hfm : formedB t = true := formed_yes ho hl (by rw [if_neg h3]; exact he)
                have hq : rightQ pastB t = !(decide (16 ≤ (t.op : Int))) := by
                  unfold rightQ pastB; rw [hfm, decide_eq_true ho.2, Bool.and_true, Bool.true_and]; congr 1; rw [decide_eq_decide]; omega
                have HQ : Hid _ := hq
                clear hq hfm hl h3 ho hkn
                go_wp2_with fail
                go_meet
                exact ⟨congrArg Value.bool (by rw [HQ.out, Bool.not_not]), rfl⟩
          · have hl1 : ((t.kids.length : Int) != kn) = true := by rw [bne_iff_ne]; omega
            have hq : rightQ pastB t = false := right_no (formed_no2 hl)
            have HQ : Hid _ := hq
            clear hq hl ho hkn
            go_wp2_with fail
            go_meet
            exact ⟨congrArg Value.bool (by rw [HQ.out]; rfl), rfl⟩
        · have hkn : kn = -1 := by rw [← HKD.out]; exact if_neg ho
          have hq : rightQ pastB t = false := right_no (formed_no1 ho)
          have HQ : Hid _ := hq
          clear hq ho
          subst hkn
          go_wp2_with fail
          go_meet
          exact ⟨congrArg Value.bool (by rw [HQ.out]; rfl), rfl⟩
    case rest =>
    obtain ⟨rfl, hw⟩ := hcut
    rw [hw]
    clear hw
    cases hq : rightQ ob t with
    | false =>
      have hrf : r = false := by rw [← HR.out]; exact every_bad hq
      subst hrf
      clear hq
      go_wp2
      go_ret
      exact ⟨rfl, HKV.out⟩
    | true =>
      have hkn : kn = ((t.kids.length : Nat) : Int) := by rw [← HKD.out]; exact right_kids hq
      subst hkn
      have HQ : Hid _ := hq
      clear hq
      rw [Bool.not_true]
      go_wp2
      go_loopw [9, 10] (fun v _ wr => ∃ i : Nat, v = .int .i64 (i : Nat) ∧ i ≤ t.kids.length ∧ Hid (Kept [] V wr ∧ ∀ j (h : j < t.kids.length), j < i → (t.kids[j]).every (rightQ ob) = true)) (fun v _ _ => t.kids.length - (intOf v).toNat)
      case atStart => exact ⟨0, rfl, Nat.zero_le _, Kept.refl [] V, fun j _ h => by omega⟩
      case round =>
        obtain ⟨i, rfl, hi, HW⟩ := hrel
        clear b0 b1 b2
        obtain ⟨_, _, b2, _⟩ := (HB0.out.kept HW.out.1).cells
        by_cases hlt : i < t.kids.length
        · have hli : (i : Int) < (t.kids.length : Int) := by omega
          obtain ⟨kb, koff, rfl, _, hkid⟩ := HI.out.kid (by omega)
          obtain ⟨kv, c0, c1, c2, hIk⟩ := hkid i hlt
          obtain ⟨ckad, ckcap, rfl⟩ := hIk.slice
          obtain ⟨k, hk⟩ : ∃ k, t.kids[i] = k := ⟨_, rfl⟩
          have hkm : k ∈ t.kids := by rw [← hk]; exact List.getElem_mem _
          rw [hk] at c0 c1 c2 hIk
          have kw : Kept [] w wr := HKV.out.trans HW.out.1 (by simp) (by simp)
          have c0 := cell_kept0 kw c0
          have c1 := cell_kept0 kw c1
          have c2 := cell_kept0 kw c2
          obtain ⟨kr, hkr⟩ : ∃ kr, k.every (rightQ ob) = kr := ⟨_, rfl⟩
          have HREC : Hid _ := fun (_ : Unit) => HIH.out k hkm (.slice ckad k.kids.length ckcap) wr (IsF.kept hIk kw) (by have := Tr.kid_size hkm; have := HS.out; omega) (HFK.out k hkm)
          simp only [hkr] at HREC
          have HKK : Hid _ := hk
          have HKM : Hid _ := hkm
          have HKR : Hid _ := hkr
          clear hkid hk hIk hkm kw hkr
          cases kr with
          | true =>
            go_wp2_with (go_at_call 81; refine (HREC.out ()).mono ?_; rintro e W5 ⟨rfl, hk5⟩)
            go_roundw
            case rel =>
              refine ⟨i + 1, by go_num, by omega, HW.out.1.trans hk5 (by simp) (by simp), fun j h hj => ?_⟩
              rcases Nat.lt_or_ge j i with hh | hh
              · exact HW.out.2 j h hh
              · obtain rfl : j = i := by omega
                rw [HKK.out]
                exact HKR.out
            case measure => simp [intOf]; omega
          | false =>
            have hrf : r = false := by rw [← HR.out]; exact every_kid HKM.out HKR.out
            subst hrf
            go_wp2_with (go_at_call 81; refine (HREC.out ()).mono ?_; rintro e W5 ⟨rfl, hk5⟩)
            go_ret
            exact ⟨rfl, HKV.out.trans (HW.out.1.trans hk5 (H := []) (by simp) (by simp)) (by simp) (by simp)⟩
        · obtain rfl : i = t.kids.length := by omega
          have hli : ¬ ((t.kids.length : Int) < (t.kids.length : Int)) := by omega
          have hrf : r = true := by rw [← HR.out]; exact every_good HQ.out (fun i hi => HW.out.2 i hi hi)
          subst hrf
          go_wp2
          go_ret
          exact ⟨rfl, HKV.out.trans HW.out.1 (by simp) (by simp)⟩

end Go.Proofs.YtnjajafmmociiaaGreatDoor

/- augurref03.Formed: the form of any tree. -/
namespace Go.Proofs.YtnjajafmmociiaaGreatDoor
open Go.RowKit Go.Shelf

/-- No operator is left out. -/
def noneB (_ : Nat) : Bool := false
theorem right_none : rightQ noneB = formedB := by
  funext x
  simp [rightQ, noneB]
set_option maxHeartbeats 2000000 in
set_option maxRecDepth 20000 in
theorem formed_ref0 (t : Tr) : FormedDoes 0 noneB t := by
  induction t using Tr.ind with
  | h t ih =>
    intro kv w hI hs hF
    obtain ⟨kad, kcap, rfl⟩ := hI.slice
    obtain ⟨⟨hop, hnm⟩, hFk⟩ := (Tr.all_eq t).1 hF
    have HI : Hid (IsT (fun k => k < w.heap.size) w t (.slice kad t.kids.length kcap)) := hI
    have HIH : Hid _ := fun k hk => ih k hk
    have HFK : Hid _ := hFk
    have hlen : t.kids.length ≤ 1099511627776 := by have := t.kids_size; omega
    obtain ⟨r, hr⟩ : ∃ r, t.every (rightQ noneB) = r := ⟨_, rfl⟩
    rw [hr]
    have HR : Hid (t.every (rightQ noneB) = r) := hr
    obtain ⟨kn, hkn⟩ : ∃ kn, kidsR t.op = kn := ⟨_, rfl⟩
    obtain ⟨nb, hnb⟩ : ∃ nb, nameB t.name.data.toList = nb := ⟨_, rfl⟩
    have HKN : Hid _ := fun W => refKids_any t.op W
    have HNB : Hid _ := fun W => refName_any t.name W hnm
    simp only [hkn] at HKN
    simp only [hnb] at HNB
    have HKD : Hid _ := hkn
    have HND : Hid _ := hnb
    obtain ⟨V, hV⟩ : ∃ V, w.alloc (.cells #[.int .u8 (t.op : Nat), .string t.name, .slice kad t.kids.length kcap] 25) = V := ⟨_, rfl⟩
    have HKV : Hid (Kept [] w V) := by show Kept [] w V; rw [← hV]; exact (Kept.refl [] w).alloc _
    have HB0 : Hid (For3 V w.heap.size (.int .u8 (t.op : Nat)) (.string t.name) (.slice kad t.kids.length kcap)) := by show For3 V _ _ _ _; rw [← hV]; exact al0 _ _
    have HV : Hid _ := hV
    have HS : Hid _ := hs
    clear hI ih hr hkn hnb hF hFk hV hs
    go_enter Tryz.func81, Tryz.ntmps81
    obtain ⟨b0, b1, b2, _⟩ := HB0.out.cells
    go_upto_region 3 with (first
      | (go_at_call 106; rw [HV.out]; refine (HKN.out _).mono ?_; rintro e w' ⟨rfl, hw⟩; rw [hw]; clear hw)
      | (go_at_call 33; refine (HNB.out _).mono ?_; rintro e w'' ⟨rfl, hw⟩; rw [hw]; clear hw))
    clear HV
    go_cut [7] from 17 to 24 (fun s wx => s = .bool (futureB t.op) ∧ wx = V)
    case first =>
      clear HKN HNB HR HIH HI HFK HKD HND
      by_cases h9 : 9 ≤ (t.op : Int)
      · by_cases h15 : (t.op : Int) ≤ 15
        · go_wp2_with fail
          go_meet
          exact ⟨congrArg Value.bool (by unfold futureB; rw [decide_eq_true (show 9 ≤ t.op by omega), decide_eq_true (show t.op ≤ 15 by omega)]; rfl), rfl⟩
        · go_wp2_with fail
          go_meet
          exact ⟨congrArg Value.bool (by unfold futureB; rw [decide_eq_false (show ¬ t.op ≤ 15 by omega), Bool.and_false]), rfl⟩
      · go_wp2_with fail
        go_meet
        exact ⟨congrArg Value.bool (by unfold futureB; rw [decide_eq_false (show ¬ 9 ≤ t.op by omega), Bool.false_and]), rfl⟩
    case rest =>
    obtain ⟨rfl, hw⟩ := hcut
    rw [hw]
    clear hw
    obtain ⟨fu, hfu⟩ : ∃ fu, futureB t.op = fu := ⟨_, rfl⟩
    rw [hfu]
    have HFU : Hid _ := hfu
    clear hfu
    go_upto_region 5 with fail
    go_cut [69] from 28 to 69 (fun s wx => s = .bool (!rightQ noneB t) ∧ wx = V)
    case first =>
      clear HKN HNB HR HIH HI HFK
      by_cases ho : 1 ≤ t.op ∧ t.op ≤ 21
      · have hkn : kn = ((kidsN t.op : Nat) : Int) := by rw [← HKD.out]; exact if_pos ho
        have hk0 : ¬ (kn < 0) := by omega
        by_cases hl : t.kids.length = kidsN t.op
        · have hl1 : ((t.kids.length : Int) != kn) = false := by simp only [bne_eq_false_iff_eq]; omega
          by_cases h3 : t.op = 3
          · have h31 : ((t.op : Int) == 3) = true := by rw [beq_iff_eq]; omega
            have h32 : ((t.op : Int) != 3) = false := by simp only [bne_eq_false_iff_eq]; omega
            cases nb with
            | false =>
              have hq : rightQ noneB t = false := right_no (formed_no3 (by rw [if_pos h3]; exact HND.out))
              have HQ : Hid _ := hq
              clear hq hl h3 ho hkn
              go_wp2_with fail
              go_meet
              exact ⟨congrArg Value.bool (by rw [HQ.out]; rfl), rfl⟩
            | true =>
              have hfm : formedB t = true := formed_yes ho hl (by rw [if_pos h3]; exact HND.out)
              have hq : rightQ noneB t = true := by unfold rightQ noneB; rw [hfm]; rfl
              have HQ : Hid _ := hq
              clear hq hfm hl h3 ho hkn
              go_wp2_with fail
              go_meet
              exact ⟨congrArg Value.bool (by rw [HQ.out]; rfl), rfl⟩
          · have h31 : ((t.op : Int) == 3) = false := by rw [beq_eq_false_iff_ne]; omega
            have h32 : ((t.op : Int) != 3) = true := by rw [bne_iff_ne]; omega
            cases he : t.name.toList.isEmpty with
            | false =>
              have hq : rightQ noneB t = false := right_no (formed_no3 (by rw [if_neg h3]; exact he))
              have HQ : Hid _ := hq
              clear hq hl h3 ho hkn
              go_wp2_with fail
              go_meet
              exact ⟨congrArg Value.bool (by rw [HQ.out]; rfl), rfl⟩
            | true =>
              have hfm : formedB t = true := formed_yes ho hl (by rw [if_neg h3]; exact he)
              have hq : rightQ noneB t = true := by unfold rightQ noneB; rw [hfm]; rfl
              have HQ : Hid _ := hq
              clear hq hfm hl h3 ho hkn
              go_wp2_with fail
              go_meet
              exact ⟨congrArg Value.bool (by rw [HQ.out]; rfl), rfl⟩
        · have hl1 : ((t.kids.length : Int) != kn) = true := by rw [bne_iff_ne]; omega
          have hq : rightQ noneB t = false := right_no (formed_no2 hl)
          have HQ : Hid _ := hq
          clear hq hl ho hkn
          go_wp2_with fail
          go_meet
          exact ⟨congrArg Value.bool (by rw [HQ.out]; rfl), rfl⟩
      · have hkn : kn = -1 := by rw [← HKD.out]; exact if_neg ho
        have hq : rightQ noneB t = false := right_no (formed_no1 ho)
        have HQ : Hid _ := hq
        clear hq ho
        subst hkn
        go_wp2_with fail
        go_meet
        exact ⟨congrArg Value.bool (by rw [HQ.out]; rfl), rfl⟩
    case rest =>
    obtain ⟨rfl, hw⟩ := hcut
    rw [hw]
    clear hw
    cases hq : rightQ noneB t with
    | false =>
      have hrf : r = false := by rw [← HR.out]; exact every_bad hq
      subst hrf
      clear hq
      go_wp2
      go_ret
      exact ⟨rfl, HKV.out⟩
    | true =>
      have hkn : kn = ((t.kids.length : Nat) : Int) := by rw [← HKD.out]; exact right_kids hq
      subst hkn
      have HQ : Hid _ := hq
      clear hq
      rw [Bool.not_true]
      go_wp2
      go_loopw [9, 10] (fun v _ wr => ∃ i : Nat, v = .int .i64 (i : Nat) ∧ i ≤ t.kids.length ∧ Hid (Kept [] V wr ∧ ∀ j (h : j < t.kids.length), j < i → (t.kids[j]).every (rightQ noneB) = true)) (fun v _ _ => t.kids.length - (intOf v).toNat)
      case atStart => exact ⟨0, rfl, Nat.zero_le _, Kept.refl [] V, fun j _ h => by omega⟩
      case round =>
        obtain ⟨i, rfl, hi, HW⟩ := hrel
        clear b0 b1 b2
        obtain ⟨_, _, b2, _⟩ := (HB0.out.kept HW.out.1).cells
        by_cases hlt : i < t.kids.length
        · have hli : (i : Int) < (t.kids.length : Int) := by omega
          obtain ⟨kb, koff, rfl, _, hkid⟩ := HI.out.kid (by omega)
          obtain ⟨kv, c0, c1, c2, hIk⟩ := hkid i hlt
          obtain ⟨ckad, ckcap, rfl⟩ := hIk.slice
          obtain ⟨k, hk⟩ : ∃ k, t.kids[i] = k := ⟨_, rfl⟩
          have hkm : k ∈ t.kids := by rw [← hk]; exact List.getElem_mem _
          rw [hk] at c0 c1 c2 hIk
          have kw : Kept [] w wr := HKV.out.trans HW.out.1 (by simp) (by simp)
          have c0 := cell_kept0 kw c0
          have c1 := cell_kept0 kw c1
          have c2 := cell_kept0 kw c2
          obtain ⟨kr, hkr⟩ : ∃ kr, k.every (rightQ noneB) = kr := ⟨_, rfl⟩
          have HREC : Hid _ := fun (_ : Unit) => HIH.out k hkm (.slice ckad k.kids.length ckcap) wr (IsF.kept hIk kw) (by have := Tr.kid_size hkm; have := HS.out; omega) (HFK.out k hkm)
          simp only [hkr] at HREC
          have HKK : Hid _ := hk
          have HKM : Hid _ := hkm
          have HKR : Hid _ := hkr
          clear hkid hk hIk hkm kw hkr
          cases kr with
          | true =>
            go_wp2_with (go_at_call 81; refine (HREC.out ()).mono ?_; rintro e W5 ⟨rfl, hk5⟩)
            go_roundw
            case rel =>
              refine ⟨i + 1, by go_num, by omega, HW.out.1.trans hk5 (by simp) (by simp), fun j h hj => ?_⟩
              rcases Nat.lt_or_ge j i with hh | hh
              · exact HW.out.2 j h hh
              · obtain rfl : j = i := by omega
                rw [HKK.out]
                exact HKR.out
            case measure => simp [intOf]; omega
          | false =>
            have hrf : r = false := by rw [← HR.out]; exact every_kid HKM.out HKR.out
            subst hrf
            go_wp2_with (go_at_call 81; refine (HREC.out ()).mono ?_; rintro e W5 ⟨rfl, hk5⟩)
            go_ret
            exact ⟨rfl, HKV.out.trans (HW.out.1.trans hk5 (H := []) (by simp) (by simp)) (by simp) (by simp)⟩
        · obtain rfl : i = t.kids.length := by omega
          have hli : ¬ ((t.kids.length : Int) < (t.kids.length : Int)) := by omega
          have hrf : r = true := by rw [← HR.out]; exact every_good HQ.out (fun i hi => HW.out.2 i hi hi)
          subst hrf
          go_wp2
          go_ret
          exact ⟨rfl, HKV.out.trans HW.out.1 (by simp) (by simp)⟩
set_option maxHeartbeats 400000 in
theorem refFormed_any (t : Tr) (kv : Value) (w : World) (hI : IsF w t kv) (hs : t.size ≤ 1099511627776) (hF : t.Fine) :
    Calls Tryz.prog 32 #[.agg #[.int .u8 (t.op : Nat), .string t.name, kv]] w fun e w' => e = .returned (.bool (t.every formedB)) ∧ Kept [] w w' := by
  obtain ⟨kad, kcap, rfl⟩ := hI.slice
  have HR : Hid _ := fun W (k : Kept [] w W) => formed_ref0 t _ W (hI.kept k) hs hF
  rw [right_none] at HR
  clear hI hF
  go_enter Tryz.func32, Tryz.ntmps32
  go_wp2_with (go_at_call 81; refine (HR.out _ ((Kept.refl [] w).alloc _)).mono ?_; rintro e W1 ⟨rfl, hk1⟩)
  go_ret
  exact ⟨rfl, ((Kept.refl [] w).alloc _).trans hk1 (by simp) (by simp)⟩
end Go.Proofs.YtnjajafmmociiaaGreatDoor
