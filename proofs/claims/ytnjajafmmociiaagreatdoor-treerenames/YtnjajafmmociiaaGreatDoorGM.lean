/- How much the laws find a tree to hold. -/
import Derived.Test.YtnjajafmmociiaaGreatDoorTrReb
namespace Go.Proofs.YtnjajafmmociiaaGreatDoor
open Go.RowKit Go.Shelf

def Tr.wsum : Tr → Nat := Tr.para (fun t rs => 1 + t.name.size + rs.sum)
theorem Tr.wsum_eq (t : Tr) : t.wsum = 1 + t.name.size + (t.kids.map Tr.wsum).sum := Tr.para_eq _ t
/-- Names within reach. -/
def Tr.Modest (t : Tr) : Prop := t.All (fun x => x.name.size ≤ 140737488351232)
theorem sum_le_sum {α : Type} (f g : α → Nat) : ∀ l : List α, (∀ x ∈ l, f x ≤ g x) → (l.map f).sum ≤ (l.map g).sum
  | [], _ => Nat.le_refl _
  | a :: l, h => by
    simp only [List.map_cons, List.sum_cons]
    have := sum_le_sum f g l (fun x hx => h x (by simp [hx]))
    have := h a (by simp)
    omega
theorem Tr.size_wsum (t : Tr) : t.size ≤ t.wsum := by
  induction t using Tr.ind with
  | h t ih =>
    rw [Tr.size_eq, Tr.wsum_eq]
    have := sum_le_sum Tr.size Tr.wsum t.kids ih
    omega
theorem Tr.depth_size (t : Tr) : t.depth ≤ t.size := by
  induction t using Tr.ind with
  | h t ih =>
    rw [Tr.size_eq, Tr.depth_eq]
    have key : ∀ (l : List Tr) (a : Nat), (∀ k ∈ l, k.depth ≤ k.size) → (l.map Tr.depth).foldl max a ≤ a + (l.map Tr.size).sum := by
      intro l
      induction l with
      | nil => intro a _; simp
      | cons x r ih2 =>
        intro a hk
        simp only [List.map_cons, List.foldl_cons, List.sum_cons]
        have h1 := ih2 (max a x.depth) (fun k h => hk k (by simp [h]))
        have h2 := hk x (by simp)
        omega
    have := key t.kids 0 ih
    omega
def WeightDoes (t : Tr) : Prop := ∀ (d : Nat) (x : Int) (kv : Value) (w : World), x = (d : Int) → d ≤ 2001 → IsF w t kv → t.Modest →
  Calls Tryz.prog 80 #[.agg #[.int .u8 (t.op : Nat), .string t.name, kv], .int .i64 x] w fun e w' => ∃ n : Nat, e = .returned (.int .i64 (n : Nat)) ∧ 1 ≤ n ∧ n ≤ 140737488351233 + (2002 - d) * 2147483648 ∧ (n ≤ 2147483647 → t.wsum = n) ∧ Kept [] w w'
theorem sum_take (l : List Nat) (i : Nat) (h : i < l.length) : (l.take (i + 1)).sum = (l.take i).sum + l[i] := by
  rw [List.take_succ_eq_append_getElem h, List.sum_append]
  simp

set_option maxHeartbeats 1000000 in
set_option maxRecDepth 20000 in
theorem weight_any (t : Tr) : WeightDoes t := by
  induction t using Tr.ind with
  | h t ih =>
    intro d x kv w hx hd hI hM
    subst hx
    obtain ⟨kad, kcap, rfl⟩ := hI.slice
    obtain ⟨hn, hMk⟩ := (Tr.all_eq t).1 hM
    have HI : Hid (IsT (fun k => k < w.heap.size) w t (.slice kad t.kids.length kcap)) := hI
    have HIH : Hid _ := fun k hk => ih k hk
    have HMK : Hid _ := hMk
    have HWS : Hid _ := t.wsum_eq
    have hnI : (t.name.size : Int) ≤ 140737488351232 := by omega
    clear hI ih hM hMk
    by_cases hd0 : d = 2001
    · subst hd0
      go_enter Tryz.func80, Tryz.ntmps80
      go_wp2
      go_ret
      exact ⟨2147483648, rfl, by omega, by omega, fun h => by omega, (Kept.refl [] w).alloc _⟩
    · have hdI : ¬ ((d : Int) > 2000) := by omega
      have hdI2 : ¬ (2000 < (d : Int)) := by omega
      go_enter Tryz.func80, Tryz.ntmps80
      go_wp2
      obtain ⟨V, hV⟩ : ∃ V, w.alloc (.cells #[.int .u8 (t.op : Nat), .string t.name, .slice kad t.kids.length kcap] 25) = V := ⟨_, rfl⟩
      have kV : Kept [] w V := by rw [← hV]; exact (Kept.refl [] w).alloc _
      have v0 : For3 V w.heap.size (.int .u8 (t.op : Nat)) (.string t.name) (.slice kad t.kids.length kcap) := by rw [← hV]; exact al0 _ _
      rw [hV]
      have HKV : Hid (Kept [] w V) := kV
      have HV0 : Hid (For3 V w.heap.size (.int .u8 (t.op : Nat)) (.string t.name) (.slice kad t.kids.length kcap)) := v0
      clear hV kV v0
      go_loopw [5, 6] (fun v5 v6 wr => ∃ n i : Nat, v5 = .int .i64 (n : Nat) ∧ v6 = .int .i64 (i : Nat) ∧ i ≤ t.kids.length ∧ i < n ∧ n ≤ 140737488351233 + (2002 - d) * 2147483648 ∧ Hid (Kept [] V wr ∧ (n ≤ 2147483647 → n = 1 + t.name.size + ((t.kids.map Tr.wsum).take i).sum))) (fun _ v6 _ => t.kids.length - (intOf v6).toNat)
      case atStart => exact ⟨1 + t.name.size, 0, by simp, rfl, Nat.zero_le _, by omega, by omega, Kept.refl [] V, fun _ => by simp⟩
      case round =>
        obtain ⟨n, i, rfl, rfl, hi, hin, hnb, HR⟩ := hrel
        obtain ⟨b0, b1, b2, _⟩ := (HV0.out.kept HR.out.1).cells
        by_cases hlt : i < t.kids.length
        · have hli : (i : Int) < (t.kids.length : Int) := by omega
          by_cases hnB : n ≤ 2147483647
          · have hnBI : (n : Int) ≤ 2147483647 := by omega
            obtain ⟨kb, koff, rfl, _, hkid⟩ := HI.out.kid (by omega)
            obtain ⟨kv, c0, c1, c2, hIk⟩ := hkid i hlt
            obtain ⟨ckad, ckcap, rfl⟩ := hIk.slice
            obtain ⟨k, hk⟩ : ∃ k, t.kids[i] = k := ⟨_, rfl⟩
            have hkm : k ∈ t.kids := by rw [← hk]; exact List.getElem_mem _
            rw [hk] at c0 c1 c2 hIk
            have kw : Kept [] w wr := HKV.out.trans HR.out.1 (by simp) (by simp)
            have c0 := cell_kept0 kw c0
            have c1 := cell_kept0 kw c1
            have c2 := cell_kept0 kw c2
            have hrec := fun (_ : Unit) => HIH.out k hkm (d + 1) ((d : Int) + 1) (.slice ckad k.kids.length ckcap) wr rfl (by omega) (IsF.kept hIk kw) (HMK.out k hkm)
            have HREC : Hid _ := hrec
            have HKK : Hid _ := hk
            have hn0 := HR.out.2 hnB
            have HN0 : Hid _ := hn0
            clear hkid hrec hk hIk hkm hn0
            go_wp2_with (go_at_call 80; refine (HREC.out ()).mono ?_; rintro e W5 ⟨m, rfl, hm1, hm2, hm3, hk5⟩)
            go_roundw
            case rel =>
              refine ⟨n + m, i + 1, by go_num, by go_num, by omega, by omega, by omega, HR.out.1.trans hk5 (by simp) (by simp), fun hb => ?_⟩
              have hw := hm3 (by omega)
              rw [sum_take _ _ (by simpa using hlt), List.getElem_map, HKK.out, hw]
              have := HN0.out
              omega
            case measure => simp [intOf]; omega
          · have hnBI : ¬ ((n : Int) ≤ 2147483647) := by omega
            go_wp2
            go_ret
            exact ⟨n, rfl, by omega, hnb, fun h => by omega, HKV.out.trans HR.out.1 (by simp) (by simp)⟩
        · obtain rfl : i = t.kids.length := by omega
          have hli : ¬ ((t.kids.length : Int) < (t.kids.length : Int)) := by omega
          go_wp2
          go_ret
          refine ⟨n, rfl, by omega, hnb, fun h => ?_, HKV.out.trans HR.out.1 (by simp) (by simp)⟩
          have := HR.out.2 h
          rw [List.take_of_length_le (by simp)] at this
          rw [HWS.out, this]
end Go.Proofs.YtnjajafmmociiaaGreatDoor

/- Weight, and much: whether trees hold more than there is room for. -/
namespace Go.Proofs.YtnjajafmmociiaaGreatDoor
open Go.RowKit Go.Shelf

set_option maxHeartbeats 400000 in
theorem weightAll_any (t : Tr) (kv : Value) (w : World) (hI : IsF w t kv) (hM : t.Modest) :
    Calls Tryz.prog 31 #[.agg #[.int .u8 (t.op : Nat), .string t.name, kv]] w fun e w' => ∃ n : Nat, e = .returned (.int .i64 (n : Nat)) ∧ n ≤ 145036750680577 ∧ (n ≤ 1048576 → t.wsum = n) ∧ Kept [] w w' := by
  obtain ⟨kad, kcap, rfl⟩ := hI.slice
  have HW : Hid _ := fun W (k : Kept [] w W) => weight_any t 0 0 _ W rfl (by omega) (hI.kept k) hM
  clear hI hM
  go_enter Tryz.func31, Tryz.ntmps31
  go_wp2_with (go_at_call 80; refine (HW.out _ ((Kept.refl [] w).alloc _)).mono ?_; rintro e W5 ⟨n, rfl, h1, h2, h3, hk⟩)
  go_ret
  exact ⟨n, rfl, by omega, fun h => h3 (by omega), ((Kept.refl [] w).alloc _).trans hk (by simp) (by simp)⟩

set_option maxHeartbeats 1000000 in
set_option maxRecDepth 20000 in
theorem much_any (ts : List Tr) (kv : Value) (w : World) (hI : IsF w ⟨0, ⟨#[]⟩, ts⟩ kv) (hM : ∀ t ∈ ts, t.Modest) (hl : ts.length ≤ 3) :
    Calls Tryz.prog 6 #[kv] w fun e w' => ∃ n : Nat, e = .returned (.bool (decide (1048576 < n))) ∧ (n ≤ 1048576 → ∀ t ∈ ts, t.wsum ≤ 1048576) ∧ Kept [] w w' := by
  obtain ⟨kad, kcap, e⟩ := hI.slice
  have e' : kv = .slice kad ts.length kcap := e
  subst e'
  have HI : Hid (IsT (fun k => k < w.heap.size) w ⟨0, ⟨#[]⟩, ts⟩ (.slice kad ts.length kcap)) := hI
  have HM : Hid _ := hM
  clear hI hM e
  go_enter Tryz.func6, Tryz.ntmps6
  go_wp2
  go_loopw [3, 4] (fun v3 v4 wr => ∃ n i : Nat, v3 = .int .i64 (n : Nat) ∧ v4 = .int .i64 (i : Nat) ∧ i ≤ ts.length ∧ n ≤ 145036751729153 ∧ Hid (Kept [] w wr ∧ ∀ j (h : j < ts.length), j < i → n ≤ 1048576 → ts[j].wsum ≤ n)) (fun _ v4 _ => ts.length - (intOf v4).toNat)
  case atStart => exact ⟨0, 0, rfl, rfl, Nat.zero_le _, by omega, Kept.refl [] w, fun j _ h => by omega⟩
  case round =>
    obtain ⟨n, i, rfl, rfl, hi, hnb, HR⟩ := hrel
    by_cases hlt : i < ts.length
    · have hli : (i : Int) < (ts.length : Int) := by omega
      by_cases hnB : n ≤ 1048576
      · have hnBI : (n : Int) ≤ 1048576 := by omega
        obtain ⟨kb, koff, rfl, _, hkid⟩ := HI.out.kid (show 0 < ts.length by omega)
        obtain ⟨kv, c0, c1, c2, hIk⟩ := hkid i hlt
        obtain ⟨ckad, ckcap, rfl⟩ := hIk.slice
        obtain ⟨k, hk⟩ : ∃ k, ts[i] = k := ⟨_, rfl⟩
        have hkm : k ∈ ts := by rw [← hk]; exact List.getElem_mem _
        simp only [hk] at c0 c1 c2 hIk
        have kw : Kept [] w wr := HR.out.1
        have c0 := cell_kept0 kw c0
        have c1 := cell_kept0 kw c1
        have c2 := cell_kept0 kw c2
        have HREC : Hid _ := fun (_ : Unit) => weightAll_any k (.slice ckad k.kids.length ckcap) wr (IsF.kept hIk kw) (HM.out k hkm)
        have HKK : Hid _ := hk
        clear hkid hk hIk hkm kw
        go_wp2_with (go_at_call 31; refine (HREC.out ()).mono ?_; rintro e W5 ⟨m, rfl, hm2, hm3, hk5⟩)
        go_roundw
        case rel =>
          refine ⟨n + m, i + 1, by go_num, by go_num, by omega, by omega, HR.out.1.trans hk5 (by simp) (by simp), fun j h hj hb => ?_⟩
          rcases Nat.lt_or_ge j i with hh | hh
          · have := HR.out.2 j h hh (by omega); omega
          · obtain rfl : j = i := by omega
            rw [HKK.out, hm3 (by omega)]
            omega
        case measure => simp [intOf]; omega
      · have hnBI : ¬ ((n : Int) ≤ 1048576) := by omega
        have hg : (n : Int) > 1048576 := by omega
        go_wp2
        go_ret
        exact ⟨n, ret_bool (by symm; rw [decide_eq_true_eq]; omega), fun h => by omega, HR.out.1⟩
    · obtain rfl : i = ts.length := by omega
      have hli : ¬ ((ts.length : Int) < (ts.length : Int)) := by omega
      go_wp2
      go_ret
      refine ⟨n, ret_bool (by rw [decide_eq_decide]; omega), fun hn t ht => ?_, HR.out.1⟩
      obtain ⟨j, hj, rfl⟩ := List.getElem_of_mem ht
      exact Nat.le_trans (HR.out.2 j hj hj hn) hn
end Go.Proofs.YtnjajafmmociiaaGreatDoor
