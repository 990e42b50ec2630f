/- Weight, and much: whether trees hold more than there is room for. -/
import Derived.Test.YtnljjbpbgjgnkaaGreatDoorTrWeight
namespace Go.Proofs.YtnljjbpbgjgnkaaGreatDoor
open Go.RowKit Go.Shelf

set_option maxHeartbeats 400000 in
theorem weightAll_any (t : Tr) (kv : Value) (w : World) (hI : IsF w t kv) (hM : t.Modest) :
    Calls Tryz.prog 21 #[.agg #[.int .u8 (t.op : Nat), .string t.name, kv]] w fun e w' => ∃ n : Nat, e = .returned (.int .i64 (n : Nat)) ∧ n ≤ 145036750680577 ∧ (n ≤ 1048576 → t.wsum = n) ∧ Kept [] w w' := by
  obtain ⟨kad, kcap, rfl⟩ := hI.slice
  have HW : Hid _ := fun W (k : Kept [] w W) => weight_any t 0 0 _ W rfl (by omega) (hI.kept k) hM
  clear hI hM
  go_enter Tryz.func21, Tryz.ntmps21
  go_wp2_with (go_at_call 49; refine (HW.out _ ((Kept.refl [] w).alloc _)).mono ?_; rintro e W5 ⟨n, rfl, h1, h2, h3, hk⟩)
  go_ret
  exact ⟨n, rfl, by omega, fun h => h3 (by omega), ((Kept.refl [] w).alloc _).trans hk (by simp) (by simp)⟩

set_option maxHeartbeats 1000000 in
set_option maxRecDepth 20000 in
theorem much_any (ts : List Tr) (kv : Value) (w : World) (hI : IsF w ⟨0, ⟨#[]⟩, ts⟩ kv) (hM : ∀ t ∈ ts, t.Modest) (hl : ts.length ≤ 3) :
    Calls Tryz.prog 6 #[kv] w fun e w' => ∃ n : Nat, e = .returned (.bool (decide (1048576 < n))) ∧ (n ≤ 1048576 → ∀ t ∈ ts, t.wsum ≤ 1048576) ∧ Kept [] w w' := by
  obtain ⟨kad, kcap, e⟩ := hI.slice
  have e' : kv = .slice kad ts.length kcap := e
  subst e'
  have HI : Hid (IsT (fun k => k < w.heap.size) w ⟨0, ⟨#[]⟩, ts⟩ (.slice kad ts.length kcap)) := hI
  have HM : Hid _ := hM
  clear hI hM e
  go_enter Tryz.func6, Tryz.ntmps6
  go_wp2
  go_loopw [3, 4] (fun v3 v4 wr => ∃ n i : Nat, v3 = .int .i64 (n : Nat) ∧ v4 = .int .i64 (i : Nat) ∧ i ≤ ts.length ∧ n ≤ 145036751729153 ∧ Hid (Kept [] w wr ∧ ∀ j (h : j < ts.length), j < i → n ≤ 1048576 → ts[j].wsum ≤ n)) (fun _ v4 _ => ts.length - (intOf v4).toNat)
  case atStart => exact ⟨0, 0, rfl, rfl, Nat.zero_le _, by omega, Kept.refl [] w, fun j _ h => by omega⟩
  case round =>
    obtain ⟨n, i, rfl, rfl, hi, hnb, HR⟩ := hrel
    by_cases hlt : i < ts.length
    · have hli : (i : Int) < (ts.length : Int) := by omega
      by_cases hnB : n ≤ 1048576
      · have hnBI : (n : Int) ≤ 1048576 := by omega
        obtain ⟨kb, koff, rfl, _, hkid⟩ := HI.out.kid (show 0 < ts.length by omega)
        obtain ⟨kv, c0, c1, c2, hIk⟩ := hkid i hlt
        obtain ⟨ckad, ckcap, rfl⟩ := hIk.slice
        obtain ⟨k, hk⟩ : ∃ k, ts[i] = k := ⟨_, rfl⟩
        have hkm : k ∈ ts := by rw [← hk]; exact List.getElem_mem _
        simp only [hk] at c0 c1 c2 hIk
        have kw : Kept [] w wr := HR.out.1
        have c0 := cell_kept0 kw c0
        have c1 := cell_kept0 kw c1
        have c2 := cell_kept0 kw c2
        have HREC : Hid _ := fun (_ : Unit) => weightAll_any k (.slice ckad k.kids.length ckcap) wr (IsF.kept hIk kw) (HM.out k hkm)
        have HKK : Hid _ := hk
        clear hkid hk hIk hkm kw
        go_wp2_with (go_at_call 21; refine (HREC.out ()).mono ?_; rintro e W5 ⟨m, rfl, hm2, hm3, hk5⟩)
        go_roundw
        case rel =>
          refine ⟨n + m, i + 1, by go_num, by go_num, by omega, by omega, HR.out.1.trans hk5 (by simp) (by simp), fun j h hj hb => ?_⟩
          rcases Nat.lt_or_ge j i with hh | hh
          · have := HR.out.2 j h hh (by omega); omega
          · obtain rfl : j = i := by omega
            rw [HKK.out, hm3 (by omega)]
            omega
        case measure => simp [intOf]; omega
      · have hnBI : ¬ ((n : Int) ≤ 1048576) := by omega
        have hg : (n : Int) > 1048576 := by omega
        go_wp2
        go_ret
        exact ⟨n, ret_bool (by symm; rw [decide_eq_true_eq]; omega), fun h => by omega, HR.out.1⟩
    · obtain rfl : i = ts.length := by omega
      have hli : ¬ ((ts.length : Int) < (ts.length : Int)) := by omega
      go_wp2
      go_ret
      refine ⟨n, ret_bool (by rw [decide_eq_decide]; omega), fun hn t ht => ?_, HR.out.1⟩
      obtain ⟨j, hj, rfl⟩ := List.getElem_of_mem ht
      exact Nat.le_trans (HR.out.2 j hj hj hn) hn
end Go.Proofs.YtnljjbpbgjgnkaaGreatDoor
