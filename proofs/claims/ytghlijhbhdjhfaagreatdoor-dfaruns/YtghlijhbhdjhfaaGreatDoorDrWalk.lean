/- The law DfaRuns: its walk. -/
import Derived.Test.YtghlijhbhdjhfaaGreatDoorDrHas
import Derived.Test.YtghlijhbhdjhfaaGreatDoorDrLentD
import Derived.Test.YtghlijhbhdjhfaaGreatDoorDrOf
import Derived.Test.YtghlijhbhdjhfaaGreatDoorDrSwap
import Derived.Deep.RegionHeld3
import Derived.BigRegion
import Derived.Test.YtghlijhbhdjhfaaGreatDoorHeldP
namespace Go.Proofs.YtghlijhbhdjhfaaGreatDoor
open Go.RowKit Go.Shelf

theorem kept_of_belowD {w w' : World} (h : Below w.heap.size w w') : Kept [] w w' :=
  ⟨h.os, h.tape, h.output, h.size, fun n hn _ => h.block n hn⟩
set_option maxHeartbeats 16000000 in
set_option maxRecDepth 20000 in
theorem dfaRuns_walk (pv nv lv uv : Value) (ps : List ByteArray) (next : List (List Int)) (live : List Bool) (us : List Nat) (w : World) (hp : Strs w pv ps) (hm : ∀ x ∈ ps, x.size ≤ 140737488351232) (hn : Rowss w nv next) (hl : Bls w lv live) (hu : Lets w uv us)
    (hkn : ∀ W, Kept [] w W → Calls Tryz.prog 6 #[] W fun e w' => e = .returned (.bool true) ∧ Below W.heap.size W w') :
    Calls Tryz.prog 3 #[.agg #[pv, nv, lv], uv] w fun e w' => e = .returned (.bool true) ∧ Kept [] w w' := by
  obtain ⟨pad, pc, rfl, _, _⟩ := hp.form
  obtain ⟨nad, nc, rfl, _, _⟩ := hn.form13
  obtain ⟨lad, lc, rfl⟩ := hl.form
  obtain ⟨uad, uc, rfl⟩ := hu.form13
  have hlf := hl.few
  have huf := hu.few
  obtain ⟨V, hV⟩ : ∃ V, w.alloc (.cells #[.slice pad ps.length pc, .slice nad next.length nc, .slice lad live.length lc] 26) = V := ⟨_, rfl⟩
  have kV : Kept [] w V := by rw [← hV]; exact (Kept.refl [] w).alloc _
  have bV : V.heap[w.heap.size]? = some (.cells #[.slice pad ps.length pc, .slice nad next.length nc, .slice lad live.length lc] 26 (0, 0)) := by rw [← hV]; exact al0 _ _
  have HV : Hid (_ = V) := hV
  have HKV : Hid (Kept [] w V) := kV
  obtain ⟨t1, ht1⟩ : ∃ t, ot 0 ps = t := ⟨_, rfl⟩
  obtain ⟨t2, ht2⟩ : ∃ t, orw 0 next = t := ⟨_, rfl⟩
  have HOT : Hid (Calls Tryz.prog 4 #[.slice pad ps.length pc] V fun e w' => e = .returned (.int .i64 (t1 : Nat)) ∧ w' = V) := by rw [← ht1]; exact ofTexts_any _ _ _ (hp.kept kV) hm
  have HOR : Hid (Calls Tryz.prog 5 #[.slice nad next.length nc] V fun e w' => e = .returned (.int .i64 (t2 : Nat)) ∧ w' = V) := by rw [← ht2]; exact ofRows_any _ _ _ (hn.kept kV)
  have d0 : V.cell? ⟨w.heap.size, 0, none⟩ = some (.slice pad ps.length pc) := (cell_of bV 0).trans rfl
  have d1 : V.cell? ⟨w.heap.size, 1, none⟩ = some (.slice nad next.length nc) := (cell_of bV 1).trans rfl
  have d2 : V.cell? ⟨w.heap.size, 2, none⟩ = some (.slice lad live.length lc) := (cell_of bV 2).trans rfl
  by_cases c1 : t1 ≤ 10000
  rotate_left
  · have e1 : (10000 : Int) < (t1 : Int) := by omega
    clear hp hm hn hl hu hkn kV bV hV ht1 ht2 c1
    go_enter Tryz.func3, Tryz.ntmps3
    go_upto_region 1 with fail
    rw [HV.out]
    clear HV
    go_wp2_with (first
      | (go_at_call 4; refine HOT.out.mono ?_; rintro e w1 ⟨rfl, hw1⟩; rw [hw1]; clear hw1)
      | (go_at_call 5; refine HOR.out.mono ?_; rintro e w1 ⟨rfl, hw1⟩; rw [hw1]; clear hw1))
    go_ret
    exact ⟨rfl, HKV.out⟩
  have e1 : ¬ ((10000 : Int) < (t1 : Int)) := by omega
  by_cases c2 : t2 ≤ 100000
  rotate_left
  · have e2 : (100000 : Int) < (t2 : Int) := by omega
    clear hp hm hn hl hu hkn kV bV hV ht1 ht2 c2
    go_enter Tryz.func3, Tryz.ntmps3
    go_upto_region 1 with fail
    rw [HV.out]
    clear HV
    go_wp2_with (first
      | (go_at_call 4; refine HOT.out.mono ?_; rintro e w1 ⟨rfl, hw1⟩; rw [hw1]; clear hw1)
      | (go_at_call 5; refine HOR.out.mono ?_; rintro e w1 ⟨rfl, hw1⟩; rw [hw1]; clear hw1))
    go_ret
    exact ⟨rfl, HKV.out⟩
  have e2 : ¬ ((100000 : Int) < (t2 : Int)) := by omega
  by_cases c3 : live.length ≤ 100000
  rotate_left
  · have e3 : (100000 : Int) < (live.length : Int) := by omega
    clear hp hm hn hl hu hkn kV bV hV ht1 ht2 c3
    go_enter Tryz.func3, Tryz.ntmps3
    go_upto_region 1 with fail
    rw [HV.out]
    clear HV
    go_wp2_with (first
      | (go_at_call 4; refine HOT.out.mono ?_; rintro e w1 ⟨rfl, hw1⟩; rw [hw1]; clear hw1)
      | (go_at_call 5; refine HOR.out.mono ?_; rintro e w1 ⟨rfl, hw1⟩; rw [hw1]; clear hw1))
    go_ret
    exact ⟨rfl, HKV.out⟩
  have e3 : ¬ ((100000 : Int) < (live.length : Int)) := by omega
  by_cases c4 : us.length ≤ 10000
  rotate_left
  · have e4 : (10000 : Int) < (us.length : Int) := by omega
    clear hp hm hn hl hu hkn kV bV hV ht1 ht2 c4
    go_enter Tryz.func3, Tryz.ntmps3
    go_upto_region 1 with fail
    rw [HV.out]
    clear HV
    go_wp2_with (first
      | (go_at_call 4; refine HOT.out.mono ?_; rintro e w1 ⟨rfl, hw1⟩; rw [hw1]; clear hw1)
      | (go_at_call 5; refine HOR.out.mono ?_; rintro e w1 ⟨rfl, hw1⟩; rw [hw1]; clear hw1))
    go_ret
    exact ⟨rfl, HKV.out⟩
  have e4 : ¬ ((10000 : Int) < (us.length : Int)) := by omega
  obtain ⟨q1, _⟩ := ot_few2 ps 0 (by omega)
  obtain ⟨q2, _, q3⟩ := orw_few next 0 (by omega)
  have hfew : ps.length ≤ 8796093022208 ∧ next.length ≤ 100000000 ∧ (∀ xs ∈ next, xs.length ≤ 100000000) ∧ live.length ≤ 17592186044416 := ⟨by omega, by omega, fun xs hx => by have := q3 xs hx; omega, by omega⟩
  have hfit : ∀ xs ∈ next, xs.length ≤ 100000000 ∧ ∀ x ∈ xs, -9223372036854775808 ≤ x ∧ x ≤ 9223372036854775807 := fun xs hx => by
    obtain ⟨i, hi, rfl⟩ := List.getElem_of_mem hx
    obtain ⟨_, _, u, _, _, hI⟩ := rowsD_get hn i hi
    exact ⟨hfew.2.2.1 _ hx, hI.wf⟩
  have hps : ∀ x ∈ ps, x.size ≤ maxLen := hp.small
  have hus : ∀ x ∈ us, x < 65536 := hu.small
  obtain ⟨S, hS⟩ : ∃ S, runS ps next live.length us = S := ⟨_, rfl⟩
  obtain ⟨E, hE⟩ : ∃ E, runE ps next live.length us = E := ⟨_, rfl⟩
  obtain ⟨T, hT⟩ : ∃ T, hasE ps next live us = T := ⟨_, rfl⟩
  obtain ⟨C, hC⟩ : ∃ C : Nat, (if rightD ps next live.length then 0 else 130) = C := ⟨_, rfl⟩
  have HKN : Hid (∀ W, Kept [] V W → Calls Tryz.prog 6 #[] W fun e w' => e = .returned (.bool true) ∧ Kept [] W w') := fun W k => (hkn W (keptB kV k)).mono (fun e w' h => ⟨h.1, kept_of_belowD h.2⟩)
  have HLD : Hid (∀ W, Kept [] V W → Calls Tryz.prog 7 #[.agg #[.slice pad ps.length pc, .slice nad next.length nc, .slice lad live.length lc]] W (DfaEnd W ps next live)) := fun W k => lentDFA_any _ _ _ ps next live W (hp.kept (keptB kV k)) (hn.kept (keptB kV k)) (hl.kept (keptB kV k)) hfew
  have HLL : Hid (∀ W, Kept [] V W → Calls Tryz.prog 8 #[.slice uad us.length uc] W fun e w' => ∃ b, e = .returned (.slice (some ⟨b, 0, none⟩) us.length (us.length + 2)) ∧ LentG 45 1 w' b us.length (cellsU us) marksU ∧ W.heap.size ≤ b ∧ Kept [] W w') := fun W k => lentLetters_any _ us.length _ W (hu.kept (keptB kV k)).src (by omega)
  have HRR : Hid (∀ W, Kept [] V W → Calls Tryz.prog 14 #[.agg #[.slice pad ps.length pc, .slice nad next.length nc, .slice lad live.length lc], .slice uad us.length uc] W fun e w' => e = .returned (.tuple #[.int .i64 (S : Nat), .int .i64 (E : Nat)]) ∧ Kept [] W w') := fun W k => by
    have q := refRunD_any _ _ _ ps next lad live.length lc us W (hp.kept (keptB kV k)) (hn.kept (keptB kV k)) (hu.kept (keptB kV k))
    rw [hS, hE] at q
    exact q.mono (fun e w' h => ⟨h.1, h.2.1.out⟩)
  have HRH : Hid (∀ W, Kept [] V W → Calls Tryz.prog 15 #[.agg #[.slice pad ps.length pc, .slice nad next.length nc, .slice lad live.length lc], .slice uad us.length uc] W fun e w' => e = .returned (.tuple #[.bool T, .int .i64 (E : Nat)]) ∧ Kept [] W w') := fun W k => by
    have q := refHasD_any _ _ _ _ ps next live us W (hp.kept (keptB kV k)) (hn.kept (keptB kV k)) (hl.kept (keptB kV k)) (hu.kept (keptB kV k))
    rw [hT, hE] at q
    exact q.mono (fun e w' h => ⟨h.1, h.2.out⟩)
  have HRC : Hid (∀ W, Kept [] V W → Calls Tryz.prog 16 #[.agg #[.slice pad ps.length pc, .slice nad next.length nc, .slice lad live.length lc]] W fun e w' => e = .returned (.int .i64 (C : Nat)) ∧ Kept [] W w') := fun W k => by
    have q := refCheckD_any _ _ ps next lad live.length lc W (hp.kept (keptB kV k)) (hn.kept (keptB kV k))
    rw [hC] at q
    exact q
  have HWD : Hid (∀ W n b1 b2 b3 m bs, DfaL W n b1 b2 b3 m bs ps next live → Kept [] V W → Calls Tryz.prog 12 #[.agg #[.slice (some ⟨b1, 0, none⟩) ps.length (ps.length + 2), .slice (some ⟨b2, 0, none⟩) next.length (next.length + 1), .slice (some ⟨b3, 0, none⟩) live.length (live.length + 2)], .agg #[.slice pad ps.length pc, .slice nad next.length nc, .slice lad live.length lc]] W fun e w' => e = .returned (.bool true) ∧ Kept [] W w') := fun W n b1 b2 b3 m bs h k => wholeDFA_any b1 b2 b3 m bs _ _ _ ps next live n W h (hp.kept (keptB kV k)) (hn.kept (keptB kV k)) (hl.kept (keptB kV k)) (by omega)
  have HWL : Hid (∀ W b, LentG 45 1 W b us.length (cellsU us) marksU → Kept [] V W → Calls Tryz.prog 13 #[.slice (some ⟨b, 0, none⟩) us.length (us.length + 2), .slice uad us.length uc] W fun e w' => e = .returned (.bool true) ∧ Kept [] W w') := fun W b h k => wholeLetters_any b _ us W h (hu.kept (keptB kV k)).src
  have HPR : Hid (∀ W s1 s2 la lc' xv, Strs W s1 ps → Rowss W s2 next → Bls W (.slice la live.length lc') live → Lets W xv us → Calls Tryz.prog 9 #[.agg #[s1, s2, .slice la live.length lc'], xv] W fun e w' => e = .returned (.tuple #[.int .i64 (S : Nat), .int .i64 (E : Nat)]) ∧ Kept [] W w') := fun W s1 s2 la lc' xv h1 h2 h3 h4 => by
    have q := run_any13 s1 s2 xv ps next la live.length lc' us W h1 h2 h4
    rw [hS, hE] at q
    exact q.mono (fun e w' h => ⟨h.1, h.2.1.out⟩)
  have HPH : Hid (∀ W s1 s2 s3 xv, Strs W s1 ps → Rowss W s2 next → Bls W s3 live → Lets W xv us → Calls Tryz.prog 10 #[.agg #[s1, s2, s3], xv] W fun e w' => e = .returned (.tuple #[.bool T, .int .i64 (E : Nat)]) ∧ Kept [] W w') := fun W s1 s2 s3 xv h1 h2 h3 h4 => by
    have q := has_any13 s1 s2 s3 xv ps next live us W h1 h2 h3 h4
    rw [hT, hE] at q
    exact q.mono (fun e w' h => ⟨h.1, h.2.out⟩)
  have HPC : Hid (∀ W s1 s2 la lc', Strs W s1 ps → Rowss W s2 next → Calls Tryz.prog 11 #[.agg #[s1, s2, .slice la live.length lc']] W fun e w' => e = .returned (.int .i64 (C : Nat)) ∧ Kept [] W w') := fun W s1 s2 la lc' h1 h2 => by
    have q := check_any13 s1 s2 ps next la live.length lc' W h1 h2
    rw [hC] at q
    exact q
  have HLU : Hid (∀ W, Kept [] V W → Lets W (.slice uad us.length uc) us) := fun W k => hu.kept (keptB kV k)
  have HDC : Hid (∀ W, Kept [] V W → W.cell? ⟨w.heap.size, 0, none⟩ = some (.slice pad ps.length pc) ∧ W.cell? ⟨w.heap.size, 1, none⟩ = some (.slice nad next.length nc) ∧ W.cell? ⟨w.heap.size, 2, none⟩ = some (.slice lad live.length lc)) := fun W k => ⟨cell_kept0 k d0, cell_kept0 k d1, cell_kept0 k d2⟩
  have HFW : Hid (next.length ≤ 100000000 ∧ ps.length ≤ 8796093022208 ∧ (∀ x ∈ ps, x.size ≤ maxLen) ∧ (∀ x ∈ us, x < 65536) ∧ ∀ xs ∈ next, xs.length ≤ 100000000 ∧ ∀ x ∈ xs, -9223372036854775808 ≤ x ∧ x ≤ 9223372036854775807) := ⟨by omega, by omega, hps, hus, hfit⟩
  clear hp hm hn hl hu hkn kV bV hV hS hE hT hC ht1 ht2 q1 q2 q3 hfew hfit hps hus
  go_enter Tryz.func3, Tryz.ntmps3
  go_upto_region 1 with fail
  rw [HV.out]
  clear HV
  go_upto_region 4 with (first
    | (go_at_call 4; refine HOT.out.mono ?_; rintro e w1 ⟨rfl, hw1⟩; rw [hw1]; clear hw1)
    | (go_at_call 5; refine HOR.out.mono ?_; rintro e w1 ⟨rfl, hw1⟩; rw [hw1]; clear hw1)
    | (go_at_call 6; refine (HKN.out V (Kept.refl [] V)).mono ?_; rintro e W1 ⟨rfl, k1⟩; have HK1 : Hid (Kept [] V W1) := k1; clear k1 d0 d1 d2; obtain ⟨d0, d1, d2⟩ := HDC.out W1 HK1.out))
  clear HOT HOR HKN
  go_upto_region 5 with (go_at_call 7; refine Calls.mono (HLD.out W1 HK1.out) ?_; rintro e W2 ⟨b1, b2, b3, m, bs, rfl, hD, k2⟩; have HD2 : Hid (DfaL W2 W1.heap.size b1 b2 b3 m bs ps next live) := hD; have HK2 : Hid (Kept [] V W2) := keptB HK1.out k2; clear hD k2 d0 d1 d2)
  obtain ⟨W3, hW3⟩ : ∃ W3, W2.alloc (.cells #[.slice (some ⟨b1, 0, none⟩) ps.length (ps.length + 2), .slice (some ⟨b2, 0, none⟩) next.length (next.length + 1), .slice (some ⟨b3, 0, none⟩) live.length (live.length + 2)] 26) = W3 := ⟨_, rfl⟩
  have hB3 : Thr 26 W3 W2.heap.size (.slice (some ⟨b1, 0, none⟩) ps.length (ps.length + 2)) (.slice (some ⟨b2, 0, none⟩) next.length (next.length + 1)) (.slice (some ⟨b3, 0, none⟩) live.length (live.length + 2)) := by rw [← hW3]; exact al0 _ _
  have k3 : Kept [] W2 W3 := by rw [← hW3]; exact (Kept.refl [] W2).alloc _
  rw [hW3]
  have HB3 : Hid (Thr 26 W3 W2.heap.size (.slice (some ⟨b1, 0, none⟩) ps.length (ps.length + 2)) (.slice (some ⟨b2, 0, none⟩) next.length (next.length + 1)) (.slice (some ⟨b3, 0, none⟩) live.length (live.length + 2))) := hB3
  have HK3 : Hid (Kept [] V W3) := keptB HK2.out k3
  have HD3 : Hid (DfaL W3 W1.heap.size b1 b2 b3 m bs ps next live ∧ b3 < W2.heap.size) := ⟨HD2.out.keptF k3 (by simp) (by simp), lt_of HD2.out.lv.row⟩
  clear hB3 k3 hW3
  go_upto_region 6 with (go_at_call 8; refine (HLL.out W3 HK3.out).mono ?_; rintro e W4 ⟨b4, rfl, hU, hb4, k4⟩; have HU4 : Hid (LentG 45 1 W4 b4 us.length (cellsU us) marksU ∧ W3.heap.size ≤ b4) := ⟨hU, hb4⟩; have HK4 : Hid (Kept [] W3 W4) := k4; clear hU hb4 k4)
  have HD4 : Hid (DfaL W4 W1.heap.size b1 b2 b3 m bs ps next live) := HD3.out.1.keptF HK4.out (by simp) (by simp)
  have HV4 : Hid (Kept [] V W4) := keptB HK3.out HK4.out
  have HBD : Hid (∀ W, Kept [] W4 W → (W.cell? ⟨W2.heap.size, 0, none⟩ = some (.slice (some ⟨b1, 0, none⟩) ps.length (ps.length + 2)) ∧ W.cell? ⟨W2.heap.size, 1, none⟩ = some (.slice (some ⟨b2, 0, none⟩) next.length (next.length + 1)) ∧ W.cell? ⟨W2.heap.size, 2, none⟩ = some (.slice (some ⟨b3, 0, none⟩) live.length (live.length + 2))) ∧ W.cell? ⟨w.heap.size, 0, none⟩ = some (.slice pad ps.length pc) ∧ W.cell? ⟨w.heap.size, 1, none⟩ = some (.slice nad next.length nc) ∧ W.cell? ⟨w.heap.size, 2, none⟩ = some (.slice lad live.length lc)) := fun W k => ⟨(HB3.out.keptF (keptB HK4.out k) (by simp)).cells, HDC.out W (keptB HV4.out k)⟩
  have HA4 : Hid (∀ W, Kept [] W4 W → Strs W (.slice (some ⟨b1, 0, none⟩) ps.length (ps.length + 2)) ps ∧ Rowss W (.slice (some ⟨b2, 0, none⟩) next.length (next.length + 1)) next ∧ Bls W (.slice (some ⟨b3, 0, none⟩) live.length (live.length + 2)) live ∧ Lets W (.slice (some ⟨b4, 0, none⟩) us.length (us.length + 2)) us) := fun W k => by
    obtain ⟨w0, hr⟩ := HD4.out.nx
    exact ⟨(HD4.out.ps.kept k).strs HFW.out.2.1 HFW.out.2.2.1, (hr.kept k).rowss HFW.out.1 HFW.out.2.2.2.2, (HD4.out.lv.kept k).bls (by omega), (HU4.out.1.kept k).lets (by omega) HFW.out.2.2.2.1⟩
  have HP1 : Hid (∀ W, Kept [] W4 W → Calls Tryz.prog 9 #[.agg #[.slice (some ⟨b1, 0, none⟩) ps.length (ps.length + 2), .slice (some ⟨b2, 0, none⟩) next.length (next.length + 1), .slice (some ⟨b3, 0, none⟩) live.length (live.length + 2)], .slice (some ⟨b4, 0, none⟩) us.length (us.length + 2)] W fun e w' => e = .returned (.tuple #[.int .i64 (S : Nat), .int .i64 (E : Nat)]) ∧ Kept [] W w') := fun W k => HPR.out W _ _ _ _ _ (HA4.out W k).1 (HA4.out W k).2.1 (HA4.out W k).2.2.1 (HA4.out W k).2.2.2
  have HP2 : Hid (∀ W, Kept [] W4 W → Calls Tryz.prog 10 #[.agg #[.slice (some ⟨b1, 0, none⟩) ps.length (ps.length + 2), .slice (some ⟨b2, 0, none⟩) next.length (next.length + 1), .slice (some ⟨b3, 0, none⟩) live.length (live.length + 2)], .slice (some ⟨b4, 0, none⟩) us.length (us.length + 2)] W fun e w' => e = .returned (.tuple #[.bool T, .int .i64 (E : Nat)]) ∧ Kept [] W w') := fun W k => HPH.out W _ _ _ _ (HA4.out W k).1 (HA4.out W k).2.1 (HA4.out W k).2.2.1 (HA4.out W k).2.2.2
  have HP3 : Hid (∀ W, Kept [] W4 W → Calls Tryz.prog 11 #[.agg #[.slice (some ⟨b1, 0, none⟩) ps.length (ps.length + 2), .slice (some ⟨b2, 0, none⟩) next.length (next.length + 1), .slice (some ⟨b3, 0, none⟩) live.length (live.length + 2)]] W fun e w' => e = .returned (.int .i64 (C : Nat)) ∧ Kept [] W w') := fun W k => HPC.out W _ _ _ _ (HA4.out W k).1 (HA4.out W k).2.1
  have HP4 : Hid (∀ W, Kept [] W4 W → Calls Tryz.prog 12 #[.agg #[.slice (some ⟨b1, 0, none⟩) ps.length (ps.length + 2), .slice (some ⟨b2, 0, none⟩) next.length (next.length + 1), .slice (some ⟨b3, 0, none⟩) live.length (live.length + 2)], .agg #[.slice pad ps.length pc, .slice nad next.length nc, .slice lad live.length lc]] W fun e w' => e = .returned (.bool true) ∧ Kept [] W w') := fun W k => HWD.out W _ _ _ _ _ _ (HD4.out.keptF k (by simp) (by simp)) (keptB HV4.out k)
  have HP5 : Hid (∀ W, Kept [] W4 W → Calls Tryz.prog 13 #[.slice (some ⟨b4, 0, none⟩) us.length (us.length + 2), .slice uad us.length uc] W fun e w' => e = .returned (.bool true) ∧ Kept [] W w') := fun W k => HWL.out W _ (HU4.out.1.kept k) (keptB HV4.out k)
  have HP6 : Hid (∀ W, Kept [] W4 W → Calls Tryz.prog 14 #[.agg #[.slice pad ps.length pc, .slice nad next.length nc, .slice lad live.length lc], .slice uad us.length uc] W fun e w' => e = .returned (.tuple #[.int .i64 (S : Nat), .int .i64 (E : Nat)]) ∧ Kept [] W w') := fun W k => HRR.out W (keptB HV4.out k)
  have HP7 : Hid (∀ W, Kept [] W4 W → Calls Tryz.prog 15 #[.agg #[.slice pad ps.length pc, .slice nad next.length nc, .slice lad live.length lc], .slice uad us.length uc] W fun e w' => e = .returned (.tuple #[.bool T, .int .i64 (E : Nat)]) ∧ Kept [] W w') := fun W k => HRH.out W (keptB HV4.out k)
  obtain ⟨⟨f0, f1, f2⟩, d0, d1, d2⟩ := HBD.out W4 (Kept.refl [] W4)
  clear HPR HPH HPC HWD HWL HRR HRH HLD HLL
  go_upto_region 12 with (first
    | (go_at_call 9; refine (HP1.out W4 (Kept.refl [] W4)).mono ?_; rintro e W5 ⟨rfl, k5⟩; have HK5 : Hid (Kept [] W4 W5) := k5; clear k5 d0 d1 d2 f0 f1 f2; obtain ⟨⟨f0, f1, f2⟩, d0, d1, d2⟩ := HBD.out W5 HK5.out)
    | (go_at_call 10; refine (HP2.out W5 HK5.out).mono ?_; rintro e W6 ⟨rfl, k6⟩; have HK6 : Hid (Kept [] W4 W6) := keptB HK5.out k6; clear k6 d0 d1 d2 f0 f1 f2; obtain ⟨⟨f0, f1, f2⟩, d0, d1, d2⟩ := HBD.out W6 HK6.out)
    | (go_at_call 11; refine (HP3.out W6 HK6.out).mono ?_; rintro e W7 ⟨rfl, k7⟩; have HK7 : Hid (Kept [] W4 W7) := keptB HK6.out k7; clear k7 d0 d1 d2 f0 f1 f2; obtain ⟨⟨f0, f1, f2⟩, d0, d1, d2⟩ := HBD.out W7 HK7.out)
    | (go_at_call 12; refine (HP4.out W7 HK7.out).mono ?_; rintro e W8 ⟨rfl, k8⟩; have HK8 : Hid (Kept [] W4 W8) := keptB HK7.out k8; clear k8 d0 d1 d2 f0 f1 f2; obtain ⟨⟨f0, f1, f2⟩, d0, d1, d2⟩ := HBD.out W8 HK8.out)
    | (go_at_call 13; refine (HP5.out W8 HK8.out).mono ?_; rintro e W9 ⟨rfl, k9⟩; have HK9 : Hid (Kept [] W4 W9) := keptB HK8.out k9; clear k9 d0 d1 d2 f0 f1 f2; obtain ⟨⟨f0, f1, f2⟩, d0, d1, d2⟩ := HBD.out W9 HK9.out)
    | (go_at_call 14; refine (HP6.out W9 HK9.out).mono ?_; rintro e W10 ⟨rfl, k10⟩; have HK10 : Hid (Kept [] W4 W10) := keptB HK9.out k10; clear k10 d0 d1 d2 f0 f1 f2; obtain ⟨⟨f0, f1, f2⟩, d0, d1, d2⟩ := HBD.out W10 HK10.out)
    | (go_at_call 15; refine (HP7.out W10 HK10.out).mono ?_; rintro e W11 ⟨rfl, k11⟩; have HK11 : Hid (Kept [] W4 W11) := keptB HK10.out k11; clear k11 d0 d1 d2 f0 f1 f2; obtain ⟨⟨f0, f1, f2⟩, d0, d1, d2⟩ := HBD.out W11 HK11.out))
  clear HP1 HP2 HP3 HP4 HP5 HP6 HP7 d0 d1 d2 f0 f1 f2
  have HLV : Hid (LentG 4 1 W11 b3 live.length (cellsW live) marksW) := HD4.out.lv.kept HK11.out
  have hb3 : b3 ≠ W2.heap.size := Nat.ne_of_lt HD3.out.2
  have HF3 : Hid (∀ W, Kept [b3] W11 W → W.cell? ⟨W2.heap.size, 2, none⟩ = some (.slice (some ⟨b3, 0, none⟩) live.length (live.length + 2))) := fun W k => ((HB3.out.keptF (keptB HK4.out HK11.out) (by simp)).keptF k (by simp; omega)).cells.2.2
  go_wp2_with fail
  go_loopw [18] (fun i wr => ∃ k : Nat, i = .int .i64 (k : Nat) ∧ k ≤ live.length ∧ Hid (LentG 4 1 wr b3 (negN k live).length (cellsW (negN k live)) marksW) ∧ Hid (Kept [b3] W11 wr)) (fun i _ => live.length - (intOf i).toNat)
  case atStart => exact ⟨0, rfl, Nat.zero_le _, by show LentG _ _ _ _ _ _ _; rw [negN_zero]; exact HLV.out, Kept.refl _ _⟩
  case round =>
    obtain ⟨k, rfl, hk, HL, HKW⟩ := hrel
    have f2 := HF3.out wr HKW.out
    by_cases hlt : k < live.length
    · have z0 : (k : Int) < (live.length : Int) := by omega
      have z00 : (0 : Int) ≤ (k : Int) := by omega
      have hc := (HL.out.src (cellsW_one _)).cellsAt k (.bool live[k]) (by rw [cellsW, List.getElem?_map, negN_at hlt, if_neg (by omega)]; rfl)
      rw [addr_add, Nat.zero_add] at hc
      obtain ⟨x, hx⟩ : ∃ x, live[k] = x := ⟨_, rfl⟩
      have HX : Hid (live[k] = x) := hx
      rw [hx] at hc
      have c0 : wr.cell? ⟨b3, k, none⟩ = some (.bool x) := hc
      have fz : wr.frozen? ⟨b3, k, none⟩ = false := free_of HL.out.row k
      clear hc hx
      go_wp2_with fail
      go_region
      all_goals go_wp2
      all_goals go_roundw
      case rel =>
        have q := HL.out.setW (i := k) (by rw [negN_len]; exact hlt) (!x)
        rw [show (negN k live).set k (!x) = negN (k + 1) live by rw [← HX.out]; exact negN_step hlt] at q
        exact ⟨k + 1, by go_num, by omega, q.kept (Kept.refl [] _).drew, (HKW.out.setCell (.inl (by simp)) _).drew⟩
      case measure => simp [intOf]; omega
    · obtain rfl : k = live.length := by omega
      have z0 : ¬ ((live.length : Int) < (live.length : Int)) := by omega
      rw [negN_all] at HL
      obtain ⟨w0, hr11⟩ := HD4.out.nx
      have HM : Hid (RowsM wr b2 bs [.slice (some ⟨m, 0, none⟩) 1 1] next) := ((hr11.kept HK11.out).rowsM).keptF HKW.out (by have := HD4.out.up.2.2; simp; omega) (fun x hx => by have := HD4.out.lt x hx; simp; omega)
      have HLN : Hid (bs.length = next.length) := hr11.rs.len
      have hbs : ∀ x ∈ bs, x ≠ W2.heap.size ∧ b2 ≠ x ∧ x ≠ b3 := fun x hx => by
        have h1 := HD4.out.lt x hx
        have h2 := hr11.nb x hx
        have h3 := HD3.out.2
        exact ⟨by omega, by omega, by omega⟩
      have HBS : Hid (∀ x ∈ bs, x ≠ W2.heap.size ∧ b2 ≠ x ∧ x ≠ b3) := hbs
      have HF2 : Hid (∀ W, Kept bs wr W → W.cell? ⟨W2.heap.size, 1, none⟩ = some (.slice (some ⟨b2, 0, none⟩) next.length (next.length + 1))) := fun W k => (((HB3.out.keptF (keptB HK4.out HK11.out) (by simp)).keptF HKW.out (by simp; omega)).keptF k (fun hx => (HBS.out _ hx).1 rfl)).cells.2.1
      clear hbs hr11
      have hnn := HFW.out.1
      go_wp2_with fail
      clear f2
      go_loopw [19] (fun i w2 => ∃ (k : Nat) (yss : List (List Int)), i = .int .i64 (k : Nat) ∧ k ≤ next.length ∧ Hid (yss.length = next.length ∧ ∀ i (h : i < yss.length) (h' : i < next.length), yss[i] = if i < k then (next[i]).reverse else next[i]) ∧ Hid (RowsM w2 b2 bs [.slice (some ⟨m, 0, none⟩) 1 1] yss) ∧ Hid (Kept bs wr w2)) (fun i _ => next.length - (intOf i).toNat)
      case atStart => exact ⟨0, next, rfl, Nat.zero_le _, ⟨rfl, fun i h h' => by rw [if_neg (by omega)]⟩, HM.out, Kept.refl _ _⟩
      case round =>
        rename World => w5
        obtain ⟨k, yss, rfl, hk, HY, HM5, HK5b⟩ := hrel
        have f1 := HF2.out w5 HK5b.out
        by_cases hlt : k < next.length
        · have y0 : (k : Int) < (next.length : Int) := by omega
          have y00 : (0 : Int) ≤ (k : Int) := by omega
          have hky : k < yss.length := by rw [HY.out.1]; exact hlt
          have hkb : k < bs.length := by rw [HLN.out]; exact hlt
          have hyk : yss[k] = next[k] := by rw [HY.out.2 k hky hlt, if_neg (by omega)]
          have hlnb := (HFW.out.2.2.2.2 _ (List.getElem_mem hlt)).1
          have hbk0 := HBS.out _ (List.getElem_mem hkb)
          obtain ⟨xs, hxs⟩ : ∃ xs, next[k] = xs := ⟨_, rfl⟩
          have HNX : Hid (next[k] = xs) := hxs
          have HXS : Hid (yss[k] = xs) := hyk.trans hxs
          have HMS : Hid (RowsM w5 b2 bs [.slice (some ⟨m, 0, none⟩) 1 1] (yss.set k (revN 0 xs))) := by
            show RowsM _ _ _ _ _
            rw [revN_zero, ← HXS.out, List.set_getElem_self]
            exact HM5.out
          rw [hxs] at hlnb
          obtain ⟨bk, hbk⟩ : ∃ bk, bs[k] = bk := ⟨_, rfl⟩
          have HBK : Hid (bs[k] = bk ∧ bk ∈ bs) := ⟨hbk, by rw [← hbk]; exact List.getElem_mem hkb⟩
          rw [hbk] at hbk0
          obtain ⟨hb1, hb2, -⟩ := hbk0
          have hb2s : bk ≠ b2 := fun e => hb2 e.symm
          obtain ⟨ln, hln⟩ : ∃ ln, xs.length = ln := ⟨_, rfl⟩
          have HLX : Hid (xs.length = ln) := hln
          obtain ⟨hf, hhf⟩ : ∃ hf : Nat, ln / 2 = hf := ⟨_, rfl⟩
          have hq : Int.tdiv (ln : Int) 2 = (hf : Int) := by rw [Int.tdiv_eq_ediv_of_nonneg (by omega)]; omega
          have hqw : IntKind.i64.wrap (hf : Int) = (hf : Int) := by rw [IntKind.wrap_i64]; omega
          rw [hln] at hlnb
          have HG : Hid (∀ W n, RowsM W b2 bs [.slice (some ⟨m, 0, none⟩) 1 1] (yss.set k (revN n xs)) → W.cell? ⟨b2, k, none⟩ = some (.slice (some ⟨bk, 0, none⟩) ln (ln + 2))) := fun W n h => by
            have q := h.sliceK hky hkb
            rw [revN_len, HLX.out, HBK.out.1] at q
            exact q
          have g1 := HG.out w5 0 HMS.out
          clear hyk hxs hbk hln
          go_wp2_with fail
          go_loopw [20] (fun i w3 => ∃ n : Nat, i = .int .i64 (n : Nat) ∧ n ≤ hf ∧ Hid (RowsM w3 b2 bs [.slice (some ⟨m, 0, none⟩) 1 1] (yss.set k (revN n xs))) ∧ Hid (Kept bs wr w3)) (fun i _ => hf - (intOf i).toNat)
          case atStart => exact ⟨0, rfl, Nat.zero_le _, HMS.out, HK5b.out⟩
          case round =>
            rename World => w6
            obtain ⟨n, rfl, hn6, HM6, HK6⟩ := hrel
            clear f1 g1
            have f1 := HF2.out w6 HK6.out
            have g1 := HG.out w6 n HM6.out
            by_cases hnl : n < hf
            · have u0 : (n : Int) < (hf : Int) := by omega
              have u00 : (0 : Int) ≤ (n : Int) := by omega
              have h2n : 2 * n + 1 < xs.length := by rw [HLX.out]; omega
              obtain ⟨g2, g3, fz1, fz2⟩ := HM6.out.lo hky hkb h2n
              have HSW := HM6.out.swap hky hkb h2n
              rw [HBK.out.1] at g2 fz1
              rw [HLX.out, HBK.out.1] at g3 fz2 HSW
              obtain ⟨m1, hm1⟩ : ∃ m1 : Nat, ln - 1 - n = m1 := ⟨_, rfl⟩
              obtain ⟨l1, hl1⟩ : ∃ l1 : Nat, ln = l1 + 1 := ⟨ln - 1, by omega⟩
              obtain ⟨xa, hxa⟩ : ∃ xa, xs.getD n 0 = xa := ⟨_, rfl⟩
              obtain ⟨xb, hxb⟩ : ∃ xb, xs.getD (ln - 1 - n) 0 = xb := ⟨_, rfl⟩
              rw [hxb] at g3 HSW
              rw [hxa] at g2 HSW
              rw [hm1] at g3 fz2 HSW
              have HS : Hid _ := HSW
              have v1 : IntKind.i64.wrap ((ln : Int) - 1) = (l1 : Int) := by rw [IntKind.wrap_i64]; omega
              have v2 : IntKind.i64.wrap ((l1 : Int) - (n : Int)) = (m1 : Int) := by rw [IntKind.wrap_i64]; omega
              have v3 : (n : Int) < (ln : Int) := by omega
              have v4 : (m1 : Int) < (ln : Int) := by omega
              have v5 : (0 : Int) ≤ (m1 : Int) := by omega
              have v6 : n ≠ m1 := by omega
              clear hxa hxb h2n HSW hl1 hm1
              go_wp2_with fail
              obtain ⟨V6, hV6⟩ : ∃ V, w6.drew = V := ⟨_, rfl⟩
              have HS0 : Hid (V6.cell? ⟨W2.heap.size, 1, none⟩ = some (.slice (some ⟨b2, 0, none⟩) next.length (next.length + 1)) ∧ V6.cell? ⟨b2, k, none⟩ = some (.slice (some ⟨bk, 0, none⟩) ln (ln + 2))) := by rw [← hV6]; exact ⟨f1, g1⟩
              have HC2 : Hid (V6.cell? ⟨bk, n, none⟩ = some (.int .i64 xa) ∧ V6.cell? ⟨bk, m1, none⟩ = some (.int .i64 xb) ∧ V6.frozen? ⟨bk, n, none⟩ = false ∧ V6.frozen? ⟨bk, m1, none⟩ = false) := by rw [← hV6]; exact ⟨g2, g3, fz1, fz2⟩
              obtain ⟨Va, hVa⟩ : ∃ V, V6.setCell ⟨bk, n, none⟩ (.int .i64 xb) = V := ⟨_, rfl⟩
              obtain ⟨Vb, hVb⟩ : ∃ V, Va.setCell ⟨bk, m1, none⟩ (.int .i64 xa) = V := ⟨_, rfl⟩
              have HSA : Hid (Va.cell? ⟨W2.heap.size, 1, none⟩ = some (.slice (some ⟨b2, 0, none⟩) next.length (next.length + 1)) ∧ Va.cell? ⟨b2, k, none⟩ = some (.slice (some ⟨bk, 0, none⟩) ln (ln + 2)) ∧ Va.frozen? ⟨bk, m1, none⟩ = false) := by
                rw [← hVa]
                refine ⟨?_, ?_, ?_⟩
                · rw [World.cell?_setCell_other _ _ _ _ (by intro e; injection e with e1 _ _; exact hb1 e1)]; exact HS0.out.1
                · rw [World.cell?_setCell_other _ _ _ _ (by intro e; injection e with e1 _ _; exact hb2s e1)]; exact HS0.out.2
                · rw [World.frozen?_setCell]; exact HC2.out.2.2.2
              have HSB : Hid (Vb.cell? ⟨W2.heap.size, 1, none⟩ = some (.slice (some ⟨b2, 0, none⟩) next.length (next.length + 1)) ∧ Vb.cell? ⟨b2, k, none⟩ = some (.slice (some ⟨bk, 0, none⟩) ln (ln + 2))) := by
                rw [← hVb]
                refine ⟨?_, ?_⟩
                · rw [World.cell?_setCell_other _ _ _ _ (by intro e; injection e with e1 _ _; exact hb1 e1)]; exact HSA.out.1
                · rw [World.cell?_setCell_other _ _ _ _ (by intro e; injection e with e1 _ _; exact hb2s e1)]; exact HSA.out.2.1
              have HSF : Hid (RowsM Vb b2 bs [.slice (some ⟨m, 0, none⟩) 1 1] (yss.set k (revN (n + 1) xs)) ∧ Kept bs wr Vb) := by
                rw [← hVb, ← hVa, ← hV6]
                exact ⟨HS.out.keptF (Kept.refl [] _).drew (by simp) (by simp), ((HK6.out.setCell (.inl HBK.out.2) _).setCell (.inl HBK.out.2) _).drew⟩
              have HVA : Hid (V6.setCell ⟨bk, n, none⟩ (.int .i64 xb) = Va) := hVa
              have HVB : Hid (Va.setCell ⟨bk, m1, none⟩ (.int .i64 xa) = Vb) := hVb
              have HV6 : Hid (w6.drew = V6) := hV6
              clear hVa hVb hV6 f1 g1 g2 g3 fz1 fz2
              refine wp_regionHp (fun Y => Y.cell? ⟨W2.heap.size, 1, none⟩ = some (.slice (some ⟨b2, 0, none⟩) next.length (next.length + 1)) ∧ Y.cell? ⟨b2, k, none⟩ = some (.slice (some ⟨bk, 0, none⟩) ln (ln + 2))) (by kernel_rfl) ?_
              rw [HV6.out]
              refine heldTakeHp 0 (some 124) (.pointer (some ⟨W2.heap.size, 1, none⟩)) rfl rfl rfl (by kernel_rfl) (by kernel_rfl) (by kernel_rfl) (fun Y hY => ?_) HS0.out ?_
              · have y0 := hY.1
                have y1 := hY.2
                clear hY
                go_simp
              simp only [Act.put, List.setIfInBounds_toArray, List.set_cons_zero, List.set_cons_succ]
              refine heldTakeHp 1 (some 125) (.slice (some ⟨b2, 0, none⟩) next.length (next.length + 1)) rfl rfl rfl (by kernel_rfl) (by kernel_rfl) (by kernel_rfl) (fun Y hY => ?_) HS0.out ?_
              · have y0 := hY.1
                have y1 := hY.2
                clear hY
                go_simp
              simp only [Act.put, List.setIfInBounds_toArray, List.set_cons_zero, List.set_cons_succ]
              refine heldTakeHp 2 (some 126) (.int .i64 (k : Nat)) rfl rfl rfl (by kernel_rfl) (by kernel_rfl) (by kernel_rfl) (fun Y hY => ?_) HS0.out ?_
              · have y0 := hY.1
                have y1 := hY.2
                clear hY
                go_simp
              simp only [Act.put, List.setIfInBounds_toArray, List.set_cons_zero, List.set_cons_succ]
              refine heldTakeHp 3 (some 127) (.pointer (some ⟨b2, k, none⟩)) rfl rfl rfl (by kernel_rfl) (by kernel_rfl) (by kernel_rfl) (fun Y hY => ?_) HS0.out ?_
              · have y0 := hY.1
                have y1 := hY.2
                clear hY
                go_simp
              simp only [Act.put, List.setIfInBounds_toArray, List.set_cons_zero, List.set_cons_succ]
              refine heldTakeHp 4 (some 128) (.slice (some ⟨bk, 0, none⟩) ln (ln + 2)) rfl rfl rfl (by kernel_rfl) (by kernel_rfl) (by kernel_rfl) (fun Y hY => ?_) HS0.out ?_
              · have y0 := hY.1
                have y1 := hY.2
                clear hY
                go_simp
              simp only [Act.put, List.setIfInBounds_toArray, List.set_cons_zero, List.set_cons_succ]
              refine heldTakeHp 5 (some 129) (.int .i64 (n : Nat)) rfl rfl rfl (by kernel_rfl) (by kernel_rfl) (by kernel_rfl) (fun Y hY => ?_) HS0.out ?_
              · have y0 := hY.1
                have y1 := hY.2
                clear hY
                go_simp
              simp only [Act.put, List.setIfInBounds_toArray, List.set_cons_zero, List.set_cons_succ]
              refine heldTakeHp 6 (some 130) (.pointer (some ⟨W2.heap.size, 1, none⟩)) rfl rfl rfl (by kernel_rfl) (by kernel_rfl) (by kernel_rfl) (fun Y hY => ?_) HS0.out ?_
              · have y0 := hY.1
                have y1 := hY.2
                clear hY
                go_simp
              simp only [Act.put, List.setIfInBounds_toArray, List.set_cons_zero, List.set_cons_succ]
              refine heldTakeHp 7 (some 131) (.slice (some ⟨b2, 0, none⟩) next.length (next.length + 1)) rfl rfl rfl (by kernel_rfl) (by kernel_rfl) (by kernel_rfl) (fun Y hY => ?_) HS0.out ?_
              · have y0 := hY.1
                have y1 := hY.2
                clear hY
                go_simp
              simp only [Act.put, List.setIfInBounds_toArray, List.set_cons_zero, List.set_cons_succ]
              refine heldTakeHp 8 (some 132) (.int .i64 (k : Nat)) rfl rfl rfl (by kernel_rfl) (by kernel_rfl) (by kernel_rfl) (fun Y hY => ?_) HS0.out ?_
              · have y0 := hY.1
                have y1 := hY.2
                clear hY
                go_simp
              simp only [Act.put, List.setIfInBounds_toArray, List.set_cons_zero, List.set_cons_succ]
              refine heldTakeHp 9 (some 133) (.pointer (some ⟨b2, k, none⟩)) rfl rfl rfl (by kernel_rfl) (by kernel_rfl) (by kernel_rfl) (fun Y hY => ?_) HS0.out ?_
              · have y0 := hY.1
                have y1 := hY.2
                clear hY
                go_simp
              simp only [Act.put, List.setIfInBounds_toArray, List.set_cons_zero, List.set_cons_succ]
              refine heldTakeHp 10 (some 134) (.slice (some ⟨bk, 0, none⟩) ln (ln + 2)) rfl rfl rfl (by kernel_rfl) (by kernel_rfl) (by kernel_rfl) (fun Y hY => ?_) HS0.out ?_
              · have y0 := hY.1
                have y1 := hY.2
                clear hY
                go_simp
              simp only [Act.put, List.setIfInBounds_toArray, List.set_cons_zero, List.set_cons_succ]
              refine heldTakeHp 11 (some 135) (.pointer (some ⟨W2.heap.size, 1, none⟩)) rfl rfl rfl (by kernel_rfl) (by kernel_rfl) (by kernel_rfl) (fun Y hY => ?_) HS0.out ?_
              · have y0 := hY.1
                have y1 := hY.2
                clear hY
                go_simp
              simp only [Act.put, List.setIfInBounds_toArray, List.set_cons_zero, List.set_cons_succ]
              refine heldTakeHp 12 (some 136) (.slice (some ⟨b2, 0, none⟩) next.length (next.length + 1)) rfl rfl rfl (by kernel_rfl) (by kernel_rfl) (by kernel_rfl) (fun Y hY => ?_) HS0.out ?_
              · have y0 := hY.1
                have y1 := hY.2
                clear hY
                go_simp
              simp only [Act.put, List.setIfInBounds_toArray, List.set_cons_zero, List.set_cons_succ]
              refine heldTakeHp 13 (some 137) (.int .i64 (k : Nat)) rfl rfl rfl (by kernel_rfl) (by kernel_rfl) (by kernel_rfl) (fun Y hY => ?_) HS0.out ?_
              · have y0 := hY.1
                have y1 := hY.2
                clear hY
                go_simp
              simp only [Act.put, List.setIfInBounds_toArray, List.set_cons_zero, List.set_cons_succ]
              refine heldTakeHp 14 (some 138) (.pointer (some ⟨b2, k, none⟩)) rfl rfl rfl (by kernel_rfl) (by kernel_rfl) (by kernel_rfl) (fun Y hY => ?_) HS0.out ?_
              · have y0 := hY.1
                have y1 := hY.2
                clear hY
                go_simp
              simp only [Act.put, List.setIfInBounds_toArray, List.set_cons_zero, List.set_cons_succ]
              refine heldTakeHp 15 (some 139) (.slice (some ⟨bk, 0, none⟩) ln (ln + 2)) rfl rfl rfl (by kernel_rfl) (by kernel_rfl) (by kernel_rfl) (fun Y hY => ?_) HS0.out ?_
              · have y0 := hY.1
                have y1 := hY.2
                clear hY
                go_simp
              simp only [Act.put, List.setIfInBounds_toArray, List.set_cons_zero, List.set_cons_succ]
              refine heldTakeHp 16 (some 140) (.int .i64 (ln : Nat)) rfl rfl rfl (by kernel_rfl) (by kernel_rfl) (by kernel_rfl) (fun Y hY => ?_) HS0.out ?_
              · have y0 := hY.1
                have y1 := hY.2
                clear hY
                go_simp
              simp only [Act.put, List.setIfInBounds_toArray, List.set_cons_zero, List.set_cons_succ]
              refine heldTakeHp 17 (some 141) (.int .i64 (l1 : Nat)) rfl rfl rfl (by kernel_rfl) (by kernel_rfl) (by kernel_rfl) (fun Y hY => ?_) HS0.out ?_
              · have y0 := hY.1
                have y1 := hY.2
                clear hY
                go_simp
              simp only [Act.put, List.setIfInBounds_toArray, List.set_cons_zero, List.set_cons_succ]
              refine heldTakeHp 18 (some 142) (.int .i64 (n : Nat)) rfl rfl rfl (by kernel_rfl) (by kernel_rfl) (by kernel_rfl) (fun Y hY => ?_) HS0.out ?_
              · have y0 := hY.1
                have y1 := hY.2
                clear hY
                go_simp
              simp only [Act.put, List.setIfInBounds_toArray, List.set_cons_zero, List.set_cons_succ]
              refine heldTakeHp 19 (some 143) (.int .i64 (m1 : Nat)) rfl rfl rfl (by kernel_rfl) (by kernel_rfl) (by kernel_rfl) (fun Y hY => ?_) HS0.out ?_
              · have y0 := hY.1
                have y1 := hY.2
                clear hY
                go_simp
              simp only [Act.put, List.setIfInBounds_toArray, List.set_cons_zero, List.set_cons_succ]
              refine heldTakeHp 20 (some 144) (.pointer (some ⟨W2.heap.size, 1, none⟩)) rfl rfl rfl (by kernel_rfl) (by kernel_rfl) (by kernel_rfl) (fun Y hY => ?_) HS0.out ?_
              · have y0 := hY.1
                have y1 := hY.2
                clear hY
                go_simp
              simp only [Act.put, List.setIfInBounds_toArray, List.set_cons_zero, List.set_cons_succ]
              refine heldTakeHp 21 (some 145) (.slice (some ⟨b2, 0, none⟩) next.length (next.length + 1)) rfl rfl rfl (by kernel_rfl) (by kernel_rfl) (by kernel_rfl) (fun Y hY => ?_) HS0.out ?_
              · have y0 := hY.1
                have y1 := hY.2
                clear hY
                go_simp
              simp only [Act.put, List.setIfInBounds_toArray, List.set_cons_zero, List.set_cons_succ]
              refine heldTakeHp 22 (some 146) (.int .i64 (k : Nat)) rfl rfl rfl (by kernel_rfl) (by kernel_rfl) (by kernel_rfl) (fun Y hY => ?_) HS0.out ?_
              · have y0 := hY.1
                have y1 := hY.2
                clear hY
                go_simp
              simp only [Act.put, List.setIfInBounds_toArray, List.set_cons_zero, List.set_cons_succ]
              refine heldTakeHp 23 (some 147) (.pointer (some ⟨b2, k, none⟩)) rfl rfl rfl (by kernel_rfl) (by kernel_rfl) (by kernel_rfl) (fun Y hY => ?_) HS0.out ?_
              · have y0 := hY.1
                have y1 := hY.2
                clear hY
                go_simp
              simp only [Act.put, List.setIfInBounds_toArray, List.set_cons_zero, List.set_cons_succ]
              refine heldTakeHp 24 (some 148) (.slice (some ⟨bk, 0, none⟩) ln (ln + 2)) rfl rfl rfl (by kernel_rfl) (by kernel_rfl) (by kernel_rfl) (fun Y hY => ?_) HS0.out ?_
              · have y0 := hY.1
                have y1 := hY.2
                clear hY
                go_simp
              simp only [Act.put, List.setIfInBounds_toArray, List.set_cons_zero, List.set_cons_succ]
              refine heldTakeHp 25 (some 149) (.pointer (some ⟨W2.heap.size, 1, none⟩)) rfl rfl rfl (by kernel_rfl) (by kernel_rfl) (by kernel_rfl) (fun Y hY => ?_) HS0.out ?_
              · have y0 := hY.1
                have y1 := hY.2
                clear hY
                go_simp
              simp only [Act.put, List.setIfInBounds_toArray, List.set_cons_zero, List.set_cons_succ]
              refine heldTakeHp 26 (some 150) (.slice (some ⟨b2, 0, none⟩) next.length (next.length + 1)) rfl rfl rfl (by kernel_rfl) (by kernel_rfl) (by kernel_rfl) (fun Y hY => ?_) HS0.out ?_
              · have y0 := hY.1
                have y1 := hY.2
                clear hY
                go_simp
              simp only [Act.put, List.setIfInBounds_toArray, List.set_cons_zero, List.set_cons_succ]
              refine heldTakeHp 27 (some 151) (.int .i64 (k : Nat)) rfl rfl rfl (by kernel_rfl) (by kernel_rfl) (by kernel_rfl) (fun Y hY => ?_) HS0.out ?_
              · have y0 := hY.1
                have y1 := hY.2
                clear hY
                go_simp
              simp only [Act.put, List.setIfInBounds_toArray, List.set_cons_zero, List.set_cons_succ]
              refine heldTakeHp 28 (some 152) (.pointer (some ⟨b2, k, none⟩)) rfl rfl rfl (by kernel_rfl) (by kernel_rfl) (by kernel_rfl) (fun Y hY => ?_) HS0.out ?_
              · have y0 := hY.1
                have y1 := hY.2
                clear hY
                go_simp
              simp only [Act.put, List.setIfInBounds_toArray, List.set_cons_zero, List.set_cons_succ]
              refine heldTakeHp 29 (some 153) (.slice (some ⟨bk, 0, none⟩) ln (ln + 2)) rfl rfl rfl (by kernel_rfl) (by kernel_rfl) (by kernel_rfl) (fun Y hY => ?_) HS0.out ?_
              · have y0 := hY.1
                have y1 := hY.2
                clear hY
                go_simp
              simp only [Act.put, List.setIfInBounds_toArray, List.set_cons_zero, List.set_cons_succ]
              refine heldTakeHp 30 (some 154) (.int .i64 (ln : Nat)) rfl rfl rfl (by kernel_rfl) (by kernel_rfl) (by kernel_rfl) (fun Y hY => ?_) HS0.out ?_
              · have y0 := hY.1
                have y1 := hY.2
                clear hY
                go_simp
              simp only [Act.put, List.setIfInBounds_toArray, List.set_cons_zero, List.set_cons_succ]
              refine heldTakeHp 31 (some 155) (.int .i64 (l1 : Nat)) rfl rfl rfl (by kernel_rfl) (by kernel_rfl) (by kernel_rfl) (fun Y hY => ?_) HS0.out ?_
              · have y0 := hY.1
                have y1 := hY.2
                clear hY
                go_simp
              simp only [Act.put, List.setIfInBounds_toArray, List.set_cons_zero, List.set_cons_succ]
              refine heldTakeHp 32 (some 156) (.int .i64 (n : Nat)) rfl rfl rfl (by kernel_rfl) (by kernel_rfl) (by kernel_rfl) (fun Y hY => ?_) HS0.out ?_
              · have y0 := hY.1
                have y1 := hY.2
                clear hY
                go_simp
              simp only [Act.put, List.setIfInBounds_toArray, List.set_cons_zero, List.set_cons_succ]
              refine heldTakeHp 33 (some 157) (.int .i64 (m1 : Nat)) rfl rfl rfl (by kernel_rfl) (by kernel_rfl) (by kernel_rfl) (fun Y hY => ?_) HS0.out ?_
              · have y0 := hY.1
                have y1 := hY.2
                clear hY
                go_simp
              simp only [Act.put, List.setIfInBounds_toArray, List.set_cons_zero, List.set_cons_succ]
              refine heldTakeHp 34 (some 158) (.pointer (some ⟨bk, m1, none⟩)) rfl rfl rfl (by kernel_rfl) (by kernel_rfl) (by kernel_rfl) (fun Y hY => ?_) HS0.out ?_
              · have y0 := hY.1
                have y1 := hY.2
                clear hY
                go_simp
              simp only [Act.put, List.setIfInBounds_toArray, List.set_cons_zero, List.set_cons_succ]
              refine heldTakeHp 36 (some 160) (.pointer (some ⟨W2.heap.size, 1, none⟩)) rfl rfl rfl (by kernel_rfl) (by kernel_rfl) (by kernel_rfl) (fun Y hY => ?_) HS0.out ?_
              · have y0 := hY.1
                have y1 := hY.2
                clear hY
                go_simp
              simp only [Act.put, List.setIfInBounds_toArray, List.set_cons_zero, List.set_cons_succ]
              refine heldTakeHp 37 (some 161) (.slice (some ⟨b2, 0, none⟩) next.length (next.length + 1)) rfl rfl rfl (by kernel_rfl) (by kernel_rfl) (by kernel_rfl) (fun Y hY => ?_) HS0.out ?_
              · have y0 := hY.1
                have y1 := hY.2
                clear hY
                go_simp
              simp only [Act.put, List.setIfInBounds_toArray, List.set_cons_zero, List.set_cons_succ]
              refine heldTakeHp 38 (some 162) (.int .i64 (k : Nat)) rfl rfl rfl (by kernel_rfl) (by kernel_rfl) (by kernel_rfl) (fun Y hY => ?_) HS0.out ?_
              · have y0 := hY.1
                have y1 := hY.2
                clear hY
                go_simp
              simp only [Act.put, List.setIfInBounds_toArray, List.set_cons_zero, List.set_cons_succ]
              refine heldTakeHp 39 (some 163) (.pointer (some ⟨b2, k, none⟩)) rfl rfl rfl (by kernel_rfl) (by kernel_rfl) (by kernel_rfl) (fun Y hY => ?_) HS0.out ?_
              · have y0 := hY.1
                have y1 := hY.2
                clear hY
                go_simp
              simp only [Act.put, List.setIfInBounds_toArray, List.set_cons_zero, List.set_cons_succ]
              refine heldTakeHp 40 (some 164) (.slice (some ⟨bk, 0, none⟩) ln (ln + 2)) rfl rfl rfl (by kernel_rfl) (by kernel_rfl) (by kernel_rfl) (fun Y hY => ?_) HS0.out ?_
              · have y0 := hY.1
                have y1 := hY.2
                clear hY
                go_simp
              simp only [Act.put, List.setIfInBounds_toArray, List.set_cons_zero, List.set_cons_succ]
              refine heldTakeHp 41 (some 165) (.int .i64 (n : Nat)) rfl rfl rfl (by kernel_rfl) (by kernel_rfl) (by kernel_rfl) (fun Y hY => ?_) HS0.out ?_
              · have y0 := hY.1
                have y1 := hY.2
                clear hY
                go_simp
              simp only [Act.put, List.setIfInBounds_toArray, List.set_cons_zero, List.set_cons_succ]
              refine heldTakeHp 42 (some 166) (.pointer (some ⟨bk, n, none⟩)) rfl rfl rfl (by kernel_rfl) (by kernel_rfl) (by kernel_rfl) (fun Y hY => ?_) HS0.out ?_
              · have y0 := hY.1
                have y1 := hY.2
                clear hY
                go_simp
              simp only [Act.put, List.setIfInBounds_toArray, List.set_cons_zero, List.set_cons_succ]
              refine heldTwoHp 35 43 (by kernel_rfl) ?_ ?_
              · skip
                refine opValueHp (some 159) (.int .i64 xb) V6 rfl rfl rfl ?_ ⟨HS0.out, ?_⟩
                · have y0 := HC2.out.2.1
                  go_simp
                simp only [Act.put, List.setIfInBounds_toArray, List.set_cons_zero, List.set_cons_succ]
                refine heldOneHp 43 (by kernel_rfl) ?_
                refine opValueHp (some 167) (.int .i64 xa) V6 rfl rfl rfl ?_ ⟨HS0.out, ?_⟩
                · have y0 := HC2.out.1
                  go_simp
                simp only [Act.put, List.setIfInBounds_toArray, List.set_cons_zero, List.set_cons_succ]
                refine heldTakeHp 44 (some 168) (.pointer (some ⟨bk, n, none⟩)) rfl rfl rfl (by kernel_rfl) (by kernel_rfl) (by kernel_rfl) (fun Y hY => ?_) HS0.out ?_
                · have y0 := hY.1
                  have y1 := hY.2
                  clear hY
                  go_simp
                simp only [Act.put, List.setIfInBounds_toArray, List.set_cons_zero, List.set_cons_succ]
                refine heldOneHp 45 (by kernel_rfl) ?_
                refine opSkipHp Va rfl rfl rfl ?_ ⟨⟨HSA.out.1, HSA.out.2.1⟩, ?_⟩
                · have y0 := HC2.out.1
                  have y1 := HC2.out.2.2.1
                  rw [← HVA.out]
                  go_simp
                refine heldTakeHp 46 (some 169) (.pointer (some ⟨bk, m1, none⟩)) rfl rfl rfl (by kernel_rfl) (by kernel_rfl) (by kernel_rfl) (fun Y hY => ?_) ⟨HSA.out.1, HSA.out.2.1⟩ ?_
                · have y0 := hY.1
                  have y1 := hY.2
                  clear hY
                  go_simp
                simp only [Act.put, List.setIfInBounds_toArray, List.set_cons_zero, List.set_cons_succ]
                refine heldOneHp 47 (by kernel_rfl) ?_
                refine opSkipHp Vb rfl rfl rfl ?_ ⟨HSB.out, ?_⟩
                · have y0 : Va.cell? ⟨bk, m1, none⟩ = some (.int .i64 xb) := by rw [← HVA.out, World.cell?_setCell_other _ _ _ _ (by intro e; injection e with _ e2 _; exact v6 e2)]; exact HC2.out.2.1
                  have y1 := HSA.out.2.2
                  rw [← HVB.out]
                  go_simp
                refine wpAnyH_done (by kernel_rfl) ?_ _
                simp only [Q1Hp]
                go_wp2
                go_roundw
                case rel => exact ⟨n + 1, by go_num, by omega, HSF.out.1, HSF.out.2⟩
                case measure => simp [intOf]; omega
              · skip
                refine opValueHp (some 167) (.int .i64 xa) V6 rfl rfl rfl ?_ ⟨HS0.out, ?_⟩
                · have y0 := HC2.out.1
                  go_simp
                simp only [Act.put, List.setIfInBounds_toArray, List.set_cons_zero, List.set_cons_succ]
                refine heldOneHp 35 (by kernel_rfl) ?_
                refine opValueHp (some 159) (.int .i64 xb) V6 rfl rfl rfl ?_ ⟨HS0.out, ?_⟩
                · have y0 := HC2.out.2.1
                  go_simp
                simp only [Act.put, List.setIfInBounds_toArray, List.set_cons_zero, List.set_cons_succ]
                refine heldTakeHp 44 (some 168) (.pointer (some ⟨bk, n, none⟩)) rfl rfl rfl (by kernel_rfl) (by kernel_rfl) (by kernel_rfl) (fun Y hY => ?_) HS0.out ?_
                · have y0 := hY.1
                  have y1 := hY.2
                  clear hY
                  go_simp
                simp only [Act.put, List.setIfInBounds_toArray, List.set_cons_zero, List.set_cons_succ]
                refine heldOneHp 45 (by kernel_rfl) ?_
                refine opSkipHp Va rfl rfl rfl ?_ ⟨⟨HSA.out.1, HSA.out.2.1⟩, ?_⟩
                · have y0 := HC2.out.1
                  have y1 := HC2.out.2.2.1
                  rw [← HVA.out]
                  go_simp
                refine heldTakeHp 46 (some 169) (.pointer (some ⟨bk, m1, none⟩)) rfl rfl rfl (by kernel_rfl) (by kernel_rfl) (by kernel_rfl) (fun Y hY => ?_) ⟨HSA.out.1, HSA.out.2.1⟩ ?_
                · have y0 := hY.1
                  have y1 := hY.2
                  clear hY
                  go_simp
                simp only [Act.put, List.setIfInBounds_toArray, List.set_cons_zero, List.set_cons_succ]
                refine heldOneHp 47 (by kernel_rfl) ?_
                refine opSkipHp Vb rfl rfl rfl ?_ ⟨HSB.out, ?_⟩
                · have y0 : Va.cell? ⟨bk, m1, none⟩ = some (.int .i64 xb) := by rw [← HVA.out, World.cell?_setCell_other _ _ _ _ (by intro e; injection e with _ e2 _; exact v6 e2)]; exact HC2.out.2.1
                  have y1 := HSA.out.2.2
                  rw [← HVB.out]
                  go_simp
                refine wpAnyH_done (by kernel_rfl) ?_ _
                simp only [Q1Hp]
                go_wp2
                go_roundw
                case rel => exact ⟨n + 1, by go_num, by omega, HSF.out.1, HSF.out.2⟩
                case measure => simp [intOf]; omega
            · obtain rfl : n = hf := by omega
              have u0 : ¬ ((n : Int) < (n : Int)) := by omega
              have HRV : Hid (revN n xs = xs.reverse) := revN_all (by rw [HLX.out]; omega)
              go_wp2_with fail
              go_roundw
              case rel =>
                refine ⟨k + 1, yss.set k xs.reverse, by go_num, by omega, ⟨by rw [List.length_set]; exact HY.out.1, fun i h h' => ?_⟩, by have q := HM6.out; rw [HRV.out] at q; exact q, HK6.out⟩
                rw [List.getElem_set]
                split
                · next e => subst e; rw [if_pos (by omega), HNX.out]
                · next e =>
                  rw [HY.out.2 i (by simpa using h) h']
                  by_cases hi : i < k
                  · rw [if_pos hi, if_pos (by omega)]
                  · rw [if_neg hi, if_neg (by omega)]
              case measure => simp [intOf]; omega
        · obtain rfl : k = next.length := by omega
          have y0 : ¬ ((next.length : Int) < (next.length : Int)) := by omega
          have HYE : Hid (yss = next.map List.reverse) := by
            show yss = _
            apply List.ext_getElem (by rw [HY.out.1]; simp)
            intro i h h'
            rw [HY.out.2 i h (by simpa using h'), if_pos (by simpa using h')]
            simp
          have HM7 : Hid (RowsM w5 b2 bs [.slice (some ⟨m, 0, none⟩) 1 1] (next.map List.reverse)) := by
            have q := HM5.out
            rw [HYE.out] at q
            exact q
          have hup := HD4.out.up
          have h31 := HD3.out.2
          have hnb := HM7.out.nb
          have hlt3 := HD4.out.lt
          have hb4 := HU4.out.2
          have h32 := HK3.out.size
          have h12 := lt_of HB3.out
          have hk1s := HK1.out.size
          have n1 : b1 ∉ bs := fun hx => by have := hnb _ hx; omega
          have n3 : b3 ∉ bs := fun hx => by have := hlt3 _ hx; omega
          have n4 : b4 ∉ bs := fun hx => by have := hlt3 _ hx; omega
          have nB : W2.heap.size ∉ bs := fun hx => by have := hlt3 _ hx; omega
          have HV5 : Hid (Kept [] V w5) := ((keptB HV4.out HK11.out).trans HKW.out (H := []) (by simp) (fun x hx => .inr (by simp at hx; omega))).trans HK5b.out (by simp) (fun x hx => .inr (by have := hnb x hx; omega))
          have HBF : Hid (∀ W, Kept [] w5 W → (W.cell? ⟨W2.heap.size, 0, none⟩ = some (.slice (some ⟨b1, 0, none⟩) ps.length (ps.length + 2)) ∧ W.cell? ⟨W2.heap.size, 1, none⟩ = some (.slice (some ⟨b2, 0, none⟩) next.length (next.length + 1)) ∧ W.cell? ⟨W2.heap.size, 2, none⟩ = some (.slice (some ⟨b3, 0, none⟩) live.length (live.length + 2))) ∧ W.cell? ⟨w.heap.size, 0, none⟩ = some (.slice pad ps.length pc) ∧ W.cell? ⟨w.heap.size, 1, none⟩ = some (.slice nad next.length nc) ∧ W.cell? ⟨w.heap.size, 2, none⟩ = some (.slice lad live.length lc)) := fun W k => ⟨((((HB3.out.keptF (keptB HK4.out HK11.out) (by simp)).keptF HKW.out (by simp; omega)).keptF HK5b.out nB).keptF k (by simp)).cells, HDC.out W (keptB HV5.out k)⟩
          have HZA : Hid (∀ W, Kept [] w5 W → Strs W (.slice (some ⟨b1, 0, none⟩) ps.length (ps.length + 2)) ps ∧ Rowss W (.slice (some ⟨b2, 0, none⟩) next.length (next.length + 1)) (next.map List.reverse) ∧ Bls W (.slice (some ⟨b3, 0, none⟩) live.length (live.length + 2)) (live.map (!·)) ∧ Lets W (.slice (some ⟨b4, 0, none⟩) us.length (us.length + 2)) us) := fun W k => by
            refine ⟨(((((HD4.out.ps.kept HK11.out).keptF HKW.out (by simp; omega)).keptF HK5b.out n1).kept k).strs HFW.out.2.1 HFW.out.2.2.1), ?_, ?_, ((((HU4.out.1.kept HK11.out).keptF HKW.out (by simp; omega)).keptF HK5b.out n4).kept k).lets (by omega) HFW.out.2.2.2.1⟩
            · have q := (HM7.out.keptF k (by simp) (by simp)).rowss (next.length + 1) (by rw [List.length_map]; unfold maxLen; omega) (by rw [List.length_map]; exact HFW.out.1) (fun xs hx => by
                obtain ⟨ys, hy, rfl⟩ := List.mem_map.1 hx
                have h0 := HFW.out.2.2.2.2 ys hy
                exact ⟨by rw [List.length_reverse]; exact h0.1, fun x hx => h0.2 x (by simpa using hx)⟩)
              rw [List.length_map] at q
              exact q
            · have q := ((HL.out.keptF HK5b.out n3).kept k).bls (by rw [List.length_map]; omega)
              rw [List.length_map] at q
              exact q
          obtain ⟨S', hS'⟩ : ∃ S', runS ps (next.map List.reverse) live.length us = S' := ⟨_, rfl⟩
          obtain ⟨E', hE'⟩ : ∃ E', runE ps (next.map List.reverse) live.length us = E' := ⟨_, rfl⟩
          obtain ⟨T', hT'⟩ : ∃ T', hasE ps (next.map List.reverse) (live.map (!·)) us = T' := ⟨_, rfl⟩
          have HQ1 : Hid (∀ W, Kept [] w5 W → Calls Tryz.prog 9 #[.agg #[.slice (some ⟨b1, 0, none⟩) ps.length (ps.length + 2), .slice (some ⟨b2, 0, none⟩) next.length (next.length + 1), .slice (some ⟨b3, 0, none⟩) live.length (live.length + 2)], .slice (some ⟨b4, 0, none⟩) us.length (us.length + 2)] W fun e w' => e = .returned (.tuple #[.int .i64 (S' : Nat), .int .i64 (E' : Nat)]) ∧ Kept [] W w') := fun W k => by
            have q := run_any13 _ _ _ ps (next.map List.reverse) (some ⟨b3, 0, none⟩) live.length (live.length + 2) us W (HZA.out W k).1 (HZA.out W k).2.1 (HZA.out W k).2.2.2
            rw [hS', hE'] at q
            exact q.mono (fun e w' h => ⟨h.1, h.2.1.out⟩)
          have HQ2 : Hid (∀ W, Kept [] w5 W → Calls Tryz.prog 14 #[.agg #[.slice (some ⟨b1, 0, none⟩) ps.length (ps.length + 2), .slice (some ⟨b2, 0, none⟩) next.length (next.length + 1), .slice (some ⟨b3, 0, none⟩) live.length (live.length + 2)], .slice uad us.length uc] W fun e w' => e = .returned (.tuple #[.int .i64 (S' : Nat), .int .i64 (E' : Nat)]) ∧ Kept [] W w') := fun W k => by
            have q := refRunD_any _ _ _ ps (next.map List.reverse) (some ⟨b3, 0, none⟩) live.length (live.length + 2) us W (HZA.out W k).1 (HZA.out W k).2.1 (HLU.out W (keptB HV5.out k))
            rw [hS', hE'] at q
            exact q.mono (fun e w' h => ⟨h.1, h.2.1.out⟩)
          have HQ3 : Hid (∀ W, Kept [] w5 W → Calls Tryz.prog 10 #[.agg #[.slice (some ⟨b1, 0, none⟩) ps.length (ps.length + 2), .slice (some ⟨b2, 0, none⟩) next.length (next.length + 1), .slice (some ⟨b3, 0, none⟩) live.length (live.length + 2)], .slice (some ⟨b4, 0, none⟩) us.length (us.length + 2)] W fun e w' => e = .returned (.tuple #[.bool T', .int .i64 (E' : Nat)]) ∧ Kept [] W w') := fun W k => by
            have q := has_any13 _ _ _ _ ps (next.map List.reverse) (live.map (!·)) us W (HZA.out W k).1 (HZA.out W k).2.1 (HZA.out W k).2.2.1 (HZA.out W k).2.2.2
            rw [hT', List.length_map, hE'] at q
            exact q.mono (fun e w' h => ⟨h.1, h.2.out⟩)
          have HQ4 : Hid (∀ W, Kept [] w5 W → Calls Tryz.prog 15 #[.agg #[.slice (some ⟨b1, 0, none⟩) ps.length (ps.length + 2), .slice (some ⟨b2, 0, none⟩) next.length (next.length + 1), .slice (some ⟨b3, 0, none⟩) live.length (live.length + 2)], .slice uad us.length uc] W fun e w' => e = .returned (.tuple #[.bool T', .int .i64 (E' : Nat)]) ∧ Kept [] W w') := fun W k => by
            have q := refHasD_any _ _ _ _ ps (next.map List.reverse) (live.map (!·)) us W (HZA.out W k).1 (HZA.out W k).2.1 (HZA.out W k).2.2.1 (HLU.out W (keptB HV5.out k))
            rw [hT', List.length_map, hE'] at q
            exact q.mono (fun e w' h => ⟨h.1, h.2.out⟩)
          have HQ5 : Hid (∀ W, Kept [] w5 W → Calls Tryz.prog 16 #[.agg #[.slice pad ps.length pc, .slice nad next.length nc, .slice lad live.length lc]] W fun e w' => e = .returned (.int .i64 (C : Nat)) ∧ Kept [] W w') := fun W k => HRC.out W (keptB HV5.out k)
          clear f1
          obtain ⟨⟨f0, f1, f2⟩, d0, d1, d2⟩ := HBF.out w5 (Kept.refl [] w5)
          clear hS' hE' hT' hup h31 hnb hlt3 hb4 h32 h12 hk1s n1 n3 n4 nB
          go_upto_region 27 with (first
            | (go_at_call 9; refine (HQ1.out w5 (Kept.refl [] w5)).mono ?_; rintro e W23 ⟨rfl, k23⟩; have HK23 : Hid (Kept [] w5 W23) := k23; clear k23 d0 d1 d2 f0 f1 f2; obtain ⟨⟨f0, f1, f2⟩, d0, d1, d2⟩ := HBF.out W23 HK23.out)
            | (go_at_call 14; refine (HQ2.out W23 HK23.out).mono ?_; rintro e W24 ⟨rfl, k24⟩; have HK24 : Hid (Kept [] w5 W24) := keptB HK23.out k24; clear k24 d0 d1 d2 f0 f1 f2; obtain ⟨⟨f0, f1, f2⟩, d0, d1, d2⟩ := HBF.out W24 HK24.out)
            | (go_at_call 10; refine (HQ3.out W24 HK24.out).mono ?_; rintro e W25 ⟨rfl, k25⟩; have HK25 : Hid (Kept [] w5 W25) := keptB HK24.out k25; clear k25 d0 d1 d2 f0 f1 f2; obtain ⟨⟨f0, f1, f2⟩, d0, d1, d2⟩ := HBF.out W25 HK25.out)
            | (go_at_call 15; refine (HQ4.out W25 HK25.out).mono ?_; rintro e W26 ⟨rfl, k26⟩; have HK26 : Hid (Kept [] w5 W26) := keptB HK25.out k26; clear k26 d0 d1 d2 f0 f1 f2; obtain ⟨⟨f0, f1, f2⟩, d0, d1, d2⟩ := HBF.out W26 HK26.out))
          go_wp2_with (go_at_call 16; refine (HQ5.out W26 HK26.out).mono ?_; rintro e W27 ⟨rfl, k27⟩; have HK27 : Hid (Kept [] w5 W27) := keptB HK26.out k27; clear k27)
          go_ret
          exact ⟨ret_bool (by simp), keptB HKV.out (keptB HV5.out HK27.out)⟩
end Go.Proofs.YtghlijhbhdjhfaaGreatDoor
