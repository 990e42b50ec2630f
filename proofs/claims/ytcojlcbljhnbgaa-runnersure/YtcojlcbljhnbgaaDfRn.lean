/- package dfa: Run, Has of any automaton. -/
import Derived.Test.YtcojlcbljhnbgaaDfHas
namespace Go.Proofs.Ytcojlcbljhnbgaa
open Go.RowKit Go.Shelf

theorem any_false_at {α : Type} {p : α → Bool} {xs : List α} (h : xs.any p = false) {i : Nat} (hi : i < xs.length) : p xs[i] = false := by
  rw [List.any_eq_false] at h
  simpa using h xs[i] (List.getElem_mem hi)
theorem runD_take {next : List (List Int)} {us : List Nat} {k : Nat} (hk : k < us.length) : runD next (us.take (k + 1)) = stpD next (runD next (us.take k)) us[k] := by
  unfold runD
  rw [List.take_succ_eq_append_getElem hk, List.foldl_append]
  rfl
set_option maxHeartbeats 4000000 in
set_option maxRecDepth 10000 in
theorem run_any13 (pv nv uv : Value) (ps : List ByteArray) (next : List (List Int)) (la : Option Addr) (ll lc : Nat) (us : List Nat) (w : World) (hp : Strs w pv ps) (hn : Rowss w nv next) (hu : Lets w uv us) :
    Calls Try.prog 29 #[.agg #[pv, nv, .slice la ll lc], uv] w fun e w' => e = .returned (.tuple #[.int .i64 (runS ps next ll us : Nat), .int .i64 (runE ps next ll us : Nat)]) ∧ Hid (Kept [] w w') ∧ Hid (runE ps next ll us = 0 → runS ps next ll us < next.length ∧ ll = next.length) := by
  have HR : Hid (∀ W, Kept [] w W → Calls Try.prog 33 #[.agg #[pv, nv, .slice la ll lc]] W fun e w' => e = .returned (.bool (rightD ps next ll)) ∧ Kept [] W w') := fun W k => isRight_any13 pv nv ps next la ll lc W (hp.kept k) (hn.kept k)
  have hufew := hu.few
  obtain ⟨pa, pc, rfl, _, _⟩ := hp.form
  obtain ⟨na, nc, rfl, hnc1, hnc2⟩ := hn.form13
  obtain ⟨ua, uc, rfl⟩ := hu.form13
  obtain ⟨V, hV⟩ : ∃ V, w.alloc (.cells #[.slice pa ps.length pc, .slice na next.length nc, .slice la ll lc] 67) = V := ⟨_, rfl⟩
  have kV : Kept [] w V := by rw [← hV]; exact (Kept.refl [] w).alloc _
  have bV : V.heap[w.heap.size]? = some (.cells #[.slice pa ps.length pc, .slice na next.length nc, .slice la ll lc] 67 (0, 0)) := by rw [← hV]; exact al0 _ _
  have HV : Hid (_ = V) := hV
  have HKV : Hid (Kept [] w V) := kV
  have HCC : Hid (∀ W, Kept [] V W → W.cell? ⟨w.heap.size, 0, none⟩ = some (.slice pa ps.length pc) ∧ W.cell? ⟨w.heap.size, 1, none⟩ = some (.slice na next.length nc) ∧ W.cell? ⟨w.heap.size, 2, none⟩ = some (.slice la ll lc)) := fun W k => ⟨cell_kept0 k ((cell_of bV 0).trans rfl), cell_kept0 k ((cell_of bV 1).trans rfl), cell_kept0 k ((cell_of bV 2).trans rfl)⟩
  have HC : Hid (∀ W, Kept [] V W → ps.length ≤ 62 → Calls Try.prog 37 #[.slice ua us.length uc, .func (.func 35) #[] #[.pointer (some ⟨w.heap.size, 0, none⟩)]] W fun e w' => e = .returned (.bool (us.any (badLet ps.length))) ∧ w' = W) := fun W k h62 => containsU_any13 _ us w.heap.size ps.length pc pa W ((hu.kept kV).kept k) h62 (HCC.out W k).1
  have HNR : Hid (∀ W, Kept [] V W → Rowss W (.slice na next.length nc) next) := fun W k => (hn.kept kV).kept k
  have HUR : Hid (∀ W, Kept [] V W → Lets W (.slice ua us.length uc) us) := fun W k => (hu.kept kV).kept k
  obtain ⟨v0, v1, v2⟩ := HCC.out V (Kept.refl [] V)
  clear hp hn hu hV kV bV
  cases hr : rightD ps next ll with
  | false =>
    have hE : runE ps next ll us = 130 := by unfold runE; rw [hr]; rfl
    have hS : runS ps next ll us = 0 := by unfold runS; rw [hE]; rfl
    rw [hr] at HR
    rw [hE, hS]
    clear hE hS hr
    go_enter Try.func29, Try.ntmps29
    go_upto_region 1 with fail
    rw [HV.out]
    go_wp2_with (go_at_call 33; refine (HR.out V HKV.out).mono ?_; rintro e W1 ⟨rfl, hk⟩; have HK : Hid (Kept [] w W1) := keptB HKV.out hk; clear hk)
    go_ret2
    exact ⟨rfl, HK, fun q => by cases q⟩
  | true =>
    have h62 : ps.length ≤ 62 := by
      unfold rightD at hr
      simp only [Bool.and_eq_true] at hr
      have := listB_len hr.1.1.1
      omega
    have hll : ll = next.length ∧ 0 < next.length := by
      unfold rightD at hr
      simp only [Bool.and_eq_true, Bool.not_eq_true', decide_eq_false_iff_not, decide_eq_true_eq] at hr
      exact ⟨hr.1.2, by have := hr.1.1.2; omega⟩
    have HRT : Hid (rightD ps next ll = true) := hr
    rw [hr] at HR
    have HCB : Hid (∀ W, Kept [] V W → Calls Try.prog 37 #[.slice ua us.length uc, .func (.func 35) #[] #[.pointer (some ⟨w.heap.size, 0, none⟩)]] W fun e w' => e = .returned (.bool (us.any (badLet ps.length))) ∧ w' = W) := fun W k => HC.out W k h62
    cases hb : us.any (badLet ps.length) with
    | true =>
      have hE : runE ps next ll us = 1 := by unfold runE; rw [hr, hb]; rfl
      have hS : runS ps next ll us = 0 := by unfold runS; rw [hE]; rfl
      rw [hb] at HCB
      rw [hE, hS]
      clear hE hS hr hb hll
      go_enter Try.func29, Try.ntmps29
      go_upto_region 1 with fail
      rw [HV.out]
      go_wp2_with (first
        | (go_at_call 33; refine (HR.out V HKV.out).mono ?_; rintro e W1 ⟨rfl, hk⟩; have HK : Hid (Kept [] V W1) := hk; clear hk)
        | (go_at_call 37; refine (HCB.out W1 HK.out).mono ?_; rintro e W2 ⟨rfl, hw2⟩; rw [hw2]; clear hw2))
      go_ret2
      exact ⟨rfl, keptB HKV.out HK.out, fun q => by cases q⟩
    | false =>
      have hE : runE ps next ll us = 0 := by unfold runE; rw [hr, hb]; rfl
      have hS : runS ps next ll us = runD next us := by unfold runS; rw [hE]; rfl
      rw [hb] at HCB
      rw [hE, hS]
      have HBF : Hid (us.any (badLet ps.length) = false) := hb
      have HLL : Hid (ll = next.length ∧ 0 < next.length) := hll
      clear hE hS hr hb hll
      go_enter Try.func29, Try.ntmps29
      go_upto_region 1 with fail
      rw [HV.out]
      go_upto_region 6 with (first
        | (go_at_call 33; refine (HR.out V HKV.out).mono ?_; rintro e W1 ⟨rfl, hk⟩; have HK : Hid (Kept [] V W1) := hk; clear hk)
        | (go_at_call 37; refine (HCB.out W1 HK.out).mono ?_; rintro e W2 ⟨rfl, hw2⟩; rw [hw2]; clear hw2))
      have c1 := (HCC.out W1 HK.out).2.1
      have HN1 : Hid (Rowss W1 (.slice na next.length nc) next) := HNR.out W1 HK.out
      have HU1 : Hid (Lets W1 (.slice ua us.length uc) us) := HUR.out W1 HK.out
      clear v0 v1 v2
      go_wp2_with fail
      go_loopw [7, 19] (fun s i wr => ∃ k : Nat, i = .int .i64 (k : Nat) ∧ s = .int .i64 (runD next (us.take k) : Nat) ∧ k ≤ us.length ∧ wr = W1 ∧ runD next (us.take k) < next.length) (fun _ i _ => us.length - (intOf i).toNat)
      case atStart => exact ⟨0, rfl, rfl, Nat.zero_le _, rfl, HLL.out.2⟩
      case round =>
        obtain ⟨k, rfl, rfl, hk, hwr, hst⟩ := hrel
        have HWR : Hid (wr = W1) := hwr
        have cc1 : wr.cell? ⟨w.heap.size, 1, none⟩ = some (.slice na next.length nc) := by rw [hwr]; exact c1
        clear hwr c1
        by_cases hlt : k < us.length
        · have z0 : (k : Int) < (us.length : Int) := by omega
          obtain ⟨hr1, h0, h1, h2⟩ := right_at HRT.out hst (any_false_at HBF.out hlt)
          have HTK := runD_take (next := next) hlt
          obtain ⟨ub, uo, hua, huc⟩ : ∃ ub uo, ua = some ⟨ub, uo, none⟩ ∧ W1.cell? ⟨ub, uo + k, none⟩ = some (.int .u16 (us[k] : Nat)) := by
            rcases HU1.out.lie with ⟨_, q⟩ | ⟨b, o, c, q, _, _, hc⟩
            · rw [q] at hlt; simp at hlt
            · cases q
              refine ⟨b, o, rfl, ?_⟩
              rw [hc k hlt, List.getD_eq_getElem?_getD, List.getElem?_eq_getElem hlt]
              rfl
          obtain ⟨nb, no, hna, hnx⟩ : ∃ nb no, na = some ⟨nb, no, none⟩ ∧ ∃ rb ro rc, W1.cell? ⟨nb, no + runD next (us.take k), none⟩ = some (.slice (some ⟨rb, ro, none⟩) (next[runD next (us.take k)]).length rc) ∧ W1.cell? ⟨rb, ro + us[k], none⟩ = some (.int .i64 (next[runD next (us.take k)])[us[k]]) := by
            rcases HN1.out.lie with ⟨_, q⟩ | ⟨b, o, c, q, _, _, hc⟩
            · rw [q] at hst; simp at hst
            · cases q
              obtain ⟨u, q1, q2⟩ := hc _ hst
              obtain ⟨rb, ro, rc, q3, _, _, q4⟩ := q2.there (by omega)
              exact ⟨b, o, rfl, rb, ro, rc, by rw [q1, q3], q4 _ hr1⟩
          obtain ⟨rb, ro, rc, hn1, hn2⟩ := hnx
          subst hua hna
          obtain ⟨st, hst'⟩ : ∃ st, runD next (us.take k) = st := ⟨_, rfl⟩
          obtain ⟨lt, hlt'⟩ : ∃ lt, us[k] = lt := ⟨_, rfl⟩
          obtain ⟨sn, hsn⟩ : ∃ sn, stpD next (runD next (us.take k)) us[k] = sn := ⟨_, rfl⟩
          obtain ⟨rl, hrl⟩ : ∃ rl, (next[runD next (us.take k)]).length = rl := ⟨_, rfl⟩
          have hcell2 : wr.cell? ⟨rb, ro + lt, none⟩ = some (.int .i64 (sn : Nat)) := by rw [HWR.out, ← hlt', hn2, h2, hsn]
          have hcell1 : wr.cell? ⟨nb, no + st, none⟩ = some (.slice (some ⟨rb, ro, none⟩) rl rc) := by rw [HWR.out, ← hst', hn1, hrl]
          have hcell0 : wr.cell? ⟨ub, uo + k, none⟩ = some (.int .u16 (lt : Nat)) := by rw [HWR.out, huc, hlt']
          have HSN : Hid (runD next (us.take (k + 1)) = sn ∧ sn < next.length) := by
            refine ⟨HTK.trans hsn, ?_⟩
            have : ((sn : Nat) : Int) < (next.length : Int) := by rw [← hsn, ← h2]; exact h1
            omega
          have zs : (st : Int) < (next.length : Int) := by rw [← hst']; omega
          have zl : (lt : Int) < (rl : Int) := by rw [← hlt', ← hrl]; omega
          have zs0 : (0 : Int) ≤ (st : Int) := by omega
          have zl0 : (0 : Int) ≤ (lt : Int) := by omega
          rw [hst']
          clear hn1 hn2 huc h0 h1 h2 hr1 HTK hst hst' hlt' hsn hrl HN1 HU1
          go_wp2_with fail
          go_roundw
          case rel => exact ⟨k + 1, by go_num, by rw [HSN.out.1], by omega, HWR.out, by rw [HSN.out.1]; exact HSN.out.2⟩
          case measure => simp [intOf]; omega
        · obtain rfl : k = us.length := by omega
          have z0 : ¬ ((us.length : Int) < (us.length : Int)) := by omega
          have HST : Hid (runD next us < next.length) := by rw [List.take_length] at hst; exact hst
          rw [List.take_length]
          clear hst
          go_wp2
          go_ret2
          exact ⟨rfl, by rw [HWR.out]; exact keptB HKV.out HK.out, And.intro HST.out HLL.out.1⟩
end Go.Proofs.Ytcojlcbljhnbgaa
