/- augurref13.Run, Has at any deterministic automaton: the document's answers are the program's. -/
import Derived.Test.YtghlijhbhdjhfaaGreatDoorDrRef
namespace Go.Proofs.YtghlijhbhdjhfaaGreatDoor
open Go.RowKit Go.Shelf

theorem pow_small {pn tp : Nat} (h8 : pn ≤ 8) (htp : 2 ^ pn = tp) : tp ≤ 256 := by
  rw [← htp]
  exact Nat.pow_le_pow_right (by omega) h8
theorem wrap_pow {pn tp : Nat} (h8 : pn ≤ 8) (htp : 2 ^ pn = tp) : wrap64 ((2 : Int) ^ pn) = (tp : Int) ∧ IntKind.i64.wrap ((2 : Int) ^ pn) = (tp : Int) := by
  have htb : tp ≤ 256 := pow_small h8 htp
  rw [show ((2 : Int) ^ pn) = ((2 ^ pn : Nat) : Int) by norm_cast, htp, IntKind.wrap_i64]
  clear htp
  unfold wrap64
  omega
theorem wrap_lt {lt : Nat} (h : lt < 65536) : IntKind.i64.wrap (lt : Int) = (lt : Int) := by
  rw [IntKind.wrap_i64]
  omega
set_option maxHeartbeats 4000000 in
set_option maxRecDepth 10000 in
theorem refRunD_any (pv nv uv : Value) (ps : List ByteArray) (next : List (List Int)) (la : Option Addr) (ll lc : Nat) (us : List Nat) (w : World) (hp : Strs w pv ps) (hn : Rowss w nv next) (hu : Lets w uv us) :
    Calls Tryz.prog 14 #[.agg #[pv, nv, .slice la ll lc], uv] w fun e w' => e = .returned (.tuple #[.int .i64 (runS ps next ll us : Nat), .int .i64 (runE ps next ll us : Nat)]) ∧ Hid (Kept [] w w') ∧ Hid (runE ps next ll us = 0 → runS ps next ll us < next.length ∧ ll = next.length) := by
  have HR : Hid (∀ W, Kept [] w W → Calls Tryz.prog 16 #[.agg #[pv, nv, .slice la ll lc]] W fun e w' => e = .returned (.int .i64 ((if rightD ps next ll then 0 else 130 : Nat) : Int)) ∧ Kept [] W w') := fun W k => refCheckD_any pv nv ps next la ll lc W (hp.kept k) (hn.kept k)
  have hufew := hu.few
  obtain ⟨pa, pc, rfl, _, _⟩ := hp.form
  obtain ⟨na, nc, rfl, hnc1, hnc2⟩ := hn.form13
  obtain ⟨ua, uc, rfl⟩ := hu.form13
  obtain ⟨V, hV⟩ : ∃ V, w.alloc (.cells #[.slice pa ps.length pc, .slice na next.length nc, .slice la ll lc] 26) = V := ⟨_, rfl⟩
  have kV : Kept [] w V := by rw [← hV]; exact (Kept.refl [] w).alloc _
  have bV : V.heap[w.heap.size]? = some (.cells #[.slice pa ps.length pc, .slice na next.length nc, .slice la ll lc] 26 (0, 0)) := by rw [← hV]; exact al0 _ _
  have HV : Hid (_ = V) := hV
  have HKV : Hid (Kept [] w V) := kV
  have HCC : Hid (∀ W, Kept [] V W → W.cell? ⟨w.heap.size, 0, none⟩ = some (.slice pa ps.length pc) ∧ W.cell? ⟨w.heap.size, 1, none⟩ = some (.slice na next.length nc) ∧ W.cell? ⟨w.heap.size, 2, none⟩ = some (.slice la ll lc)) := fun W k => ⟨cell_kept0 k ((cell_of bV 0).trans rfl), cell_kept0 k ((cell_of bV 1).trans rfl), cell_kept0 k ((cell_of bV 2).trans rfl)⟩
  have HN1 : Hid (Rowss V (.slice na next.length nc) next) := hn.kept kV
  have HU1 : Hid (Lets V (.slice ua us.length uc) us) := hu.kept kV
  obtain ⟨v0, v1, v2⟩ := HCC.out V (Kept.refl [] V)
  clear hp hn hu hV kV bV
  cases hr : rightD ps next ll with
  | false =>
    have hE : runE ps next ll us = 130 := by unfold runE; rw [hr]; rfl
    have hS : runS ps next ll us = 0 := by unfold runS; rw [hE]; rfl
    rw [hr] at HR
    rw [hE, hS]
    clear hE hS hr
    go_enter Tryz.func14, Tryz.ntmps14
    go_upto_region 1 with fail
    rw [HV.out]
    go_wp2_with (go_at_call 16; refine (HR.out V HKV.out).mono ?_; rintro e W1 ⟨rfl, hk⟩; have HK : Hid (Kept [] w W1) := keptB HKV.out hk; clear hk)
    go_ret2
    exact ⟨rfl, HK, fun q => by cases q⟩
  | true =>
    have h8 : ps.length ≤ 8 := by
      unfold rightD at hr
      simp only [Bool.and_eq_true] at hr
      exact listB_len hr.1.1.1
    have hll : ll = next.length ∧ 0 < next.length := by
      unfold rightD at hr
      simp only [Bool.and_eq_true, Bool.not_eq_true', decide_eq_false_iff_not, decide_eq_true_eq] at hr
      exact ⟨hr.1.2, by have := hr.1.1.2; omega⟩
    have HRT : Hid (rightD ps next ll = true) := hr
    have HEE : Hid (runE ps next ll us = if us.any (badLet ps.length) then 1 else 0) := by show runE _ _ _ _ = _; unfold runE; rw [hr]; rfl
    have HSS : Hid (us.any (badLet ps.length) = false → runE ps next ll us = 0 ∧ runS ps next ll us = runD next us) := fun hb => by
      have e : runE ps next ll us = 0 := by rw [HEE.out, hb]; rfl
      exact ⟨e, by unfold runS; rw [e]; rfl⟩
    have HSB : Hid (us.any (badLet ps.length) = true → runE ps next ll us = 1 ∧ runS ps next ll us = 0) := fun hb => by
      have e : runE ps next ll us = 1 := by rw [HEE.out, hb]; rfl
      exact ⟨e, by unfold runS; rw [e]; rfl⟩
    rw [hr] at HR
    have HLL : Hid (ll = next.length ∧ 0 < next.length) := hll
    obtain ⟨E, hE⟩ : ∃ E, runE ps next ll us = E := ⟨_, rfl⟩
    obtain ⟨S, hS⟩ : ∃ S, runS ps next ll us = S := ⟨_, rfl⟩
    rw [hE] at HEE HSS HSB ⊢
    rw [hS] at HSS HSB ⊢
    obtain ⟨pn, hpn⟩ : ∃ pn, ps.length = pn := ⟨_, rfl⟩
    have HPN : Hid (ps.length = pn) := hpn
    rw [hpn] at HSS HSB h8 HCC v0 HV HR ⊢
    obtain ⟨tp, htp⟩ : ∃ tp : Nat, 2 ^ pn = tp := ⟨_, rfl⟩
    have htb : tp ≤ 256 := pow_small h8 htp
    obtain ⟨hwr, hwr2⟩ := wrap_pow h8 htp
    have HTP : Hid (2 ^ pn = tp) := htp
    have pn0 : (0 : Int) ≤ (pn : Int) := by omega
    have pn8 : (pn : Int) ≤ 8 := by omega
    clear hr hll hE hS hpn htp HEE
    go_enter Tryz.func14, Tryz.ntmps14
    go_upto_region 1 with fail
    rw [HV.out]
    go_wp2_with (go_at_call 16; refine (HR.out V HKV.out).mono ?_; rintro e W1 ⟨rfl, hk⟩; have HK : Hid (Kept [] V W1) := hk; clear hk)
    clear v0 v1 v2 HR HV
    go_loopw [6, 7] (fun s i wr => ∃ k : Nat, i = .int .i64 (k : Nat) ∧ s = .int .i64 (runD next (us.take k) : Nat) ∧ k ≤ us.length ∧ Hid (Kept [] V wr) ∧ runD next (us.take k) < next.length ∧ Hid (∀ j (h : j < us.length), j < k → badLet pn us[j] = false)) (fun _ i _ => us.length - (intOf i).toNat)
    case atStart => exact ⟨0, rfl, rfl, Nat.zero_le _, HK.out, HLL.out.2, fun j _ h => by omega⟩
    case round =>
      obtain ⟨k, rfl, rfl, hk, HW, hst, HA⟩ := hrel
      obtain ⟨d0, d1, d2⟩ := HCC.out wr HW.out
      by_cases hlt : k < us.length
      · have z0 : (k : Int) < (us.length : Int) := by omega
        have z00 : (0 : Int) ≤ (k : Int) := by omega
        obtain ⟨ub, uo, hua, huc⟩ : ∃ ub uo, ua = some ⟨ub, uo, none⟩ ∧ V.cell? ⟨ub, uo + k, none⟩ = some (.int .u16 (us[k] : Nat)) := by
          rcases HU1.out.lie with ⟨_, q⟩ | ⟨b, o, c, q, _, _, hc⟩
          · rw [q] at hlt; simp at hlt
          · cases q
            refine ⟨b, o, rfl, ?_⟩
            rw [hc k hlt, List.getD_eq_getElem?_getD, List.getElem?_eq_getElem hlt]
            rfl
        have hsm : us[k] < 65536 := HU1.out.small _ (List.getElem_mem hlt)
        subst hua
        by_cases hbl : badLet pn us[k] = true
        · obtain ⟨rfl, rfl⟩ := HSB.out (any_yes hlt hbl)
          obtain ⟨lt, hlt'⟩ : ∃ lt, us[k] = lt := ⟨_, rfl⟩
          rw [hlt'] at huc hsm hbl
          have hcell0 : wr.cell? ⟨ub, uo + k, none⟩ = some (.int .u16 (lt : Nat)) := cell_kept0 HW.out huc
          have hge : (tp : Int) ≤ (lt : Int) := by unfold badLet at hbl; rw [HTP.out] at hbl; have := of_decide_eq_true hbl; omega
          have hwl : IntKind.i64.wrap (lt : Int) = (lt : Int) := wrap_lt hsm
          clear hbl huc hlt' HSS HSB
          go_wp2_with fail
          go_quiet (fail)
          go_wp2_with fail
          go_ret2
          exact ⟨rfl, keptB HKV.out (HW.out.drewN _), fun q => by cases q⟩
        · have hbf : badLet pn us[k] = false := by simpa using hbl
          clear hbl
          obtain ⟨hr1, h0, h1, h2⟩ := right_at HRT.out hst (by rw [HPN.out]; exact hbf)
          have HTK := runD_take (next := next) hlt
          obtain ⟨nb, no, hna, hnx⟩ : ∃ nb no, na = some ⟨nb, no, none⟩ ∧ ∃ rb ro rc, V.cell? ⟨nb, no + runD next (us.take k), none⟩ = some (.slice (some ⟨rb, ro, none⟩) (next[runD next (us.take k)]).length rc) ∧ V.cell? ⟨rb, ro + us[k], none⟩ = some (.int .i64 (next[runD next (us.take k)])[us[k]]) := by
            rcases HN1.out.lie with ⟨_, q⟩ | ⟨b, o, c, q, _, _, hc⟩
            · rw [q] at hst; simp at hst
            · cases q
              obtain ⟨u, q1, q2⟩ := hc _ hst
              obtain ⟨rb, ro, rc, q3, _, _, q4⟩ := q2.there (by omega)
              exact ⟨b, o, rfl, rb, ro, rc, by rw [q1, q3], q4 _ hr1⟩
          obtain ⟨rb, ro, rc, hn1, hn2⟩ := hnx
          subst hna
          obtain ⟨st, hst'⟩ : ∃ st, runD next (us.take k) = st := ⟨_, rfl⟩
          obtain ⟨lt, hlt'⟩ : ∃ lt, us[k] = lt := ⟨_, rfl⟩
          obtain ⟨sn, hsn⟩ : ∃ sn, stpD next (runD next (us.take k)) us[k] = sn := ⟨_, rfl⟩
          obtain ⟨rl, hrl⟩ : ∃ rl, (next[runD next (us.take k)]).length = rl := ⟨_, rfl⟩
          have hcell2 : V.cell? ⟨rb, ro + lt, none⟩ = some (.int .i64 (sn : Nat)) := by rw [← hlt', hn2, h2, hsn]
          have hcell1 : V.cell? ⟨nb, no + st, none⟩ = some (.slice (some ⟨rb, ro, none⟩) rl rc) := by rw [← hst', hn1, hrl]
          have hcell0 : V.cell? ⟨ub, uo + k, none⟩ = some (.int .u16 (lt : Nat)) := by rw [huc, hlt']
          have HC3 : Hid (∀ W, Kept [] V W → W.cell? ⟨rb, ro + lt, none⟩ = some (.int .i64 (sn : Nat)) ∧ W.cell? ⟨nb, no + st, none⟩ = some (.slice (some ⟨rb, ro, none⟩) rl rc) ∧ W.cell? ⟨ub, uo + k, none⟩ = some (.int .u16 (lt : Nat))) := fun W kW => ⟨cell_kept0 kW hcell2, cell_kept0 kW hcell1, cell_kept0 kW hcell0⟩
          have HSN : Hid (runD next (us.take (k + 1)) = sn ∧ sn < next.length) := by
            refine ⟨HTK.trans hsn, ?_⟩
            have : ((sn : Nat) : Int) < (next.length : Int) := by rw [← hsn, ← h2]; exact h1
            omega
          have HBF : Hid (badLet pn us[k] = false) := hbf
          have zs : (st : Int) < (next.length : Int) := by rw [← hst']; omega
          have zl : (lt : Int) < (rl : Int) := by rw [← hlt', ← hrl]; omega
          have zs0 : (0 : Int) ≤ (st : Int) := by omega
          have zl0 : (0 : Int) ≤ (lt : Int) := by omega
          have hge : ¬ (tp : Int) ≤ (lt : Int) := by rw [← hlt']; unfold badLet at hbf; rw [HTP.out] at hbf; have := of_decide_eq_false hbf; omega
          have hwl : IntKind.i64.wrap (lt : Int) = (lt : Int) := wrap_lt (hlt' ▸ hsm)
          rw [hst']
          clear hn1 hn2 huc h0 h1 h2 hr1 HTK hst hst' hlt' hsn hrl hcell0 hcell1 hcell2 hbf hsm HSS HSB
          obtain ⟨c2, c1, c0⟩ := HC3.out wr HW.out
          go_wp2_with fail
          go_quiet (fail)
          go_wp2_with fail
          go_quiet (fail)
          go_wp2
          go_roundw
          case rel =>
            refine ⟨k + 1, by go_num, by rw [HSN.out.1], by omega, (HW.out.drewN _), by rw [HSN.out.1]; exact HSN.out.2, fun j hj h' => ?_⟩
            rcases Nat.lt_or_ge j k with q | q
            · exact HA.out j hj q
            · obtain rfl : j = k := by omega
              exact HBF.out
          case measure => simp [intOf]; omega
      · obtain rfl : k = us.length := by omega
        have z0 : ¬ ((us.length : Int) < (us.length : Int)) := by omega
        obtain ⟨rfl, rfl⟩ := HSS.out (any_no (fun i hi => HA.out i hi hi))
        rw [List.take_length] at hst ⊢
        go_wp2
        go_ret2
        first
          | exact ⟨rfl, keptB HKV.out HW.out, fun _ => ⟨hst, HLL.out.1⟩⟩
          | exact ⟨rfl, keptB HKV.out HW.out, HLL.out.1⟩
          | exact ⟨rfl, keptB HKV.out HW.out, ⟨hst, HLL.out.1⟩⟩
end Go.Proofs.YtghlijhbhdjhfaaGreatDoor
