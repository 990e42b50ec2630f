/- The walk of RunnerBatch. -/
import Derived.Test.YtcojlcbljhnbgaaRuRunA
import Derived.Test.YtcojlcbljhnbgaaMoOf
import Derived.Test.YtcojlcbljhnbgaaRuKnown
namespace Go.Proofs.Ytcojlcbljhnbgaa
open Go.RowKit Go.Shelf Go.Maps

theorem Kept.of_belowR {w w' : World} (h : Below w.heap.size w w') : Kept [] w w' := ⟨h.os, h.tape, h.output, h.size, fun k hk _ => h.block k hk⟩
set_option maxHeartbeats 8000000 in
set_option maxRecDepth 20000 in
theorem runnerBatch_some (pv nv ov ev : Value) (ps : List ByteArray) (next : List (List Int)) (out : List Nat) (es : List (List ByteArray)) (w : World) (hp : Strs w pv ps) (hn : Rowss w nv next) (ho : Vds w ov out) (he : Evs w ev es) (hs : ∀ x ∈ ps, x.size ≤ 140737488351232) :
    Calls Try.prog 4 #[.agg #[pv, nv, ov], ev] w fun e w' => e = .returned (.bool true) ∧ Hid (Kept [] w w') := by
  obtain ⟨pa, pc, rfl, _, _⟩ := hp.form
  obtain ⟨na, nc, rfl, _, _⟩ := hn.form13
  obtain ⟨oa, oc, rfl⟩ := ho.form
  obtain ⟨V, hV⟩ : ∃ V, w.alloc (.cells #[.slice pa ps.length pc, .slice na next.length nc, .slice oa out.length oc] 27) = V := ⟨_, rfl⟩
  have kV : Kept [] w V := by rw [← hV]; exact (Kept.refl [] w).alloc _
  have hB : Thr 27 V w.heap.size (.slice pa ps.length pc) (.slice na next.length nc) (.slice oa out.length oc) := by rw [← hV]; exact al0 _ _
  have HV : Hid (_ = V) := hV
  have HKV : Hid (Kept [] w V) := kV
  have HC : Hid (∀ W, Kept [] V W → W.cell? ⟨w.heap.size, 0, none⟩ = some (.slice pa ps.length pc) ∧ W.cell? ⟨w.heap.size, 1, none⟩ = some (.slice na next.length nc) ∧ W.cell? ⟨w.heap.size, 2, none⟩ = some (.slice oa out.length oc)) := fun W k => (hB.keptF k (by simp)).cells
  have HOM : Hid (Calls Try.prog 7 #[.agg #[.slice pa ps.length pc, .slice na next.length nc, .slice oa out.length oc]] V fun e w' => e = .returned (.int .i64 (moN ps next out : Nat)) ∧ Hid (Kept [] V w')) := ofMoore_any _ _ _ ps next out V (hp.kept kV) (hn.kept kV) (ho.kept kV) hs
  have HMN : Hid (moN ps next out ≤ 400000000000000) := by
    have b1 := ot_le 0 ps (by omega) hs
    have b2 := orw_le 0 next (by omega) (rowss_few hn)
    have b3 := ho.few
    show moN ps next out ≤ _
    unfold moN
    omega
  have HRN : Hid (∀ W, Kept [] V W → out.length ≤ 1000000 → ∀ b, rightM ps next out = b → Calls Try.prog 9 #[.agg #[.slice pa ps.length pc, .slice na next.length nc, .slice oa out.length oc], ev] W (RunEnd ps next out es b W)) := fun W k hf b hb => runR_any _ _ _ ev ps next out es W (hp.kept (keptB kV k)) (hn.kept (keptB kV k)) (ho.kept (keptB kV k)) (he.kept (keptB kV k)) hf b hb
  have HNW : Hid (∀ W, Kept [] V W → out.length ≤ 1000000 → ∀ b, rightM ps next out = b → Calls Try.prog 10 #[.agg #[.slice pa ps.length pc, .slice na next.length nc, .slice oa out.length oc]] W (NewEnd ps next out b W)) := fun W k hf b hb => new_any _ _ _ ps next out W (hp.kept (keptB kV k)) (hn.kept (keptB kV k)) (ho.kept (keptB kV k)) hf b hb
  have HKN : Hid (∀ W, Calls Try.prog 6 #[] W fun e w' => e = .returned (.bool true) ∧ Below W.heap.size W w') := known_walk
  have HEV : Hid (∀ W, Kept [] w W → Evs W ev es) := fun W k => he.kept k
  have hef := he.few
  obtain ⟨c0, c1, c2⟩ := HC.out V (Kept.refl [] V)
  obtain ⟨ea, ec, rfl⟩ := he.form
  obtain ⟨mn, hmn⟩ : ∃ mn, moN ps next out = mn := ⟨_, rfl⟩
  have HMF : Hid (mn ≤ 100000 → out.length ≤ 1000000) := fun h => by have := (moN_few (by rw [hmn]; exact h : moN ps next out ≤ 100000)).2.2; omega
  rw [hmn] at HOM HMN
  have hmn2 : mn ≤ 400000000000000 := HMN.out
  clear hp hn ho he hs hV kV hB hmn HMN
  have z0 : (0 : Int) ≤ (es.length : Int) := by omega
  go_enter Try.func4, Try.ntmps4
  go_upto_region 1 with fail
  rw [HV.out]
  clear HV
  go_wp2_with (go_at_call 7; refine HOM.out.mono ?_; rintro e W1 ⟨rfl, HK1⟩; clear c0 c1 c2)
  go_loopw [5, 6] (fun a v wr => ∃ n k : Nat, a = .int .i64 (n : Nat) ∧ v = .int .i64 (k : Nat) ∧ k ≤ es.length ∧ mn ≤ n ∧ n ≤ 400000000000000 ∧ Hid (Kept [] V wr)) (fun _ v _ => es.length - (intOf v).toNat)
  case atStart => exact ⟨mn, 0, rfl, rfl, Nat.zero_le _, Nat.le_refl _, hmn2, HK1⟩
  case round =>
    obtain ⟨n, k, rfl, rfl, hk, hn1, hn2, HK⟩ := hrel
    by_cases hlt : k < es.length
    · have q0 : (k : Int) < (es.length : Int) := by omega
      have q1 : (0 : Int) ≤ (k : Int) := by omega
      by_cases hnb : n ≤ 100000
      · have q2 : (n : Int) ≤ 100000 := by omega
        have q3 : decide ((k : Int) < (es.length : Int)) = true := decide_eq_true q0
        rcases (HEV.out wr (keptB HKV.out HK.out)).lie with ⟨_, he⟩ | ⟨b, o, c, hpe, _, _, hcell⟩
        · rw [he] at hlt; simp at hlt
        · cases hpe
          obtain ⟨u, hu, hS, hss⟩ := hcell k hlt
          obtain ⟨x, hx⟩ : ∃ x, es[k] = x := ⟨_, rfl⟩
          rw [hx] at hS hss
          have HOT : Hid (Calls Try.prog 8 #[u] wr fun e w' => e = .returned (.int .i64 (ot 0 x : Nat)) ∧ w' = wr) := ofTextsE_any u x wr hS hss
          have hot := ot_le 0 x (by omega) hss
          obtain ⟨y, hy⟩ : ∃ y, ot 0 x = y := ⟨_, rfl⟩
          rw [hy] at HOT hot
          clear hcell hS hss hx hy
          go_wp2_with (go_at_call 8; refine HOT.out.mono ?_; rintro e w1 ⟨rfl, hw1⟩; rw [hw1]; clear hw1)
          go_roundw
          case rel => exact ⟨n + 1 + y, k + 1, by go_num, by go_num, by omega, by omega, by omega, HK⟩
          case measure => simp [intOf]; omega
      · have q2 : ¬ ((n : Int) ≤ 100000) := by omega
        have q4 : (100000 : Int) < (n : Int) := by omega
        go_wp2
        go_ret
        exact ⟨rfl, keptB HKV.out HK.out⟩
    · obtain rfl : k = es.length := by omega
      have q0 : ¬ ((es.length : Int) < (es.length : Int)) := by omega
      by_cases hnb : n ≤ 100000
      · have q2 : ¬ ((100000 : Int) < (n : Int)) := by omega
        have hof := HMF.out (by omega)
        obtain ⟨b, hb⟩ : ∃ b, rightM ps next out = b := ⟨_, rfl⟩
        go_upto_region 9 with (go_at_call 6; refine (HKN.out _).mono ?_; rintro e Wk ⟨rfl, hbk⟩; have HKk : Hid (Kept [] V Wk) := keptB HK.out (Kept.of_belowR hbk); clear hbk)
        obtain ⟨c0, c1, c2⟩ := HC.out Wk HKk.out
        have HRk : Hid (Calls Try.prog 9 #[.agg #[.slice pa ps.length pc, .slice na next.length nc, .slice oa out.length oc], .slice ea es.length ec] Wk (RunEnd ps next out es b Wk)) := HRN.out Wk HKk.out hof b hb
        cases b with
        | false =>
          clear q2 hnb hn1 hn2
          go_upto_region 10 with (go_at_call 9; refine Calls.mono HRk.out ?_; rintro e W2 ⟨HK2, _, hfa⟩; have e9 := hfa rfl; subst e9; clear hfa c0 c1 c2; have HK2' : Hid (Kept [] V W2) := keptB HKk.out HK2.out; obtain ⟨c0, c1, c2⟩ := HC.out W2 HK2'.out)
          have HN2 : Hid (Calls Try.prog 10 #[.agg #[.slice pa ps.length pc, .slice na next.length nc, .slice oa out.length oc]] W2 (NewEnd ps next out false W2)) := HNW.out W2 HK2'.out hof false hb
          go_upto_region 11 with (go_at_call 10; refine Calls.mono HN2.out ?_; rintro e W3 ⟨HK3, _, hfa⟩; have e9 := hfa rfl; subst e9; clear hfa c0 c1 c2; have HK3' : Hid (Kept [] V W3) := keptB HK2'.out HK3.out; obtain ⟨c0, c1, c2⟩ := HC.out W3 HK3'.out)
          have HN3 : Hid (Calls Try.prog 10 #[.agg #[.slice pa ps.length pc, .slice na next.length nc, .slice oa out.length oc]] W3 (NewEnd ps next out false W3)) := HNW.out W3 HK3'.out hof false hb
          clear HN2
          go_wp2_with (go_at_call 10; refine Calls.mono HN3.out ?_; rintro e W4 ⟨HK4, _, hfa⟩; have e9 := hfa rfl; subst e9; clear hfa c0 c1 c2)
          go_ret
          exact ⟨rfl, keptB HKV.out (keptB HK3'.out HK4.out)⟩
        | true =>
          have HM : Hid (MachR ps next out) := machR_of hb hof
          clear q2 hnb hn1 hn2
          go_upto_region 10 with (go_at_call 9; refine Calls.mono HRk.out ?_; rintro e W2 ⟨HK2, htr, _⟩; obtain ⟨B, rfl, HB2, HBL⟩ := htr rfl; clear htr c0 c1 c2; have HK2' : Hid (Kept [] V W2) := keptB HKk.out HK2.out; obtain ⟨c0, c1, c2⟩ := HC.out W2 HK2'.out)
          have HN2 : Hid (Calls Try.prog 10 #[.agg #[.slice pa ps.length pc, .slice na next.length nc, .slice oa out.length oc]] W2 (NewEnd ps next out true W2)) := HNW.out W2 HK2'.out hof true hb
          go_upto_region 11 with (go_at_call 10; refine Calls.mono HN2.out ?_; rintro e W3 ⟨HK3, htr, _⟩; obtain ⟨R1, lo1, N1, fin1, rfl, HR1, HLO1⟩ := htr rfl; clear htr c0 c1 c2; have HK3' : Hid (Kept [] V W3) := keptB HK2'.out HK3.out; obtain ⟨c0, c1, c2⟩ := HC.out W3 HK3'.out)
          have HN3 : Hid (Calls Try.prog 10 #[.agg #[.slice pa ps.length pc, .slice na next.length nc, .slice oa out.length oc]] W3 (NewEnd ps next out true W3)) := HNW.out W3 HK3'.out hof true hb
          clear HN2
          go_upto_region 12 with (go_at_call 10; refine Calls.mono HN3.out ?_; rintro e W4 ⟨HK4, htr, _⟩; obtain ⟨R2, lo2, N2, fin2, rfl, HR2, HLO2⟩ := htr rfl; clear htr c0 c1 c2)
          have HB4 : Hid (W4.heap[B]? = some (.cells (vdC (runV ps next out es es.length)).toArray 37 (0, 0))) := HK4.out.at (HK3.out.at HB2.out (by simp)) (by simp)
          have HR14 : Hid (RunS W4 lo1 N1 R1 ps next out fin1 (goN ps next (es.take 0))) := HR1.out.kept HK4.out
          have HR24 : Hid (RunS W4 lo2 N2 R2 ps next out fin2 (goN ps next (es.take 0))) := HR2.out
          have HK4' : Hid (Kept [] w W4) := keptB HKV.out (keptB HK3'.out HK4.out)
          have HSEP : Hid (B < lo1 ∧ R1 < lo2 ∧ N1 ≤ R1 ∧ N2 ≤ R2 ∧ B < R1 ∧ B < R2 ∧ R1 < R2 ∧ w.heap.size ≤ R1 ∧ w.heap.size ≤ R2) := by
            have h1 := HLO1.out
            have h2 := HLO2.out
            have h3 := lt_of HB2.out
            have h4 := HR1.out.high
            have h5 := HR2.out.high
            have h6 := HKV.out.size
            have h7 := HK2'.out.size
            have h8 := HK3.out.size
            refine ⟨by omega, by omega, h4, h5, by omega, by omega, by omega, by omega, by omega⟩
          clear HN3 HR1 HR2 HLO1 HLO2 HB2 HBL HK3 HK4 HK3' HK2' HK2 HRk HRN HNW HKN HOM HMF
          go_wp2_with fail
          rename World => W0
          clear hb hof
          go_loopw [14] (fun v wr => ∃ k : Nat, v = .int .i64 (k : Nat) ∧ k ≤ es.length ∧ Hid (RunS wr lo1 N1 R1 ps next out fin1 (goN ps next (es.take k))) ∧ Hid (RunS wr lo2 N2 R2 ps next out fin2 (goN ps next (es.take k))) ∧ Hid (wr.heap[B]? = some (.cells (vdC (runV ps next out es es.length)).toArray 37 (0, 0))) ∧ Hid (Kept [] w wr)) (fun v _ => es.length - (intOf v).toNat)
          case atStart => exact ⟨0, rfl, Nat.zero_le _, HR14, HR24, HB4, HK4'⟩
          case round =>
            rename World => wr
            obtain ⟨k, rfl, hk, HRa, HRb, HBB, HKw⟩ := hrel
            clear HR14 HR24 HB4 HK4'
            by_cases hlt : k < es.length
            · have q0 : (k : Int) < (es.length : Int) := by omega
              have q1 : (0 : Int) ≤ (k : Int) := by omega
              rcases (HEV.out w (Kept.refl [] w)).lie with ⟨_, he⟩ | ⟨b, o, c, hpe, _, _, hcell⟩
              · rw [he] at hlt; simp at hlt
              · cases hpe
                obtain ⟨u, hu, hS, _⟩ := hcell k hlt
                have HU : Hid (w.cell? ⟨b, o + k, none⟩ = some u) := hu
                have hx? : es[k]? = some es[k] := List.getElem?_eq_getElem hlt
                obtain ⟨x, hx⟩ : ∃ x, es[k] = x := ⟨_, rfl⟩
                rw [hx] at hS hx?
                have HSX : Hid (∀ W, Kept [] w W → StrsE W u x) := fun W k => hS.kept k
                have hgo := goN_take (ps := ps) (next := next) hx?
                obtain ⟨s', hs'⟩ : ∃ s', goN ps next (es.take (k + 1)) = s' := ⟨_, rfl⟩
                obtain ⟨s, hs0⟩ : ∃ s, goN ps next (es.take k) = s := ⟨_, rfl⟩
                obtain ⟨y, hy⟩ : ∃ y, letterN ps x = y := ⟨_, rfl⟩
                obtain ⟨v, hv⟩ : ∃ v, out.getD s' 0 = v := ⟨_, rfl⟩
                have hVat := runV_at (ps := ps) (next := next) (out := out) hlt
                rw [hs', hv] at hVat
                rw [hs', hs0, hy] at hgo
                rw [hs0] at HRa HRb
                have HS' : Hid (goN ps next (es.take (k + 1)) = s') := hs'
                have HE : Hid (Calls Try.prog 11 #[.pointer (some ⟨R1, 0, none⟩), u] wr fun e w' => e = .returned (.int .u8 (v : Nat)) ∧ Hid (RunS w' lo1 N1 R1 ps next out fin1 s') ∧ Hid (Kept [R1] wr w')) := by
                  have := eventE_any lo1 N1 R1 ps next out fin1 s u x wr HRa.out HM.out (HSX.out wr HKw.out)
                  rw [hy, ← hgo, hv] at this
                  exact this
                have HLt : Hid (∀ W, RunS W lo2 N2 R2 ps next out fin2 s → Kept [] w W → Calls Try.prog 13 #[.pointer (some ⟨R2, 0, none⟩), u] W fun e w' => e = .returned (.int .u16 (y : Nat)) ∧ w' = W) := fun W h kk => by
                  have := letterE_any lo2 N2 R2 ps next out fin2 s u x W h HM.out.few (HSX.out W kk)
                  rw [hy] at this
                  exact this
                have HSt : Hid (∀ W, RunS W lo2 N2 R2 ps next out fin2 s → Calls Try.prog 12 #[.pointer (some ⟨R2, 0, none⟩), .int .u16 (y : Nat)] W fun e w' => e = .returned (.int .u8 (v : Nat)) ∧ Hid (RunS w' lo2 N2 R2 ps next out fin2 s') ∧ Hid (Kept [R2] W w')) := fun W h => by
                  have := step_any lo2 N2 R2 ps next out fin2 s y W h HM.out (by have := letterN_lt HM.out.few x; omega)
                  rw [← hgo, hv] at this
                  exact this
                have HVe : Hid (∀ W, RunS W lo2 N2 R2 ps next out fin2 s' → Calls Try.prog 16 #[.pointer (some ⟨R2, 0, none⟩)] W fun e w' => e = .returned (.int .u8 (v : Nat)) ∧ Hid (Kept [] W w')) := fun W h => by
                  have := verdict_any lo2 N2 R2 ps next out fin2 s' W h HM.out
                  rw [hv] at this
                  exact this
                have HSP1 : Hid (∀ x ∈ [R1], x < lo2 ∨ N2 ≤ x) := fun x hx => by have := HSEP.out; simp at hx; omega
                have HSP2 : Hid (∀ x ∈ [R2], x < lo1 ∨ N1 ≤ x) := fun x hx => by have := HSEP.out; simp at hx; omega
                have HVA : Hid ((vdC (runV ps next out es es.length))[k]? = some (.int .u8 (v : Nat))) := by show _ = _; simp only [vdC, List.getElem?_map, hVat]; rfl
                have d1 := cell_kept0 HKw.out hu
                clear hu hcell hS hx hx? hgo hs' hs0 hy hv hVat
                go_wp2_with (first
                  | (go_at_call 11; refine HE.out.mono ?_; rintro e W5 ⟨rfl, HR5, HK5⟩; have HK5' : Hid (Kept [] w W5) := HKw.out.trans HK5.out (by simp) (fun x hx => .inr (by have := HSEP.out; simp at hx; omega)); have HQ5 : Hid (RunS W5 lo2 N2 R2 ps next out fin2 s) := HRb.out.keptF HK5.out (by have := HSEP.out; simp; omega) HSP1.out; have d5 := cell_kept0 HK5'.out HU.out)
                  | (go_at_call 13; refine (HLt.out W5 HQ5.out HK5'.out).mono ?_; rintro e w1 ⟨rfl, hw1⟩; rw [hw1]; clear hw1)
                  | (go_at_call 12; refine (HSt.out W5 HQ5.out).mono ?_; rintro e W6 ⟨rfl, HR6, HK6⟩; have HK6' : Hid (Kept [] w W6) := HK5'.out.trans HK6.out (by simp) (fun x hx => .inr (by have := HSEP.out; simp at hx; omega)); have HQ6 : Hid (RunS W6 lo1 N1 R1 ps next out fin1 s') := HR5.out.keptF HK6.out (by have := HSEP.out; simp; omega) HSP2.out; have HB6 : Hid (W6.heap[B]? = some (.cells (vdC (runV ps next out es es.length)).toArray 37 (0, 0))) := HK6.out.at (HK5.out.at HBB.out (by have := HSEP.out; simp; omega)) (by have := HSEP.out; simp; omega); have y0 : W6.cell? ⟨B, k, none⟩ = some (.int .u8 (v : Nat)) := (by rw [cell_of HB6.out]; simpa using HVA.out))
                  | (go_at_call 15; refine (state_any lo2 N2 R2 ps next out fin2 s' W6 HR6.out).mono ?_; rintro e w1 ⟨rfl, hw1⟩; rw [hw1]; clear hw1)
                  | (go_at_call 14; refine (goto_any lo2 N2 R2 ps next out fin2 s' s' W6 HR6.out HM.out HR6.out.lt).mono ?_; rintro e W7 ⟨rfl, HR7, HK7⟩; have HK7' : Hid (Kept [] w W7) := HK6'.out.trans HK7.out (by simp) (fun x hx => .inr (by have := HSEP.out; simp at hx; omega)); have HQ7 : Hid (RunS W7 lo1 N1 R1 ps next out fin1 s') := HQ6.out.keptF HK7.out (by have := HSEP.out; simp; omega) HSP2.out; have HB7 : Hid (W7.heap[B]? = some (.cells (vdC (runV ps next out es es.length)).toArray 37 (0, 0))) := HK7.out.at HB6.out (by have := HSEP.out; simp; omega))
                  | (go_at_call 16; refine (HVe.out W7 HR7.out).mono ?_; rintro e W8 ⟨rfl, HK8⟩))
                go_roundw
                case rel => exact ⟨k + 1, by go_num, by omega, by rw [HS'.out]; exact HQ7.out.kept HK8.out, by rw [HS'.out]; exact HR7.out.kept HK8.out, HK8.out.at HB7.out (by simp), keptB HK7'.out HK8.out⟩
                case measure => simp [intOf]; omega
            · obtain rfl : k = es.length := by omega
              have q0 : ¬ ((es.length : Int) < (es.length : Int)) := by omega
              go_wp2
              go_ret
              exact ⟨rfl, HKw⟩
      · have q4 : (100000 : Int) < (n : Int) := by omega
        go_wp2
        go_ret
        exact ⟨rfl, keptB HKV.out HK.out⟩
end Go.Proofs.Ytcojlcbljhnbgaa
