/- augurref14.rows, Check, Run at any machine: the document's answers are the program's. -/
import Derived.Test.YtbbfajbnklgncaaMoRef
import Derived.BigQuiet
import Derived.Deep.RegionHeld3
namespace Go.Proofs.Ytbbfajbnklgncaa
open Go.RowKit Go.Shelf

set_option maxHeartbeats 4000000 in
set_option maxRecDepth 10000 in
theorem rows14_any (nv : Value) (next : List (List Int)) (pn tp : Nat) (w : World) (hn : Rowss w nv next) (h8 : pn ≤ 8) (htp : 2 ^ pn = tp) :
    Calls Try.prog 60 #[nv, .int .i64 (tp : Nat)] w fun e w' => e = .returned (.bool (!next.any (wrongB pn next.length))) ∧ w' = w := by
  obtain ⟨na, nc, rfl, _, _⟩ := hn.form13
  have hnf := hn.few
  have HNR : Hid (Rowss w (.slice na next.length nc) next) := hn
  obtain ⟨R, hR⟩ : ∃ R, (!next.any (wrongB pn next.length)) = R := ⟨_, rfl⟩
  have HR : Hid ((!next.any (wrongB pn next.length)) = R) := hR
  rw [hR]
  have HBAD : Hid (∀ i (hi : i < next.length), wrongB pn next.length next[i] = true → false = R) := fun i hi h => by rw [← HR.out, any_yes hi h]; rfl
  have HYES : Hid ((∀ i (hi : i < next.length), wrongB pn next.length next[i] = false) → true = R) := fun h => by rw [← HR.out, any_no h]; rfl
  have htb : tp ≤ 256 := by rw [← htp]; exact Nat.pow_le_pow_right (by omega) h8
  have HTP : Hid (2 ^ pn = tp) := htp
  clear hn hR HR htp h8
  go_enter Try.func60, Try.ntmps60
  go_wp2_with fail
  go_loopw [5] (fun i wr => ∃ k : Nat, i = .int .i64 (k : Nat) ∧ k ≤ next.length ∧ wr = w ∧ Hid (∀ j (h : j < next.length), j < k → wrongB pn next.length next[j] = false)) (fun i _ => next.length - (intOf i).toNat)
  case atStart => exact ⟨0, rfl, Nat.zero_le _, rfl, fun j _ h => by omega⟩
  case round =>
    obtain ⟨k, rfl, hk, hwr, HA⟩ := hrel
    have HWR : Hid (wr = w) := hwr
    clear hwr
    by_cases hlt : k < next.length
    · have z0 : (k : Int) < (next.length : Int) := by omega
      have z00 : (0 : Int) ≤ (k : Int) := by omega
      obtain ⟨b, o, u, rfl, hu, hi⟩ := rowsD_get HNR.out k hlt
      obtain ⟨uad, uc, rfl, _, _⟩ := hi.form
      have hfew := hi.few
      have HI : Hid (∀ m (hm : m < (next[k]).length), ∃ rb ro, uad = some ⟨rb, ro, none⟩ ∧ w.cell? ⟨rb, ro + m, none⟩ = some (.int .i64 (next[k])[m])) := fun m hm => by
        obtain ⟨rb, ro, rc, e, _, _, q⟩ := hi.there (by omega)
        cases e
        exact ⟨rb, ro, rfl, q m hm⟩
      obtain ⟨ln, hln⟩ : ∃ ln, (next[k]).length = ln := ⟨_, rfl⟩
      have HLN : Hid ((next[k]).length = ln) := hln
      rw [hln] at hu hfew
      have HU : Hid (w.cell? ⟨b, o + k, none⟩ = some (.slice uad ln uc)) := hu
      have c0 : wr.cell? ⟨b, o + k, none⟩ = some (.slice uad ln uc) := by rw [HWR.out]; exact hu
      clear hi hu hln
      by_cases hl : ln = tp
      rotate_left
      · have e2 : ((ln : Int) != (tp : Int)) = true := by simp; omega
        have HE : Hid (false = R) := HBAD.out k hlt (by unfold wrongB; rw [HLN.out, HTP.out, decide_eq_false hl]; rfl)
        go_wp2_with fail
        go_ret
        exact ⟨ret_bool HE.out, HWR.out⟩
      have e2 : ((ln : Int) != (tp : Int)) = false := by simp; omega
      have HL2 : Hid (ln = tp) := hl
      go_wp2_with fail
      clear c0 e2
      go_loopw [6] (fun i w2 => ∃ m : Nat, i = .int .i64 (m : Nat) ∧ m ≤ tp ∧ w2 = w ∧ Hid (∀ j (h : j < (next[k]).length), j < m → outB13 next.length (next[k])[j] = false)) (fun i _ => tp - (intOf i).toNat)
      case atStart => exact ⟨0, rfl, Nat.zero_le _, HWR.out, fun j _ h => by omega⟩
      case round =>
        rename World => w5
        obtain ⟨m, rfl, hm, hw5, HB⟩ := hrel
        have HW5 : Hid (w5 = w) := hw5
        clear hw5
        have c0 : w5.cell? ⟨b, o + k, none⟩ = some (.slice uad ln uc) := by rw [HW5.out]; exact HU.out
        by_cases hlm : m < tp
        · have y0 : (m : Int) < (tp : Int) := by omega
          have y01 : (m : Int) < (ln : Int) := by omega
          have y00 : (0 : Int) ≤ (m : Int) := by omega
          have hmk : m < (next[k]).length := by rw [HLN.out]; omega
          obtain ⟨rb, ro, rfl, hcm⟩ := HI.out m hmk
          obtain ⟨x, hx⟩ : ∃ x, (next[k])[m] = x := ⟨_, rfl⟩
          have HX : Hid ((next[k])[m] = x) := hx
          rw [hx] at hcm
          have c1 : w5.cell? ⟨rb, ro + m, none⟩ = some (.int .i64 x) := by rw [HW5.out]; exact hcm
          clear hcm hx hl
          by_cases s1 : x < 0
          · have HE : Hid (false = R) := HBAD.out k hlt (by unfold wrongB; rw [any_yes hmk (by unfold outB13; rw [HX.out, decide_eq_true s1]; rfl)]; simp)
            have s1b : decide (x < 0) = true := decide_eq_true s1
            go_wp2_with fail
            go_ret
            exact ⟨ret_bool HE.out, HW5.out⟩
          have s1b : decide (x < 0) = false := decide_eq_false s1
          by_cases s2 : (next.length : Int) ≤ x
          · have HE : Hid (false = R) := HBAD.out k hlt (by unfold wrongB; rw [any_yes hmk (by unfold outB13; rw [HX.out, decide_eq_true s2]; simp)]; simp)
            go_wp2_with fail
            go_ret
            exact ⟨ret_bool HE.out, HW5.out⟩
          have HO : Hid (outB13 next.length (next[k])[m] = false) := by show outB13 _ _ = false; unfold outB13; rw [HX.out, decide_eq_false s1, decide_eq_false s2]; rfl
          go_wp2_with fail
          go_roundw
          case rel =>
            refine ⟨m + 1, by go_num, by omega, HW5.out, fun j hj h' => ?_⟩
            rcases Nat.lt_or_ge j m with q | q
            · exact HB.out j hj q
            · obtain rfl : j = m := by omega
              exact HO.out
          case measure => simp [intOf]; omega
        · obtain rfl : m = tp := by omega
          have y0 : ¬ ((m : Int) < (m : Int)) := by omega
          have HO : Hid (wrongB pn next.length next[k] = false) := by
            show wrongB _ _ _ = false
            unfold wrongB
            rw [HLN.out, HTP.out, decide_eq_true HL2.out, any_no (fun i hi => HB.out i hi (by rw [HLN.out] at hi; omega))]
            rfl
          clear hl
          go_wp2
          go_roundw
          case rel =>
            refine ⟨k + 1, by go_num, by omega, HW5.out, fun j hj h' => ?_⟩
            rcases Nat.lt_or_ge j k with q | q
            · exact HA.out j hj q
            · obtain rfl : j = k := by omega
              exact HO.out
          case measure => simp [intOf]; omega
    · obtain rfl : k = next.length := by omega
      have z0 : ¬ ((next.length : Int) < (next.length : Int)) := by omega
      go_wp2
      go_ret
      exact ⟨ret_bool (HYES.out (fun i hi => HA.out i hi hi)), HWR.out⟩
theorem rightM_list {ps : List ByteArray} {next : List (List Int)} {out : List Nat} (h : listB ps = false) : rightM ps next out = false := by
  unfold rightM rightD
  rw [h]
  rfl
theorem rightM_none {ps : List ByteArray} {next : List (List Int)} {out : List Nat} (h : next.length = 0) : rightM ps next out = false := by
  unfold rightM rightD
  rw [decide_eq_true h]
  simp
theorem rightM_len {ps : List ByteArray} {next : List (List Int)} {out : List Nat} (h : ¬ out.length = next.length) : rightM ps next out = false := by
  unfold rightM rightD
  rw [decide_eq_false h]
  simp
theorem rightM_rows {ps : List ByteArray} {next : List (List Int)} {out : List Nat} (h : (!next.any (wrongB ps.length next.length)) = false) : rightM ps next out = false := by
  unfold rightM rightD
  rw [h]
  simp
theorem rightM_bad {ps : List ByteArray} {next : List (List Int)} {out : List Nat} {i : Nat} (hi : i < out.length) (h : badV out[i] = true) : rightM ps next out = false := by
  unfold rightM
  rw [any_yes hi h]
  simp
theorem rightM_yes {ps : List ByteArray} {next : List (List Int)} {out : List Nat} (h1 : listB ps = true) (h2 : next.length ≠ 0) (h3 : out.length = next.length) (h4 : (!next.any (wrongB ps.length next.length)) = true) (h : ∀ i (hi : i < out.length), badV out[i] = false) : rightM ps next out = true := by
  unfold rightM rightD
  rw [h1, h4, any_no h, decide_eq_false h2, decide_eq_true h3]
  rfl
theorem Vds.at {W : World} {ad : Option Addr} {c : Nat} {xs : List Nat} (h : Vds W (.slice ad xs.length c) xs) {k : Nat} (hk : k < xs.length) : ∃ b o, ad = some ⟨b, o, none⟩ ∧ W.cell? ⟨b, o + k, none⟩ = some (.int .u8 (xs[k] : Nat)) := by
  rcases h.lie with ⟨_, rfl⟩ | ⟨b, o, c, e, _, _, h4⟩
  · simp at hk
  · cases e
    refine ⟨b, o, rfl, ?_⟩
    rw [h4 k hk, List.getD_eq_getElem?_getD, List.getElem?_eq_getElem hk]
    rfl
set_option maxHeartbeats 4000000 in
set_option maxRecDepth 10000 in
theorem refCheck14_any (pv nv ov : Value) (ps : List ByteArray) (next : List (List Int)) (out : List Nat) (w : World) (hp : Strs w pv ps) (hn : Rowss w nv next) (ho : Vds w ov out) :
    Calls Try.prog 36 #[.agg #[pv, nv, ov]] w fun e w' => e = .returned (.int .i64 ((if rightM ps next out then 0 else 140 : Nat) : Int)) ∧ Kept [] w w' := by
  obtain ⟨pa, pc, rfl, _, _⟩ := hp.form
  obtain ⟨na, nc, rfl, _, _⟩ := hn.form13
  obtain ⟨oa, oc, rfl⟩ := ho.form
  have hnf := hn.few
  have hof := ho.few
  obtain ⟨V, hV⟩ : ∃ V, w.alloc (.cells #[.slice pa ps.length pc, .slice na next.length nc, .slice oa out.length oc] 26) = V := ⟨_, rfl⟩
  have kV : Kept [] w V := by rw [← hV]; exact (Kept.refl [] w).alloc _
  have hB : Thr 26 V w.heap.size (.slice pa ps.length pc) (.slice na next.length nc) (.slice oa out.length oc) := by rw [← hV]; exact al0 _ _
  have HV : Hid (_ = V) := hV
  have HKV : Hid (Kept [] w V) := kV
  have HC : Hid (∀ W, Kept [] V W → W.cell? ⟨w.heap.size, 0, none⟩ = some (.slice pa ps.length pc) ∧ W.cell? ⟨w.heap.size, 1, none⟩ = some (.slice na next.length nc) ∧ W.cell? ⟨w.heap.size, 2, none⟩ = some (.slice oa out.length oc)) := fun W k => (hB.keptF k (by simp)).cells
  obtain ⟨lb, hlb⟩ : ∃ lb, listB ps = lb := ⟨_, rfl⟩
  have HLB : Hid (listB ps = lb) := hlb
  have HL : Hid (Calls Try.prog 59 #[.slice pa ps.length pc] V fun e w' => e = .returned (.bool lb) ∧ Kept [] V w') := by rw [← hlb]; exact refNames14_any _ _ V (hp.kept kV)
  have HOR : Hid (∀ W, Kept [] V W → Vds W (.slice oa out.length oc) out) := fun W k => (ho.kept kV).kept k
  have HNR : Hid (∀ W, Kept [] V W → Rowss W (.slice na next.length nc) next) := fun W k => (hn.kept kV).kept k
  obtain ⟨R, hR⟩ : ∃ R : Nat, (if rightM ps next out then 0 else 140) = R := ⟨_, rfl⟩
  have HR : Hid ((if rightM ps next out then 0 else 140) = R) := hR
  have HNO : Hid (rightM ps next out = false → 140 = R) := fun h => by rw [← HR.out, h]; rfl
  have HYS : Hid (rightM ps next out = true → 0 = R) := fun h => by rw [← HR.out, h]; rfl
  rw [hR]
  obtain ⟨c0, c1, c2⟩ := HC.out V (Kept.refl [] V)
  clear hp hn ho hV kV hB hlb hR HR
  cases lb with
  | false =>
    have HE : Hid (140 = R) := HNO.out (rightM_list HLB.out)
    go_enter Try.func36, Try.ntmps36
    go_upto_region 1 with fail
    rw [HV.out]
    go_wp2_with (go_at_call 59; refine HL.out.mono ?_; rintro e w1 ⟨rfl, hk1⟩; have HK1 : Hid (Kept [] V w1) := hk1; clear hk1 c0 c1 c2; obtain ⟨c0, c1, c2⟩ := HC.out w1 HK1.out)
    go_ret
    exact ⟨ret_errD (a := 140) HE.out, keptB HKV.out HK1.out⟩
  | true =>
    by_cases h0 : next.length = 0
    · have h0i : ((next.length : Int) == 0) = true := by rw [beq_iff_eq]; omega
      have HE : Hid (140 = R) := HNO.out (rightM_none h0)
      clear h0
      go_enter Try.func36, Try.ntmps36
      go_upto_region 1 with fail
      rw [HV.out]
      go_wp2_with (go_at_call 59; refine HL.out.mono ?_; rintro e w1 ⟨rfl, hk1⟩; have HK1 : Hid (Kept [] V w1) := hk1; clear hk1 c0 c1 c2; obtain ⟨c0, c1, c2⟩ := HC.out w1 HK1.out)
      go_ret
      exact ⟨ret_errD (a := 140) HE.out, keptB HKV.out HK1.out⟩
    have h0i : ((next.length : Int) == 0) = false := by rw [beq_eq_false_iff_ne]; omega
    by_cases h1 : out.length = next.length
    rotate_left
    · have e1 : ((out.length : Int) != (next.length : Int)) = true := by simp; omega
      have HE : Hid (140 = R) := HNO.out (rightM_len h1)
      clear h0
      go_enter Try.func36, Try.ntmps36
      go_upto_region 1 with fail
      rw [HV.out]
      go_wp2_with (go_at_call 59; refine HL.out.mono ?_; rintro e w1 ⟨rfl, hk1⟩; have HK1 : Hid (Kept [] V w1) := hk1; clear hk1 c0 c1 c2; obtain ⟨c0, c1, c2⟩ := HC.out w1 HK1.out)
      go_ret
      exact ⟨ret_errD (a := 140) HE.out, keptB HKV.out HK1.out⟩
    have e1 : ((out.length : Int) != (next.length : Int)) = false := by rw [bne_eq_false_iff_eq]; omega
    have h8 : ps.length ≤ 8 := listB_len HLB.out
    obtain ⟨tp, htp⟩ : ∃ tp : Nat, 2 ^ ps.length = tp := ⟨_, rfl⟩
    obtain ⟨hw1, hw2⟩ := wrap_pow h8 htp
    have htb := pow_small h8 htp
    obtain ⟨rb, hrb⟩ : ∃ rb, (!next.any (wrongB ps.length next.length)) = rb := ⟨_, rfl⟩
    have HRB : Hid ((!next.any (wrongB ps.length next.length)) = rb) := hrb
    have HRW : Hid (∀ W, Kept [] V W → Calls Try.prog 60 #[.slice na next.length nc, .int .i64 (tp : Nat)] W fun e w' => e = .returned (.bool rb) ∧ w' = W) := fun W k => by rw [← hrb]; exact rows14_any _ next ps.length tp W (HNR.out W k) h8 htp
    have HH : Hid (next.length ≠ 0 ∧ out.length = next.length) := ⟨h0, h1⟩
    have HHB : Hid (∀ i (hi : i < out.length), badV out[i] = true → 140 = R) := fun i hi h => HNO.out (rightM_bad hi h)
    have HHY : Hid (rb = true → (∀ i (hi : i < out.length), badV out[i] = false) → 0 = R) := fun q h => HYS.out (rightM_yes HLB.out h0 h1 (hrb.trans q) h)
    have HHN : Hid (rb = false → 140 = R) := fun q => HNO.out (rightM_rows (hrb.trans q))
    obtain ⟨pn, hpn⟩ : ∃ pn, ps.length = pn := ⟨_, rfl⟩
    have p0 : (0 : Int) ≤ (pn : Int) := by omega
    have p8 : (pn : Int) ≤ 8 := by omega
    rw [hpn] at hw1 hw2 HC c0 HL HV h8 ⊢
    clear htp hrb hpn HNO HYS HRB HLB h0 h1 HNR
    cases rb with
    | false =>
      have HE : Hid (140 = R) := HHN.out rfl
      go_enter Try.func36, Try.ntmps36
      go_upto_region 1 with fail
      rw [HV.out]
      go_wp2_with (first
        | (go_at_call 59; refine HL.out.mono ?_; rintro e w1 ⟨rfl, hk1⟩; have HK1 : Hid (Kept [] V w1) := hk1; clear hk1 c0 c1 c2; obtain ⟨c0, c1, c2⟩ := HC.out w1 HK1.out)
        | (go_at_call 60; refine (HRW.out w1 HK1.out).mono ?_; rintro e w2 ⟨rfl, hw2⟩; rw [hw2]; clear hw2))
      go_ret
      exact ⟨ret_errD (a := 140) HE.out, keptB HKV.out HK1.out⟩
    | true =>
      go_enter Try.func36, Try.ntmps36
      go_upto_region 1 with fail
      rw [HV.out]
      go_wp2_with (first
        | (go_at_call 59; refine HL.out.mono ?_; rintro e w1 ⟨rfl, hk1⟩; have HK1 : Hid (Kept [] V w1) := hk1; clear hk1 c0 c1 c2; obtain ⟨c0, c1, c2⟩ := HC.out w1 HK1.out)
        | (go_at_call 60; refine (HRW.out w1 HK1.out).mono ?_; rintro e w2 ⟨rfl, hw2⟩; rw [hw2]; clear hw2))
      clear c0 c1 c2 HV HL HRW
      go_loopw [5] (fun i wr => ∃ k : Nat, i = .int .i64 (k : Nat) ∧ k ≤ out.length ∧ wr = w1 ∧ Hid (∀ j (h : j < out.length), j < k → badV out[j] = false)) (fun i _ => out.length - (intOf i).toNat)
      case atStart => exact ⟨0, rfl, Nat.zero_le _, rfl, fun j _ h => by omega⟩
      case round =>
        obtain ⟨k, rfl, hk, hwr, HA⟩ := hrel
        have HWR : Hid (wr = w1) := hwr
        have HKR : Hid (Kept [] V wr) := by show Kept [] V wr; rw [hwr]; exact HK1.out
        clear hwr
        obtain ⟨c0, c1, c2⟩ := HC.out wr HKR.out
        by_cases hlt : k < out.length
        · have z0 : (k : Int) < (out.length : Int) := by omega
          have z00 : (0 : Int) ≤ (k : Int) := by omega
          obtain ⟨b, o, rfl, hx0⟩ := (HOR.out wr HKR.out).at hlt
          obtain ⟨x, hx⟩ : ∃ x, out[k] = x := ⟨_, rfl⟩
          have HX : Hid (out[k] = x) := hx
          rw [hx] at hx0
          clear hx
          by_cases s1 : x < 1
          · have s1i : (x : Int) < 1 := by omega
            have s1b : decide ((x : Int) < 1) = true := decide_eq_true s1i
            have HE : Hid (140 = R) := HHB.out k hlt (by rw [HX.out]; unfold badV; rw [decide_eq_true s1]; rfl)
            go_wp2_with fail
            go_ret
            exact ⟨ret_errD (a := 140) HE.out, keptB HKV.out HKR.out⟩
          have s1i : ¬ (x : Int) < 1 := by omega
          have s1b : decide ((x : Int) < 1) = false := decide_eq_false s1i
          by_cases s2 : 3 < x
          · have s2i : (3 : Int) < (x : Int) := by omega
            have HE : Hid (140 = R) := HHB.out k hlt (by rw [HX.out]; unfold badV; rw [decide_eq_true s2, Bool.or_true])
            go_wp2_with fail
            go_ret
            exact ⟨ret_errD (a := 140) HE.out, keptB HKV.out HKR.out⟩
          have s2i : ¬ (3 : Int) < (x : Int) := by omega
          have HO : Hid (badV out[k] = false) := by show badV _ = false; rw [HX.out]; unfold badV; rw [decide_eq_false s1, decide_eq_false s2]; rfl
          go_wp2_with fail
          go_roundw
          case rel =>
            refine ⟨k + 1, by go_num, by omega, HWR.out, fun j hj h' => ?_⟩
            rcases Nat.lt_or_ge j k with q | q
            · exact HA.out j hj q
            · obtain rfl : j = k := by omega
              exact HO.out
          case measure => simp [intOf]; omega
        · obtain rfl : k = out.length := by omega
          have z0 : ¬ ((out.length : Int) < (out.length : Int)) := by omega
          go_wp2
          go_ret
          exact ⟨ret_errD (a := 0) (HHY.out trivial (fun i hi => HA.out i hi hi)), keptB HKV.out HKR.out⟩
end Go.Proofs.Ytbbfajbnklgncaa
