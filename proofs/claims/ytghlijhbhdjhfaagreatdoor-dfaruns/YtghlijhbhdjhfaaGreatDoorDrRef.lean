/- augurref13.Check, Run, Has at any deterministic automaton: the document's answers are the program's. -/
import Derived.Test.YtghlijhbhdjhfaaGreatDoorDfHs
import Derived.Test.YtghlijhbhdjhfaaGreatDoorBuRef3
import Derived.BigQuiet
import Derived.Deep.RegionHeld3
namespace Go.Proofs.YtghlijhbhdjhfaaGreatDoor
open Go.RowKit Go.Shelf

theorem rightD_no {ps : List ByteArray} {next : List (List Int)} {ll i : Nat} (hi : i < next.length) (h : wrongB ps.length next.length next[i] = true) : rightD ps next ll = false := by
  unfold rightD
  rw [List.any_eq_true.2 ⟨next[i], List.getElem_mem hi, h⟩]
  simp
theorem rightD_yes {ps : List ByteArray} {next : List (List Int)} {ll : Nat} (h1 : listB ps = true) (h2 : next.length ≠ 0) (h3 : ll = next.length) (h : ∀ i (hi : i < next.length), wrongB ps.length next.length next[i] = false) : rightD ps next ll = true := by
  unfold rightD
  rw [h1, any_no h, decide_eq_false h2, decide_eq_true h3]
  rfl
theorem rowsD_get {W : World} {ad : Option Addr} {c : Nat} {ss : List (List Int)} (h : Rowss W (.slice ad ss.length c) ss) (i : Nat) (hi : i < ss.length) : ∃ b o u, ad = some ⟨b, o, none⟩ ∧ W.cell? ⟨b, o + i, none⟩ = some u ∧ Ints W u ss[i] := by
  rcases h.lie with ⟨_, rfl⟩ | ⟨b, o, c, e, _, _, h4⟩
  · simp at hi
  · cases e
    obtain ⟨u, h5, h6⟩ := h4 i hi
    exact ⟨b, o, u, rfl, h5, h6⟩
theorem ret_errD {a b : Nat} (h : a = b) : Ending.returned (.int .i64 (a : Nat)) = Ending.returned (.int .i64 (b : Nat)) := by rw [h]
set_option maxHeartbeats 4000000 in
set_option maxRecDepth 10000 in
theorem refCheckD_any (pv nv : Value) (ps : List ByteArray) (next : List (List Int)) (la : Option Addr) (ll lc : Nat) (w : World) (hp : Strs w pv ps) (hn : Rowss w nv next) :
    Calls Tryz.prog 16 #[.agg #[pv, nv, .slice la ll lc]] w fun e w' => e = .returned (.int .i64 ((if rightD ps next ll then 0 else 130 : Nat) : Int)) ∧ Kept [] w w' := by
  obtain ⟨pa, pc, rfl, _, _⟩ := hp.form
  obtain ⟨na, nc, rfl, _, _⟩ := hn.form13
  have hnf := hn.few
  obtain ⟨V, hV⟩ : ∃ V, w.alloc (.cells #[.slice pa ps.length pc, .slice na next.length nc, .slice la ll lc] 26) = V := ⟨_, rfl⟩
  have kV : Kept [] w V := by rw [← hV]; exact (Kept.refl [] w).alloc _
  have bV : V.heap[w.heap.size]? = some (.cells #[.slice pa ps.length pc, .slice na next.length nc, .slice la ll lc] 26 (0, 0)) := by rw [← hV]; exact al0 _ _
  have HV : Hid (_ = V) := hV
  have HKV : Hid (Kept [] w V) := kV
  have HCC : Hid (∀ W, Kept [] V W → W.cell? ⟨w.heap.size, 0, none⟩ = some (.slice pa ps.length pc) ∧ W.cell? ⟨w.heap.size, 1, none⟩ = some (.slice na next.length nc) ∧ W.cell? ⟨w.heap.size, 2, none⟩ = some (.slice la ll lc)) := fun W k => ⟨cell_kept0 k ((cell_of bV 0).trans rfl), cell_kept0 k ((cell_of bV 1).trans rfl), cell_kept0 k ((cell_of bV 2).trans rfl)⟩
  obtain ⟨lb, hlb⟩ : ∃ lb, listB ps = lb := ⟨_, rfl⟩
  have HLB : Hid (listB ps = lb) := hlb
  have HL : Hid (Calls Tryz.prog 30 #[.slice pa ps.length pc] V fun e w' => e = .returned (.bool lb) ∧ Kept [] V w') := by rw [← hlb]; exact refNames_any _ _ V (hp.kept kV)
  have HNR : Hid (∀ W, Kept [] V W → Rowss W (.slice na next.length nc) next) := fun W k => (hn.kept kV).kept k
  obtain ⟨R, hR⟩ : ∃ R : Nat, (if rightD ps next ll then 0 else 130) = R := ⟨_, rfl⟩
  have HR : Hid ((if rightD ps next ll then 0 else 130) = R) := hR
  rw [hR]
  obtain ⟨d0, d1, d2⟩ := HCC.out V (Kept.refl [] V)
  clear hp hn hV kV bV hlb hR
  cases lb with
  | false =>
    have HE : Hid (130 = R) := by show 130 = R; rw [← HR.out]; unfold rightD; rw [HLB.out]; rfl
    go_enter Tryz.func16, Tryz.ntmps16
    go_wp2_with (go_at_call 30; rw [HV.out]; refine HL.out.mono ?_; rintro e w1 ⟨rfl, hk1⟩; have HK1 : Hid (Kept [] V w1) := hk1; clear hk1 d0 d1 d2; obtain ⟨d0, d1, d2⟩ := HCC.out w1 HK1.out)
    go_ret
    exact ⟨ret_errD (a := 130) HE.out, keptB HKV.out HK1.out⟩
  | true =>
    by_cases h0 : next.length < 1
    · have h0i : (next.length : Int) < 1 := by omega
      have HE : Hid (130 = R) := by show 130 = R; rw [← HR.out]; unfold rightD; rw [decide_eq_true (p := next.length = 0) (by omega)]; simp
      go_enter Tryz.func16, Tryz.ntmps16
      go_wp2_with (go_at_call 30; rw [HV.out]; refine HL.out.mono ?_; rintro e w1 ⟨rfl, hk1⟩; have HK1 : Hid (Kept [] V w1) := hk1; clear hk1 d0 d1 d2; obtain ⟨d0, d1, d2⟩ := HCC.out w1 HK1.out)
      go_ret
      exact ⟨ret_errD (a := 130) HE.out, keptB HKV.out HK1.out⟩
    have h0i : ¬ (next.length : Int) < 1 := by omega
    by_cases h1 : ll = next.length
    rotate_left
    · have e1 : ((next.length : Int) != (ll : Int)) = true := by simp; omega
      have HE : Hid (130 = R) := by show 130 = R; rw [← HR.out]; unfold rightD; rw [decide_eq_false h1]; simp
      go_enter Tryz.func16, Tryz.ntmps16
      go_wp2_with (go_at_call 30; rw [HV.out]; refine HL.out.mono ?_; rintro e w1 ⟨rfl, hk1⟩; have HK1 : Hid (Kept [] V w1) := hk1; clear hk1 d0 d1 d2; obtain ⟨d0, d1, d2⟩ := HCC.out w1 HK1.out)
      go_ret
      exact ⟨ret_errD (a := 130) HE.out, keptB HKV.out HK1.out⟩
    subst h1
    have e1 : ((next.length : Int) != (next.length : Int)) = false := by simp
    have h8 : ps.length ≤ 8 := listB_len HLB.out
    have HBAD : Hid (∀ i (hi : i < next.length), wrongB ps.length next.length next[i] = true → 130 = R) := fun i hi h => by rw [← HR.out, rightD_no hi h]; rfl
    have HYES : Hid ((∀ i (hi : i < next.length), wrongB ps.length next.length next[i] = false) → 0 = R) := fun h => by rw [← HR.out, rightD_yes HLB.out (by omega) rfl h]; rfl
    obtain ⟨pn, hpn⟩ : ∃ pn, ps.length = pn := ⟨_, rfl⟩
    rw [hpn] at HBAD HYES h8 HCC d0 HV HL ⊢
    obtain ⟨tp, htp⟩ : ∃ tp : Nat, 2 ^ pn = tp := ⟨_, rfl⟩
    have htb : tp ≤ 256 := by rw [← htp]; exact Nat.pow_le_pow_right (by omega) h8
    have hwr : wrap64 ((2 : Int) ^ pn) = (tp : Int) := by
      rw [show ((2 : Int) ^ pn) = ((2 ^ pn : Nat) : Int) by norm_cast, htp]
      unfold wrap64
      omega
    have hwr2 : IntKind.i64.wrap ((2 : Int) ^ pn) = (tp : Int) := by
      rw [show ((2 : Int) ^ pn) = ((2 ^ pn : Nat) : Int) by norm_cast, htp, IntKind.wrap_i64]
      omega
    have HTP : Hid (2 ^ pn = tp) := htp
    have pn0 : (0 : Int) ≤ (pn : Int) := by omega
    have pn8 : (pn : Int) ≤ 8 := by omega
    clear hpn htp HR HLB h0
    go_enter Tryz.func16, Tryz.ntmps16
    go_wp2_with (go_at_call 30; rw [HV.out]; refine HL.out.mono ?_; rintro e w1 ⟨rfl, hk1⟩; have HK1 : Hid (Kept [] V w1) := hk1; clear hk1 d0 d1 d2; obtain ⟨d0, d1, d2⟩ := HCC.out w1 HK1.out)
    clear d0 d1 d2 HV HL
    go_loopw [4] (fun i wr => ∃ k : Nat, i = .int .i64 (k : Nat) ∧ k ≤ next.length ∧ Hid (∀ j (h : j < next.length), j < k → wrongB pn next.length next[j] = false) ∧ Hid (Kept [] V wr)) (fun i _ => next.length - (intOf i).toNat)
    case atStart => exact ⟨0, rfl, Nat.zero_le _, fun j _ h => by omega, HK1.out⟩
    case round =>
      obtain ⟨k, rfl, hk, HA, HKW⟩ := hrel
      obtain ⟨d0, d1, d2⟩ := HCC.out wr HKW.out
      by_cases hlt : k < next.length
      · have z0 : (k : Int) < (next.length : Int) := by omega
        have z00 : (0 : Int) ≤ (k : Int) := by omega
        obtain ⟨b, o, u, rfl, hu, hi⟩ := rowsD_get (HNR.out V (Kept.refl [] V)) k hlt
        obtain ⟨uad, uc, rfl, _, _⟩ := hi.form
        have hfew := hi.few
        have HI : Hid (∀ m (hm : m < (next[k]).length), ∃ rb ro, uad = some ⟨rb, ro, none⟩ ∧ V.cell? ⟨rb, ro + m, none⟩ = some (.int .i64 (next[k])[m])) := fun m hm => by
          obtain ⟨rb, ro, rc, e, _, _, q⟩ := hi.there (by omega)
          cases e
          exact ⟨rb, ro, rfl, q m hm⟩
        obtain ⟨ln, hln⟩ : ∃ ln, (next[k]).length = ln := ⟨_, rfl⟩
        have HLN : Hid ((next[k]).length = ln) := hln
        rw [hln] at hu hfew
        have HU : Hid (V.cell? ⟨b, o + k, none⟩ = some (.slice uad ln uc)) := hu
        have c0 : wr.cell? ⟨b, o + k, none⟩ = some (.slice uad ln uc) := cell_kept0 HKW.out hu
        clear hi hu hln
        by_cases hl : ln = tp
        rotate_left
        · have e2 : ((ln : Int) != (tp : Int)) = true := by simp; omega
          have HE : Hid (130 = R) := HBAD.out k hlt (by unfold wrongB; rw [HLN.out, HTP.out, decide_eq_false hl]; rfl)
          go_wp2_with fail
          go_quiet (fail)
          go_wp2
          go_ret
          exact ⟨ret_errD (a := 130) HE.out, keptB HKV.out (HKW.out.drewN _)⟩
        have e2 : ((ln : Int) != (tp : Int)) = false := by simp; omega
        have HL2 : Hid (ln = tp) := hl
        go_wp2_with fail
        go_quiet (fail)
        go_wp2_with fail
        clear d0 d1 d2 c0 e2 hl
        go_loopw [5] (fun i w2 => ∃ m : Nat, i = .int .i64 (m : Nat) ∧ m ≤ ln ∧ Hid (∀ j (h : j < (next[k]).length), j < m → outB13 next.length (next[k])[j] = false) ∧ Hid (Kept [] V w2)) (fun i _ => ln - (intOf i).toNat)
        case atStart => exact ⟨0, rfl, Nat.zero_le _, fun j _ h => by omega, HKW.out.drewN _⟩
        case round =>
          rename World => w5
          obtain ⟨m, rfl, hm, HB, HKX⟩ := hrel
          obtain ⟨d0, d1, d2⟩ := HCC.out w5 HKX.out
          have c0 : w5.cell? ⟨b, o + k, none⟩ = some (.slice uad ln uc) := cell_kept0 HKX.out HU.out
          by_cases hlm : m < ln
          · have y0 : (m : Int) < (ln : Int) := by omega
            have y00 : (0 : Int) ≤ (m : Int) := by omega
            have hmk : m < (next[k]).length := by rw [HLN.out]; exact hlm
            obtain ⟨rb, ro, rfl, hcm⟩ := HI.out m hmk
            obtain ⟨x, hx⟩ : ∃ x, (next[k])[m] = x := ⟨_, rfl⟩
            have HX : Hid ((next[k])[m] = x) := hx
            rw [hx] at hcm
            have c1 : w5.cell? ⟨rb, ro + m, none⟩ = some (.int .i64 x) := cell_kept0 HKX.out hcm
            clear hcm hx
            by_cases s1 : x < 0
            · have HE : Hid (130 = R) := HBAD.out k hlt (by unfold wrongB; rw [any_yes hmk (by unfold outB13; rw [HX.out, decide_eq_true s1]; rfl)]; simp)
              go_wp2_with fail
              go_quiet (fail)
              go_wp2
              go_ret
              exact ⟨ret_errD (a := 130) HE.out, keptB HKV.out (HKX.out.drewN _)⟩
            by_cases s2 : (next.length : Int) ≤ x
            · have HE : Hid (130 = R) := HBAD.out k hlt (by unfold wrongB; rw [any_yes hmk (by unfold outB13; rw [HX.out, decide_eq_true s2]; simp)]; simp)
              go_wp2_with fail
              go_quiet (fail)
              go_wp2
              go_ret
              exact ⟨ret_errD (a := 130) HE.out, keptB HKV.out (HKX.out.drewN _)⟩
            have HO : Hid (outB13 next.length (next[k])[m] = false) := by show outB13 _ _ = false; unfold outB13; rw [HX.out, decide_eq_false s1, decide_eq_false s2]; rfl
            go_wp2_with fail
            go_quiet (fail)
            go_wp2
            go_roundw
            case rel =>
              refine ⟨m + 1, by go_num, by omega, fun j hj h' => ?_, HKX.out.drewN _⟩
              rcases Nat.lt_or_ge j m with q | q
              · exact HB.out j hj q
              · obtain rfl : j = m := by omega
                exact HO.out
            case measure => simp [intOf]; omega
          · obtain rfl : m = ln := by omega
            have y0 : ¬ ((m : Int) < (m : Int)) := by omega
            have HO : Hid (wrongB pn next.length next[k] = false) := by
              show wrongB _ _ _ = false
              unfold wrongB
              rw [HLN.out, HTP.out, decide_eq_true HL2.out, any_no (fun i hi => HB.out i hi (by rw [HLN.out] at hi; exact hi))]
              rfl
            go_wp2
            go_roundw
            case rel =>
              refine ⟨k + 1, by go_num, by omega, fun j hj h' => ?_, HKX.out⟩
              rcases Nat.lt_or_ge j k with q | q
              · exact HA.out j hj q
              · obtain rfl : j = k := by omega
                exact HO.out
            case measure => simp [intOf]; omega
      · obtain rfl : k = next.length := by omega
        have z0 : ¬ ((next.length : Int) < (next.length : Int)) := by omega
        go_wp2
        go_ret
        exact ⟨ret_errD (a := 0) (HYES.out (fun i hi => HA.out i hi hi)), keptB HKV.out HKW.out⟩
end Go.Proofs.YtghlijhbhdjhfaaGreatDoor
