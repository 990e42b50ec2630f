/- The document's own words of a shape: augurref05.some. -/
import Derived.Test.YtamfnefnaelgfaaDoorHF
import Derived.Deep.LoopGhost
import Derived.Deep.CutRange
import Derived.Deep.RegionHeld3
namespace Go.Proofs.YtamfnefnaelgfaaDoor
open Go.RowKit Go.Shelf
attribute [local go_sem ↓] Go.wp_at_zero Go.wp_at_succ

theorem make_all (w : World) (k : Nat) (x : Int) (hx : x = (k : Nat)) (hk : k ≤ 65536) : Sem.run Tryd.prog (Instr.makeSlice 45 (.int .i64 x) (.int .i64 x)) w = .ok (.slice (some ⟨w.heap.size, 0, none⟩) k k) (w.alloc (.cells (u16s (List.replicate k 0)).toArray 51)) := by
  subst hx
  obtain ⟨i0, hi, hz0, hz1, hz2⟩ := info_parts Tryd.infoU16
  have H := run_make (P := Tryd.prog) w 45 51 i0 _ Tryd.underlying45 hi hz0 .i64 .i64 k k (by omega) (by omega) (by rw [hz2]; omega) (by omega)
  rw [H, hz1]
  have e : madeCells (Value.cells (.int .u16 0)) (k * 1) = (u16s (List.replicate k 0)).toArray := by
    apply Array.toList_inj.1
    rw [show Value.cells (.int .u16 0) = #[Value.int .u16 0] from rfl, toList_madeCells_one]; simp [u16s]
  simp only [Int.toNat_natCast]
  rw [e]
theorem norm_one {q r r' : Wd} (h : NormOf q r) (h' : NormOf q r') : r = r' := by
  by_cases e : q.loop = []
  · rw [h.1 e, h'.1 e]
  · exact Wd.Norm.unique (h.2 e).1 (h'.2 e).1 fun i => ((h.2 e).2 i).trans ((h'.2 e).2 i).symm
theorem norm_mine {q r : Wd} (h : NormOf q r) (h0 : 0 < q.loop.length) : eqW r q = normB q := by
  have hne : q.loop ≠ [] := fun e => by rw [e] at h0; simp at h0
  rw [Bool.eq_iff_iff, eqW_iff, normB_iff h0]
  constructor
  · rintro rfl; exact (h.2 hne).1
  · exact fun hq => norm_one h ⟨fun e => absurd e hne, fun _ => ⟨hq, fun _ => rfl⟩⟩
theorem SmC.push {w W : World} {row : List Nat} {L : List Wd} {v : Value} {q : Wd} {j1 j2 : Option Addr} {n1 c1 n2 c2 : Nat} (h : SmC w row L v W) (hq : NewW (w.heap.size + 1) W (.slice j1 n1 c1) (.slice j2 n2 c2) q) (hl : L.length ≤ 100000) :
    ∃ g cap w', (∀ ty, (Builtin.append_ #[24, 24] ty #[v, .slice (some ⟨W.heap.size, 0, none⟩) 1 1]).run Tryd.prog (W.alloc (.cells #[.slice j1 n1 c1, .slice j2 n2 c2] 47)) = .ok (.slice (some ⟨g, 0, none⟩) (L.length + 1) cap) w') ∧ SmC w row (L ++ [q]) (.slice (some ⟨g, 0, none⟩) (L.length + 1) cap) w' := by
  have hlt := h.lt
  obtain ⟨g, cap, w', h1, h2, h3, h4, h5, h6, h7⟩ := h.lst.push hq hl (by omega) rfl rfl
  refine ⟨g, cap, w', h1, ⟨h4.trans h.kept.os, h5.trans h.kept.tape, h6.trans h.kept.output, by omega, fun k hk hn => ?_⟩, (h7 _ (by omega)).trans h.row, h2⟩
  exact (h7 k (by omega)).trans (h.kept.block k hk hn)
theorem top_wrap {props b : Nat} (hp : props ≤ 8) (hb : 2 ^ props = b) : wrap64 (wrap64 (2 ^ props) - 1) = (b : Int) - 1 := by
  subst hb
  rcases (by omega : props = 0 ∨ props = 1 ∨ props = 2 ∨ props = 3 ∨ props = 4 ∨ props = 5 ∨ props = 6 ∨ props = 7 ∨ props = 8) with rfl | rfl | rfl | rfl | rfl | rfl | rfl | rfl | rfl <;> simp [wrap64]
set_option maxHeartbeats 4000000 in
set_option maxRecDepth 20000 in
theorem refSome_any (props stem loop most b n : Nat) (w : World) (hp : props ≤ 8) (hb : 2 ^ props = b) (hn : stem + loop = n) (hl : 0 < loop) (hn1 : n ≤ 1000) (hm : most ≤ 10000) :
    Calls Tryd.prog 22 #[.int .i64 (props : Nat), .int .i64 (stem : Nat), .int .i64 (loop : Nat), .int .i64 (most : Nat)] w fun e w' => ∃ v, e = .returned v ∧ Hid (Wds w.heap.size w' v ((ext b stem n []).take most)) ∧ Hid (Kept [] w w') := by
  have hb0 : 0 < b := by rw [← hb]; exact Nat.pow_pos (by decide)
  have hb1 : b ≤ 256 := by rw [← hb]; exact Nat.le_trans (Nat.pow_le_pow_right (by omega) hp) (by decide)
  have hbn : 0 < b ^ n := Nat.pow_pos hb0
  obtain ⟨V, hV⟩ : ∃ V, w.alloc (.cells (u16s (List.replicate n 0)).toArray 51) = V := ⟨_, rfl⟩
  have hmk := make_all w n ((stem : Int) + (loop : Int)) (by omega) (by omega)
  rw [hV] at hmk
  have H0 : Hid (SmC w (rowAt b n 0) (cntW b stem n 0) (.slice none 0 0) V) := by
    refine ⟨by rw [← hV]; exact (Kept.refl [] w).alloc _, ?_, Wds.nil _ _⟩
    rw [rowAt_zero hb0, ← hV]; exact heap_alloc_new w _
  have HB : Hid (2 ^ props = b) := hb
  clear hV hb
  go_enter Tryd.func22, Tryd.ntmps22
  go_wp2_with fail
  go_loopg [9, 12, 13] (b ^ n) (fun g v9 _ _ wr => ∃ k : Nat, g + k = b ^ n ∧ k < b ^ n ∧ (cntW b stem n k).length ≤ most ∧ Hid (SmC w (rowAt b n k) (cntW b stem n k) v9 wr))
  case atStart => exact ⟨0, by omega, hbn, by simp [cntW], H0.out⟩
  case round =>
    obtain ⟨k, hg, hk, hcm, HC⟩ := hrel
    obtain ⟨ad, cap, rfl⟩ := HC.out.lst.form
    clear hmk H0
    by_cases hlt : (cntW b stem n k).length < most
    rotate_left
    · have hlt2 : ¬ (((cntW b stem n k).length : Int) < (most : Int)) := by omega
      have HE : Hid (cntW b stem n k = (ext b stem n []).take most) := some_full (by omega) (by omega)
      go_wp2
      go_ret
      rw [← HE.out]
      exact ⟨_, rfl, HC.out.lst.low (by omega), HC.out.kept⟩
    · have hlt2 : ((cntW b stem n k).length : Int) < (most : Int) := by omega
      obtain ⟨row, hrow⟩ : ∃ row, rowAt b n k = row := ⟨_, rfl⟩
      have hrl : row.length = n := by rw [← hrow]; exact rowAt_len b n k
      have HRS : Hid (∀ c ∈ row, c < b) := by rw [← hrow]; exact rowAt_small hb0 n k hk
      have HL : Hid (cntW b stem n (k + 1) = cntW b stem n k ++ oneW stem row) := by rw [← hrow]; exact cntW_succ b stem n k
      rw [hrow] at HC
      obtain ⟨L, hL⟩ : ∃ L, cntW b stem n k = L := ⟨_, rfl⟩
      rw [hL] at HC HL hlt hlt2 hcm ⊢
      have s1 : (stem : Int) ≤ (n : Int) := by omega
      have s2 : ¬ n = stem := by omega
      go_upto_region 5 with fail
      go_cut [12] from 19 to 67 (fun s12 wx => ∃ B, s12 = .pointer (some ⟨B, 0, none⟩) ∧ Hid (SmC w row L (.slice ad L.length cap) wx ∧ Wd2 wx B (.slice (some ⟨w.heap.size, 0, none⟩) stem n) (.slice (some ⟨w.heap.size, stem, none⟩) (n - stem) (n - stem))))
      case first =>
        go_region
        all_goals (go_wp2_with fail)
        all_goals go_meet
        all_goals exact ⟨_, rfl, HC.out.go (((Kept.refl [] wr).alloc _).drew), al0 _ _⟩
      case rest =>
        obtain ⟨B, rfl, HX⟩ := hcut
        have HC1 : Hid (SmC w row L (.slice ad L.length cap) wc) := HX.out.1
        have HBX : Hid (Wd2 wc B (.slice (some ⟨w.heap.size, 0, none⟩) stem n) (.slice (some ⟨w.heap.size, stem, none⟩) (n - stem) (n - stem))) := HX.out.2
        clear HX HC
        have hIW := HC1.out.word (stem := stem) (fun x hx => by have := HRS.out x hx; omega) hrl hn1 (by omega)
        have hlo : 0 < (wdOf stem row).loop.length := by show 0 < (row.drop stem).length; rw [List.length_drop]; omega
        have hfew : (wdOf stem row).stem.length + (wdOf stem row).loop.length ≤ 100000000 := by show (row.take stem).length + (row.drop stem).length ≤ _; rw [List.length_take, List.length_drop]; omega
        have HNM : Hid (∀ W, Kept [] wc W → Calls Tryd.prog 52 #[.agg #[.slice (some ⟨w.heap.size, 0, none⟩) stem n, .slice (some ⟨w.heap.size, stem, none⟩) (n - stem) (n - stem)]] W (RefMade W (wdOf stem row))) := fun W k => refNormal_any _ _ _ W (hIW.kept k) hfew
        have HSW : Hid (∀ W x1 x2 r, Kept [] wc W → IsW W x1 x2 r → NormOf (wdOf stem row) r → Calls Tryd.prog 51 #[.agg #[x1, x2], .agg #[.slice (some ⟨w.heap.size, 0, none⟩) stem n, .slice (some ⟨w.heap.size, stem, none⟩) (n - stem) (n - stem)]] W fun e w' => e = .returned (.bool (normB (wdOf stem row))) ∧ Kept [] W w') := fun W x1 x2 r k i1 ho => by
          have := refWords_any x1 x2 _ _ r (wdOf stem row) W i1.st i1.lp (hIW.kept k).st (hIW.kept k).lp
          rwa [norm_mine ho hlo] at this
        have HJN : Hid (∀ W, Kept [] wc W → Calls Tryd.prog 53 #[.slice none 0 0, .agg #[.slice (some ⟨w.heap.size, 0, none⟩) stem n, .slice (some ⟨w.heap.size, stem, none⟩) (n - stem) (n - stem)]] W (RefMadeN W (wdOf stem row))) := fun W k => by
          have h1 := (hIW.kept k).st
          have h2 := (hIW.kept k).lp
          have e1 : (wdOf stem row).stem.length = stem := by show (row.take stem).length = _; rw [List.length_take]; omega
          have e2 : (wdOf stem row).loop.length = n - stem := by show (row.drop stem).length = _; rw [List.length_drop]; omega
          have := refJoin_someN (.slice none 0 0) [] (some ⟨w.heap.size, 0, none⟩) n w.heap.size stem (n - stem) (wdOf stem row).stem (wdOf stem row).loop W (Lets.nil _) (by rw [e1]; exact h1) (by rw [e2]; exact h2) hlo (by simp only [List.length_nil]; omega)
          rw [e1, e2] at this
          exact this
        have HS : Hid (∀ W, Kept [] wc W → W.cell? ⟨B, 0, none⟩ = some (.slice (some ⟨w.heap.size, 0, none⟩) stem n) ∧ W.cell? ⟨B, 1, none⟩ = some (.slice (some ⟨w.heap.size, stem, none⟩) (n - stem) (n - stem))) := fun W k => ⟨(HBX.out.kept k).cells.1, (HBX.out.kept k).cells.2.1⟩
        have HQ : Hid (normB (wdOf stem row) = true → NormOf (wdOf stem row) (wdOf stem row)) := fun hq => ⟨fun e => by rw [e] at hlo; simp at hlo, fun _ => ⟨(normB_iff hlo).1 hq, fun _ => rfl⟩⟩
        clear hIW hlo hfew
        rename_i Kx ax
        refine ax _ _ ?_
        clear ax
        refine wp_seq_k fun Ky ay => ?_
        go_cut [9] from 19 to 67 (fun s9 wx => Hid (SmC w row (L ++ oneW stem row) s9 wx))
        case first =>
          obtain ⟨f0, f1⟩ := HS.out wc (Kept.refl [] wc)
          have HKc : Hid (Kept [] wc wc) := Kept.refl [] wc
          by_cases hnb : normB (wdOf stem row) = true
          rotate_left
          · have hnb : normB (wdOf stem row) = false := by simpa using hnb
            rw [hnb] at HSW
            have HE1 : Hid (oneW stem row = []) := by show _ = _; unfold oneW; rw [hnb]; rfl
            clear hnb HJN
            go_upto_region 6 with fail
            go_region_held3 (fun w' => w'.cell? ⟨B, 0, none⟩ = some (.slice (some ⟨w.heap.size, 0, none⟩) stem n) ∧ w'.cell? ⟨B, 1, none⟩ = some (.slice (some ⟨w.heap.size, stem, none⟩) (n - stem) (n - stem)))
              ((refine HS.out _ ?_; (first | exact HKc.out | exact HKc.out.drew)))
              (first
                | (go_at_call 52; refine (HNM.out _ (by first | exact HKc.out | exact HKc.out.drew)).mono ?_; rintro e Wa ⟨x1, m1, d1, x2, m2, d2, r1, rfl, HI1, HM1, hka⟩; have HKn : Hid (Kept [] wc Wa) := (by first | exact HKc.out.trans hka.out (by simp) (by simp) | exact HKc.out.drew.trans hka.out (by simp) (by simp)); clear HKc hka; have HKc : Hid (Kept [] wc Wa) := HKn.out; clear HKn)
                | (go_at_call 51; refine (HSW.out _ _ _ r1 HKc.out HI1.out HM1.out).mono ?_; rintro e Wc ⟨rfl, kc⟩; have HKn : Hid (Kept [] wc Wc) := HKc.out.trans kc (by simp) (by simp); clear HKc kc; have HKc : Hid (Kept [] wc Wc) := HKn.out; clear HKn))
            all_goals (go_wp2_with fail)
            all_goals go_meet
            all_goals (rw [HE1.out, List.append_nil]; exact HC1.out.go HKc.out)
          · rw [hnb] at HSW
            have HE1 : Hid (oneW stem row = [wdOf stem row]) := by show _ = _; unfold oneW; rw [hnb]; rfl
            have HQN : Hid (NormOf (wdOf stem row) (wdOf stem row)) := HQ.out hnb
            clear hnb
            go_upto_region 6 with fail
            go_region_held3 (fun w' => w'.cell? ⟨B, 0, none⟩ = some (.slice (some ⟨w.heap.size, 0, none⟩) stem n) ∧ w'.cell? ⟨B, 1, none⟩ = some (.slice (some ⟨w.heap.size, stem, none⟩) (n - stem) (n - stem)))
              ((refine HS.out _ ?_; (first | exact HKc.out | exact HKc.out.drew)))
              (first
                | (go_at_call 52; refine (HNM.out _ (by first | exact HKc.out | exact HKc.out.drew)).mono ?_; rintro e Wa ⟨x1, m1, d1, x2, m2, d2, r1, rfl, HI1, HM1, hka⟩; have HKn : Hid (Kept [] wc Wa) := (by first | exact HKc.out.trans hka.out (by simp) (by simp) | exact HKc.out.drew.trans hka.out (by simp) (by simp)); clear HKc hka; have HKc : Hid (Kept [] wc Wa) := HKn.out; clear HKn)
                | (go_at_call 51; refine (HSW.out _ _ _ r1 HKc.out HI1.out HM1.out).mono ?_; rintro e Wc ⟨rfl, kc⟩; have HKn : Hid (Kept [] wc Wc) := HKc.out.trans kc (by simp) (by simp); clear HKc kc HI1 HM1; have HKc : Hid (Kept [] wc Wc) := HKn.out; clear HKn; obtain ⟨g0, g1⟩ := HS.out Wc HKc.out))
            all_goals (go_wp2_with (first
              | (go_at_call 53; refine (HJN.out _ HKc.out).mono ?_; rintro e Wj ⟨j1, jn1, jc1, j2, jn2, jc2, rj, rfl, HIJ, HOJ, HKJ, HNJ⟩; obtain rfl := norm_one HOJ.out HQN.out; have HPU : Hid _ := SmC.push ((HC1.out.go HKc.out).go HKJ.out) (HNJ.out.low (HC1.out.go HKc.out).lt) (by omega); clear HIJ HOJ HNJ)
              | (at_builtin; obtain ⟨g, cp, w7, hr7, hs7⟩ := HPU.out; refine Lib.wpList_append_run _ rfl _ _ _ _ rfl _ _ rfl rfl _ _ (hr7 _) ?_; have HS7 : Hid _ := hs7; clear hr7 hs7)))
            all_goals go_meet
            all_goals (rw [HE1.out]; exact HS7.out)
        case rest =>
          rename World => wd
          clear HNM HSW HJN HS HBX HC1 HQ
          obtain ⟨ad2, cap2, e9⟩ := hcut.out.lst.form
          cases e9
          obtain ⟨M, hM⟩ : ∃ M, L ++ oneW stem row = M := ⟨_, rfl⟩
          rw [hM] at hcut HL ⊢
          have HC2 : Hid (SmC w (rowZ row 0) M (.slice ad2 M.length cap2) wd) := by rw [rowZ_zero]; exact hcut.out
          have hMl : M.length ≤ most := by rw [← hM, List.length_append]; have : (oneW stem row).length ≤ 1 := by unfold oneW; split <;> simp
                                           omega
          clear hcut hM
          go_wp2_with fail
          go_loopg [13] n (fun g v13 wx => ∃ (i : Int) (j : Nat), v13 = .int .i64 i ∧ g + j = n ∧ i = (n : Int) - 1 - (j : Int) ∧ Hid (SmC w (rowZ row j) M (.slice ad2 M.length cap2) wx ∧ Tops b row j))
          case atStart => exact ⟨_, 0, rfl, by omega, by omega, HC2.out, Tops.zero _ _⟩
          case round =>
            obtain ⟨i, j, rfl, hgj, hi, HM⟩ := hrel
            by_cases hj : j = n
            · obtain rfl : i = -1 := by omega
              have HK : Hid (k + 1 = b ^ n) := tops_all hb0 hk (by rw [hrow, ← hj]; exact HM.out.2)
              go_wp2
              go_ret
              refine ⟨_, rfl, ?_, HM.out.1.kept⟩
              rw [← some_last HK.out (by rw [HL.out]; exact hMl), HL.out]
              exact HM.out.1.lst.low (by omega)
            · obtain ⟨i, rfl⟩ : ∃ i' : Nat, i = i' := ⟨i.toNat, by omega⟩
              have HIJ : Hid (row.length = i + 1 + j) := by show _ = _; omega
              have HIN : Hid (n = i + 1 + j) := by show _ = _; omega
              have hij := HIJ.out
              obtain ⟨f0, f1⟩ := HM.out.1.at (rowZ_at hij)
              have i1 : (i : Int) < (n : Int) := by omega
              have i2 : (0 : Int) ≤ (i : Int) := by omega
              obtain ⟨c, hc⟩ : ∃ c, row.getD i 0 = c := ⟨_, rfl⟩
              rw [hc] at f0
              have hcs : c < b := by
                have hlt : i < row.length := by omega
                rw [← hc]
                exact HRS.out _ (by rw [show row.getD i 0 = row[i] by simp [List.getD_eq_getElem?_getD, hlt]]; exact List.getElem_mem _)
              have HCC : Hid (row.getD i 0 = c) := hc
              clear hi hij hc
              go_wp2_with fail
              · rename_i hcq
                have hcb : c = b - 1 := by rw [top_wrap hp HB.out] at hcq; have := eq_of_beq hcq; omega
                have HCB : Hid (row.getD i 0 = b - 1) := HCC.out.trans hcb
                clear hcq hcb
                go_roundg (n - (j + 1))
                case measure => omega
                case rel =>
                  have hin := HIN.out
                  refine ⟨_, j + 1, rfl, by omega, by omega, ?_, HM.out.2.next HIJ.out HCB.out⟩
                  rw [← rowZ_next HIJ.out]
                  exact HM.out.1.put i 0
              · rename_i hcq _
                have hcb : c ≠ b - 1 := by rw [top_wrap hp HB.out] at hcq; have := beq_eq_false_iff_ne.1 hcq; omega
                have HST : Hid ((rowZ row j).set i (c + 1) = rowAt b n (k + 1) ∧ k + 1 < b ^ n) := by
                  have := tops_step hb0 hk HIN.out (by rw [hrow]; exact HM.out.2) (by rw [hrow, HCC.out]; exact hcb)
                  rw [hrow, HCC.out] at this
                  exact this
                clear hcq hcb
                go_roundg (b ^ n - (k + 1))
                case measure => omega
                case rel =>
                  have hst := HST.out.2
                  refine ⟨k + 1, by omega, hst, by rw [HL.out]; exact hMl, ?_⟩
                  rw [HL.out, ← HST.out.1]
                  exact HM.out.1.put i (c + 1)
end Go.Proofs.YtamfnefnaelgfaaDoor
