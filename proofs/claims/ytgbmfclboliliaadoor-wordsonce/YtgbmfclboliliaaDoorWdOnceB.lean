/- WordsOnce: Normal, Check, Places of words as long as memory bears; ahead. -/
import Derived.Test.YtgbmfclboliliaaDoorWdOnceM
import Derived.Test.YtgbmfclboliliaaDoorWdNormal
import Derived.Test.YtgbmfclboliliaaDoorWdCheck
import Derived.Deep.CutRange
namespace Go.Proofs.YtgbmfclboliliaaDoor
open Go.RowKit
attribute [local go_sem ↓] Go.wp_at_zero Go.wp_at_succ

set_option maxHeartbeats 4000000 in
set_option maxRecDepth 10000 in
theorem normal_someB (ads : Option Addr) (cs bl ol cl : Nat) (st lp : List Nat) (w : World) (hs : Lets w (.slice ads st.length cs) st) (hl : Lets w (.slice (some ⟨bl, ol, none⟩) lp.length cl) lp) (h0 : 0 < lp.length) (_hf : st.length + lp.length ≤ 140737488355328) :
    Calls Tryd.prog 10 #[.agg #[.slice ads st.length cs, .slice (some ⟨bl, ol, none⟩) lp.length cl]] w (MadeNorm w ⟨st, lp⟩) := by
  have fs0 : st.length ≤ 70368744177664 := hs.few
  have fl0 : lp.length ≤ 70368744177664 := hl.few
  obtain ⟨d, hd⟩ := least_some lp.length h0 (cyc_per lp)
  obtain ⟨hc1, hc2, hc3⟩ := at_cut (st := st) h0 hd
  have hdl : d ≤ lp.length := Nat.le_of_dvd h0 (hd.dvd (cyc_per lp))
  have hd0 := hd.1
  obtain ⟨lq, hlq⟩ : ∃ lq, lp.take d = lq := ⟨_, rfl⟩
  rw [hlq] at hc1 hc2 hc3
  have hN := two_new w (.cells #[.slice ads st.length cs, .slice (some ⟨bl, ol, none⟩) lp.length cl] 24) (.cells #[.slice none 0 0, .slice none 0 0] 24)
  obtain ⟨_, fl1, fl2⟩ := lets_form hl
  have fs : st.length ≤ cs ∧ cs ≤ 9223372036854775807 := by
    obtain ⟨_, _, e, h1, h2⟩ := hs.form
    cases e
    unfold maxLen at h2
    exact ⟨h1, by omega⟩
  obtain ⟨fs1, fs2⟩ := fs
  have HS : Hid (Lets w (.slice ads st.length cs) st) := hs
  have HL : Hid (Lets w (.slice (some ⟨bl, ol, none⟩) lp.length cl) lp) := hl
  have HN : Hid _ := hN
  have HD : Hid (Least (cyc lp) 0 d) := hd
  have HC1 : Hid (∀ i, (Wd.mk st lq).at i = (Wd.mk st lp).at i) := hc1
  have HC2 : Hid (lq.length = d) := hc2
  have HC3 : Hid (Least (cyc lq) 0 lq.length) := hc3
  have HLQ : Hid (lp.take d = lq) := hlq
  have HST : Hid (StripInv st lq st.length 0) := StripInv.start st lq (by rw [hc2]; exact hd0)
  have b1 : (0 : Int) < (lp.length : Int) := by omega
  have b2 : (0 : Int) ≤ (d : Int) := by omega
  have b3 : (d : Int) ≤ (cl : Int) := by omega
  have b4 : decide (0 < lp.length) = true := by simpa using h0
  clear hs hl hN hd hc1 hc2 hc3 hlq
  go_enter Tryd.func10, Tryd.ntmps10
  go_wp2_with (go_at_call 43; refine (endless_any _ _ _ _ _).mono ?_; rintro e w1 ⟨rfl, hk⟩; rw [b4]; have hR := hk.at HN.out.1 (by simp); have c0 : w1.cell? ⟨w.heap.size, 0, none⟩ = some (.slice ads st.length cs) := (cell_of hR 0).trans rfl; have c1 : w1.cell? ⟨w.heap.size, 1, none⟩ = some (.slice (some ⟨bl, ol, none⟩) lp.length cl) := (cell_of hR 1).trans rfl; have HK : Hid (Kept [] w w1) := Kept.trans (F := []) (G := []) (H := []) (((Kept.refl [] w).alloc _).alloc _) hk (by simp) (by simp); have HB : Hid (Wd2 w1 (w.heap.size + 1) (.slice none 0 0) (.slice none 0 0)) := hk.at HN.out.2 (by simp); clear hk hR)
  have HP : Hid (∀ q, Calls Tryd.prog 44 #[.slice (some ⟨bl, ol, none⟩) lp.length cl] (w1.drewN q) fun e w' => e = .returned (.int .i64 (d : Nat)) ∧ ∃ k, w' = (w1.drewN q).drewN k) := fun q => period_any bl ol cl d lp _ (HL.out.kept (HK.out.drewN q)) h0 HD.out
  go_quiet ((go_at_call 44; exact Calls.quiet_of (HP.out _)))
  clear c0 c1 HP
  go_wp2_with fail
  go_loopw [3, 5, 6] (fun s f _ wr => ∃ m first : Nat, s = .slice ads m cs ∧ f = .int .i64 first ∧ Hid (StripInv st lq m first) ∧ Hid (Kept [] w wr) ∧ Hid (Wd2 wr (w.heap.size + 1) (.slice none 0 0) (.slice none 0 0))) (fun s _ _ _ => slLen s)
  case atStart => exact ⟨_, 0, rfl, rfl, HST.out, HK.out.drewN _, HB.out.kept ((Kept.refl [] w1).drewN _)⟩
  case round =>
    obtain ⟨m, first, rfl, rfl, HI, HK2, HB2⟩ := hrel
    have hm := HI.out.le
    have hfl := HI.out.lt
    rw [HC2.out] at hfl
    clear HK HB HST HN
    by_cases h1 : 0 < m
    · obtain ⟨k, rfl⟩ : ∃ k, m = k + 1 := ⟨m - 1, by omega⟩
      obtain ⟨la, hla, hla2, x1, x2⟩ := rem_last hfl
      obtain ⟨bs, os, cs', e, _, _, hcells⟩ := HS.out.there (by omega)
      simp only [Value.slice.injEq] at e
      obtain ⟨e1, _, e2⟩ := e
      subst e1 e2
      have y1 : wr.cell? ⟨bs, os + k, none⟩ = some (.int .u16 (st.getD k 0 : Nat)) := cell_kept0 HK2.out (hcells k (by omega))
      have y2 : wr.cell? ⟨bl, ol + la, none⟩ = some (.int .u16 (lq.getD la 0 : Nat)) := by
        obtain ⟨_, _, _, e, _, _, hc⟩ := HL.out.there h0
        cases e
        rw [← HLQ.out, getD_take _ _ _ hla2]
        exact cell_kept0 HK2.out (hc la (by omega))
      have HLA : Hid (la = (first + lq.length - 1) % lq.length) := by show la = _; rw [HC2.out]; exact hla
      clear hla hcells
      have z1 : (0 : Int) ≤ (k : Int) := by omega
      have z2 : (k : Int) < ((k + 1 : Nat) : Int) := by omega
      have z3 : (0 : Int) ≤ (la : Int) := by omega
      have z4 : (la : Int) < (d : Int) := by omega
      have z5 : (0 : Int) < ((k + 1 : Nat) : Int) := by omega
      have z6 : ¬ ((d : Int) = 0) := by omega
      have z7 : ¬ (d = 0) := by omega
      have z8 : (k : Int) ≤ (cs : Int) := by omega
      by_cases hc : st.getD k 0 = lq.getD la 0
      · have HSN : Hid (StripInv st lq k la) := by
          have := HI.out.step (by omega) (by rw [← HLA.out]; exact hc)
          rw [← HLA.out] at this
          exact this
        rw [← hc] at y2
        generalize st.getD k 0 = x at y1 y2
        have hne : ((x : Int) != (x : Int)) = false := by simp
        clear hc
        go_wp2_with fail
        go_quiet (fail)
        go_wp2
        go_roundw
        case rel => exact ⟨k, la, rfl, rfl, HSN.out, HK2.out.drewN _, HB2.out.kept ((Kept.refl [] wr).drewN _)⟩
        case measure => simp [slLen]
      · have HSE : Hid (st.getD (k + 1 - 1) 0 ≠ lq.getD ((first + lq.length - 1) % lq.length) 0) := by
          show st.getD k 0 ≠ _
          rw [← HLA.out]; exact hc
        generalize st.getD k 0 = x at y1 hc
        generalize lq.getD la 0 = y at y2 hc
        have hne : ((x : Int) != (y : Int)) = true := by simp; omega
        clear hc
        go_wp2_with fail
        go_quiet (fail)
        have HK5 : Hid (Kept [] w (wr.drewN nq)) := HK2.out.drewN nq
        have HB5 : Hid (Wd2 (wr.drewN nq) (w.heap.size + 1) (.slice none 0 0) (.slice none 0 0)) := HB2.out.kept ((Kept.refl [] wr).drewN nq)
        have HE : Hid (Lets (wr.drewN nq) (.slice (some ⟨bs, os, none⟩) (k + 1) cs) (st.take (k + 1))) := (HS.out.takeA (k + 1) (by omega)).kept HK5.out
        go_wp2_with (first | (go_at_call 45; refine (copied_any _ _ _ HE.out).mono ?_; rintro e w2 ⟨v2, rfl, o1, k1, _⟩; obtain ⟨a2, c2, hv2⟩ := own_form o1; subst hv2; have HO1 : Hid _ := o1; have HK1 : Hid (Kept [] (wr.drewN nq) w2) := k1; clear o1 k1) | (go_at_call 46; refine (turned_at (w := w) (lq := lq) (HK5.out.trans HK1.out (by simp) (by simp)) ?_ HC2.out (by omega)).mono ?_; (· rw [← HLQ.out]; exact HL.out.take d (by omega)); rintro e w3 ⟨v3, rfl, o2, k2⟩; obtain ⟨a3, c3, hv3⟩ := own_form o2; subst hv3; have HO2 : Hid _ := o2; have HK3 : Hid (Kept [] w2 w3) := k2; clear o2 k2; obtain ⟨d0, d1, f0, f1⟩ := ((HB5.out.kept HK1.out).kept HK3.out).cells))
        obtain ⟨q1, q2⟩ := made_norm (m := k + 1) HC1.out HC3.out h0 HI.out (.inr HSE.out) HK5.out HB5.out HO1.out HK1.out HO2.out HK3.out HS.out.small (fun x hx => HL.out.small x (by rw [← HLQ.out] at hx; exact List.mem_of_mem_take hx)) (by omega) (by rw [HC2.out]; omega)
        rw [show (st.take (k + 1)).length = k + 1 by rw [List.length_take]; omega] at q1 q2
        exact ret_word rfl rfl rfl q2 q1
    · obtain rfl : m = 0 := by omega
      have HE : Hid (Lets wr (.slice ads 0 cs) (st.take 0)) := (HS.out.takeA 0 (by omega)).kept HK2.out
      go_wp2_with (first | (go_at_call 45; refine (copied_any _ _ _ HE.out).mono ?_; rintro e w2 ⟨v2, rfl, o1, k1, _⟩; obtain ⟨a2, c2, hv2⟩ := own_form o1; subst hv2; have HO1 : Hid _ := o1; have HK1 : Hid (Kept [] wr w2) := k1; clear o1 k1) | (go_at_call 46; refine (turned_at (w := w) (lq := lq) (HK2.out.trans HK1.out (by simp) (by simp)) ?_ HC2.out (by omega)).mono ?_; (· rw [← HLQ.out]; exact HL.out.take d (by omega)); rintro e w3 ⟨v3, rfl, o2, k2⟩; obtain ⟨a3, c3, hv3⟩ := own_form o2; subst hv3; have HO2 : Hid _ := o2; have HK3 : Hid (Kept [] w2 w3) := k2; clear o2 k2; obtain ⟨d0, d1, f0, f1⟩ := ((HB2.out.kept HK1.out).kept HK3.out).cells))
      obtain ⟨q1, q2⟩ := made_norm (m := 0) HC1.out HC3.out h0 HI.out (.inl rfl) HK2.out HB2.out HO1.out HK1.out HO2.out HK3.out HS.out.small (fun x hx => HL.out.small x (by rw [← HLQ.out] at hx; exact List.mem_of_mem_take hx)) (by omega) (by rw [HC2.out]; omega)
      exact ret_word rfl rfl rfl q2 q1

/-- words.Normal, of whatever word. -/
theorem normal_anyB (sv lv : Value) (q : Wd) (w : World) (hs : Lets w sv q.stem) (hl : Lets w lv q.loop) (hf : q.stem.length + q.loop.length ≤ 140737488355328) :
    Calls Tryd.prog 10 #[.agg #[sv, lv]] w (MadeNorm w q) := by
  obtain ⟨st, lp⟩ := q
  by_cases h0 : 0 < lp.length
  · obtain ⟨b, o, c, rfl, _⟩ := hl.there h0
    obtain ⟨ad, cs, rfl, _⟩ := hs.form
    exact normal_someB ad cs b o c st lp w hs hl h0 hf
  · obtain rfl : lp = [] := List.length_eq_zero_iff.1 (by omega)
    obtain ⟨ad, c, rfl, _⟩ := hl.form
    exact normal_none sv ad c st w hs
set_option maxHeartbeats 1600000 in
theorem check_goodB (sv lv : Value) (q : Wd) (p : Nat) (w : World) (hs : Lets w sv q.stem) (hl : Lets w lv q.loop) (hp : p ≤ 8) :
    Calls Tryd.prog 20 #[.agg #[sv, lv], .int .i64 p] w fun e w' => e = .returned (.int .i64 (checkE q p : Nat)) ∧ Kept [] w w' := by
  obtain ⟨st, lp⟩ := q
  have HS : Hid (∀ W, Kept [] w W → W.cell? ⟨w.heap.size + 1, 0, none⟩ = some (.int .i64 (p : Nat)) → Calls Tryd.prog 51 #[sv, .func (.func 50) #[] #[.pointer (some ⟨w.heap.size + 1, 0, none⟩)]] W fun e w' => e = .returned (.bool (anyGreat p st)) ∧ w' = W) := fun W k c => contains_any sv st p _ W (hs.kept k) hp c
  have HL : Hid (∀ W, Kept [] w W → W.cell? ⟨w.heap.size + 1, 0, none⟩ = some (.int .i64 (p : Nat)) → Calls Tryd.prog 51 #[lv, .func (.func 50) #[] #[.pointer (some ⟨w.heap.size + 1, 0, none⟩)]] W fun e w' => e = .returned (.bool (anyGreat p lp)) ∧ w' = W) := fun W k c => contains_any lv lp p _ W (hl.kept k) hp c
  obtain ⟨ast, cs, rfl, _, _⟩ := hs.form
  obtain ⟨al, cl, rfl, _, _⟩ := hl.form
  simp only at HS HL hs hl
  have hb : (decide (0 ≤ (p : Int)) && decide ((p : Int) ≤ 8)) = true := by simp; omega
  have HG : Hid (∀ W, Calls Tryd.prog 49 #[.int .i64 p] W fun e w' => e = .returned (.bool true) ∧ w' = W) := fun W => by have := goodProps_any p W; rw [hb] at this; exact this
  have hN := two_new w (.cells #[.slice ast st.length cs, .slice al lp.length cl] 24) (.cells #[.int .i64 (p : Nat)] 3)
  have HN : Hid (((w.alloc (.cells #[.slice ast st.length cs, .slice al lp.length cl] 24)).alloc (.cells #[.int .i64 (p : Nat)] 3)).heap[w.heap.size]? = some (.cells #[.slice ast st.length cs, .slice al lp.length cl] 24 (0, 0)) ∧ ((w.alloc (.cells #[.slice ast st.length cs, .slice al lp.length cl] 24)).alloc (.cells #[.int .i64 (p : Nat)] 3)).heap[w.heap.size + 1]? = some (.cells #[.int .i64 (p : Nat)] 3 (0, 0))) := hN
  have HE : Hid (∀ W, Calls Tryd.prog 43 #[.agg #[.slice ast st.length cs, .slice al lp.length cl]] W fun e w' => e = .returned (.bool (decide (0 < lp.length))) ∧ Kept [] W w') := fun W => endless_any (.slice ast st.length cs) al lp.length cl W
  have hC : checkE ⟨st, lp⟩ p = if lp.length = 0 ∨ anyGreat p st = true ∨ anyGreat p lp = true then 50 else 0 := by
    unfold checkE; rw [if_neg (by omega)]; simp
  rw [hC]
  clear hs hl hN hb hC
  by_cases h0 : lp.length = 0
  · rw [if_pos (.inl h0)]
    rw [show decide (0 < lp.length) = false from decide_eq_false (by omega)] at HE
    clear h0
    go_enter Tryd.func20, Tryd.ntmps20
    go_wp2_with (first
      | (go_at_call 49; refine (HG.out _).mono ?_; rintro e w1 ⟨rfl, rfl⟩)
      | (go_at_call 43; refine (HE.out _).mono ?_; rintro e w1 ⟨rfl, hk⟩; have hkw : Kept [] w w1 := Kept.trans (F := []) (G := []) (H := []) (((Kept.refl [] w).alloc _).alloc _) hk (by simp) (by simp); have HK : Hid (Kept [] w w1) := hkw; have h2 := hk.at HN.out.1 (by simp); have c0 : w1.cell? ⟨w.heap.size, 0, none⟩ = some (.slice ast st.length cs) := (cell_of h2 0).trans rfl; have c1 : w1.cell? ⟨w.heap.size, 1, none⟩ = some (.slice al lp.length cl) := (cell_of h2 1).trans rfl; have h3 := hk.at HN.out.2 (by simp); have HP : Hid (w1.cell? ⟨w.heap.size + 1, 0, none⟩ = some (.int .i64 (p : Nat))) := (cell_of h3 0).trans rfl; clear hk hkw h2 h3)
      | (go_at_call 51; refine (HS.out _ HK.out HP.out).mono ?_; rintro e w2 ⟨rfl, hw2⟩; subst hw2; clear HS)
      | (go_at_call 51; refine (HL.out _ HK.out HP.out).mono ?_; rintro e w2 ⟨rfl, hw2⟩; subst hw2))
    go_ret
    exact ⟨rfl, HK.out⟩
  · rw [show decide (0 < lp.length) = true from decide_eq_true (by omega)] at HE
    by_cases h1 : anyGreat p st = true
    · rw [if_pos (.inr (.inl h1))]
      rw [h1] at HS
      clear h1
      go_enter Tryd.func20, Tryd.ntmps20
      go_wp2_with (first
        | (go_at_call 49; refine (HG.out _).mono ?_; rintro e w1 ⟨rfl, rfl⟩)
        | (go_at_call 43; refine (HE.out _).mono ?_; rintro e w1 ⟨rfl, hk⟩; have hkw : Kept [] w w1 := Kept.trans (F := []) (G := []) (H := []) (((Kept.refl [] w).alloc _).alloc _) hk (by simp) (by simp); have HK : Hid (Kept [] w w1) := hkw; have h2 := hk.at HN.out.1 (by simp); have c0 : w1.cell? ⟨w.heap.size, 0, none⟩ = some (.slice ast st.length cs) := (cell_of h2 0).trans rfl; have c1 : w1.cell? ⟨w.heap.size, 1, none⟩ = some (.slice al lp.length cl) := (cell_of h2 1).trans rfl; have h3 := hk.at HN.out.2 (by simp); have HP : Hid (w1.cell? ⟨w.heap.size + 1, 0, none⟩ = some (.int .i64 (p : Nat))) := (cell_of h3 0).trans rfl; clear hk hkw h2 h3)
        | (go_at_call 51; refine (HS.out _ HK.out HP.out).mono ?_; rintro e w2 ⟨rfl, hw2⟩; subst hw2; clear HS)
        | (go_at_call 51; refine (HL.out _ HK.out HP.out).mono ?_; rintro e w2 ⟨rfl, hw2⟩; subst hw2))
      go_ret
      exact ⟨rfl, HK.out⟩
    · rw [Bool.not_eq_true] at h1
      rw [h1] at HS
      by_cases h2 : anyGreat p lp = true
      · rw [if_pos (.inr (.inr h2))]
        rw [h2] at HL
        clear h1 h2
        go_enter Tryd.func20, Tryd.ntmps20
        go_wp2_with (first
          | (go_at_call 49; refine (HG.out _).mono ?_; rintro e w1 ⟨rfl, rfl⟩)
          | (go_at_call 43; refine (HE.out _).mono ?_; rintro e w1 ⟨rfl, hk⟩; have hkw : Kept [] w w1 := Kept.trans (F := []) (G := []) (H := []) (((Kept.refl [] w).alloc _).alloc _) hk (by simp) (by simp); have HK : Hid (Kept [] w w1) := hkw; have h2 := hk.at HN.out.1 (by simp); have c0 : w1.cell? ⟨w.heap.size, 0, none⟩ = some (.slice ast st.length cs) := (cell_of h2 0).trans rfl; have c1 : w1.cell? ⟨w.heap.size, 1, none⟩ = some (.slice al lp.length cl) := (cell_of h2 1).trans rfl; have h3 := hk.at HN.out.2 (by simp); have HP : Hid (w1.cell? ⟨w.heap.size + 1, 0, none⟩ = some (.int .i64 (p : Nat))) := (cell_of h3 0).trans rfl; clear hk hkw h2 h3)
          | (go_at_call 51; refine (HS.out _ HK.out HP.out).mono ?_; rintro e w2 ⟨rfl, hw2⟩; subst hw2; clear HS)
          | (go_at_call 51; refine (HL.out _ HK.out HP.out).mono ?_; rintro e w2 ⟨rfl, hw2⟩; subst hw2))
        go_ret
        exact ⟨rfl, HK.out⟩
      · rw [if_neg (by rw [h1]; simp [h0, h2])]
        rw [Bool.not_eq_true] at h2
        rw [h2] at HL
        clear h1 h2
        go_enter Tryd.func20, Tryd.ntmps20
        go_wp2_with (first
          | (go_at_call 49; refine (HG.out _).mono ?_; rintro e w1 ⟨rfl, rfl⟩)
          | (go_at_call 43; refine (HE.out _).mono ?_; rintro e w1 ⟨rfl, hk⟩; have hkw : Kept [] w w1 := Kept.trans (F := []) (G := []) (H := []) (((Kept.refl [] w).alloc _).alloc _) hk (by simp) (by simp); have HK : Hid (Kept [] w w1) := hkw; have h2 := hk.at HN.out.1 (by simp); have c0 : w1.cell? ⟨w.heap.size, 0, none⟩ = some (.slice ast st.length cs) := (cell_of h2 0).trans rfl; have c1 : w1.cell? ⟨w.heap.size, 1, none⟩ = some (.slice al lp.length cl) := (cell_of h2 1).trans rfl; have h3 := hk.at HN.out.2 (by simp); have HP : Hid (w1.cell? ⟨w.heap.size + 1, 0, none⟩ = some (.int .i64 (p : Nat))) := (cell_of h3 0).trans rfl; clear hk hkw h2 h3)
          | (go_at_call 51; refine (HS.out _ HK.out HP.out).mono ?_; rintro e w2 ⟨rfl, hw2⟩; subst hw2; clear HS)
          | (go_at_call 51; refine (HL.out _ HK.out HP.out).mono ?_; rintro e w2 ⟨rfl, hw2⟩; subst hw2))
        go_ret
        exact ⟨rfl, HK.out⟩
set_option maxHeartbeats 800000 in
theorem places_anyB (sv lv : Value) (q : Wd) (w : World) (hs : Lets w sv q.stem) (hl : Lets w lv q.loop) (hf : q.stem.length + q.loop.length ≤ 140737488355328) :
    Calls Tryd.prog 22 #[.agg #[sv, lv]] w fun e w' => e = .returned (.int .i64 (placesN q : Nat)) ∧ Kept [] w w' := by
  obtain ⟨st, lp⟩ := q
  obtain ⟨ast, cs, rfl, _, _⟩ := hs.form
  obtain ⟨al, cl, rfl, _, _⟩ := hl.form
  simp only at hf ⊢
  have HN : Hid (Wd2 (w.alloc (.cells #[.slice ast st.length cs, .slice al lp.length cl] 24)) w.heap.size (.slice ast st.length cs) (.slice al lp.length cl)) := heap_alloc_new w _
  clear hs hl
  by_cases h0 : 0 < lp.length
  · have b4 : decide (0 < lp.length) = true := by simpa using h0
    have HP : Hid (placesN ⟨st, lp⟩ = st.length + lp.length) := by show placesN _ = _; unfold placesN; rw [if_neg (by show ¬ lp.length = 0; omega)]
    go_enter Tryd.func22, Tryd.ntmps22
    go_wp2_with (go_at_call 43; refine (endless_any _ _ _ _ _).mono ?_; rintro e w1 ⟨rfl, hk⟩; rw [b4]; obtain ⟨c0, c1, _, _⟩ := (HN.out.kept hk).cells; have HK : Hid (Kept [] w w1) := Kept.trans (F := []) (G := []) (H := []) ((Kept.refl [] w).alloc _) hk (by simp) (by simp); clear hk)
    go_ret
    exact ⟨ret_int (by rw [HP.out]; omega), HK.out⟩
  · have b4 : decide (0 < lp.length) = false := by simpa using h0
    have HP : Hid (placesN ⟨st, lp⟩ = 0) := by show placesN _ = _; unfold placesN; rw [if_pos (by show lp.length = 0; omega)]
    go_enter Tryd.func22, Tryd.ntmps22
    go_wp2_with (go_at_call 43; refine (endless_any _ _ _ _ _).mono ?_; rintro e w1 ⟨rfl, hk⟩; rw [b4]; have HK : Hid (Kept [] w w1) := Kept.trans (F := []) (G := []) (H := []) ((Kept.refl [] w).alloc _) hk (by simp) (by simp); clear hk)
    go_ret
    exact ⟨ret_int (by rw [HP.out]; rfl), HK.out⟩

theorem at_call {w : World} {sv lv : Value} {q : Wd} (h : IsW w sv lv q) (h0 : 0 < q.loop.length) (W : World) (k : Kept [] w W) (j : Nat) (hj : j ≤ 100000) :
    Calls Tryd.prog 26 #[.agg #[sv, lv], .int .i64 (j : Nat)] W fun e w' => e = .returned (.int .u16 (q.at j : Nat)) ∧ Hid (Kept [] W w') := by
  have := at_any sv lv q j W (h.kept k) (by omega)
  unfold atI at this
  rw [if_neg (by omega), Int.toNat_natCast] at this
  exact this
/-- What ahead answers. -/
def AheadEnds (a b : Wd) (w : World) (e : Ending) (w' : World) : Prop := ∃ r : Bool, e = .returned (.bool r) ∧ (r = false → Hid (¬ AheadP a b)) ∧ Hid (Kept [] w w')
set_option maxHeartbeats 2000000 in
set_option maxRecDepth 10000 in
theorem ahead_any (a1 a2 a3 a4 : Option Addr) (c1 c2 c3 c4 : Nat) (a b : Wd) (w : World) (ha : IsW w (.slice a1 a.stem.length c1) (.slice a2 a.loop.length c2) a) (hb : IsW w (.slice a3 b.stem.length c3) (.slice a4 b.loop.length c4) b) (h0 : 0 < a.loop.length) (h0b : 0 < b.loop.length) (hs : a.stem.length + a.loop.length ≤ 1000) (hsb : b.stem.length + b.loop.length ≤ 1000) :
    Calls Tryd.prog 40 #[.agg #[.slice a1 a.stem.length c1, .slice a2 a.loop.length c2], .agg #[.slice a3 b.stem.length c3, .slice a4 b.loop.length c4]] w (AheadEnds a b w) := by
  have HA : Hid (∀ (W : World) (_ : Kept [] w W) (j : Nat) (_ : j ≤ 100000), Calls Tryd.prog 26 #[.agg #[.slice a1 a.stem.length c1, .slice a2 a.loop.length c2], .int .i64 (j : Nat)] W fun e w' => e = .returned (.int .u16 (a.at j : Nat)) ∧ Hid (Kept [] W w')) := fun W k j hj => at_call ha h0 W k j hj
  have HB : Hid (∀ (W : World) (_ : Kept [] w W) (j : Nat) (_ : j ≤ 100000), Calls Tryd.prog 26 #[.agg #[.slice a3 b.stem.length c3, .slice a4 b.loop.length c4], .int .i64 (j : Nat)] W fun e w' => e = .returned (.int .u16 (b.at j : Nat)) ∧ Hid (Kept [] W w')) := fun W k j hj => at_call hb h0b W k j hj
  obtain ⟨V, hV⟩ : ∃ V, (w.alloc (.cells #[.slice a1 a.stem.length c1, .slice a2 a.loop.length c2] 24)).alloc (.cells #[.slice a3 b.stem.length c3, .slice a4 b.loop.length c4] 24) = V := ⟨_, rfl⟩
  have HKV : Hid (Kept [] w V) := by show Kept [] w V; rw [← hV]; exact ((Kept.refl [] w).alloc _).alloc _
  have H1 : Hid (Wd2 V w.heap.size (.slice a1 a.stem.length c1) (.slice a2 a.loop.length c2)) := by show Wd2 _ _ _ _; rw [← hV]; exact alUp (al0 _ _) _
  have H2 : Hid (Wd2 V (w.heap.size + 1) (.slice a3 b.stem.length c3) (.slice a4 b.loop.length c4)) := by show Wd2 _ _ _ _; rw [← hV]; exact al1 _ _ _
  have HV : Hid (_ = V) := hV
  obtain ⟨ns, hns⟩ : ∃ ns, a.stem.length = ns := ⟨_, rfl⟩
  obtain ⟨nl, hnl⟩ : ∃ nl, a.loop.length = nl := ⟨_, rfl⟩
  obtain ⟨ms, hms⟩ : ∃ ms, b.stem.length = ms := ⟨_, rfl⟩
  obtain ⟨ml, hml⟩ : ∃ ml, b.loop.length = ml := ⟨_, rfl⟩
  have HP : Hid (AheadP a b → (a.stem.length + a.loop.length < b.stem.length + b.loop.length ∨ (a.stem.length + a.loop.length = b.stem.length + b.loop.length ∧ (a.stem.length < b.stem.length ∨ (a.stem.length = b.stem.length ∧ ∃ i, i < a.stem.length + a.loop.length ∧ (∀ j, j < i → a.at j = b.at j) ∧ a.at i < b.at i))))) := fun h => h
  rw [hns, hnl] at hs HA H1
  rw [hms, hml] at hsb HB H2
  rw [hns, hnl, hms, hml] at HV HP ⊢
  clear hns hnl hms hml hV ha hb h0 h0b
  obtain ⟨d0, d1, _, _⟩ := H1.out.cells
  obtain ⟨e0, e1, _, _⟩ := H2.out.cells
  rcases Nat.lt_trichotomy (ns + nl) (ms + ml) with h | h | h
  · have z1 : ((ns : Int) + (nl : Int) != (ms : Int) + (ml : Int)) = true := by rw [bne_iff_ne]; omega
    have z2 : (ns : Int) + (nl : Int) < (ms : Int) + (ml : Int) := by omega
    clear h
    go_enter Tryd.func40, Tryd.ntmps40
    go_upto_region 1 with fail
    rw [HV.out]
    go_wp2
    go_ret
    exact ⟨true, rfl, (fun h => by cases h), HKV.out⟩
  · rcases Nat.lt_trichotomy ns ms with g | g | g
    · have z1 : ((ns : Int) + (nl : Int) != (ms : Int) + (ml : Int)) = false := by rw [bne_eq_false_iff_eq]; omega
      have z2 : ((ns : Int) != (ms : Int)) = true := by rw [bne_iff_ne]; omega
      have z3 : (ns : Int) < (ms : Int) := by omega
      clear h g
      go_enter Tryd.func40, Tryd.ntmps40
      go_upto_region 1 with fail
      rw [HV.out]
      go_wp2
      go_ret
      exact ⟨true, rfl, (fun h => by cases h), HKV.out⟩
    · have z1 : ((ns : Int) + (nl : Int) != (ms : Int) + (ml : Int)) = false := by rw [bne_eq_false_iff_eq]; omega
      have z2 : ((ns : Int) != (ms : Int)) = false := by rw [bne_eq_false_iff_eq]; omega
      obtain ⟨pp, hpp⟩ : ∃ pp : Nat, ns + nl = pp := ⟨_, rfl⟩
      have y1 : (ns : Int) + (nl : Int) = (pp : Int) := by omega
      have y2 : (ms : Int) + (ml : Int) = (pp : Int) := by omega
      have y3 : ((pp : Int) != (pp : Int)) = false := by simp
      have hp1 : pp ≤ 1000 := by omega
      have HQ : Hid (AheadP a b → ∃ i, i < pp ∧ (∀ j, j < i → a.at j = b.at j) ∧ a.at i < b.at i) := fun hP => by
        rcases HP.out hP with h' | ⟨_, h' | ⟨_, i, h1, h2, h3⟩⟩
        · omega
        · omega
        · exact ⟨i, by omega, h2, h3⟩
      clear h g HP
      go_enter Tryd.func40, Tryd.ntmps40
      go_upto_region 1 with fail
      rw [HV.out]
      go_wp2_with fail
      clear z1 z2 d0 d1 e0 e1 y1 y2 y3 hpp HV
      go_loopw [7, 8, 9] (fun v7 _ _ wr => ∃ j : Nat, v7 = .int .i64 (j : Nat) ∧ j ≤ pp ∧ Hid (∀ j', j' < j → a.at j' = b.at j') ∧ Hid (Kept [] V wr)) (fun v7 _ _ _ => pp - (intOf v7).toNat)
      case atStart => exact ⟨0, rfl, Nat.zero_le _, (fun j' h => absurd h (Nat.not_lt_zero _)), Kept.refl [] V⟩
      case round =>
        obtain ⟨j, rfl, hj, HE, HK⟩ := hrel
        by_cases hjp : j < pp
        · obtain ⟨d0, d1, _, _⟩ := (H1.out.kept HK.out).cells
          have l1 : (j : Int) < (pp : Int) := by omega
          have T1 : Hid True := trivial
          obtain ⟨x, hx⟩ : ∃ x, a.at j = x := ⟨_, rfl⟩
          obtain ⟨y, hy⟩ : ∃ y, b.at j = y := ⟨_, rfl⟩
          have HAJ : Hid (Calls Tryd.prog 26 #[.agg #[.slice a1 ns c1, .slice a2 nl c2], .int .i64 (j : Nat)] wr fun e w' => e = .returned (.int .u16 (x : Nat)) ∧ Hid (Kept [] wr w')) := by
            rw [← hx]; exact HA.out wr (HKV.out.trans HK.out (by simp) (by simp)) j (by omega)
          have HBJ : Hid (∀ W, Kept [] wr W → Calls Tryd.prog 26 #[.agg #[.slice a3 ms c3, .slice a4 ml c4], .int .i64 (j : Nat)] W fun e w' => e = .returned (.int .u16 (y : Nat)) ∧ Hid (Kept [] W w')) := fun W k => by
            rw [← hy]; exact HB.out W ((HKV.out.trans HK.out (H := []) (by simp) (by simp)).trans k (by simp) (by simp)) j (by omega)
          rcases Nat.lt_trichotomy x y with hxy | hxy | hxy
          · have z4 : (x : Int) < (y : Int) := by omega
            have z3 : ((x : Int) != (y : Int)) = true := by rw [bne_iff_ne]; omega
            clear hx hy hxy
            go_wp2_with (first
              | (clear T1; go_at_call 26; refine HAJ.out.mono ?_; rintro e W2 ⟨rfl, HK2⟩; clear d0 d1; obtain ⟨e0, e1, -, -⟩ := (H2.out.kept (HK.out.trans HK2.out (H := []) (by simp) (by simp))).cells)
              | (go_at_call 26; refine (HBJ.out W2 HK2.out).mono ?_; rintro e W3 ⟨rfl, HK3⟩))
            go_ret
            exact ⟨true, rfl, (fun h => by cases h), (HKV.out.trans ((HK.out.trans HK2.out (H := []) (by simp) (by simp)).trans HK3.out (H := []) (by simp) (by simp)) (by simp) (by simp))⟩
          · have z3 : ((x : Int) != (y : Int)) = false := by rw [bne_eq_false_iff_eq]; omega
            have HE2 : Hid (∀ j', j' < j + 1 → a.at j' = b.at j') := fun j' h => by
              rcases Nat.lt_or_ge j' j with h1 | h1
              · exact HE.out j' h1
              · obtain rfl : j' = j := by omega
                rw [hx, hy, hxy]
            clear hx hy hxy
            go_wp2_with (first
              | (clear T1; go_at_call 26; refine HAJ.out.mono ?_; rintro e W2 ⟨rfl, HK2⟩; clear d0 d1; obtain ⟨e0, e1, -, -⟩ := (H2.out.kept (HK.out.trans HK2.out (H := []) (by simp) (by simp))).cells)
              | (go_at_call 26; refine (HBJ.out W2 HK2.out).mono ?_; rintro e W3 ⟨rfl, HK3⟩))
            go_roundw
            case rel => exact ⟨j + 1, by go_num, by omega, HE2.out, (HK.out.trans HK2.out (H := []) (by simp) (by simp)).trans HK3.out (by simp) (by simp)⟩
            case measure => simp [intOf]; omega
          · have z4 : ¬ ((x : Int) < (y : Int)) := by omega
            have z5 : decide (x < y) = false := decide_eq_false (by omega)
            have z3 : ((x : Int) != (y : Int)) = true := by rw [bne_iff_ne]; omega
            have HNO : Hid (¬ AheadP a b) := fun hP => by
              obtain ⟨i, h1, h2, h3⟩ := HQ.out hP
              rcases Nat.lt_trichotomy i j with q | q | q
              · have := HE.out i q; omega
              · subst q; rw [hx, hy] at h3; omega
              · have := h2 j q; rw [hx, hy] at this; omega
            clear hx hy hxy
            go_wp2_with (first
              | (clear T1; go_at_call 26; refine HAJ.out.mono ?_; rintro e W2 ⟨rfl, HK2⟩; clear d0 d1; obtain ⟨e0, e1, -, -⟩ := (H2.out.kept (HK.out.trans HK2.out (H := []) (by simp) (by simp))).cells)
              | (go_at_call 26; refine (HBJ.out W2 HK2.out).mono ?_; rintro e W3 ⟨rfl, HK3⟩))
            go_ret
            exact ⟨false, rfl, (fun _ => HNO), (HKV.out.trans ((HK.out.trans HK2.out (H := []) (by simp) (by simp)).trans HK3.out (H := []) (by simp) (by simp)) (by simp) (by simp))⟩
        · obtain rfl : j = pp := by omega
          have l1 : ¬ ((j : Int) < (j : Int)) := by omega
          have HNO : Hid (¬ AheadP a b) := fun hP => by
            obtain ⟨i, h1, _, h3⟩ := HQ.out hP
            have := HE.out i h1
            omega
          clear hjp hj
          go_wp2
          go_ret
          exact ⟨false, rfl, (fun _ => HNO), HKV.out.trans HK.out (by simp) (by simp)⟩
    · have z1 : ((ns : Int) + (nl : Int) != (ms : Int) + (ml : Int)) = false := by rw [bne_eq_false_iff_eq]; omega
      have z2 : ((ns : Int) != (ms : Int)) = true := by rw [bne_iff_ne]; omega
      have z3 : ¬ ((ns : Int) < (ms : Int)) := by omega
      have HNO : Hid (¬ AheadP a b) := fun hP => by rcases HP.out hP with h' | ⟨_, h' | ⟨h', _⟩⟩ <;> omega
      clear h g
      go_enter Tryd.func40, Tryd.ntmps40
      go_upto_region 1 with fail
      rw [HV.out]
      go_wp2
      go_ret
      exact ⟨false, rfl, (fun _ => HNO), HKV.out⟩
  · have z1 : ((ns : Int) + (nl : Int) != (ms : Int) + (ml : Int)) = true := by rw [bne_iff_ne]; omega
    have z2 : ¬ ((ns : Int) + (nl : Int) < (ms : Int) + (ml : Int)) := by omega
    have HNO : Hid (¬ AheadP a b) := fun hP => by rcases HP.out hP with h' | ⟨h', _⟩ <;> omega
    clear h
    go_enter Tryd.func40, Tryd.ntmps40
    go_upto_region 1 with fail
    rw [HV.out]
    go_wp2
    go_ret
    exact ⟨false, rfl, (fun _ => HNO), HKV.out⟩
end Go.Proofs.YtgbmfclboliliaaDoor
