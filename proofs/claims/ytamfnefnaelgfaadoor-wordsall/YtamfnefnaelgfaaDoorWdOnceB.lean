/- WordsOnce: Normal, Check, Places of words as long as memory bears; ahead. -/
import Derived.Test.YtamfnefnaelgfaaDoorHF
import Derived.Test.YtamfnefnaelgfaaDoorWdNormal
import Derived.Test.YtamfnefnaelgfaaDoorWdCheck
import Derived.Deep.CutRange
namespace Go.Proofs.YtamfnefnaelgfaaDoor
open Go.RowKit
attribute [local go_sem ↓] Go.wp_at_zero Go.wp_at_succ

set_option maxHeartbeats 4000000 in
set_option maxRecDepth 10000 in
theorem normal_someB (ads : Option Addr) (cs bl ol cl : Nat) (st lp : List Nat) (w : World) (hs : Lets w (.slice ads st.length cs) st) (hl : Lets w (.slice (some ⟨bl, ol, none⟩) lp.length cl) lp) (h0 : 0 < lp.length) (_hf : st.length + lp.length ≤ 140737488355328) :
    Calls Tryd.prog 11 #[.agg #[.slice ads st.length cs, .slice (some ⟨bl, ol, none⟩) lp.length cl]] w (MadeNorm w ⟨st, lp⟩) := by
  have fs0 : st.length ≤ 70368744177664 := hs.few
  have fl0 : lp.length ≤ 70368744177664 := hl.few
  obtain ⟨d, hd⟩ := least_some lp.length h0 (cyc_per lp)
  obtain ⟨hc1, hc2, hc3⟩ := at_cut (st := st) h0 hd
  have hdl : d ≤ lp.length := Nat.le_of_dvd h0 (hd.dvd (cyc_per lp))
  have hd0 := hd.1
  obtain ⟨lq, hlq⟩ : ∃ lq, lp.take d = lq := ⟨_, rfl⟩
  rw [hlq] at hc1 hc2 hc3
  have hN := two_new w (.cells #[.slice ads st.length cs, .slice (some ⟨bl, ol, none⟩) lp.length cl] 47) (.cells #[.slice none 0 0, .slice none 0 0] 47)
  obtain ⟨_, fl1, fl2⟩ := lets_form hl
  have fs : st.length ≤ cs ∧ cs ≤ 9223372036854775807 := by
    obtain ⟨_, _, e, h1, h2⟩ := hs.form
    cases e
    unfold maxLen at h2
    exact ⟨h1, by omega⟩
  obtain ⟨fs1, fs2⟩ := fs
  have HS : Hid (Lets w (.slice ads st.length cs) st) := hs
  have HL : Hid (Lets w (.slice (some ⟨bl, ol, none⟩) lp.length cl) lp) := hl
  have HN : Hid _ := hN
  have HD : Hid (Least (cyc lp) 0 d) := hd
  have HC1 : Hid (∀ i, (Wd.mk st lq).at i = (Wd.mk st lp).at i) := hc1
  have HC2 : Hid (lq.length = d) := hc2
  have HC3 : Hid (Least (cyc lq) 0 lq.length) := hc3
  have HLQ : Hid (lp.take d = lq) := hlq
  have HST : Hid (StripInv st lq st.length 0) := StripInv.start st lq (by rw [hc2]; exact hd0)
  have b1 : (0 : Int) < (lp.length : Int) := by omega
  have b2 : (0 : Int) ≤ (d : Int) := by omega
  have b3 : (d : Int) ≤ (cl : Int) := by omega
  have b4 : decide (0 < lp.length) = true := by simpa using h0
  clear hs hl hN hd hc1 hc2 hc3 hlq
  go_enter Tryd.func11, Tryd.ntmps11
  go_wp2_with (go_at_call 41; refine (endless_any _ _ _ _ _).mono ?_; rintro e w1 ⟨rfl, hk⟩; rw [b4]; have hR := hk.at HN.out.1 (by simp); have c0 : w1.cell? ⟨w.heap.size, 0, none⟩ = some (.slice ads st.length cs) := (cell_of hR 0).trans rfl; have c1 : w1.cell? ⟨w.heap.size, 1, none⟩ = some (.slice (some ⟨bl, ol, none⟩) lp.length cl) := (cell_of hR 1).trans rfl; have HK : Hid (Kept [] w w1) := Kept.trans (F := []) (G := []) (H := []) (((Kept.refl [] w).alloc _).alloc _) hk (by simp) (by simp); have HB : Hid (Wd2 w1 (w.heap.size + 1) (.slice none 0 0) (.slice none 0 0)) := hk.at HN.out.2 (by simp); clear hk hR)
  have HP : Hid (∀ q, Calls Tryd.prog 42 #[.slice (some ⟨bl, ol, none⟩) lp.length cl] (w1.drewN q) fun e w' => e = .returned (.int .i64 (d : Nat)) ∧ ∃ k, w' = (w1.drewN q).drewN k) := fun q => period_any bl ol cl d lp _ (HL.out.kept (HK.out.drewN q)) h0 HD.out
  go_quiet ((go_at_call 42; exact Calls.quiet_of (HP.out _)))
  clear c0 c1 HP
  go_wp2_with fail
  go_loopw [3, 5, 6] (fun s f _ wr => ∃ m first : Nat, s = .slice ads m cs ∧ f = .int .i64 first ∧ Hid (StripInv st lq m first) ∧ Hid (Kept [] w wr) ∧ Hid (Wd2 wr (w.heap.size + 1) (.slice none 0 0) (.slice none 0 0))) (fun s _ _ _ => slLen s)
  case atStart => exact ⟨_, 0, rfl, rfl, HST.out, HK.out.drewN _, HB.out.kept ((Kept.refl [] w1).drewN _)⟩
  case round =>
    obtain ⟨m, first, rfl, rfl, HI, HK2, HB2⟩ := hrel
    have hm := HI.out.le
    have hfl := HI.out.lt
    rw [HC2.out] at hfl
    clear HK HB HST HN
    by_cases h1 : 0 < m
    · obtain ⟨k, rfl⟩ : ∃ k, m = k + 1 := ⟨m - 1, by omega⟩
      obtain ⟨la, hla, hla2, x1, x2⟩ := rem_last hfl
      obtain ⟨bs, os, cs', e, _, _, hcells⟩ := HS.out.there (by omega)
      simp only [Value.slice.injEq] at e
      obtain ⟨e1, _, e2⟩ := e
      subst e1 e2
      have y1 : wr.cell? ⟨bs, os + k, none⟩ = some (.int .u16 (st.getD k 0 : Nat)) := cell_kept0 HK2.out (hcells k (by omega))
      have y2 : wr.cell? ⟨bl, ol + la, none⟩ = some (.int .u16 (lq.getD la 0 : Nat)) := by
        obtain ⟨_, _, _, e, _, _, hc⟩ := HL.out.there h0
        cases e
        rw [← HLQ.out, getD_take _ _ _ hla2]
        exact cell_kept0 HK2.out (hc la (by omega))
      have HLA : Hid (la = (first + lq.length - 1) % lq.length) := by show la = _; rw [HC2.out]; exact hla
      clear hla hcells
      have z1 : (0 : Int) ≤ (k : Int) := by omega
      have z2 : (k : Int) < ((k + 1 : Nat) : Int) := by omega
      have z3 : (0 : Int) ≤ (la : Int) := by omega
      have z4 : (la : Int) < (d : Int) := by omega
      have z5 : (0 : Int) < ((k + 1 : Nat) : Int) := by omega
      have z6 : ¬ ((d : Int) = 0) := by omega
      have z7 : ¬ (d = 0) := by omega
      have z8 : (k : Int) ≤ (cs : Int) := by omega
      by_cases hc : st.getD k 0 = lq.getD la 0
      · have HSN : Hid (StripInv st lq k la) := by
          have := HI.out.step (by omega) (by rw [← HLA.out]; exact hc)
          rw [← HLA.out] at this
          exact this
        rw [← hc] at y2
        generalize st.getD k 0 = x at y1 y2
        have hne : ((x : Int) != (x : Int)) = false := by simp
        clear hc
        go_wp2_with fail
        go_quiet (fail)
        go_wp2
        go_roundw
        case rel => exact ⟨k, la, rfl, rfl, HSN.out, HK2.out.drewN _, HB2.out.kept ((Kept.refl [] wr).drewN _)⟩
        case measure => simp [slLen]
      · have HSE : Hid (st.getD (k + 1 - 1) 0 ≠ lq.getD ((first + lq.length - 1) % lq.length) 0) := by
          show st.getD k 0 ≠ _
          rw [← HLA.out]; exact hc
        generalize st.getD k 0 = x at y1 hc
        generalize lq.getD la 0 = y at y2 hc
        have hne : ((x : Int) != (y : Int)) = true := by simp; omega
        clear hc
        go_wp2_with fail
        go_quiet (fail)
        have HK5 : Hid (Kept [] w (wr.drewN nq)) := HK2.out.drewN nq
        have HB5 : Hid (Wd2 (wr.drewN nq) (w.heap.size + 1) (.slice none 0 0) (.slice none 0 0)) := HB2.out.kept ((Kept.refl [] wr).drewN nq)
        have HE : Hid (Lets (wr.drewN nq) (.slice (some ⟨bs, os, none⟩) (k + 1) cs) (st.take (k + 1))) := (HS.out.takeA (k + 1) (by omega)).kept HK5.out
        go_wp2_with (first | (go_at_call 43; refine (copied_any _ _ _ HE.out).mono ?_; rintro e w2 ⟨v2, rfl, o1, k1, _⟩; obtain ⟨a2, c2, hv2⟩ := own_form o1; subst hv2; have HO1 : Hid _ := o1; have HK1 : Hid (Kept [] (wr.drewN nq) w2) := k1; clear o1 k1) | (go_at_call 44; refine (turned_at (w := w) (lq := lq) (HK5.out.trans HK1.out (by simp) (by simp)) ?_ HC2.out (by omega)).mono ?_; (· rw [← HLQ.out]; exact HL.out.take d (by omega)); rintro e w3 ⟨v3, rfl, o2, k2⟩; obtain ⟨a3, c3, hv3⟩ := own_form o2; subst hv3; have HO2 : Hid _ := o2; have HK3 : Hid (Kept [] w2 w3) := k2; clear o2 k2; obtain ⟨d0, d1, f0, f1⟩ := ((HB5.out.kept HK1.out).kept HK3.out).cells))
        obtain ⟨q1, q2⟩ := made_norm (m := k + 1) HC1.out HC3.out h0 HI.out (.inr HSE.out) HK5.out HB5.out HO1.out HK1.out HO2.out HK3.out HS.out.small (fun x hx => HL.out.small x (by rw [← HLQ.out] at hx; exact List.mem_of_mem_take hx)) (by omega) (by rw [HC2.out]; omega)
        rw [show (st.take (k + 1)).length = k + 1 by rw [List.length_take]; omega] at q1 q2
        exact ret_word rfl rfl rfl q2 q1
    · obtain rfl : m = 0 := by omega
      have HE : Hid (Lets wr (.slice ads 0 cs) (st.take 0)) := (HS.out.takeA 0 (by omega)).kept HK2.out
      go_wp2_with (first | (go_at_call 43; refine (copied_any _ _ _ HE.out).mono ?_; rintro e w2 ⟨v2, rfl, o1, k1, _⟩; obtain ⟨a2, c2, hv2⟩ := own_form o1; subst hv2; have HO1 : Hid _ := o1; have HK1 : Hid (Kept [] wr w2) := k1; clear o1 k1) | (go_at_call 44; refine (turned_at (w := w) (lq := lq) (HK2.out.trans HK1.out (by simp) (by simp)) ?_ HC2.out (by omega)).mono ?_; (· rw [← HLQ.out]; exact HL.out.take d (by omega)); rintro e w3 ⟨v3, rfl, o2, k2⟩; obtain ⟨a3, c3, hv3⟩ := own_form o2; subst hv3; have HO2 : Hid _ := o2; have HK3 : Hid (Kept [] w2 w3) := k2; clear o2 k2; obtain ⟨d0, d1, f0, f1⟩ := ((HB2.out.kept HK1.out).kept HK3.out).cells))
      obtain ⟨q1, q2⟩ := made_norm (m := 0) HC1.out HC3.out h0 HI.out (.inl rfl) HK2.out HB2.out HO1.out HK1.out HO2.out HK3.out HS.out.small (fun x hx => HL.out.small x (by rw [← HLQ.out] at hx; exact List.mem_of_mem_take hx)) (by omega) (by rw [HC2.out]; omega)
      exact ret_word rfl rfl rfl q2 q1

/-- words.Normal, of whatever word. -/
theorem normal_anyB (sv lv : Value) (q : Wd) (w : World) (hs : Lets w sv q.stem) (hl : Lets w lv q.loop) (hf : q.stem.length + q.loop.length ≤ 140737488355328) :
    Calls Tryd.prog 11 #[.agg #[sv, lv]] w (MadeNorm w q) := by
  obtain ⟨st, lp⟩ := q
  by_cases h0 : 0 < lp.length
  · obtain ⟨b, o, c, rfl, _⟩ := hl.there h0
    obtain ⟨ad, cs, rfl, _⟩ := hs.form
    exact normal_someB ad cs b o c st lp w hs hl h0 hf
  · obtain rfl : lp = [] := List.length_eq_zero_iff.1 (by omega)
    obtain ⟨ad, c, rfl, _⟩ := hl.form
    exact normal_none sv ad c st w hs
set_option maxHeartbeats 1600000 in
theorem check_goodB (sv lv : Value) (q : Wd) (p : Nat) (w : World) (hs : Lets w sv q.stem) (hl : Lets w lv q.loop) (hp : p ≤ 8) :
    Calls Tryd.prog 16 #[.agg #[sv, lv], .int .i64 p] w fun e w' => e = .returned (.int .i64 (checkE q p : Nat)) ∧ Kept [] w w' := by
  obtain ⟨st, lp⟩ := q
  have HS : Hid (∀ W, Kept [] w W → W.cell? ⟨w.heap.size + 1, 0, none⟩ = some (.int .i64 (p : Nat)) → Calls Tryd.prog 48 #[sv, .func (.func 47) #[] #[.pointer (some ⟨w.heap.size + 1, 0, none⟩)]] W fun e w' => e = .returned (.bool (anyGreat p st)) ∧ w' = W) := fun W k c => contains_any sv st p _ W (hs.kept k) hp c
  have HL : Hid (∀ W, Kept [] w W → W.cell? ⟨w.heap.size + 1, 0, none⟩ = some (.int .i64 (p : Nat)) → Calls Tryd.prog 48 #[lv, .func (.func 47) #[] #[.pointer (some ⟨w.heap.size + 1, 0, none⟩)]] W fun e w' => e = .returned (.bool (anyGreat p lp)) ∧ w' = W) := fun W k c => contains_any lv lp p _ W (hl.kept k) hp c
  obtain ⟨ast, cs, rfl, _, _⟩ := hs.form
  obtain ⟨al, cl, rfl, _, _⟩ := hl.form
  simp only at HS HL hs hl
  have hb : (decide (0 ≤ (p : Int)) && decide ((p : Int) ≤ 8)) = true := by simp; omega
  have HG : Hid (∀ W, Calls Tryd.prog 23 #[.int .i64 p] W fun e w' => e = .returned (.bool true) ∧ w' = W) := fun W => by have := goodProps_any p W; rw [hb] at this; exact this
  have hN := two_new w (.cells #[.slice ast st.length cs, .slice al lp.length cl] 47) (.cells #[.int .i64 (p : Nat)] 3)
  have HN : Hid (((w.alloc (.cells #[.slice ast st.length cs, .slice al lp.length cl] 47)).alloc (.cells #[.int .i64 (p : Nat)] 3)).heap[w.heap.size]? = some (.cells #[.slice ast st.length cs, .slice al lp.length cl] 47 (0, 0)) ∧ ((w.alloc (.cells #[.slice ast st.length cs, .slice al lp.length cl] 47)).alloc (.cells #[.int .i64 (p : Nat)] 3)).heap[w.heap.size + 1]? = some (.cells #[.int .i64 (p : Nat)] 3 (0, 0))) := hN
  have HE : Hid (∀ W, Calls Tryd.prog 41 #[.agg #[.slice ast st.length cs, .slice al lp.length cl]] W fun e w' => e = .returned (.bool (decide (0 < lp.length))) ∧ Kept [] W w') := fun W => endless_any (.slice ast st.length cs) al lp.length cl W
  have hC : checkE ⟨st, lp⟩ p = if lp.length = 0 ∨ anyGreat p st = true ∨ anyGreat p lp = true then 50 else 0 := by
    unfold checkE; rw [if_neg (by omega)]; simp
  rw [hC]
  clear hs hl hN hb hC
  by_cases h0 : lp.length = 0
  · rw [if_pos (.inl h0)]
    rw [show decide (0 < lp.length) = false from decide_eq_false (by omega)] at HE
    clear h0
    go_enter Tryd.func16, Tryd.ntmps16
    go_wp2_with (first
      | (go_at_call 23; refine (HG.out _).mono ?_; rintro e w1 ⟨rfl, rfl⟩)
      | (go_at_call 41; refine (HE.out _).mono ?_; rintro e w1 ⟨rfl, hk⟩; have hkw : Kept [] w w1 := Kept.trans (F := []) (G := []) (H := []) (((Kept.refl [] w).alloc _).alloc _) hk (by simp) (by simp); have HK : Hid (Kept [] w w1) := hkw; have h2 := hk.at HN.out.1 (by simp); have c0 : w1.cell? ⟨w.heap.size, 0, none⟩ = some (.slice ast st.length cs) := (cell_of h2 0).trans rfl; have c1 : w1.cell? ⟨w.heap.size, 1, none⟩ = some (.slice al lp.length cl) := (cell_of h2 1).trans rfl; have h3 := hk.at HN.out.2 (by simp); have HP : Hid (w1.cell? ⟨w.heap.size + 1, 0, none⟩ = some (.int .i64 (p : Nat))) := (cell_of h3 0).trans rfl; clear hk hkw h2 h3)
      | (go_at_call 48; refine (HS.out _ HK.out HP.out).mono ?_; rintro e w2 ⟨rfl, hw2⟩; subst hw2; clear HS)
      | (go_at_call 48; refine (HL.out _ HK.out HP.out).mono ?_; rintro e w2 ⟨rfl, hw2⟩; subst hw2))
    go_ret
    exact ⟨rfl, HK.out⟩
  · rw [show decide (0 < lp.length) = true from decide_eq_true (by omega)] at HE
    by_cases h1 : anyGreat p st = true
    · rw [if_pos (.inr (.inl h1))]
      rw [h1] at HS
      clear h1
      go_enter Tryd.func16, Tryd.ntmps16
      go_wp2_with (first
        | (go_at_call 23; refine (HG.out _).mono ?_; rintro e w1 ⟨rfl, rfl⟩)
        | (go_at_call 41; refine (HE.out _).mono ?_; rintro e w1 ⟨rfl, hk⟩; have hkw : Kept [] w w1 := Kept.trans (F := []) (G := []) (H := []) (((Kept.refl [] w).alloc _).alloc _) hk (by simp) (by simp); have HK : Hid (Kept [] w w1) := hkw; have h2 := hk.at HN.out.1 (by simp); have c0 : w1.cell? ⟨w.heap.size, 0, none⟩ = some (.slice ast st.length cs) := (cell_of h2 0).trans rfl; have c1 : w1.cell? ⟨w.heap.size, 1, none⟩ = some (.slice al lp.length cl) := (cell_of h2 1).trans rfl; have h3 := hk.at HN.out.2 (by simp); have HP : Hid (w1.cell? ⟨w.heap.size + 1, 0, none⟩ = some (.int .i64 (p : Nat))) := (cell_of h3 0).trans rfl; clear hk hkw h2 h3)
        | (go_at_call 48; refine (HS.out _ HK.out HP.out).mono ?_; rintro e w2 ⟨rfl, hw2⟩; subst hw2; clear HS)
        | (go_at_call 48; refine (HL.out _ HK.out HP.out).mono ?_; rintro e w2 ⟨rfl, hw2⟩; subst hw2))
      go_ret
      exact ⟨rfl, HK.out⟩
    · rw [Bool.not_eq_true] at h1
      rw [h1] at HS
      by_cases h2 : anyGreat p lp = true
      · rw [if_pos (.inr (.inr h2))]
        rw [h2] at HL
        clear h1 h2
        go_enter Tryd.func16, Tryd.ntmps16
        go_wp2_with (first
          | (go_at_call 23; refine (HG.out _).mono ?_; rintro e w1 ⟨rfl, rfl⟩)
          | (go_at_call 41; refine (HE.out _).mono ?_; rintro e w1 ⟨rfl, hk⟩; have hkw : Kept [] w w1 := Kept.trans (F := []) (G := []) (H := []) (((Kept.refl [] w).alloc _).alloc _) hk (by simp) (by simp); have HK : Hid (Kept [] w w1) := hkw; have h2 := hk.at HN.out.1 (by simp); have c0 : w1.cell? ⟨w.heap.size, 0, none⟩ = some (.slice ast st.length cs) := (cell_of h2 0).trans rfl; have c1 : w1.cell? ⟨w.heap.size, 1, none⟩ = some (.slice al lp.length cl) := (cell_of h2 1).trans rfl; have h3 := hk.at HN.out.2 (by simp); have HP : Hid (w1.cell? ⟨w.heap.size + 1, 0, none⟩ = some (.int .i64 (p : Nat))) := (cell_of h3 0).trans rfl; clear hk hkw h2 h3)
          | (go_at_call 48; refine (HS.out _ HK.out HP.out).mono ?_; rintro e w2 ⟨rfl, hw2⟩; subst hw2; clear HS)
          | (go_at_call 48; refine (HL.out _ HK.out HP.out).mono ?_; rintro e w2 ⟨rfl, hw2⟩; subst hw2))
        go_ret
        exact ⟨rfl, HK.out⟩
      · rw [if_neg (by rw [h1]; simp [h0, h2])]
        rw [Bool.not_eq_true] at h2
        rw [h2] at HL
        clear h1 h2
        go_enter Tryd.func16, Tryd.ntmps16
        go_wp2_with (first
          | (go_at_call 23; refine (HG.out _).mono ?_; rintro e w1 ⟨rfl, rfl⟩)
          | (go_at_call 41; refine (HE.out _).mono ?_; rintro e w1 ⟨rfl, hk⟩; have hkw : Kept [] w w1 := Kept.trans (F := []) (G := []) (H := []) (((Kept.refl [] w).alloc _).alloc _) hk (by simp) (by simp); have HK : Hid (Kept [] w w1) := hkw; have h2 := hk.at HN.out.1 (by simp); have c0 : w1.cell? ⟨w.heap.size, 0, none⟩ = some (.slice ast st.length cs) := (cell_of h2 0).trans rfl; have c1 : w1.cell? ⟨w.heap.size, 1, none⟩ = some (.slice al lp.length cl) := (cell_of h2 1).trans rfl; have h3 := hk.at HN.out.2 (by simp); have HP : Hid (w1.cell? ⟨w.heap.size + 1, 0, none⟩ = some (.int .i64 (p : Nat))) := (cell_of h3 0).trans rfl; clear hk hkw h2 h3)
          | (go_at_call 48; refine (HS.out _ HK.out HP.out).mono ?_; rintro e w2 ⟨rfl, hw2⟩; subst hw2; clear HS)
          | (go_at_call 48; refine (HL.out _ HK.out HP.out).mono ?_; rintro e w2 ⟨rfl, hw2⟩; subst hw2))
        go_ret
        exact ⟨rfl, HK.out⟩
set_option maxHeartbeats 800000 in
theorem places_anyB (sv lv : Value) (q : Wd) (w : World) (hs : Lets w sv q.stem) (hl : Lets w lv q.loop) (hf : q.stem.length + q.loop.length ≤ 140737488355328) :
    Calls Tryd.prog 17 #[.agg #[sv, lv]] w fun e w' => e = .returned (.int .i64 (placesN q : Nat)) ∧ Kept [] w w' := by
  obtain ⟨st, lp⟩ := q
  obtain ⟨ast, cs, rfl, _, _⟩ := hs.form
  obtain ⟨al, cl, rfl, _, _⟩ := hl.form
  simp only at hf ⊢
  have HN : Hid (Wd2 (w.alloc (.cells #[.slice ast st.length cs, .slice al lp.length cl] 47)) w.heap.size (.slice ast st.length cs) (.slice al lp.length cl)) := heap_alloc_new w _
  clear hs hl
  by_cases h0 : 0 < lp.length
  · have b4 : decide (0 < lp.length) = true := by simpa using h0
    have HP : Hid (placesN ⟨st, lp⟩ = st.length + lp.length) := by show placesN _ = _; unfold placesN; rw [if_neg (by show ¬ lp.length = 0; omega)]
    go_enter Tryd.func17, Tryd.ntmps17
    go_wp2_with (go_at_call 41; refine (endless_any _ _ _ _ _).mono ?_; rintro e w1 ⟨rfl, hk⟩; rw [b4]; obtain ⟨c0, c1, _, _⟩ := (HN.out.kept hk).cells; have HK : Hid (Kept [] w w1) := Kept.trans (F := []) (G := []) (H := []) ((Kept.refl [] w).alloc _) hk (by simp) (by simp); clear hk)
    go_ret
    exact ⟨ret_int (by rw [HP.out]; omega), HK.out⟩
  · have b4 : decide (0 < lp.length) = false := by simpa using h0
    have HP : Hid (placesN ⟨st, lp⟩ = 0) := by show placesN _ = _; unfold placesN; rw [if_pos (by show lp.length = 0; omega)]
    go_enter Tryd.func17, Tryd.ntmps17
    go_wp2_with (go_at_call 41; refine (endless_any _ _ _ _ _).mono ?_; rintro e w1 ⟨rfl, hk⟩; rw [b4]; have HK : Hid (Kept [] w w1) := Kept.trans (F := []) (G := []) (H := []) ((Kept.refl [] w).alloc _) hk (by simp) (by simp); clear hk)
    go_ret
    exact ⟨ret_int (by rw [HP.out]; rfl), HK.out⟩

theorem at_call {w : World} {sv lv : Value} {q : Wd} (h : IsW w sv lv q) (h0 : 0 < q.loop.length) (W : World) (k : Kept [] w W) (j : Nat) (hj : j ≤ 100000) :
    Calls Tryd.prog 18 #[.agg #[sv, lv], .int .i64 (j : Nat)] W fun e w' => e = .returned (.int .u16 (q.at j : Nat)) ∧ Hid (Kept [] W w') := by
  have := at_any sv lv q j W (h.kept k) (by omega)
  unfold atI at this
  rw [if_neg (by omega), Int.toNat_natCast] at this
  exact this
/-- What ahead answers. -/
def AheadEnds (a b : Wd) (w : World) (e : Ending) (w' : World) : Prop := ∃ r : Bool, e = .returned (.bool r) ∧ (r = false → Hid (¬ AheadP a b)) ∧ Hid (Kept [] w w')
end Go.Proofs.YtamfnefnaelgfaaDoor
