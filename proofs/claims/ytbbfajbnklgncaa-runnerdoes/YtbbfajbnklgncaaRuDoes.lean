/- The walk of RunnerDoes. -/
import Derived.Test.YtbbfajbnklgncaaRuPStep
import Derived.Test.YtbbfajbnklgncaaRuKnown
import Derived.Test.YtbbfajbnklgncaaMoSpoil
namespace Go.Proofs.Ytbbfajbnklgncaa
open Go.RowKit Go.Shelf Go.Maps

theorem rowss_wfD {W : World} {v : Value} {ss : List (List Int)} (h : Rowss W v ss) : ∀ xs ∈ ss, ∀ x ∈ xs, -9223372036854775808 ≤ x ∧ x ≤ 9223372036854775807 := by
  intro xs hx
  obtain ⟨i, hi, rfl⟩ := List.getElem_of_mem hx
  rcases h.lie with ⟨_, e⟩ | ⟨b, o, c, _, _, _, h4⟩
  · rw [e] at hi; simp at hi
  · obtain ⟨u, _, hI⟩ := h4 i hi
    exact hI.wf
theorem mooL_valsD {W : World} {n b1 b2 b3 m : Nat} {bs : List Nat} {ps : List ByteArray} {next : List (List Int)} {out : List Nat} (h : MooL W n b1 b2 b3 m bs ps next out) (hp : ps.length ≤ 100000) (hps : ∀ x ∈ ps, x.size ≤ maxLen) (hn : next.length ≤ 100000) (hr : ∀ xs ∈ next, xs.length ≤ 100000) (hx : ∀ xs ∈ next, ∀ x ∈ xs, -9223372036854775808 ≤ x ∧ x ≤ 9223372036854775807) (ho : out.length ≤ 100000) (hs : ∀ x ∈ out, x < 256) :
    Strs W (.slice (some ⟨b1, 0, none⟩) ps.length (ps.length + 2)) ps ∧ Rowss W (.slice (some ⟨b2, 0, none⟩) next.length (next.length + 1)) next ∧ Vds W (.slice (some ⟨b3, 0, none⟩) out.length (out.length + 2)) out := by
  obtain ⟨w0, hl⟩ := h.nx
  exact ⟨h.ps.strs (by omega) hps, hl.rowss (by omega) (fun xs q => ⟨by have := hr xs q; omega, hx xs q⟩), h.lv.vds (by omega) hs⟩
theorem kept_belowD {w w' : World} (h : Below w.heap.size w w') : Kept [] w w' := ⟨h.os, h.tape, h.output, h.size, fun k hk _ => h.block k hk⟩
/-- The first runner and the document's, side by side. -/
theorem playS_start {w W3 W4 W6 W7 W8 W9 W10 : World} {lo N R Q : Nat} {ps : List ByteArray} {next : List (List Int)} {out : List Nat} {fin : List Bool} {F : List Nat} (kw : Kept [] w W7) (hw : w.heap.size ≤ W3.heap.size) (hR : RunS W4 lo N R ps next out fin 0) (hl : W3.heap.size ≤ lo ∧ R < W4.heap.size ∧ W3.heap.size ≤ R) (k6 : Kept F W4 W6) (hF : ∀ f ∈ F, f < W3.heap.size) (k7 : Kept [] W6 W7) (hD : DocNew W7 Q ps next out) (hQ : W6.heap.size ≤ Q)
    (h8 : W7.alloc (.cells #[.pointer (some ⟨R, 0, none⟩)] 32) = W8) (h9 : W8.alloc (.cells #[.pointer (some ⟨Q, 0, none⟩)] 38) = W9) (h10 : W9.alloc (.cells #[.slice (some ⟨W7.heap.size, 0, none⟩) 1 1, .slice (some ⟨W8.heap.size, 0, none⟩) 1 1] 45) = W10) :
    PlayS w W10 W9.heap.size (.slice (some ⟨W7.heap.size, 0, none⟩) 1 1) (.slice (some ⟨W8.heap.size, 0, none⟩) 1 1) [⟨W3.heap.size, W7.heap.size, R, Q, 0⟩] ps next out := by
  have k8 : Kept [] W7 W8 := by rw [← h8]; exact (Kept.refl [] W7).alloc _
  have k9 : Kept [] W8 W9 := by rw [← h9]; exact (Kept.refl [] W8).alloc _
  have k10 : Kept [] W9 W10 := by rw [← h10]; exact (Kept.refl [] W9).alloc _
  have b8 : W8.heap[W7.heap.size]? = some (.cells #[.pointer (some ⟨R, 0, none⟩)] 32 (0, 0)) := by rw [← h8]; exact al0 _ _
  have b9 : W9.heap[W8.heap.size]? = some (.cells #[.pointer (some ⟨Q, 0, none⟩)] 38 (0, 0)) := by rw [← h9]; exact al0 _ _
  have b10 : W10.heap[W9.heap.size]? = some (.cells #[.slice (some ⟨W7.heap.size, 0, none⟩) 1 1, .slice (some ⟨W8.heap.size, 0, none⟩) 1 1] 45 (0, 0)) := by rw [← h10]; exact al0 _ _
  have s6 := k6.size
  have s7 := k7.size
  have s8 := k8.size
  have s9 := k9.size
  have sw := kw.size
  have c8 := (keptB k9 k10).at b8 (by simp)
  have c9 := k10.at b9 (by simp)
  have hRn := hR.high
  have hloN : lo ≤ N := by
    obtain ⟨T, MB, FR, nxv, outv, D, fl, _, q, _⟩ := hR.ex
    have := q.low
    have := q.high
    omega
  have hR7 : RunS W7 lo N R ps next out fin 0 := (hR.keptF k6 (fun hm => by have := hF R hm; omega) (fun x hx => by have := hF x hx; omega)).keptF k7 (by simp) (by simp)
  obtain ⟨hi, pv, nv, ov, d1, d2⟩ := hD
  have hp : Pair W7 W3.heap.size W7.heap.size R Q ps next out 0 0 := ⟨lo, N, fin, hi, pv, nv, ov, hR7, d1, hl.1, hloN, by omega, d2⟩
  have hp10 := hp.keptF (keptB k8 (keptB k9 k10)) (by simp)
  have l8 := lt_of b8
  have l9 := lt_of b9
  refine ⟨⟨b10, ⟨rfl, .inr ⟨W7.heap.size, 1, _, rfl, by omega, c8, Nat.le_refl _, by unfold maxLen; omega, rfl, rfl⟩⟩, ⟨rfl, .inr ⟨W8.heap.size, 1, _, rfl, by omega, c9, Nat.le_refl _, by unfold maxLen; omega, rfl, rfl⟩⟩, fun g hg x hx => ?_, by omega⟩, ⟨fun i x hx => ?_, fun i j x y hij hx hy => ?_⟩, by simp, fun x hx => ?_, keptB kw (keptB k8 (keptB k9 k10))⟩
  · rw [List.mem_singleton.1 hx]
    right
    show W7.heap.size ≤ g
    rcases hg with q | q | q
    · omega
    · simp [Value.ownBlock] at q; omega
    · simp [Value.ownBlock] at q; omega
  · have h0 := (List.getElem?_eq_some_iff.1 hx).1
    simp at h0
    subst h0
    simp at hx
    subst hx
    exact hp10
  · have h0 := (List.getElem?_eq_some_iff.1 hy).1
    simp at h0
    omega
  · rw [List.mem_singleton.1 hx]
    have := k10.size
    exact ⟨hw, by show W7.heap.size ≤ _; omega⟩
set_option maxHeartbeats 16000000 in
set_option maxRecDepth 20000 in
theorem runnerDoes_some (pv nv ov sv : Value) (ps : List ByteArray) (next : List (List Int)) (out : List Nat) (ops : List OpV) (w : World) (hp : Strs w pv ps) (hn : Rowss w nv next) (ho : Vds w ov out) (hsc : Scr w sv ops) (hs : ∀ x ∈ ps, x.size ≤ 140737488351232) :
    Calls Try.prog 3 #[.agg #[pv, nv, ov], sv] w fun e w' => e = .returned (.bool true) ∧ Hid (Kept [] w w') := by
  obtain ⟨pa, pc, rfl, _, _⟩ := hp.form
  obtain ⟨na, nc, rfl, _, _⟩ := hn.form13
  obtain ⟨oa, oc, rfl⟩ := ho.form
  obtain ⟨sa, sc, rfl⟩ := hsc.form
  obtain ⟨V, hV⟩ : ∃ V, w.alloc (.cells #[.slice pa ps.length pc, .slice na next.length nc, .slice oa out.length oc] 26) = V := ⟨_, rfl⟩
  have kV : Kept [] w V := by rw [← hV]; exact (Kept.refl [] w).alloc _
  obtain ⟨M, hM⟩ : ∃ M, w.heap.size = M := ⟨_, rfl⟩
  have hB : Thr 26 V M (.slice pa ps.length pc) (.slice na next.length nc) (.slice oa out.length oc) := by rw [← hV, ← hM]; exact al0 _ _
  have HKV : Hid (Kept [] w V) := kV
  have HVB : Hid (M < V.heap.size) := lt_of hB
  have HC : Hid (∀ W, Kept [] V W → W.cell? ⟨M, 0, none⟩ = some (.slice pa ps.length pc) ∧ W.cell? ⟨M, 1, none⟩ = some (.slice na next.length nc) ∧ W.cell? ⟨M, 2, none⟩ = some (.slice oa out.length oc)) := fun W k => (hB.keptF k (by simp)).cells
  have HOM : Hid (Calls Try.prog 5 #[.agg #[.slice pa ps.length pc, .slice na next.length nc, .slice oa out.length oc]] V fun e w' => e = .returned (.int .i64 (moN ps next out : Nat)) ∧ Hid (Kept [] V w')) := ofMoore_any _ _ _ ps next out V (hp.kept kV) (hn.kept kV) (ho.kept kV) hs
  have HM4 : Hid (∀ W, Kept [] V W → Strs W (.slice pa ps.length pc) ps ∧ Rowss W (.slice na next.length nc) next ∧ Vds W (.slice oa out.length oc) out) := fun W k => ⟨hp.kept (keptB kV k), hn.kept (keptB kV k), ho.kept (keptB kV k)⟩
  have HKN : Hid (∀ W, Calls Try.prog 7 #[] W fun e w' => e = .returned (.bool true) ∧ Below W.heap.size W w') := known_walk
  have HSC : Hid (∀ W, Kept [] V W → Scr W (.slice sa ops.length sc) ops) := fun W k => hsc.kept (keptB kV k)
  have HWF : Hid ((∀ xs ∈ next, ∀ x ∈ xs, -9223372036854775808 ≤ x ∧ x ≤ 9223372036854775807) ∧ (∀ x ∈ ps, x.size ≤ maxLen) ∧ (∀ x ∈ out, x < 256)) := ⟨rowss_wfD hn, hp.small, ho.small⟩
  have HMU : Hid (∀ W, Kept [] V W → Calls Try.prog 6 #[.slice sa ops.length sc] W fun e w' => e = .returned (.int .i64 (muN ops ops.length : Nat)) ∧ w' = W) := fun W k => much_any _ ops W (hsc.kept (keptB kV k))
  obtain ⟨c0, c1, c2⟩ := HC.out V (Kept.refl [] V)
  obtain ⟨mn, hmn⟩ : ∃ mn, moN ps next out = mn := ⟨_, rfl⟩
  obtain ⟨mu, hmu⟩ : ∃ mu, muN ops ops.length = mu := ⟨_, rfl⟩
  have HMF : Hid (mn ≤ 100000 → ps.length ≤ 100000 ∧ next.length ≤ 100000 ∧ (∀ xs ∈ next, xs.length ≤ 100000) ∧ out.length ≤ 100000) := fun h => by
    have hm : moN ps next out ≤ 100000 := by rw [hmn]; exact h
    obtain ⟨q1, q2, q3⟩ := moN_few hm
    refine ⟨q1, q2, (orw_few next 0 ?_).2.2, q3⟩
    unfold moN at hm
    omega
  rw [hmn] at HOM
  rw [hmu] at HMU
  have hsf := hsc.few
  clear hp hn ho hsc hs kV hB hmn hmu
  go_enter Try.func3, Try.ntmps3
  by_cases g1 : (100000 : Int) < (mn : Int)
  · have d1 : decide ((100000 : Int) < (mn : Int)) = true := decide_eq_true g1
    go_wp2_with (go_at_call 5; refine HOM.out.mono ?_; rintro e W1 ⟨rfl, HK1⟩; clear c0 c1 c2)
    go_ret
    exact ⟨rfl, keptB HKV.out HK1.out⟩
  have d1 : decide ((100000 : Int) < (mn : Int)) = false := decide_eq_false g1
  by_cases g2 : (300 : Int) < (next.length : Int)
  · have d2 : decide ((300 : Int) < (next.length : Int)) = true := decide_eq_true g2
    go_wp2_with (go_at_call 5; refine HOM.out.mono ?_; rintro e W1 ⟨rfl, HK1⟩; clear c0 c1 c2; obtain ⟨c0, c1, c2⟩ := HC.out W1 HK1.out)
    go_ret
    exact ⟨rfl, keptB HKV.out HK1.out⟩
  have d2 : decide ((300 : Int) < (next.length : Int)) = false := decide_eq_false g2
  by_cases g3 : (300 : Int) < (ops.length : Int)
  · have d3 : decide ((300 : Int) < (ops.length : Int)) = true := decide_eq_true g3
    go_wp2_with (go_at_call 5; refine HOM.out.mono ?_; rintro e W1 ⟨rfl, HK1⟩; clear c0 c1 c2; obtain ⟨c0, c1, c2⟩ := HC.out W1 HK1.out)
    go_ret
    exact ⟨rfl, keptB HKV.out HK1.out⟩
  have d3 : decide ((300 : Int) < (ops.length : Int)) = false := decide_eq_false g3
  by_cases g4 : (100000 : Int) < (mu : Int)
  · have d4 : decide ((100000 : Int) < (mu : Int)) = true := decide_eq_true g4
    go_wp2_with (first
      | (go_at_call 5; refine HOM.out.mono ?_; rintro e W1 ⟨rfl, HK1⟩; clear c0 c1 c2; obtain ⟨c0, c1, c2⟩ := HC.out W1 HK1.out)
      | (go_at_call 6; refine (HMU.out _ HK1.out).mono ?_; rintro e w1 ⟨rfl, hw1⟩; rw [hw1]; clear hw1))
    go_ret
    exact ⟨rfl, keptB HKV.out HK1.out⟩
  have d4 : decide ((100000 : Int) < (mu : Int)) = false := decide_eq_false g4
  go_upto_region 3 with (first
      | (go_at_call 5; refine HOM.out.mono ?_; rintro e W1 ⟨rfl, HK1⟩; clear c0 c1 c2; obtain ⟨c0, c1, c2⟩ := HC.out W1 HK1.out)
      | (go_at_call 6; refine (HMU.out _ HK1.out).mono ?_; rintro e w1 ⟨rfl, hw1⟩; rw [hw1]; clear hw1))
  have HFW : Hid (ps.length ≤ 100000 ∧ next.length ≤ 100000 ∧ (∀ xs ∈ next, xs.length ≤ 100000) ∧ out.length ≤ 100000) := HMF.out (by omega)
  clear d1 d2 d3 d4 g1 g2 g4 c0 c1 c2
  have HLM : Hid (∀ W, Kept [] V W → Calls Try.prog 8 #[.agg #[.slice pa ps.length pc, .slice na next.length nc, .slice oa out.length oc]] W (MooEnd W ps next out)) := fun W kw => by
    obtain ⟨m1, m2, m3⟩ := HM4.out W kw
    have hfw := HFW.out
    exact lentMoore_any _ _ _ ps next out W m1 m2 m3 ⟨by omega, by omega, fun xs hx => by have := hfw.2.2.1 xs hx; omega, by omega⟩
  go_upto_region 4 with (go_at_call 7; refine (HKN.out _).mono ?_; rintro e Wk ⟨rfl, hbk⟩; have HKk : Hid (Kept [] V Wk) := keptB HK1.out (kept_belowD hbk); clear hbk)
  obtain ⟨c0, c1, c2⟩ := HC.out Wk HKk.out
  go_upto_region 5 with (go_at_call 8; refine Calls.mono (HLM.out Wk HKk.out) ?_; rintro e W2 ⟨b1, b2, b3, m, bs, rfl, hml, hk2⟩; have HML : Hid _ := hml; have HK2 : Hid (Kept [] Wk W2) := hk2; clear hml hk2 c0 c1 c2)
  obtain ⟨W3, hW3⟩ : ∃ W3, W2.alloc (.cells #[.slice (some ⟨b1, 0, none⟩) ps.length (ps.length + 2), .slice (some ⟨b2, 0, none⟩) next.length (next.length + 1), .slice (some ⟨b3, 0, none⟩) out.length (out.length + 2)] 26) = W3 := ⟨_, rfl⟩
  have k3 : Kept [] W2 W3 := by rw [← hW3]; exact (Kept.refl [] W2).alloc _
  have HK3 : Hid (Kept [] V W3) := keptB (keptB HKk.out HK2.out) k3
  have HML3 : Hid (MooL W3 Wk.heap.size b1 b2 b3 m bs ps next out) := HML.out.keptF k3 (by simp) (by simp)
  obtain ⟨I, hI⟩ : ∃ I, W2.heap.size = I := ⟨_, rfl⟩
  have HIB : Hid (Thr 26 W3 I (.slice (some ⟨b1, 0, none⟩) ps.length (ps.length + 2)) (.slice (some ⟨b2, 0, none⟩) next.length (next.length + 1)) (.slice (some ⟨b3, 0, none⟩) out.length (out.length + 2))) := by show Thr _ _ _ _ _ _; rw [← hW3, ← hI]; exact al0 _ _
  rw [hW3, hI]
  clear hW3 hI k3 HML
  have HBX : Hid (∀ W, Kept [] W3 W → W.cell? ⟨I, 0, none⟩ = some (.slice (some ⟨b1, 0, none⟩) ps.length (ps.length + 2)) ∧ W.cell? ⟨I, 1, none⟩ = some (.slice (some ⟨b2, 0, none⟩) next.length (next.length + 1)) ∧ W.cell? ⟨I, 2, none⟩ = some (.slice (some ⟨b3, 0, none⟩) out.length (out.length + 2))) := fun W k => (HIB.out.keptF k (by simp)).cells
  have HFS : Hid (∀ f ∈ b1 :: b3 :: b2 :: bs, V.heap.size ≤ f ∧ f < W3.heap.size) := fun f hf => by
    have h1 := HKk.out.size
    have h2 := HML3.out.up
    have h3 := lt_of HML3.out.lv.row
    obtain ⟨w0, hr0⟩ := HML3.out.nx
    have h4 := HML3.out.lt f
    have h5 := hr0.nb f
    simp only [List.mem_cons] at hf
    rcases hf with rfl | rfl | rfl | q
    · omega
    · omega
    · omega
    · have := h4 q; have := h5 q; omega
  have HOF : Hid (out.length ≤ 1000000) := by have := HFW.out.2.2.2; show out.length ≤ _; omega
  have HNW : Hid (∀ b, rightM ps next out = b → Calls Try.prog 9 #[.agg #[.slice (some ⟨b1, 0, none⟩) ps.length (ps.length + 2), .slice (some ⟨b2, 0, none⟩) next.length (next.length + 1), .slice (some ⟨b3, 0, none⟩) out.length (out.length + 2)]] W3 (NewEnd ps next out b W3)) := fun b hb => by
    have hfw := HFW.out
    obtain ⟨m1, m2, m3⟩ := mooL_valsD HML3.out hfw.1 HWF.out.2.1 hfw.2.1 hfw.2.2.1 HWF.out.1 hfw.2.2.2 HWF.out.2.2
    exact new_any _ _ _ ps next out W3 m1 m2 m3 HOF.out b hb
  have HWM : Hid (∀ W, Kept [] W3 W → Calls Try.prog 10 #[.agg #[.slice (some ⟨b1, 0, none⟩) ps.length (ps.length + 2), .slice (some ⟨b2, 0, none⟩) next.length (next.length + 1), .slice (some ⟨b3, 0, none⟩) out.length (out.length + 2)], .agg #[.slice pa ps.length pc, .slice na next.length nc, .slice oa out.length oc]] W fun e w' => e = .returned (.bool true) ∧ Kept [] W w') := fun W k => by
    obtain ⟨m1, m2, m3⟩ := HM4.out W (keptB HK3.out k)
    exact wholeMoore_any b1 b2 b3 m bs _ _ _ ps next out _ W (HML3.out.keptF k (by simp) (by simp)) m1 m2 m3 (by have := HFW.out.2.1; omega)
  have HSM : Hid (∀ W, Kept [] W3 W → Calls Try.prog 11 #[.agg #[.slice (some ⟨b1, 0, none⟩) ps.length (ps.length + 2), .slice (some ⟨b2, 0, none⟩) next.length (next.length + 1), .slice (some ⟨b3, 0, none⟩) out.length (out.length + 2)]] W fun e w' => (∃ v, e = .returned v) ∧ Kept (b1 :: b3 :: b2 :: bs) W w') := fun W k => spoilMoore_any b1 b2 b3 m bs ps next out _ W (HML3.out.keptF k (by simp) (by simp)) (by have := HFW.out.2.1; omega)
  have HDW : Hid (∀ W, Kept [] V W → ∀ b, rightM ps next out = b → Calls Try.prog 12 #[.agg #[.slice pa ps.length pc, .slice na next.length nc, .slice oa out.length oc]] W (DNewEnd ps next out b W)) := fun W k b hb => by
    obtain ⟨m1, m2, m3⟩ := HM4.out W k
    exact refNew_any _ _ _ ps next out W m1 m2 m3 HOF.out b hb
  obtain ⟨d0, d1, d2⟩ := HBX.out W3 (Kept.refl [] W3)
  cases hb : rightM ps next out with
  | false =>
    have HRT : Hid (rightM ps next out = false) := hb
    clear hb
    go_upto_region 6 with (go_at_call 9; refine Calls.mono (HNW.out false HRT.out) ?_; rintro e W4 ⟨HK4, _, hfa⟩; have e9 := hfa rfl; subst e9; clear hfa d0 d1 d2)
    obtain ⟨d0, d1, d2⟩ := HBX.out W4 HK4.out
    obtain ⟨c0, c1, c2⟩ := HC.out W4 (keptB HK3.out HK4.out)
    go_upto_region 7 with (go_at_call 10; refine (HWM.out W4 HK4.out).mono ?_; rintro e W5 ⟨rfl, k5⟩; have HK5 : Hid (Kept [] W3 W5) := keptB HK4.out k5; clear k5 c0 c1 c2 d0 d1 d2)
    obtain ⟨d0, d1, d2⟩ := HBX.out W5 HK5.out
    go_upto_region 8 with (go_at_call 11; refine (HSM.out W5 HK5.out).mono ?_; rintro e W6 ⟨⟨vs, rfl⟩, k6⟩; have HK6 : Hid (Kept (b1 :: b3 :: b2 :: bs) W5 W6) := k6; clear k6 d0 d1 d2)
    have HV6 : Hid (Kept [] V W6) := (keptB HK3.out HK5.out).trans HK6.out (by simp) (fun f hf => .inr (HFS.out f hf).1)
    obtain ⟨c0, c1, c2⟩ := HC.out W6 HV6.out
    go_wp2_with (go_at_call 12; refine Calls.mono (HDW.out W6 HV6.out false HRT.out) ?_; rintro e W7 ⟨HK7, _, hfa⟩; have e9 := hfa rfl; subst e9; clear hfa c0 c1 c2)
    go_ret
    exact ⟨rfl, keptB HKV.out (keptB HV6.out HK7.out)⟩
  | true =>
    have HRT : Hid (rightM ps next out = true) := hb
    clear hb
    go_upto_region 6 with (go_at_call 9; refine Calls.mono (HNW.out true HRT.out) ?_; rintro e W4 ⟨HK4, htr, _⟩; obtain ⟨R, lo, N, fin, rfl, HR, HL⟩ := htr rfl; clear htr d0 d1 d2)
    obtain ⟨d0, d1, d2⟩ := HBX.out W4 HK4.out
    obtain ⟨c0, c1, c2⟩ := HC.out W4 (keptB HK3.out HK4.out)
    go_upto_region 7 with (go_at_call 10; refine (HWM.out W4 HK4.out).mono ?_; rintro e W5 ⟨rfl, k5⟩; have HK45 : Hid (Kept [] W4 W5) := k5; have HK5 : Hid (Kept [] W3 W5) := keptB HK4.out k5; clear k5 c0 c1 c2 d0 d1 d2)
    obtain ⟨d0, d1, d2⟩ := HBX.out W5 HK5.out
    go_upto_region 8 with (go_at_call 11; refine (HSM.out W5 HK5.out).mono ?_; rintro e W6 ⟨⟨vs, rfl⟩, k6⟩; have HK6 : Hid (Kept (b1 :: b3 :: b2 :: bs) W5 W6) := k6; clear k6 d0 d1 d2)
    have HV6 : Hid (Kept [] V W6) := (keptB HK3.out HK5.out).trans HK6.out (by simp) (fun f hf => .inr (HFS.out f hf).1)
    obtain ⟨c0, c1, c2⟩ := HC.out W6 HV6.out
    go_upto_region 9 with (go_at_call 12; refine Calls.mono (HDW.out W6 HV6.out true HRT.out) ?_; rintro e W7 ⟨HK7, htr, _⟩; obtain ⟨Q, rfl, HD, HQ⟩ := htr rfl; clear htr c0 c1 c2)
    obtain ⟨W8, h8⟩ : ∃ W8, W7.alloc (.cells #[.pointer (some ⟨R, 0, none⟩)] 32) = W8 := ⟨_, rfl⟩
    obtain ⟨W9, h9⟩ : ∃ W9, W8.alloc (.cells #[.pointer (some ⟨Q, 0, none⟩)] 38) = W9 := ⟨_, rfl⟩
    obtain ⟨W10, h10⟩ : ∃ W10, W9.alloc (.cells #[.slice (some ⟨W7.heap.size, 0, none⟩) 1 1, .slice (some ⟨W8.heap.size, 0, none⟩) 1 1] 45) = W10 := ⟨_, rfl⟩
    have hps := playS_start (w := V) (keptB HV6.out HK7.out) HK3.out.size HR.out HL.out (F := b1 :: b3 :: b2 :: bs) (HK45.out.trans HK6.out (by simp) (fun f hf => .inl hf)) (fun f hf => (HFS.out f hf).2) HK7.out HD.out HQ.out h8 h9 h10
    obtain ⟨RB, hRB⟩ : ∃ RB, W7.heap.size = RB := ⟨_, rfl⟩
    obtain ⟨QB, hQB⟩ : ∃ QB, W8.heap.size = QB := ⟨_, rfl⟩
    obtain ⟨P, hP⟩ : ∃ P, W9.heap.size = P := ⟨_, rfl⟩
    rw [hRB, hQB, hP] at hps
    rw [hRB, hQB] at h10
    have HPS : Hid _ := hps
    clear hps
    go_upto_region 15 with fail
    clear h8 h9 h10 hRB hQB hP
    have HMR : Hid (MachR ps next out) := machR_of HRT.out HOF.out
    have HE0 : Hid (StepEnd V P ps next out W10) := ⟨_, _, _, HPS.out⟩
    clear HPS
    go_loopw [13] (fun v wr => ∃ k : Nat, v = .int .i64 (k : Nat) ∧ k ≤ ops.length ∧ Hid (StepEnd V P ps next out wr)) (fun v _ => ops.length - (intOf v).toNat)
    case atStart => exact ⟨0, rfl, Nat.zero_le _, HE0⟩
    case round =>
      obtain ⟨k, rfl, hk, HE⟩ := hrel
      obtain ⟨rv, qv, L, hS⟩ := HE.out
      have HS : Hid (PlayS V wr P rv qv L ps next out) := hS
      clear hS HE0
      by_cases hlt : k < ops.length
      · have q0 : (k : Int) < (ops.length : Int) := by omega
        have q1 : (0 : Int) ≤ (k : Int) := by omega
        rcases (HSC.out V (Kept.refl [] V)).lie with ⟨_, he⟩ | ⟨b, o, c', hpe, _, _, hcell⟩
        · rw [he] at hlt; simp at hlt
        · cases hpe
          obtain ⟨u, u0, u1, u2, u3, hStr, _, hok⟩ := hcell k hlt
          obtain ⟨op, hop⟩ : ∃ op, ops[k] = op := ⟨_, rfl⟩
          rw [hop] at u0 u1 u2 hStr hok
          have HALL : Hid (∀ W, Kept [] V W → W.cell? ⟨M, 0, none⟩ = some (.slice pa ps.length pc) ∧ W.cell? ⟨M, 1, none⟩ = some (.slice na next.length nc) ∧ W.cell? ⟨M, 2, none⟩ = some (.slice oa out.length oc) ∧ W.cell? ⟨b, o + k * 4, none⟩ = some (.int .i64 op.kind) ∧ W.cell? ⟨b, o + k * 4 + 1, none⟩ = some (.int .i64 op.who) ∧ W.cell? ⟨b, o + k * 4 + 2, none⟩ = some (.int .i64 op.n) ∧ W.cell? ⟨b, o + k * 4 + 3, none⟩ = some u) := fun W kk => by
            obtain ⟨c0, c1, c2⟩ := HC.out W kk
            exact ⟨c0, c1, c2, cell_kept0 kk u0, cell_kept0 kk u1, cell_kept0 kk u2, cell_kept0 kk u3⟩
          have HST : Hid (∀ W, Kept [] wr W → Calls Try.prog 13 #[.pointer (some ⟨P, 0, none⟩), .agg #[.slice pa ps.length pc, .slice na next.length nc, .slice oa out.length oc], .agg #[.int .i64 op.kind, .int .i64 op.who, .int .i64 op.n, u]] W fun e W' => e = .returned (.bool true) ∧ Hid (StepEnd V P ps next out W')) := fun W kk => playStep_any V W P rv qv L _ _ _ ps next out op u (HS.out.quiet kk) HMR.out HRT.out HOF.out (fun W k => HM4.out W k) (fun W k => hStr.kept k) hok
          have HKw : Hid (Kept [] wr wr.drew) := (Kept.refl [] wr).drew
          have HKc : Hid (Kept [] V wr.drew) := keptB HS.out.kept HKw.out
          obtain ⟨c0, c1, c2, c3, c4, c5, c6⟩ := HALL.out _ HKc.out
          clear hcell u0 u1 u2 u3 hop
          go_upto_region 17 with fail
          go_region_held3 (fun Y => Y.cell? ⟨M, 0, none⟩ = some (.slice pa ps.length pc) ∧ Y.cell? ⟨M, 1, none⟩ = some (.slice na next.length nc) ∧ Y.cell? ⟨M, 2, none⟩ = some (.slice oa out.length oc) ∧ Y.cell? ⟨b, o + k * 4, none⟩ = some (.int .i64 op.kind) ∧ Y.cell? ⟨b, o + k * 4 + 1, none⟩ = some (.int .i64 op.who) ∧ Y.cell? ⟨b, o + k * 4 + 2, none⟩ = some (.int .i64 op.n) ∧ Y.cell? ⟨b, o + k * 4 + 3, none⟩ = some u) (exact HALL.out _ HKc.out)
            (first | (go_at_call 13; refine Calls.mono (HST.out _ HKw.out) ?_; rintro e Wz ⟨rfl, HEz⟩; clear HKc; have HKc : Hid (Kept [] V Wz) := (by obtain ⟨_, _, _, hz⟩ := HEz.out; exact hz.kept)))
          all_goals go_wp2
          go_roundw
          case rel => exact ⟨k + 1, by go_num, by omega, HEz⟩
          case measure => simp [intOf]; omega
      · obtain rfl : k = ops.length := by omega
        have q0 : ¬ ((ops.length : Int) < (ops.length : Int)) := by omega
        obtain ⟨l1, l8⟩ := HS.out.one
        obtain ⟨x0, hx0⟩ : ∃ x0, L[0]? = some x0 := ⟨_, List.getElem?_eq_getElem (by omega)⟩
        obtain ⟨rg, rc, qg, qc, rfl, rfl, _, _⟩ := HS.out.bx.at hx0
        clear hx0
        go_wp2_with fail
        go_loopw [15] (fun v wz => ∃ j : Nat, v = .int .i64 (j : Nat) ∧ j ≤ L.length ∧ Hid (PlayS V wz P (.slice (some ⟨rg, 0, none⟩) L.length rc) (.slice (some ⟨qg, 0, none⟩) L.length qc) L ps next out)) (fun v _ => L.length - (intOf v).toNat)
        case atStart => exact ⟨0, rfl, Nat.zero_le _, HS⟩
        case round =>
          rename World => wz
          obtain ⟨j, rfl, hj, HZ⟩ := hrel
          obtain ⟨ln, hln⟩ : ∃ ln, L.length = ln := ⟨_, rfl⟩
          have p0 : wz.cell? ⟨P, 0, none⟩ = some (.slice (some ⟨rg, 0, none⟩) L.length rc) := (cell_of HZ.out.bx.box 0).trans rfl
          have HLN : Hid (L.length = ln) := hln
          rw [hln] at p0 hj
          have hl8 : ln ≤ 8 := by omega
          by_cases hlt : j < ln
          · have q1 : (0 : Int) ≤ (j : Int) := by omega
            have q2 : (j : Int) < (ln : Int) := by omega
            obtain ⟨x, hx⟩ : ∃ x, L[j]? = some x := ⟨_, List.getElem?_eq_getElem (by omega)⟩
            have HX : Hid (L[j]? = some x) := hx
            obtain ⟨lo', N', fin', hi', pd, nd, od, hR, hD, _, _, _, _⟩ := (HZ.out.pl.each j _ hx).ex
            obtain ⟨xs, hxs⟩ : ∃ xs, x.s = xs := ⟨_, rfl⟩
            obtain ⟨xR, hxR⟩ : ∃ xR, x.R = xR := ⟨_, rfl⟩
            obtain ⟨xQ, hxQ⟩ : ∃ xQ, x.Q = xQ := ⟨_, rfl⟩
            rw [hxs, hxR] at hR
            rw [hxs, hxQ] at hD
            have HST : Hid (∀ W, Kept [] wz W → Calls Try.prog 14 #[.pointer (some ⟨xR, 0, none⟩)] W fun e w' => e = .returned (.int .i64 (xs : Nat)) ∧ w' = W) := fun W kk => state_any lo' N' xR ps next out fin' xs W (hR.keptF kk (by simp) (by simp))
            have HAL : Hid (∀ W, Kept [] wz W → W.cell? ⟨P, 0, none⟩ = some (.slice (some ⟨rg, 0, none⟩) ln rc) ∧ W.cell? ⟨P, 1, none⟩ = some (.slice (some ⟨qg, 0, none⟩) ln qc) ∧ W.cell? ⟨rg, j, none⟩ = some (.pointer (some ⟨xR, 0, none⟩)) ∧ W.cell? ⟨qg, j, none⟩ = some (.pointer (some ⟨xQ, 0, none⟩)) ∧ W.cell? ⟨xQ, 3, none⟩ = some (.int .i64 (xs : Nat))) := fun W kk => by
              have hq := HZ.out.bx.keptF kk (by simp)
              obtain ⟨a1, a2, a3, a4, e1, e2, r1, r2⟩ := hq.at HX.out
              cases e1
              cases e2
              rw [hxR] at r1
              rw [hxQ] at r2
              rw [← HLN.out]
              exact ⟨(cell_of hq.box 0).trans rfl, (cell_of hq.box 1).trans rfl, r1, r2, (cell_of (hD.keptF kk (by simp)).box 3).trans rfl⟩
            have HKc : Hid (Kept [] wz wz.drew) := (Kept.refl [] wz).drew
            obtain ⟨e0, e1, e2, e3, e4⟩ := HAL.out _ HKc.out
            clear hR hD hx hxs hxR hxQ hln
            go_upto_region 23 with fail
            go_region_held3 (fun Y => Y.cell? ⟨P, 0, none⟩ = some (.slice (some ⟨rg, 0, none⟩) ln rc) ∧ Y.cell? ⟨P, 1, none⟩ = some (.slice (some ⟨qg, 0, none⟩) ln qc) ∧ Y.cell? ⟨rg, j, none⟩ = some (.pointer (some ⟨xR, 0, none⟩)) ∧ Y.cell? ⟨qg, j, none⟩ = some (.pointer (some ⟨xQ, 0, none⟩)) ∧ Y.cell? ⟨xQ, 3, none⟩ = some (.int .i64 (xs : Nat))) (exact HAL.out _ HKc.out)
              (first | (go_at_call 14; refine Calls.mono (HST.out _ HKc.out) ?_; rintro e w1 ⟨rfl, hw1⟩; rw [hw1]; clear hw1))
            all_goals go_wp2
            go_roundw
            case rel => exact ⟨j + 1, by go_num, by rw [HLN.out]; omega, HZ.out.quiet HKc.out⟩
            case measure => rw [HLN.out]; simp [intOf]; omega
          · obtain rfl : j = ln := by omega
            have q2 : ¬ ((j : Int) < (j : Int)) := by omega
            clear hln
            go_wp2
            go_ret
            exact ⟨rfl, keptB HKV.out HZ.out.kept⟩
end Go.Proofs.Ytbbfajbnklgncaa
