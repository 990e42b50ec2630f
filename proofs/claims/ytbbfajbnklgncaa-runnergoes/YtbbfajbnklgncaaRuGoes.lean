/- The walk of RunnerGoes. -/
import Derived.Test.YtbbfajbnklgncaaRuGoM
import Derived.Test.YtbbfajbnklgncaaRuScr
import Derived.Test.YtbbfajbnklgncaaRuKnown
import Derived.Test.YtbbfajbnklgncaaMoSpoil
import Derived.Deep.CutBlock
import Derived.Deep.CutRange
namespace Go.Proofs.Ytbbfajbnklgncaa
open Go.RowKit Go.Shelf Go.Maps
attribute [local go_sem] Oper.semAt_some

theorem opWpG {P : Program} {ops : Array Oper} {J : Act → World → Prop} {i : Nat} {o : Oper} {K : Act → World → Prop} {a : Act} {w : World} (hi : ops[i]? = some o) (hg : o.guard = none) (h : o.wp P a w K (Q1Hp J)) : wpOp P ops (Q1Hp J) i K a w := by
  unfold wpOp
  simp only [hi]
  rw [if_pos (wantedDHp hg)]
  exact .inl h
theorem opAppG (d : Option Tmp) (v' : Value) (w' : World) {P : Program} {ops : Array Oper} {J : Act → World → Prop} {i : Nat} {o : Oper} {K : Act → World → Prop} {a : Act} {w : World} {s x : Operand} {t tn : TypeId} {vs vx : Value} (hi : ops[i]? = some o) (hg : o.guard = none) (hdd : o.dst = d) (ho : o.op = .call { callee := .builtin .append, args := #[s, x], argTypes := #[t, tn] }) (hs : a.eval s = vs) (hx : a.eval x = vx)
    (hr : ∀ ty, (Builtin.append_ #[t, tn] ty #[vs, vx]).run P w = .ok v' w') (h : K (a.put d v') w') : wpOp P ops (Q1Hp J) i K a w :=
  opWpG hi hg (Lib.wp_append_run w s x t tn ho vs vx hs hx v' w' (hr _) (by rw [hdd]; exact h))
theorem rowss_wfG {W : World} {v : Value} {ss : List (List Int)} (h : Rowss W v ss) : ∀ xs ∈ ss, ∀ x ∈ xs, -9223372036854775808 ≤ x ∧ x ≤ 9223372036854775807 := by
  intro xs hx
  obtain ⟨i, hi, rfl⟩ := List.getElem_of_mem hx
  rcases h.lie with ⟨_, e⟩ | ⟨b, o, c, _, _, _, h4⟩
  · rw [e] at hi; simp at hi
  · obtain ⟨u, _, hI⟩ := h4 i hi
    exact hI.wf
theorem mooL_valsG {W : World} {n b1 b2 b3 m : Nat} {bs : List Nat} {ps : List ByteArray} {next : List (List Int)} {out : List Nat} (h : MooL W n b1 b2 b3 m bs ps next out) (hp : ps.length ≤ 100000) (hps : ∀ x ∈ ps, x.size ≤ maxLen) (hn : next.length ≤ 100000) (hr : ∀ xs ∈ next, xs.length ≤ 100000) (hx : ∀ xs ∈ next, ∀ x ∈ xs, -9223372036854775808 ≤ x ∧ x ≤ 9223372036854775807) (ho : out.length ≤ 100000) (hs : ∀ x ∈ out, x < 256) :
    Strs W (.slice (some ⟨b1, 0, none⟩) ps.length (ps.length + 2)) ps ∧ Rowss W (.slice (some ⟨b2, 0, none⟩) next.length (next.length + 1)) next ∧ Vds W (.slice (some ⟨b3, 0, none⟩) out.length (out.length + 2)) out := by
  obtain ⟨w0, hl⟩ := h.nx
  exact ⟨h.ps.strs (by omega) hps, hl.rowss (by omega) (fun xs q => ⟨by have := hr xs q; omega, hx xs q⟩), h.lv.vds (by omega) hs⟩
theorem kept_belowG {w w' : World} (h : Below w.heap.size w w') : Kept [] w w' := ⟨h.os, h.tape, h.output, h.size, fun k hk _ => h.block k hk⟩
theorem eqlSeqV (fn : Fn) (f c : Array Value) (w : World) : (binOp .eql 58 (.func fn f c) .nilFunc).run Try.prog w = .ok (.bool false) w := by
  have h : ∀ d, (Op.equalIn (d + 1) 58 (.func fn f c) .nilFunc).run Try.prog w = .ok false w := fun d => by simp [Op.equalIn, run_underlying Try.underlying58]
  simp only [binOp]
  simp [Op.equal, Op.maxDepth, h 9999]
/-- The law leaves: what its result's cell holds, behind its ranges' marks. -/
theorem leaveG {n : Nat} {W : World} {B : Nat} {b : Bool} {R : Ending → World → Prop} {tmps : Array Value} (p6 : tmps[6]?.getD undef = .pointer (some ⟨B, 0, none⟩)) (bb : Boxed W B 4 (.bool b)) (hR : R (.returned (.bool b)) W) :
    bodyPostM Fence.wide n Try.prog Try.f4 R .ret { tmps := tmps, defers := [] } W := by
  have c := bb.cell
  refine ⟨.bool b, ?_, hR⟩
  simp [results, Try.f4, go_sem, p6, c]
/-- The law leaves behind three ranges. -/
theorem leaveG3 {n : Nat} {w W : World} {B D0 D1 D3 : Nat} {tmps : Array Value} (p6 : tmps[6]?.getD undef = .pointer (some ⟨B, 0, none⟩)) (bb : Boxed W B 4 (.bool true)) (h3 : W.heap[D3]? = some (.deferred (some []))) (h1 : W.heap[D1]? = some (.deferred (some []))) (h0 : W.heap[D0]? = some (.deferred (some []))) (hne : D3 ≠ D1 ∧ D3 ≠ D0 ∧ D1 ≠ D0) (hk : Kept [] w W) (hw : w.heap.size ≤ D3 ∧ w.heap.size ≤ D1 ∧ w.heap.size ≤ D0) :
    bodyPostM Fence.wide n Try.prog Try.f4 (fun e w' => e = .returned (.bool true) ∧ Hid (Kept [] w w')) .ret { tmps := tmps, defers := [{ target := .collected D3, args := #[] }, { target := .collected D1, args := #[] }, { target := .collected D0, args := #[] }] } W := by
  have hb : ∀ D, W.heap[D]? = some (.deferred (some [])) → B ≠ D := fun D h e => by
    subst e
    rw [show W.heap[B]? = _ from bb] at h
    cases h
  have e1 : (W.putObj D3 (.deferred none)).heap[D1]? = some (.deferred (some [])) := (World.putObj_heap_other (fun e => hne.1 e.symm)).trans h1
  have e0 : ((W.putObj D3 (.deferred none)).putObj D1 (.deferred none)).heap[D0]? = some (.deferred (some [])) := (World.putObj_heap_other (fun e => hne.2.2 e.symm)).trans ((World.putObj_heap_other (fun e => hne.2.1 e.symm)).trans h0)
  have bb3 : Boxed (((W.putObj D3 (.deferred none)).putObj D1 (.deferred none)).putObj D0 (.deferred none)) B 4 (.bool true) := (World.putObj_heap_other (hb D0 h0)).trans ((World.putObj_heap_other (hb D1 h1)).trans ((World.putObj_heap_other (hb D3 h3)).trans bb))
  have c := bb3.cell
  have hkk : Kept [] w (((W.putObj D3 (.deferred none)).putObj D1 (.deferred none)).putObj D0 (.deferred none)) := kept_grown (kept_grown (kept_grown hk (grownBy_putObj' _ _ _) (fun r e => by cases e; exact hw.1)) (grownBy_putObj' _ _ _) (fun r e => by cases e; exact hw.2.1)) (grownBy_putObj' _ _ _) (fun r e => by cases e; exact hw.2.2)
  refine ⟨by simp, .inl ⟨_, _, rfl, run_takeDeferred h3, ?_⟩⟩
  refine ⟨by simp, .inl ⟨_, _, rfl, run_takeDeferred e1, ?_⟩⟩
  refine ⟨by simp, .inl ⟨_, _, rfl, run_takeDeferred e0, ⟨.bool true, ?_, rfl, hkk⟩⟩⟩
  simp [results, Try.f4, go_sem, p6, c]
set_option maxHeartbeats 16000000 in
set_option maxRecDepth 100000 in
theorem runnerGoes_some (pv nv ov uv : Value) (most : Int) (ps : List ByteArray) (next : List (List Int)) (out : List Nat) (us : List Nat) (w : World) (hp : Strs w pv ps) (hn : Rowss w nv next) (ho : Vds w ov out) (hu : Lets w uv us) (hmost : -9223372036854775808 ≤ most ∧ most ≤ 9223372036854775807) (hs : ∀ x ∈ ps, x.size ≤ 140737488351232) :
    Calls Try.prog 4 #[.agg #[pv, nv, ov], uv, .int .i64 most] w fun e w' => e = .returned (.bool true) ∧ Hid (Kept [] w w') := by
  obtain ⟨pa, pc, rfl, _, _⟩ := hp.form
  obtain ⟨na, nc, rfl, _, _⟩ := hn.form13
  obtain ⟨oa, oc, rfl⟩ := ho.form
  obtain ⟨ua, uc, rfl, _, _⟩ := hu.form
  obtain ⟨A1, hA1⟩ : ∃ A1, w.alloc (.cells #[.slice pa ps.length pc, .slice na next.length nc, .slice oa out.length oc] 26) = A1 := ⟨_, rfl⟩
  obtain ⟨A2, hA2⟩ : ∃ A2, A1.alloc (.cells #[.slice ua us.length uc] 53) = A2 := ⟨_, rfl⟩
  obtain ⟨V, hV⟩ : ∃ V, A2.alloc (.cells #[.bool false] 4) = V := ⟨_, rfl⟩
  have k1 : Kept [] w A1 := by rw [← hA1]; exact (Kept.refl [] w).alloc _
  have k2 : Kept [] A1 A2 := by rw [← hA2]; exact (Kept.refl [] A1).alloc _
  have k3 : Kept [] A2 V := by rw [← hV]; exact (Kept.refl [] A2).alloc _
  have kV : Kept [] w V := keptB (keptB k1 k2) k3
  obtain ⟨M, hM⟩ : ∃ M, w.heap.size = M := ⟨_, rfl⟩
  obtain ⟨UB, hUB⟩ : ∃ UB, A1.heap.size = UB := ⟨_, rfl⟩
  obtain ⟨RB, hRB⟩ : ∃ RB, A2.heap.size = RB := ⟨_, rfl⟩
  have hB : Thr 26 V M (.slice pa ps.length pc) (.slice na next.length nc) (.slice oa out.length oc) := (keptB k2 k3).at (by rw [← hA1, ← hM]; exact al0 _ _) (by simp)
  have hBU : Boxed V UB 53 (.slice ua us.length uc) := k3.at (by rw [← hA2, ← hUB]; exact al0 _ _) (by simp)
  have hBR : Boxed V RB 4 (.bool false) := by rw [← hV, ← hRB]; exact al0 _ _
  have HKV : Hid (Kept [] w V) := kV
  have HC : Hid (∀ W, Kept [] V W → W.cell? ⟨M, 0, none⟩ = some (.slice pa ps.length pc) ∧ W.cell? ⟨M, 1, none⟩ = some (.slice na next.length nc) ∧ W.cell? ⟨M, 2, none⟩ = some (.slice oa out.length oc) ∧ W.cell? ⟨UB, 0, none⟩ = some (.slice ua us.length uc) ∧ W.cell? ⟨RB, 0, none⟩ = some (.bool false) ∧ W.frozen? ⟨RB, 0, none⟩ = false) := fun W k => by
    obtain ⟨q0, q1, q2⟩ := (hB.keptF k (by simp)).cells
    have qr : Boxed W RB 4 (.bool false) := k.at hBR (by simp)
    exact ⟨q0, q1, q2, cell_kept0 k hBU.cell, qr.cell, qr.frozen⟩
  have HBX : Hid (Boxed V UB 53 (.slice ua us.length uc) ∧ Boxed V RB 4 (.bool false) ∧ w.heap.size ≤ RB ∧ w.heap.size ≤ UB) := ⟨hBU, hBR, by rw [← hRB]; exact (keptB k1 k2).size, by rw [← hUB]; exact k1.size⟩
  have HOM : Hid (Calls Try.prog 5 #[.agg #[.slice pa ps.length pc, .slice na next.length nc, .slice oa out.length oc]] V fun e w' => e = .returned (.int .i64 (moN ps next out : Nat)) ∧ Hid (Kept [] V w')) := ofMoore_any _ _ _ ps next out V (hp.kept kV) (hn.kept kV) (ho.kept kV) hs
  have HM4 : Hid (∀ W, Kept [] V W → Strs W (.slice pa ps.length pc) ps ∧ Rowss W (.slice na next.length nc) next ∧ Vds W (.slice oa out.length oc) out ∧ Lets W (.slice ua us.length uc) us) := fun W k => ⟨hp.kept (keptB kV k), hn.kept (keptB kV k), ho.kept (keptB kV k), hu.kept (keptB kV k)⟩
  have HKN : Hid (∀ W, Calls Try.prog 7 #[] W fun e w' => e = .returned (.bool true) ∧ Below W.heap.size W w') := known_walk
  have HWF : Hid ((∀ xs ∈ next, ∀ x ∈ xs, -9223372036854775808 ≤ x ∧ x ≤ 9223372036854775807) ∧ (∀ x ∈ ps, x.size ≤ maxLen) ∧ (∀ x ∈ out, x < 256) ∧ (∀ x ∈ us, x < 65536)) := ⟨rowss_wfG hn, hp.small, ho.small, hu.small⟩
  obtain ⟨c0, c1, c2, c3, c4, c5⟩ := HC.out V (Kept.refl [] V)
  obtain ⟨mn, hmn⟩ : ∃ mn, moN ps next out = mn := ⟨_, rfl⟩
  have HMF : Hid (mn ≤ 100000 → ps.length ≤ 100000 ∧ next.length ≤ 100000 ∧ (∀ xs ∈ next, xs.length ≤ 100000) ∧ out.length ≤ 100000) := fun h => by
    have hm : moN ps next out ≤ 100000 := by rw [hmn]; exact h
    obtain ⟨q1, q2, q3⟩ := moN_few hm
    refine ⟨q1, q2, (orw_few next 0 ?_).2.2, q3⟩
    unfold moN at hm
    omega
  rw [hmn] at HOM
  obtain ⟨un, hun⟩ : ∃ un, us.length = un := ⟨_, rfl⟩
  have HUN : Hid (us.length = un) := hun
  rw [hun] at HC c3 HBX hA2 ⊢
  have hmf : ∀ (fn : Fn) (first cap : Array Value) (w : World), (Instr.makeFunc fn first cap).run Try.prog w = .ok (.func fn first cap) w := fun _ _ _ _ => rfl
  clear hp hn ho hu hs k1 k2 k3 kV hB hBU hBR hmn hun
  refine (callsIn_wide (n := 9)).1 ?_
  refine callsIn_of_wp_marks Try.func4 rfl trivial ?_ rfl
  simp only [Try.ntmps4, List.size_toArray, List.length_cons, List.length_nil, Nat.reduceSub, Nat.reduceAdd, Array.replicate_succ, Array.replicate_zero, List.push_toArray, List.append_toArray, List.nil_append, List.cons_append]
  refine wpIn_wide.2 ?_
  by_cases g1 : (100000 : Int) < (mn : Int)
  · have d1 : decide ((100000 : Int) < (mn : Int)) = true := decide_eq_true g1
    go_wp2_with (go_at_call 5; refine HOM.out.mono ?_; rintro e W1 ⟨rfl, HK1⟩; clear c0 c1 c2 c3 c4 c5; obtain ⟨c0, c1, c2, c3, c4, c5⟩ := HC.out W1 HK1.out)
    have hb := HK1.out.at HBX.out.2.1 (by simp)
    exact leaveG rfl (Boxed.set _ hb) ⟨rfl, (keptB HKV.out HK1.out).setCell (.inr HBX.out.2.2.1) _⟩
  have d1 : decide ((100000 : Int) < (mn : Int)) = false := decide_eq_false g1
  by_cases g2 : (10000 : Int) < (un : Int)
  · have d2 : decide ((10000 : Int) < (un : Int)) = true := decide_eq_true g2
    go_wp2_with (go_at_call 5; refine HOM.out.mono ?_; rintro e W1 ⟨rfl, HK1⟩; clear c0 c1 c2 c3 c4 c5; obtain ⟨c0, c1, c2, c3, c4, c5⟩ := HC.out W1 HK1.out)
    have hb := HK1.out.at HBX.out.2.1 (by simp)
    exact leaveG rfl (Boxed.set _ hb) ⟨rfl, (keptB HKV.out HK1.out).setCell (.inr HBX.out.2.2.1) _⟩
  have d2 : decide ((10000 : Int) < (un : Int)) = false := decide_eq_false g2
  go_upto_region 3 with (go_at_call 5; refine HOM.out.mono ?_; rintro e W1 ⟨rfl, HK1⟩; clear c0 c1 c2 c3 c4 c5; obtain ⟨c0, c1, c2, c3, c4, c5⟩ := HC.out W1 HK1.out)
  have HFW : Hid (ps.length ≤ 100000 ∧ next.length ≤ 100000 ∧ (∀ xs ∈ next, xs.length ≤ 100000) ∧ out.length ≤ 100000) := HMF.out (by omega)
  have hun : un ≤ 10000 := by omega
  clear d1 d2 g1 g2 c0 c1 c2 c3 c4 c5 hA1 hA2 hV hM hUB hRB
  go_upto_region 4 with (go_at_call 7; refine (HKN.out _).mono ?_; rintro e Wk ⟨rfl, hbk⟩; have HKk : Hid (Kept [] V Wk) := keptB HK1.out (kept_belowG hbk); clear hbk)
  go_upto_region 5 with fail
  obtain ⟨U1, hU1⟩ : ∃ U1, Wk.alloc (.cells #[.int .i64 0] 3) = U1 := ⟨_, rfl⟩
  obtain ⟨AB, hAB⟩ : ∃ AB, Wk.heap.size = AB := ⟨_, rfl⟩
  have kU1 : Kept [] Wk U1 := by rw [← hU1]; exact (Kept.refl [] Wk).alloc _
  have HAB : Hid (Asked AB 0 U1 ∧ V.heap.size ≤ AB) := ⟨by show Boxed U1 AB _ _; rw [← hU1, ← hAB]; exact al0 _ _, by rw [← hAB]; exact HKk.out.size⟩
  have HKU : Hid (Kept [] V U1) := keptB HKk.out kU1
  rw [hU1, hAB]
  clear hU1 hAB kU1
  obtain ⟨c0, c1, c2, c3, c4, c5⟩ := HC.out U1 HKU.out
  have HLM : Hid (Calls Try.prog 8 #[.agg #[.slice pa ps.length pc, .slice na next.length nc, .slice oa out.length oc]] U1 (MooEnd U1 ps next out)) := by
    obtain ⟨m1, m2, m3, _⟩ := HM4.out U1 HKU.out
    have hfw := HFW.out
    exact lentMoore_any _ _ _ ps next out U1 m1 m2 m3 ⟨by omega, by omega, fun xs hx => by have := hfw.2.2.1 xs hx; omega, by omega⟩
  go_upto_region 7 with (go_at_call 8; refine Calls.mono HLM.out ?_; rintro e W2 ⟨b1, b2, b3, m, bs, rfl, hml, hk2⟩; have HML : Hid _ := hml; have HK2 : Hid (Kept [] U1 W2) := hk2; clear hml hk2 c0 c1 c2 c3 c4 c5)
  obtain ⟨W3, hW3⟩ : ∃ W3, W2.alloc (.cells #[.slice (some ⟨b1, 0, none⟩) ps.length (ps.length + 2), .slice (some ⟨b2, 0, none⟩) next.length (next.length + 1), .slice (some ⟨b3, 0, none⟩) out.length (out.length + 2)] 26) = W3 := ⟨_, rfl⟩
  have k3 : Kept [] W2 W3 := by rw [← hW3]; exact (Kept.refl [] W2).alloc _
  have HK3 : Hid (Kept [] V W3) := keptB (keptB HKU.out HK2.out) k3
  have HML3 : Hid (MooL W3 U1.heap.size b1 b2 b3 m bs ps next out) := HML.out.keptF k3 (by simp) (by simp)
  obtain ⟨I, hI⟩ : ∃ I, W2.heap.size = I := ⟨_, rfl⟩
  have HIB : Hid (Thr 26 W3 I (.slice (some ⟨b1, 0, none⟩) ps.length (ps.length + 2)) (.slice (some ⟨b2, 0, none⟩) next.length (next.length + 1)) (.slice (some ⟨b3, 0, none⟩) out.length (out.length + 2))) := by show Thr _ _ _ _ _ _; rw [← hW3, ← hI]; exact al0 _ _
  have HA3 : Hid (Asked AB 0 W3) := (keptB HK2.out k3).at HAB.out.1 (by simp)
  rw [hW3, hI]
  clear hW3 hI k3 HML
  have HBI : Hid (∀ W, Kept [] W3 W → W.cell? ⟨I, 0, none⟩ = some (.slice (some ⟨b1, 0, none⟩) ps.length (ps.length + 2)) ∧ W.cell? ⟨I, 1, none⟩ = some (.slice (some ⟨b2, 0, none⟩) next.length (next.length + 1)) ∧ W.cell? ⟨I, 2, none⟩ = some (.slice (some ⟨b3, 0, none⟩) out.length (out.length + 2))) := fun W k => (HIB.out.keptF k (by simp)).cells
  have HFS : Hid (∀ f ∈ b1 :: b3 :: b2 :: bs, U1.heap.size ≤ f ∧ f < W3.heap.size) := fun f hf => by
    have h2 := HML3.out.up
    have h3 := lt_of HML3.out.lv.row
    obtain ⟨w0, hr0⟩ := HML3.out.nx
    have h4 := HML3.out.lt f
    have h5 := hr0.nb f
    simp only [List.mem_cons] at hf
    rcases hf with rfl | rfl | rfl | q
    · omega
    · omega
    · omega
    · have := h4 q; have := h5 q; omega
  have HOF : Hid (out.length ≤ 1000000) := by have := HFW.out.2.2.2; show out.length ≤ _; omega
  have HAL : Hid (∀ b, rightM ps next out = b → Calls Try.prog 16 #[.agg #[.slice (some ⟨b1, 0, none⟩) ps.length (ps.length + 2), .slice (some ⟨b2, 0, none⟩) next.length (next.length + 1), .slice (some ⟨b3, 0, none⟩) out.length (out.length + 2)], .func (.func 15) #[] #[.pointer (some ⟨UB, 0, none⟩), .pointer (some ⟨AB, 0, none⟩)]] W3 (AllEnd (.func (.func 15) #[] #[.pointer (some ⟨UB, 0, none⟩), .pointer (some ⟨AB, 0, none⟩)]) ps next out b W3)) := fun b hb => by
    have hfw := HFW.out
    obtain ⟨m1, m2, m3⟩ := mooL_valsG HML3.out hfw.1 HWF.out.2.1 hfw.2.1 hfw.2.2.1 HWF.out.1 hfw.2.2.2 HWF.out.2.2.1
    exact allR_any _ _ _ _ _ ps next out W3 m1 m2 m3 HOF.out b hb
  have HWM : Hid (∀ W, Kept [] W3 W → Calls Try.prog 10 #[.agg #[.slice (some ⟨b1, 0, none⟩) ps.length (ps.length + 2), .slice (some ⟨b2, 0, none⟩) next.length (next.length + 1), .slice (some ⟨b3, 0, none⟩) out.length (out.length + 2)], .agg #[.slice pa ps.length pc, .slice na next.length nc, .slice oa out.length oc]] W fun e w' => e = .returned (.bool true) ∧ Kept [] W w') := fun W k => by
    obtain ⟨m1, m2, m3, _⟩ := HM4.out W (keptB HK3.out k)
    exact wholeMoore_any b1 b2 b3 m bs _ _ _ ps next out _ W (HML3.out.keptF k (by simp) (by simp)) m1 m2 m3 (by have := HFW.out.2.1; omega)
  have HSM : Hid (∀ W, Kept [] W3 W → Calls Try.prog 11 #[.agg #[.slice (some ⟨b1, 0, none⟩) ps.length (ps.length + 2), .slice (some ⟨b2, 0, none⟩) next.length (next.length + 1), .slice (some ⟨b3, 0, none⟩) out.length (out.length + 2)]] W fun e w' => (∃ v, e = .returned v) ∧ Kept (b1 :: b3 :: b2 :: bs) W w') := fun W k => spoilMoore_any b1 b2 b3 m bs ps next out _ W (HML3.out.keptF k (by simp) (by simp)) (by have := HFW.out.2.1; omega)
  have HDW : Hid (∀ W, Kept [] V W → ∀ b, rightM ps next out = b → Calls Try.prog 12 #[.agg #[.slice pa ps.length pc, .slice na next.length nc, .slice oa out.length oc]] W (DNewEnd ps next out b W)) := fun W k b hb => by
    obtain ⟨m1, m2, m3, _⟩ := HM4.out W k
    exact refNew_any _ _ _ ps next out W m1 m2 m3 HOF.out b hb
  have heq : ∀ (fn : Fn) (f c : Array Value) (w : World), (binOp .eql 58 (.func fn f c) .nilFunc).run Try.prog w = .ok (.bool false) w := eqlSeqV
  obtain ⟨d0, d1, d2⟩ := HBI.out W3 (Kept.refl [] W3)
  cases hb : rightM ps next out with
  | false =>
    have HRT : Hid (rightM ps next out = false) := hb
    clear hb
    go_upto_region 8 with (go_at_call 16; refine Calls.mono (HAL.out false HRT.out) ?_; rintro e W4 ⟨HK4, _, hfa⟩; have e9 := hfa rfl; subst e9; clear hfa d0 d1 d2)
    obtain ⟨d0, d1, d2⟩ := HBI.out W4 HK4.out
    obtain ⟨c0, c1, c2, _⟩ := HC.out W4 (keptB HK3.out HK4.out)
    go_upto_region 9 with (go_at_call 10; refine (HWM.out W4 HK4.out).mono ?_; rintro e W5 ⟨rfl, k5⟩; have HK45 : Hid (Kept [] W4 W5) := k5; have HK5 : Hid (Kept [] W3 W5) := keptB HK4.out k5; clear k5 c0 c1 c2 d0 d1 d2)
    obtain ⟨d0, d1, d2⟩ := HBI.out W5 HK5.out
    go_upto_region 10 with (go_at_call 11; refine (HSM.out W5 HK5.out).mono ?_; rintro e W6 ⟨⟨vs, rfl⟩, k6⟩; have HK6 : Hid (Kept (b1 :: b3 :: b2 :: bs) W5 W6) := k6; clear k6 d0 d1 d2)
    have HV6 : Hid (Kept [] V W6) := (keptB HK3.out HK5.out).trans HK6.out (by simp) (fun f hf => .inr (by have := (HFS.out f hf).1; have := HKU.out.size; omega))
    go_upto_region 13 with fail
    obtain ⟨U2, hU2⟩ : ∃ U2, W6.alloc (.cells #[.slice none 0 0] 24) = U2 := ⟨_, rfl⟩
    obtain ⟨WB, hWB⟩ : ∃ WB, W6.heap.size = WB := ⟨_, rfl⟩
    have kU2 : Kept [] W6 U2 := by rw [← hU2]; exact (Kept.refl [] W6).alloc _
    have HWB : Hid (Boxed U2 WB 24 (.slice none 0 0) ∧ W6.heap.size = WB) := ⟨by rw [← hU2, ← hWB]; exact al0 _ _, hWB⟩
    have HKU2 : Hid (Kept [] V U2) := keptB HV6.out kU2
    have HK62 : Hid (Kept [] W6 U2) := kU2
    rw [hU2, hWB]
    clear hU2 hWB kU2
    obtain ⟨c0, c1, c2, c3, _⟩ := HC.out U2 HKU2.out
    go_upto_region 14 with (go_at_call 12; refine Calls.mono (HDW.out U2 HKU2.out false HRT.out) ?_; rintro e W7 ⟨HK7, _, hfa⟩; have e9 := hfa rfl; subst e9; clear hfa c0 c1 c2 c3)
    obtain ⟨c0, c1, c2, c3, _⟩ := HC.out W7 (keptB HKU2.out HK7.out)
    have HA6 : Hid (Asked AB 0 W6) := HK6.out.at (HK5.out.at HA3.out (by simp)) (fun hm => by have := (HFS.out AB hm).1; have := HAB.out.1.lt; omega)
    clear c0 c1 c2
    have HRR : Hid (Kept [] W7 W7) := Kept.refl [] W7
    go_upto_region 15 with fail
    go_loopw [16] (fun v wr => v = .int .i64 (0 : Nat) ∧ Hid (Kept [] W7 wr)) (fun _ _ => 0)
    case atStart => exact ⟨rfl, HRR⟩
    case round =>
      obtain ⟨rfl, HKW⟩ := hrel
      have HKr : Hid (Kept [] V wr) := keptB HKU2.out (keptB HK7.out HKW.out)
      obtain ⟨_, _, _, c3, _⟩ := HC.out wr HKr.out
      go_upto_region 15 with fail
      go_cut [65] from 58 to 76 (fun v wx => v = .bool false ∧ wx = wr)
      case first =>
        by_cases h0 : 0 < un
        · have q3 : decide ((0 : Int) < (un : Int)) = true := decide_eq_true (by omega)
          have q4 : (0 : Int) < (un : Int) := by omega
          go_wp2_with fail
          go_meet
          case rel => exact ⟨rfl, rfl⟩
        · have q3 : decide ((0 : Int) < (un : Int)) = false := decide_eq_false (by omega)
          have q4 : ¬ ((0 : Int) < (un : Int)) := by omega
          go_wp2_with fail
          go_meet
          case rel => exact ⟨rfl, rfl⟩
      case rest =>
        obtain ⟨rfl, hwc⟩ := hcut
        rw [hwc]
        clear hwc
        obtain ⟨k, hk0⟩ : ∃ k : Nat, k = 0 := ⟨0, rfl⟩
        obtain ⟨T, hTd⟩ : ∃ T : Nat → Prop, (fun _ => False) = T := ⟨_, rfl⟩
        obtain ⟨L, hL⟩ : ∃ L : List Nat, [] = L := ⟨_, rfl⟩
        obtain ⟨wvv, hwv0⟩ : ∃ wvv : Value, .slice none 0 0 = wvv := ⟨_, rfl⟩
        have kxr : Kept [] W6 wr := keptB HK62.out (keptB HK7.out HKW.out)
        have s1 := HK3.out.size
        have s2 := HK5.out.size
        have s3 := HK6.out.size
        have s4 := kxr.size
        have s5 := HAB.out.1.lt
        have s6 := HBX.out.2.1.lt
        have s7 := HAB.out.2
        have s8 := HA3.out.lt
        have s9 := HKV.out.size
        have s10 := HWB.out.1.lt
        have s11 := (keptB HK7.out HKW.out).size
        have s12 := HWB.out.2
        have hwb : Boxed wr WB 24 wvv := (keptB HK7.out HKW.out).at (by rw [← hwv0]; exact HWB.out.1) (by simp)
        have HTT : Hid ((∀ q, T q → q < wr.heap.size) ∧ ¬ T AB) := by rw [← hTd]; exact ⟨fun _ h => h.elim, fun h => h⟩
        have HWV : Hid (Boxed wr WB 24 wvv ∧ wr.ownsRow W7.heap.size 60 1 wvv k (vdC L) ∧ L.length = k) := ⟨hwb, by rw [← hwv0, ← hL, hk0]; exact World.ownsRow_nil _ _ _ _, by rw [← hL, hk0]; rfl⟩
        have HVL : Hid (∀ i, i < k → (vdC L)[i]? = some (.int .u8 (out.getD (goL ps next us (i + 1)) 0 : Nat))) := fun i hi => by omega
        have HGO : Hid (∀ W, KpX T wr W → Asked AB 0 W → GoesAtP Fence.wide (9 - 1) Try.prog 44 #[] (verV ps next out us) (fun i W => Asked AB (i + 1) W) T (fun k => k = AB) (upTo k) (upSome k) k (fun pre i => pre = List.range i) (fun xs W => Asked AB xs.length W) W) := fun W _ ha => by rw [hk0]; exact none_goes (9 - 1) T AB _ W ha
        have HBD : Hid (w.heap.size ≤ AB ∧ AB < wr.heap.size ∧ RB < AB ∧ AB < WB ∧ WB < wr.heap.size ∧ (∀ g, wvv.ownBlock = some g → AB < g ∧ g < wr.heap.size) ∧ k ≤ 10000) := ⟨by omega, by omega, by omega, by omega, by omega, (fun g hg => by rw [← hwv0] at hg; cases hg), by omega⟩
        have HRX : Hid (Boxed wr RB 4 (.bool false) ∧ Asked AB 0 wr ∧ Kept [] w wr ∧ w.heap.size ≤ RB) := ⟨HKr.out.at HBX.out.2.1 (by simp), kxr.at HA6.out (by simp), keptB HKV.out HKr.out, HBX.out.2.2.1⟩
        have HK0 : Hid (k = 0) := hk0
        have q3 : True := trivial
        clear hTd hL hwv0 kxr s1 s2 s3 s4 s5 s6 s7 s8 s9 s10 s11 s12 hwb hk0
        go_upto_region 18 with fail
        clear c3 q3
        have F10 : Hid (Boxed wr RB 4 (.bool false) ∧ Asked AB 0 wr ∧ Kept [] w wr) := ⟨HRX.out.1, HRX.out.2.1, HRX.out.2.2.1⟩
        have F20 : Hid (Boxed wr WB 24 wvv ∧ wr.ownsRow W7.heap.size 60 1 wvv k (vdC L)) := ⟨HWV.out.1, HWV.out.2.1⟩
        have F30 : Hid (∀ W, KpX T wr W → Asked AB 0 W → GoesAtP Fence.wide (9 - 1) Try.prog 44 #[] (verV ps next out us) (fun i W => Asked AB (i + 1) W) T (fun k => k = AB) (upTo k) (upSome k) k (fun pre i => pre = List.range i) (fun xs W => Asked AB xs.length W) W) := HGO.out
        have F40 : Hid (∀ q, zG T RB WB wvv [] q → q < wr.heap.size) := fun q hq => by
          have hbd := HBD.out
          rcases hq with h | h | h | h | h
          · exact HTT.out.1 q h
          · omega
          · omega
          · exact (hbd.2.2.2.2.2.1 q h).2
          · cases h
        have F50 : Hid (∀ q ∈ ([] : List Nat), AB < q) := fun q hq => by cases hq
        have F60 : Hid (wr.heap.size ≤ wr.heap.size) := Nat.le_refl _
        have F70 : Hid (∀ q ∈ ([] : List Nat), wr.heap[q]? = some (.deferred (some []))) := fun q hq => by cases hq
        go_upto_region 19 with fail
        refine wp_loop_rounds 3 ?_
        rw [rounds_succ]
        obtain ⟨f1, f2, f3⟩ := F10.out
        have kA0 : Kept [] wr (wr.alloc (.cells #[.int .i64 0] 3)) := (Kept.refl [] wr).alloc _
        have q1 : (wr.alloc (.cells #[.int .i64 0] 3)).cell? ⟨AB, 0, none⟩ = some _ := cell_kept0 kA0 f2.cell
        have q3 : Boxed (wr.alloc (.cells #[.int .i64 0] 3)) AB 3 _ := kA0.at f2 (by simp)
        have q2 : (wr.alloc (.cells #[.int .i64 0] 3)).frozen? ⟨AB, 0, none⟩ = false := q3.frozen
        go_upto_region 23 with fail
        clear q1 q2 q3 kA0
        obtain ⟨Ux0, hU⟩ : ∃ U, (wr.alloc (.cells #[.int .i64 0] 3)).setCell ⟨AB, 0, none⟩ (.int .i64 0) = U := ⟨_, rfl⟩
        obtain ⟨nb0, hnb⟩ : ∃ nb, wr.heap.size = nb := ⟨_, rfl⟩
        have hZA : ¬ zG T RB WB wvv [] AB := fun h => by
          have hbd := HBD.out
          have hds := F50.out
          rcases h with h | h | h | h | h
          · exact HTT.out.2 h
          · omega
          · omega
          · have := (hbd.2.2.2.2.2.1 AB h).1; omega
          · exact absurd rfl (Nat.ne_of_gt (hds AB h))
        have hst := goI_start (w := w) (Wx := wr) (Z := zG T RB WB wvv []) (lim := k) hU f2 hZA f3 HBD.out.1 (KpX.refl _ _)
        have hUs := hst.2.2.2
        rw [hnb] at hst hUs
        have HG0 : Hid (GoI w Ux0 (zG T RB WB wvv []) nb0 (k) (fun k => k = AB) [] Ux0 ∧ Asked AB 0 Ux0 ∧ KpX (zG T RB WB wvv []) wr Ux0) := ⟨hst.1, hst.2.1, hst.2.2.1⟩
        have HN0 : Hid (¬ zG T RB WB wvv [] nb0 ∧ w.heap.size ≤ nb0 ∧ (∀ q, zG T RB WB wvv [] q → q < Ux0.heap.size) ∧ wr.heap.size = nb0 ∧ Ux0.heap.size = nb0 + 1) := ⟨fun h => by have := F40.out _ h; omega, by rw [← hnb]; exact f3.size, fun q h => by have := F40.out q h; omega, hnb, hUs⟩
        rw [hU, hnb]
        clear hU hnb hst hUs hZA f1 f2 f3
        go_wp2_with fail
        refine (wpIn_wide (n := 9)).1 ?_
        refine rangeAtP1 rfl (by omega) (gf := 44) (lb := #[]) rfl trivial (enters_of Try.func44 (by kernel_rfl) rfl)
          (F30.out Ux0 (HG0.out.2.2.mono (fun _ h => .inl h)) HG0.out.2.1) (fun _ _ _ _ _ h1 h2 h => asked_put h h1 h2) (asked_kept AB) (fun q hq => HN0.out.2.2.1 q (.inl hq)) (fun q hq => by have := HBD.out.2.1; have := HN0.out; have := F60.out; show q < Ux0.heap.size; rw [show q = AB from hq]; omega) (fun _ => rfl)
          (GoI w Ux0 (zG T RB WB wvv []) nb0 k) (noX) ?abI0 ?abX0 HG0.out.1 ?a10 ?assign0 ?body0 ?done0 ?stop0
        case abI0 => exact goI_abide HN0.out.2.2.1
        case abX0 => exact noX_abide
        case assign0 =>
          intro l x W K hK
          dsimp only [verV]
          gi_wp2
          exact hK
        case body0 =>
          rintro l Y pre x W1 _ _ hYb hI hat hlen hpf
          obtain rfl : x = pre.length := by rw [show pre = List.range x from hpf, List.length_range]
          obtain ⟨i, hi⟩ : ∃ i, pre.length = i := ⟨_, rfl⟩
          rw [hi] at hat hlen ⊢
          have hn1 := hI.n
          rw [hi] at hn1
          have kz : KpX (zG T RB WB wvv []) wr W1 := HG0.out.2.2.trans hI.k
          have w1 : Boxed W1 WB 24 wvv := kz.own _ _ (.inr (.inr (.inl rfl))) F20.out.1
          have w2 := row_own F20.out.2 kz (fun g hg => .inr (.inr (.inr (.inl hg))))
          obtain ⟨g, c, hwv, hcell⟩ := own_thereR w2 (by omega)
          obtain ⟨v, hv⟩ : ∃ v, out.getD (goL ps next us (i + 1)) 0 = v := ⟨_, rfl⟩
          have e0 := hcell i _ (HVL.out i hlen)
          rw [hv] at e0
          have w0 : W1.cell? ⟨WB, 0, none⟩ = some (.slice (some ⟨g, 0, none⟩) k c) := by rw [← hwv]; exact w1.cell
          have n0 : W1.cell? ⟨nb0, 0, none⟩ = some (.int .i64 (i : Nat)) := hn1.cell
          have n1 : W1.frozen? ⟨nb0, 0, none⟩ = false := hn1.frozen
          have e9 : ((i + 1 : Nat) : Int) = (i : Int) + 1 := rfl
          have a0 : W1.cell? ⟨AB, 0, none⟩ = some (.int .i64 ((i : Int) + 1)) := by rw [← e9]; exact hat.cell
          have z1 : decide ((k : Int) ≤ (i : Int)) = false := decide_eq_false (by omega)
          have z2 : (0 : Int) ≤ (i : Int) := by omega
          have z3 : (i : Int) < (k : Int) := by omega
          have z4 : ((v : Int) != (v : Int)) = false := by simp
          have z5 : (((i : Int) + 1) != ((i : Int) + 1)) = false := by simp
          have hk8 := HBD.out.2.2.2.2.2.2
          rw [← List.getD_eq_getElem?_getD, hv]
          have hTY : ¬ orT T Y nb0 := fun h => h.elim hI.nY.1 (fun h => HN0.out.1 (.inl h))
          have HIH : Hid (GoI w Ux0 (zG T RB WB wvv []) nb0 (k) Y pre W1 ∧ pre.length = i) := ⟨hI, hi⟩
          clear hI hat hn1 kz w1 w2 hcell hv hwv hpf hYb hi
          gi_wp2_with fail
          exact ⟨KpX.setCell hTY _, HIH.out.1.next HIH.out.2 (by omega) HN0.out.1 HN0.out.2.1 _⟩
        case stop0 =>
          rintro D Y c pre W1 _ _ _ hX
          exact hX.elim
        case done0 =>
          rintro D0 Y xs E0 hD hYD hS hI hE hK
          have hxl : xs.length = k := by rw [show xs = List.range k from hS, List.length_range]
          have hE' : Asked AB k E0 := by rw [← hxl]; exact hE
          have kz : KpX (zG T RB WB wvv []) wr E0 := HG0.out.2.2.trans hI.k
          have hkp := hI.kept
          have hsz := hI.k.size
          have hun := hI.n
          rw [hxl] at hun
          have F11 : Hid (Boxed E0 RB 4 (.bool false) ∧ Asked AB k E0 ∧ Kept [] w E0) := ⟨kz.own _ _ (.inr (.inl rfl)) F10.out.1, hE', hkp⟩
          have F21 : Hid (Boxed E0 WB 24 wvv ∧ E0.ownsRow W7.heap.size 60 1 wvv k (vdC L)) := ⟨kz.own _ _ (.inr (.inr (.inl rfl))) F20.out.1, row_own F20.out.2 kz (fun g hg => .inr (.inr (.inr (.inl hg))))⟩
          have F31 : Hid (∀ W, KpX T E0 W → Asked AB 0 W → GoesAtP Fence.wide (9 - 1) Try.prog 44 #[] (verV ps next out us) (fun i W => Asked AB (i + 1) W) T (fun k => k = AB) (upTo k) (upSome k) k (fun pre i => pre = List.range i) (fun xs W => Asked AB xs.length W) W) := fun W kk ha => F30.out W ((kz.mono (fun _ h => .inl h)).trans kk) ha
          have F41 : Hid (∀ q, zG T RB WB wvv [D0] q → q < E0.heap.size) := fun q hq => by
            have hsz2 := kz.size
            rcases hq with h | h | h | h | h
            · have := F40.out q (.inl h); omega
            · have := F40.out q (.inr (.inl h)); omega
            · have := F40.out q (.inr (.inr (.inl h))); omega
            · have := F40.out q (.inr (.inr (.inr (.inl h)))); omega
            · rcases List.mem_cons.1 h with h | h
              · rw [h]; exact lt_of hK
              · have := F40.out q (.inr (.inr (.inr (.inr h)))); omega
          have F51 : Hid (∀ q ∈ [D0], AB < q) := fun q hq => by
            rcases List.mem_cons.1 hq with h | h
            · have := HN0.out; have := F60.out; have := HBD.out; omega
            · exact F50.out q h
          have F61 : Hid (wr.heap.size ≤ E0.heap.size) := by have := F60.out; have := kz.size; show _ ≤ _; omega
          have F71 : Hid (∀ q ∈ [D0], E0.heap[q]? = some (.deferred (some []))) := fun q hq => by
            rcases List.mem_cons.1 hq with h | h
            · rw [h]; exact hK
            · exact kz.own _ _ (.inr (.inr (.inr (.inr h)))) (F70.out q h)
          have HDD0 : Hid (Ux0.heap.size ≤ D0) := hD
          have c0 : E0.cell? ⟨nb0, 0, none⟩ = some (.int .i64 (k : Nat)) := hun.cell
          obtain ⟨wad, wc, hwf⟩ := own_formR F21.out.2
          have c1 : E0.cell? ⟨WB, 0, none⟩ = some (.slice wad k wc) := by rw [← hwf]; exact F21.out.1.cell
          have z4 : ((k : Int) != (k : Int)) = false := by simp
          clear hxl hE' kz hkp hsz hun hwf hI hE hS hK
          go_wp2_with fail
          rw [rounds_succ]
          clear c0 c1 z4
          obtain ⟨f1, f2, f3⟩ := F11.out
          have kA1 : Kept [] E0 (E0.alloc (.cells #[.int .i64 0] 3)) := (Kept.refl [] E0).alloc _
          have q1 : (E0.alloc (.cells #[.int .i64 0] 3)).cell? ⟨AB, 0, none⟩ = some _ := cell_kept0 kA1 f2.cell
          have q3 : Boxed (E0.alloc (.cells #[.int .i64 0] 3)) AB 3 _ := kA1.at f2 (by simp)
          have q2 : (E0.alloc (.cells #[.int .i64 0] 3)).frozen? ⟨AB, 0, none⟩ = false := q3.frozen
          go_upto_region 23 with fail
          clear q1 q2 q3 kA1
          obtain ⟨Ux1, hU⟩ : ∃ U, (E0.alloc (.cells #[.int .i64 0] 3)).setCell ⟨AB, 0, none⟩ (.int .i64 0) = U := ⟨_, rfl⟩
          obtain ⟨nb1, hnb⟩ : ∃ nb, E0.heap.size = nb := ⟨_, rfl⟩
          have hZA : ¬ zG T RB WB wvv [D0] AB := fun h => by
            have hbd := HBD.out
            have hds := F51.out
            rcases h with h | h | h | h | h
            · exact HTT.out.2 h
            · omega
            · omega
            · have := (hbd.2.2.2.2.2.1 AB h).1; omega
            · exact absurd rfl (Nat.ne_of_gt (hds AB h))
          have hst := goI_start (w := w) (Wx := E0) (Z := zG T RB WB wvv [D0]) (lim := k) hU f2 hZA f3 HBD.out.1 (KpX.refl _ _)
          have hUs := hst.2.2.2
          rw [hnb] at hst hUs
          have HG1 : Hid (GoI w Ux1 (zG T RB WB wvv [D0]) nb1 (k) (fun k => k = AB) [] Ux1 ∧ Asked AB 0 Ux1 ∧ KpX (zG T RB WB wvv [D0]) E0 Ux1) := ⟨hst.1, hst.2.1, hst.2.2.1⟩
          have HN1 : Hid (¬ zG T RB WB wvv [D0] nb1 ∧ w.heap.size ≤ nb1 ∧ (∀ q, zG T RB WB wvv [D0] q → q < Ux1.heap.size) ∧ E0.heap.size = nb1 ∧ Ux1.heap.size = nb1 + 1) := ⟨fun h => by have := F41.out _ h; omega, by rw [← hnb]; exact f3.size, fun q h => by have := F41.out q h; omega, hnb, hUs⟩
          rw [hU, hnb]
          clear hU hnb hst hUs hZA f1 f2 f3
          go_wp2_with fail
          refine (wpIn_wide (n := 9)).1 ?_
          refine rangeAtP1 rfl (by omega) (gf := 44) (lb := #[]) rfl trivial (enters_of Try.func44 (by kernel_rfl) rfl)
            (F31.out Ux1 (HG1.out.2.2.mono (fun _ h => .inl h)) HG1.out.2.1) (fun _ _ _ _ _ h1 h2 h => asked_put h h1 h2) (asked_kept AB) (fun q hq => HN1.out.2.2.1 q (.inl hq)) (fun q hq => by have := HBD.out.2.1; have := HN1.out; have := F61.out; show q < Ux1.heap.size; rw [show q = AB from hq]; omega) (fun _ => rfl)
            (GoI w Ux1 (zG T RB WB wvv [D0]) nb1 k) (noX) ?abI1 ?abX1 HG1.out.1 ?a11 ?assign1 ?body1 ?done1 ?stop1
          case abI1 => exact goI_abide HN1.out.2.2.1
          case abX1 => exact noX_abide
          case assign1 =>
            intro l x W K hK
            dsimp only [verV]
            gi_wp2
            exact hK
          case body1 =>
            rintro l Y pre x W1 _ _ hYb hI hat hlen hpf
            obtain rfl : x = pre.length := by rw [show pre = List.range x from hpf, List.length_range]
            obtain ⟨i, hi⟩ : ∃ i, pre.length = i := ⟨_, rfl⟩
            rw [hi] at hat hlen ⊢
            have hn1 := hI.n
            rw [hi] at hn1
            have kz : KpX (zG T RB WB wvv [D0]) E0 W1 := HG1.out.2.2.trans hI.k
            have w1 : Boxed W1 WB 24 wvv := kz.own _ _ (.inr (.inr (.inl rfl))) F21.out.1
            have w2 := row_own F21.out.2 kz (fun g hg => .inr (.inr (.inr (.inl hg))))
            obtain ⟨g, c, hwv, hcell⟩ := own_thereR w2 (by omega)
            obtain ⟨v, hv⟩ : ∃ v, out.getD (goL ps next us (i + 1)) 0 = v := ⟨_, rfl⟩
            have e0 := hcell i _ (HVL.out i hlen)
            rw [hv] at e0
            have w0 : W1.cell? ⟨WB, 0, none⟩ = some (.slice (some ⟨g, 0, none⟩) k c) := by rw [← hwv]; exact w1.cell
            have n0 : W1.cell? ⟨nb1, 0, none⟩ = some (.int .i64 (i : Nat)) := hn1.cell
            have n1 : W1.frozen? ⟨nb1, 0, none⟩ = false := hn1.frozen
            have e9 : ((i + 1 : Nat) : Int) = (i : Int) + 1 := rfl
            have a0 : W1.cell? ⟨AB, 0, none⟩ = some (.int .i64 ((i : Int) + 1)) := by rw [← e9]; exact hat.cell
            have z1 : decide ((k : Int) ≤ (i : Int)) = false := decide_eq_false (by omega)
            have z2 : (0 : Int) ≤ (i : Int) := by omega
            have z3 : (i : Int) < (k : Int) := by omega
            have z4 : ((v : Int) != (v : Int)) = false := by simp
            have z5 : (((i : Int) + 1) != ((i : Int) + 1)) = false := by simp
            have hk8 := HBD.out.2.2.2.2.2.2
            rw [← List.getD_eq_getElem?_getD, hv]
            have hTY : ¬ orT T Y nb1 := fun h => h.elim hI.nY.1 (fun h => HN1.out.1 (.inl h))
            have HIH : Hid (GoI w Ux1 (zG T RB WB wvv [D0]) nb1 (k) Y pre W1 ∧ pre.length = i) := ⟨hI, hi⟩
            clear hI hat hn1 kz w1 w2 hcell hv hwv hpf hYb hi
            gi_wp2_with fail
            exact ⟨KpX.setCell hTY _, HIH.out.1.next HIH.out.2 (by omega) HN1.out.1 HN1.out.2.1 _⟩
          case stop1 =>
            rintro D Y c pre W1 _ _ _ hX
            exact hX.elim
          case done1 =>
            rintro D1 Y xs E1 hD hYD hS hI hE hK
            have hxl : xs.length = k := by rw [show xs = List.range k from hS, List.length_range]
            have hE' : Asked AB k E1 := by rw [← hxl]; exact hE
            have kz : KpX (zG T RB WB wvv [D0]) E0 E1 := HG1.out.2.2.trans hI.k
            have hkp := hI.kept
            have hsz := hI.k.size
            have hun := hI.n
            rw [hxl] at hun
            have F12 : Hid (Boxed E1 RB 4 (.bool false) ∧ Asked AB k E1 ∧ Kept [] w E1) := ⟨kz.own _ _ (.inr (.inl rfl)) F11.out.1, hE', hkp⟩
            have F22 : Hid (Boxed E1 WB 24 wvv ∧ E1.ownsRow W7.heap.size 60 1 wvv k (vdC L)) := ⟨kz.own _ _ (.inr (.inr (.inl rfl))) F21.out.1, row_own F21.out.2 kz (fun g hg => .inr (.inr (.inr (.inl hg))))⟩
            have F32 : Hid (∀ W, KpX T E1 W → Asked AB 0 W → GoesAtP Fence.wide (9 - 1) Try.prog 44 #[] (verV ps next out us) (fun i W => Asked AB (i + 1) W) T (fun k => k = AB) (upTo k) (upSome k) k (fun pre i => pre = List.range i) (fun xs W => Asked AB xs.length W) W) := fun W kk ha => F31.out W ((kz.mono (fun _ h => .inl h)).trans kk) ha
            have F42 : Hid (∀ q, zG T RB WB wvv [D1, D0] q → q < E1.heap.size) := fun q hq => by
              have hsz2 := kz.size
              rcases hq with h | h | h | h | h
              · have := F41.out q (.inl h); omega
              · have := F41.out q (.inr (.inl h)); omega
              · have := F41.out q (.inr (.inr (.inl h))); omega
              · have := F41.out q (.inr (.inr (.inr (.inl h)))); omega
              · rcases List.mem_cons.1 h with h | h
                · rw [h]; exact lt_of hK
                · have := F41.out q (.inr (.inr (.inr (.inr h)))); omega
            have F52 : Hid (∀ q ∈ [D1, D0], AB < q) := fun q hq => by
              rcases List.mem_cons.1 hq with h | h
              · have := HN1.out; have := F61.out; have := HBD.out; omega
              · exact F51.out q h
            have F62 : Hid (wr.heap.size ≤ E1.heap.size) := by have := F61.out; have := kz.size; show _ ≤ _; omega
            have F72 : Hid (∀ q ∈ [D1, D0], E1.heap[q]? = some (.deferred (some []))) := fun q hq => by
              rcases List.mem_cons.1 hq with h | h
              · rw [h]; exact hK
              · exact kz.own _ _ (.inr (.inr (.inr (.inr h)))) (F71.out q h)
            have HDD1 : Hid (Ux1.heap.size ≤ D1) := hD
            have c0 : E1.cell? ⟨nb1, 0, none⟩ = some (.int .i64 (k : Nat)) := hun.cell
            obtain ⟨wad, wc, hwf⟩ := own_formR F22.out.2
            have c1 : E1.cell? ⟨WB, 0, none⟩ = some (.slice wad k wc) := by rw [← hwf]; exact F22.out.1.cell
            have z4 : ((k : Int) != (k : Int)) = false := by simp
            clear hxl hE' kz hkp hsz hun hwf hI hE hS hK
            go_wp2_with fail
            rw [rounds_succ]
            clear c0 z4
            obtain ⟨hp1, _⟩ := pickN_lt (c := most) (n := k + 1) (by omega) hmost.1
            obtain ⟨pk, hpk⟩ : ∃ pk, pickN most (k + 1) = pk := ⟨_, rfl⟩
            have HPK : Hid (∀ W, Calls Try.prog 18 #[.int .i64 most, .int .i64 ((k : Int) + 1)] W fun e w' => e = .returned (.int .i64 (pk : Nat)) ∧ w' = W) := fun W => by
              have q := pick_any most (k + 1) W (by omega) (by have := HBD.out.2.2.2.2.2.2; omega) hmost
              rw [hpk] at q
              exact q
            rw [hpk] at hp1
            have hk9 := HBD.out.2.2.2.2.2.2
            obtain ⟨early, hear⟩ : ∃ early : Nat, 1 + pk = early := ⟨_, rfl⟩
            have he1 : 1 ≤ early := by omega
            have he2 : early ≤ k + 1 := by omega
            have hei : (1 : Int) + (pk : Int) = (early : Int) := by omega
            clear hpk hear
            go_upto_region 31 with (go_at_call 18; refine (HPK.out _).mono ?_; rintro e w1 ⟨rfl, hw1⟩; rw [hw1]; clear hw1)
            clear c1
            obtain ⟨E2, hE2⟩ : ∃ E2, E1.alloc (.cells #[.int .i64 (early : Nat)] 3) = E2 := ⟨_, rfl⟩
            obtain ⟨EB, hEB⟩ : ∃ EB, E1.heap.size = EB := ⟨_, rfl⟩
            have kE2 : Kept [] E1 E2 := by rw [← hE2]; exact (Kept.refl [] E1).alloc _
            have HEB : Hid (Boxed E2 EB 3 (.int .i64 (early : Nat))) := by show Boxed _ _ _ _; rw [← hE2, ← hEB]; exact al0 _ _
            have HKE : Hid (Kept [] E1 E2 ∧ E1.heap.size = EB) := ⟨kE2, hEB⟩
            have HD10 : Hid (D0 < D1) := by have h1 := F41.out D0 (.inr (.inr (.inr (.inr (by simp))))); have h2 := HN1.out; have h3 := HDD1.out; show _ < _; omega
            have F13 : Hid (Boxed E2 RB 4 (.bool false) ∧ Asked AB k E2 ∧ Kept [] w E2) := ⟨kE2.at F12.out.1 (by simp), kE2.at F12.out.2.1 (by simp), keptB F12.out.2.2 kE2⟩
            have F23 : Hid (Boxed E2 WB 24 wvv ∧ E2.ownsRow W7.heap.size 60 1 wvv k (vdC L)) := ⟨kE2.at F22.out.1 (by simp), bx_kept F22.out.2 kE2 (by simp)⟩
            have F33 : Hid (∀ W, KpX T E2 W → Asked AB 0 W → GoesAtP Fence.wide (9 - 1) Try.prog 44 #[] (verV ps next out us) (fun i W => Asked AB (i + 1) W) T (fun k => k = AB) (upTo k) (upSome k) k (fun pre i => pre = List.range i) (fun xs W => Asked AB xs.length W) W) := fun W kk ha => F32.out W ((KpX.of_kept kE2).trans kk) ha
            have F43 : Hid (∀ q, zG T RB WB wvv [EB, D1, D0] q → q < E2.heap.size) := fun q hq => by
              have hsz2 := kE2.size
              rcases hq with h | h | h | h | h
              · have := F42.out q (.inl h); omega
              · have := F42.out q (.inr (.inl h)); omega
              · have := F42.out q (.inr (.inr (.inl h))); omega
              · have := F42.out q (.inr (.inr (.inr (.inl h)))); omega
              · rcases List.mem_cons.1 h with h | h
                · rw [h]; exact HEB.out.lt
                · have := F42.out q (.inr (.inr (.inr (.inr h)))); omega
            have F53 : Hid (∀ q ∈ [EB, D1, D0], AB < q) := fun q hq => by
              rcases List.mem_cons.1 hq with h | h
              · have := HBD.out; have := F62.out; have := HKE.out.2; omega
              · exact F52.out q h
            have F63 : Hid (wr.heap.size ≤ E2.heap.size) := by have := F62.out; have := kE2.size; show _ ≤ _; omega
            have F73 : Hid (∀ q ∈ [D1, D0], E2.heap[q]? = some (.deferred (some []))) := fun q hq => kE2.at (F72.out q hq) (by simp)
            rw [hE2, hEB]
            clear hE2 hEB kE2 hp1 HPK
            obtain ⟨f1, f2, f3⟩ := F13.out
            have kA3 : Kept [] E2 (E2.alloc (.cells #[.int .i64 0] 3)) := (Kept.refl [] E2).alloc _
            have q1 : (E2.alloc (.cells #[.int .i64 0] 3)).cell? ⟨AB, 0, none⟩ = some _ := cell_kept0 kA3 f2.cell
            have q3 : Boxed (E2.alloc (.cells #[.int .i64 0] 3)) AB 3 _ := kA3.at f2 (by simp)
            have q2 : (E2.alloc (.cells #[.int .i64 0] 3)).frozen? ⟨AB, 0, none⟩ = false := q3.frozen
            go_upto_region 33 with fail
            clear q1 q2 q3 kA3
            obtain ⟨Ux3, hU⟩ : ∃ U, (E2.alloc (.cells #[.int .i64 0] 3)).setCell ⟨AB, 0, none⟩ (.int .i64 0) = U := ⟨_, rfl⟩
            obtain ⟨nb3, hnb⟩ : ∃ nb, E2.heap.size = nb := ⟨_, rfl⟩
            have hZA : ¬ zG T RB WB wvv [EB, D1, D0] AB := fun h => by
              have hbd := HBD.out
              have hds := F53.out
              rcases h with h | h | h | h | h
              · exact HTT.out.2 h
              · omega
              · omega
              · have := (hbd.2.2.2.2.2.1 AB h).1; omega
              · exact absurd rfl (Nat.ne_of_gt (hds AB h))
            have hst := goI_start (w := w) (Wx := E2) (Z := zG T RB WB wvv [EB, D1, D0]) (lim := early - 1) hU f2 hZA f3 HBD.out.1 (KpX.refl _ _)
            have hUs := hst.2.2.2
            rw [hnb] at hst hUs
            have HG3 : Hid (GoI w Ux3 (zG T RB WB wvv [EB, D1, D0]) nb3 (early - 1) (fun k => k = AB) [] Ux3 ∧ Asked AB 0 Ux3 ∧ KpX (zG T RB WB wvv [EB, D1, D0]) E2 Ux3) := ⟨hst.1, hst.2.1, hst.2.2.1⟩
            have HN3 : Hid (¬ zG T RB WB wvv [EB, D1, D0] nb3 ∧ w.heap.size ≤ nb3 ∧ (∀ q, zG T RB WB wvv [EB, D1, D0] q → q < Ux3.heap.size) ∧ E2.heap.size = nb3 ∧ Ux3.heap.size = nb3 + 1) := ⟨fun h => by have := F43.out _ h; omega, by rw [← hnb]; exact f3.size, fun q h => by have := F43.out q h; omega, hnb, hUs⟩
            rw [hU, hnb]
            clear hU hnb hst hUs hZA f1 f2 f3
            go_wp2_with fail
            refine (wpIn_wide (n := 9)).1 ?_
            refine rangeAtP1 rfl (by omega) (gf := 44) (lb := #[]) rfl trivial (enters_of Try.func44 (by kernel_rfl) rfl)
              (F33.out Ux3 (HG3.out.2.2.mono (fun _ h => .inl h)) HG3.out.2.1) (fun _ _ _ _ _ h1 h2 h => asked_put h h1 h2) (asked_kept AB) (fun q hq => HN3.out.2.2.1 q (.inl hq)) (fun q hq => by have := HBD.out.2.1; have := HN3.out; have := F63.out; show q < Ux3.heap.size; rw [show q = AB from hq]; omega) (fun _ => rfl)
              (GoI w Ux3 (zG T RB WB wvv [EB, D1, D0]) nb3 (early - 1)) (GoX w Ux3 (zG T RB WB wvv [EB, D1, D0]) nb3 early early 6) ?abI3 ?abX3 HG3.out.1 ?a13 ?assign3 ?body3 ?done3 ?stop3
            case abI3 => exact goI_abide HN3.out.2.2.1
            case abX3 => exact goX_abide HN3.out.2.2.1
            case assign3 =>
              intro l x W K hK
              dsimp only [verV]
              gi_wp2
              exact hK
            case body3 =>
              rintro l Y pre x W1 _ _ hYb hI hat hlen hpf
              obtain rfl : x = pre.length := by rw [show pre = List.range x from hpf, List.length_range]
              obtain ⟨i, hi⟩ : ∃ i, pre.length = i := ⟨_, rfl⟩
              rw [hi] at hat hlen ⊢
              have hn1 := hI.n
              rw [hi] at hn1
              have kz : KpX (zG T RB WB wvv [EB, D1, D0]) E2 W1 := HG3.out.2.2.trans hI.k
              have w1 : Boxed W1 WB 24 wvv := kz.own _ _ (.inr (.inr (.inl rfl))) F23.out.1
              have w2 := row_own F23.out.2 kz (fun g hg => .inr (.inr (.inr (.inl hg))))
              obtain ⟨g, c, hwv, hcell⟩ := own_thereR w2 (by omega)
              obtain ⟨v, hv⟩ : ∃ v, out.getD (goL ps next us (i + 1)) 0 = v := ⟨_, rfl⟩
              have e0 := hcell i _ (HVL.out i hlen)
              rw [hv] at e0
              have w0 : W1.cell? ⟨WB, 0, none⟩ = some (.slice (some ⟨g, 0, none⟩) k c) := by rw [← hwv]; exact w1.cell
              have n0 : W1.cell? ⟨nb3, 0, none⟩ = some (.int .i64 (i : Nat)) := hn1.cell
              have n1 : W1.frozen? ⟨nb3, 0, none⟩ = false := hn1.frozen
              have e9 : ((i + 1 : Nat) : Int) = (i : Int) + 1 := rfl
              have a0 : W1.cell? ⟨AB, 0, none⟩ = some (.int .i64 ((i : Int) + 1)) := by rw [← e9]; exact hat.cell
              have z1 : decide ((k : Int) ≤ (i : Int)) = false := decide_eq_false (by omega)
              have z2 : (0 : Int) ≤ (i : Int) := by omega
              have z3 : (i : Int) < (k : Int) := by omega
              have z4 : ((v : Int) != (v : Int)) = false := by simp
              have z5 : (((i : Int) + 1) != ((i : Int) + 1)) = false := by simp
              have hk8 := HBD.out.2.2.2.2.2.2
              rw [← List.getD_eq_getElem?_getD, hv]
              have hTY : ¬ orT T Y nb3 := fun h => h.elim hI.nY.1 (fun h => HN3.out.1 (.inl h))
              have HIH : Hid (GoI w Ux3 (zG T RB WB wvv [EB, D1, D0]) nb3 (early - 1) Y pre W1 ∧ pre.length = i) := ⟨hI, hi⟩
              clear hI hat hn1 kz w1 w2 hcell hv hwv hpf hYb hi
              have n2 : (W1.setCell ⟨nb3, 0, none⟩ (.int .i64 ((i : Int) + 1))).cell? ⟨nb3, 0, none⟩ = some (.int .i64 ((i : Int) + 1)) := (Boxed.set _ (HIH.out.2 ▸ HIH.out.1.n) : Boxed _ nb3 3 _).cell
              have kE : KpX (zG T RB WB wvv [EB, D1, D0]) E2 (W1.setCell ⟨nb3, 0, none⟩ (.int .i64 ((i : Int) + 1))) := HG3.out.2.2.trans (HIH.out.1.k.trans (KpX.setCell HN3.out.1 _))
              have hbE : Boxed (W1.setCell ⟨nb3, 0, none⟩ (.int .i64 ((i : Int) + 1))) EB 3 (.int .i64 (early : Nat)) := kE.own _ _ (.inr (.inr (.inr (.inr (by simp))))) HEB.out
              have b0 : (W1.setCell ⟨nb3, 0, none⟩ (.int .i64 ((i : Int) + 1))).cell? ⟨EB, 0, none⟩ = some (.int .i64 (early : Nat)) := hbE.cell
              by_cases hie : i + 1 = early
              · have z6 : (((i : Int) + 1) == (early : Int)) = true := by simp; omega
                have z7 : decide (((i : Int) + 1) = (early : Int)) = true := decide_eq_true (by omega)
                gi_wp2_with fail
                refine ⟨KpX.setCell hTY _, rfl, ?_, by rw [List.length_append, List.length_singleton, HIH.out.2, hie]⟩
                have hI2 : GoI w Ux3 (zG T RB WB wvv [EB, D1, D0]) nb3 early Y pre W1 := ⟨HIH.out.1.k, HIH.out.1.n, by have := HIH.out.1.few; omega, HIH.out.1.nY, HIH.out.1.kept⟩
                exact hI2.next HIH.out.2 (by omega) HN3.out.1 HN3.out.2.1 _
              · have z6 : (((i : Int) + 1) == (early : Int)) = false := by simp; omega
                have z7 : decide (((i : Int) + 1) = (early : Int)) = false := decide_eq_false (by omega)
                have hfew := HIH.out.1.few
                rw [HIH.out.2] at hfew
                gi_wp2_with fail
                exact ⟨KpX.setCell hTY _, HIH.out.1.next HIH.out.2 (by omega) HN3.out.1 HN3.out.2.1 _⟩
            case done3 =>
              rintro D3 Y xs E3 hD hYD hS hI hE hK
              have hxl : xs.length = k := by rw [show xs = List.range k from hS, List.length_range]
              have hfew := hI.few
              rw [hxl] at hfew
              have hek : early = k + 1 := by omega
              have hlt2 : (k : Int) < (early : Int) := by omega
              have kz : KpX (zG T RB WB wvv [EB, D1, D0]) E2 E3 := HG3.out.2.2.trans hI.k
              have hm1 : E3.heap[D1]? = some (.deferred (some [])) := kz.own _ _ (.inr (.inr (.inr (.inr (by simp))))) (F73.out D1 (by simp))
              have hm0 : E3.heap[D0]? = some (.deferred (some [])) := kz.own _ _ (.inr (.inr (.inr (.inr (by simp))))) (F73.out D0 (by simp))
              have hrb : Boxed E3 RB 4 (.bool false) := kz.own _ _ (.inr (.inl rfl)) F13.out.1
              have heb : Boxed E3 EB 3 (.int .i64 (early : Nat)) := kz.own _ _ (.inr (.inr (.inr (.inr (by simp))))) HEB.out
              have hwb : Boxed E3 WB 24 wvv := kz.own _ _ (.inr (.inr (.inl rfl))) F23.out.1
              have hkp := hI.kept
              have hnn := hI.n
              obtain ⟨wad, wc, hwf⟩ := own_formR F23.out.2
              have c1 : E3.cell? ⟨WB, 0, none⟩ = some (.slice wad k wc) := by rw [← hwf]; exact hwb.cell
              have c2 : E3.cell? ⟨EB, 0, none⟩ = some (.int .i64 (early : Nat)) := heb.cell
              have c3 : E3.cell? ⟨RB, 0, none⟩ = some (.bool false) := hrb.cell
              have c4 : E3.frozen? ⟨RB, 0, none⟩ = false := hrb.frozen
              have hDD : D3 ≠ D1 ∧ D3 ≠ D0 ∧ D1 ≠ D0 := by
                have h1 := HN3.out
                have h2 := F43.out D1 (.inr (.inr (.inr (.inr (by simp)))))
                have h3 := F43.out D0 (.inr (.inr (.inr (.inr (by simp)))))
                have h4 := HD10.out
                refine ⟨by omega, by omega, by omega⟩
              rw [hxl] at hnn
              have c0 : E3.cell? ⟨nb3, 0, none⟩ = some (.int .i64 (k : Nat)) := hnn.cell
              have hE' : Asked AB k E3 := by rw [← hxl]; exact hE
              have c5 : E3.cell? ⟨AB, 0, none⟩ = some (.int .i64 (k : Nat)) := hE'.cell
              have hk8 := HBD.out.2.2.2.2.2.2
              have HFIN : Hid (E3.heap[D3]? = some (.deferred (some [])) ∧ E3.heap[D1]? = some (.deferred (some [])) ∧ E3.heap[D0]? = some (.deferred (some [])) ∧ Boxed E3 RB 4 (.bool false) ∧ Kept [] w E3 ∧ (D3 ≠ D1 ∧ D3 ≠ D0 ∧ D1 ≠ D0) ∧ (w.heap.size ≤ D3 ∧ w.heap.size ≤ D1 ∧ w.heap.size ≤ D0)) := by
                have h1 := HN3.out
                have h2 := F53.out D1 (by simp)
                have h3 := F53.out D0 (by simp)
                have h4 := HBD.out
                exact ⟨hK, hm1, hm0, hrb, hkp, hDD, by omega, by omega, by omega⟩
              clear hek hei he1 he2 hfew hwf hxl kz hm1 hm0 hrb heb hwb hkp hnn hDD hE' hK hE hI hS hD hYD hk9
              obtain ⟨ez, hez⟩ : ∃ ez : Int, (early : Int) = ez := ⟨_, rfl⟩
              have hmin : min ez (k : Int) = (k : Int) := by omega
              rw [hez] at c2
              clear hlt2 hez
              go_wp2_with fail
              have kR : KpX (fun q => q ≠ RB) E3 (E3.setCell ⟨RB, 0, none⟩ (.bool true)) := KpX.setCell (by simp) _
              obtain ⟨m3, m1, m0, hb, hkp, hne, hw⟩ := HFIN.out
              have hx : ∀ D, E3.heap[D]? = some (.deferred (some [])) → D ≠ RB := fun D h e => by
                subst e
                rw [show E3.heap[D]? = _ from hb] at h
                cases h
              exact leaveG3 rfl (hb.set _) (kR.own _ _ (hx _ m3) m3) (kR.own _ _ (hx _ m1) m1) (kR.own _ _ (hx _ m0) m0) hne (hkp.setCell (.inr HRX.out.2.2.2) _) hw
            case stop3 =>
              rintro D3 Y c xs E3 hD hYD hS hX hE hK
              obtain ⟨rfl, hI, hxe⟩ := hX
              have hxk : xs.length ≤ k := by
                obtain ⟨j, hj, e⟩ := hS
                rw [e, List.length_range]
                exact hj
              have kz : KpX (zG T RB WB wvv [EB, D1, D0]) E2 E3 := HG3.out.2.2.trans hI.k
              have hm1 : E3.heap[D1]? = some (.deferred (some [])) := kz.own _ _ (.inr (.inr (.inr (.inr (by simp))))) (F73.out D1 (by simp))
              have hm0 : E3.heap[D0]? = some (.deferred (some [])) := kz.own _ _ (.inr (.inr (.inr (.inr (by simp))))) (F73.out D0 (by simp))
              have hrb : Boxed E3 RB 4 (.bool false) := kz.own _ _ (.inr (.inl rfl)) F13.out.1
              have heb : Boxed E3 EB 3 (.int .i64 (early : Nat)) := kz.own _ _ (.inr (.inr (.inr (.inr (by simp))))) HEB.out
              have hwb : Boxed E3 WB 24 wvv := kz.own _ _ (.inr (.inr (.inl rfl))) F23.out.1
              have hkp := hI.kept
              have hnn := hI.n
              obtain ⟨wad, wc, hwf⟩ := own_formR F23.out.2
              have c1 : E3.cell? ⟨WB, 0, none⟩ = some (.slice wad k wc) := by rw [← hwf]; exact hwb.cell
              have c2 : E3.cell? ⟨EB, 0, none⟩ = some (.int .i64 (early : Nat)) := heb.cell
              have c3 : E3.cell? ⟨RB, 0, none⟩ = some (.bool false) := hrb.cell
              have c4 : E3.frozen? ⟨RB, 0, none⟩ = false := hrb.frozen
              have hDD : D3 ≠ D1 ∧ D3 ≠ D0 ∧ D1 ≠ D0 := by
                have h1 := HN3.out
                have h2 := F43.out D1 (.inr (.inr (.inr (.inr (by simp)))))
                have h3 := F43.out D0 (.inr (.inr (.inr (.inr (by simp)))))
                have h4 := HD10.out
                refine ⟨by omega, by omega, by omega⟩
              rw [hxe] at hnn hxk
              have c0 : E3.cell? ⟨nb3, 0, none⟩ = some (.int .i64 (early : Nat)) := hnn.cell
              have hE' : Asked AB early E3 := by rw [← hxe]; exact hE
              have c5 : E3.cell? ⟨AB, 0, none⟩ = some (.int .i64 (early : Nat)) := hE'.cell
              have hk8 := HBD.out.2.2.2.2.2.2
              have HFIN : Hid (E3.heap[D3]? = some (.deferred (some [])) ∧ E3.heap[D1]? = some (.deferred (some [])) ∧ E3.heap[D0]? = some (.deferred (some [])) ∧ Boxed E3 RB 4 (.bool false) ∧ Kept [] w E3 ∧ (D3 ≠ D1 ∧ D3 ≠ D0 ∧ D1 ≠ D0) ∧ (w.heap.size ≤ D3 ∧ w.heap.size ≤ D1 ∧ w.heap.size ≤ D0)) := by
                have h1 := HN3.out
                have h2 := F53.out D1 (by simp)
                have h3 := F53.out D0 (by simp)
                have h4 := HBD.out
                exact ⟨hK, hm1, hm0, hrb, hkp, hDD, by omega, by omega, by omega⟩
              obtain ⟨ez, hez⟩ : ∃ ez : Int, (early : Int) = ez := ⟨_, rfl⟩
              have hmin : min ez (k : Int) = ez := by omega
              rw [hez] at c0 c2 c5
              clear hei he1 he2 hwf hxe hxk kz hm1 hm0 hrb heb hwb hkp hnn hDD hE' hK hE hI hS hD hYD hk9 hez
              refine (wpIn_wide (n := 9)).2 ?_
              go_wp2_with fail
              have kR : KpX (fun q => q ≠ RB) E3 (E3.setCell ⟨RB, 0, none⟩ (.bool true)) := KpX.setCell (by simp) _
              obtain ⟨m3, m1, m0, hb, hkp, hne, hw⟩ := HFIN.out
              have hx : ∀ D, E3.heap[D]? = some (.deferred (some [])) → D ≠ RB := fun D h e => by
                subst e
                rw [show E3.heap[D]? = _ from hb] at h
                cases h
              exact leaveG3 rfl (hb.set _) (kR.own _ _ (hx _ m3) m3) (kR.own _ _ (hx _ m1) m1) (kR.own _ _ (hx _ m0) m0) hne (hkp.setCell (.inr HRX.out.2.2.2) _) hw
  | true =>
    have HRT : Hid (rightM ps next out = true) := hb
    clear hb
    go_upto_region 8 with (go_at_call 16; refine Calls.mono (HAL.out true HRT.out) ?_; rintro e W4 ⟨HK4, htr, _⟩; obtain ⟨fb, lb, R, lo, N, fin, rfl, HIT⟩ := htr rfl; clear htr d0 d1 d2)
    obtain ⟨d0, d1, d2⟩ := HBI.out W4 HK4.out
    obtain ⟨c0, c1, c2, _⟩ := HC.out W4 (keptB HK3.out HK4.out)
    go_upto_region 9 with (go_at_call 10; refine (HWM.out W4 HK4.out).mono ?_; rintro e W5 ⟨rfl, k5⟩; have HK45 : Hid (Kept [] W4 W5) := k5; have HK5 : Hid (Kept [] W3 W5) := keptB HK4.out k5; clear k5 c0 c1 c2 d0 d1 d2)
    obtain ⟨d0, d1, d2⟩ := HBI.out W5 HK5.out
    go_upto_region 10 with (go_at_call 11; refine (HSM.out W5 HK5.out).mono ?_; rintro e W6 ⟨⟨vs, rfl⟩, k6⟩; have HK6 : Hid (Kept (b1 :: b3 :: b2 :: bs) W5 W6) := k6; clear k6 d0 d1 d2)
    have HV6 : Hid (Kept [] V W6) := (keptB HK3.out HK5.out).trans HK6.out (by simp) (fun f hf => .inr (by have := (HFS.out f hf).1; have := HKU.out.size; omega))
    go_upto_region 13 with fail
    obtain ⟨U2, hU2⟩ : ∃ U2, W6.alloc (.cells #[.slice none 0 0] 24) = U2 := ⟨_, rfl⟩
    obtain ⟨WB, hWB⟩ : ∃ WB, W6.heap.size = WB := ⟨_, rfl⟩
    have kU2 : Kept [] W6 U2 := by rw [← hU2]; exact (Kept.refl [] W6).alloc _
    have HWB : Hid (Boxed U2 WB 24 (.slice none 0 0) ∧ W6.heap.size = WB) := ⟨by rw [← hU2, ← hWB]; exact al0 _ _, hWB⟩
    have HKU2 : Hid (Kept [] V U2) := keptB HV6.out kU2
    have HK62 : Hid (Kept [] W6 U2) := kU2
    rw [hU2, hWB]
    clear hU2 hWB kU2
    obtain ⟨c0, c1, c2, c3, _⟩ := HC.out U2 HKU2.out
    go_upto_region 14 with (go_at_call 12; refine Calls.mono (HDW.out U2 HKU2.out true HRT.out) ?_; rintro e W7 ⟨HK7, htr, _⟩; obtain ⟨Q, rfl, HD, HQ⟩ := htr rfl; clear htr c0 c1 c2 c3)
    obtain ⟨c0, c1, c2, c3, _⟩ := HC.out W7 (keptB HKU2.out HK7.out)
    have HA6 : Hid (Asked AB 0 W6) := HK6.out.at (HK5.out.at HA3.out (by simp)) (fun hm => by have := (HFS.out AB hm).1; have := HAB.out.1.lt; omega)
    obtain ⟨hi, pd, nd, od, hD, hhi⟩ := HD.out
    have HMR : Hid (MachR ps next out) := machR_of HRT.out HOF.out
    have HZ : Hid (W6.heap.size ≤ WB ∧ WB < Q ∧ Q < hi ∧ hi ≤ W7.heap.size) := by
      have h1 := HWB.out.1.lt
      have h2 := HWB.out.2
      have h3 := HQ.out
      have h4 := hD.up
      exact ⟨by omega, by omega, h4, hhi⟩
    have HI0 : Hid (WantI W6 W7 W7 WB hi Q pd nd od ps next out us 0) := ⟨⟨.slice none 0 0, HK7.out.at HWB.out.1 (by simp), World.ownsRow_nil _ _ _ _⟩, hD, keptB HK62.out HK7.out, Nat.le_refl _⟩
    clear c0 c1 c2 c3 hD hhi
    go_upto_region 15 with fail
    go_loopw [16] (fun v wr => ∃ k : Nat, v = .int .i64 (k : Nat) ∧ k ≤ un ∧ Hid (WantI W6 W7 wr WB hi Q pd nd od ps next out us k)) (fun v _ => un - (intOf v).toNat)
    case atStart => exact ⟨0, rfl, Nat.zero_le _, HI0⟩
    case round =>
      obtain ⟨k, rfl, hk, HI⟩ := hrel
      have HKr : Hid (Kept [] V wr) := keptB HV6.out HI.out.k6
      obtain ⟨_, _, _, c3, _⟩ := HC.out wr HKr.out
      by_cases hlt : k < un
      · have q0 : (k : Int) < (un : Int) := by omega
        have q1 : (0 : Int) ≤ (k : Int) := by omega
        have q3 : decide ((k : Int) < (un : Int)) = true := decide_eq_true q0
        obtain ⟨b, o, c', hue, _, _, hud⟩ := (HM4.out V (Kept.refl [] V)).2.2.2.there (by rw [HUN.out]; omega)
        obtain ⟨x, hx⟩ : ∃ x, us.getD k 0 = x := ⟨_, rfl⟩
        have hxc := hud k (by rw [HUN.out]; exact hlt)
        rw [hx] at hxc
        have hx16 : x < 65536 := by
          have := HWF.out.2.2.2 x (by rw [← hx, List.getD_eq_getElem?_getD, List.getElem?_eq_getElem (by rw [HUN.out]; exact hlt)]; exact List.getElem_mem _)
          exact this
        rw [HUN.out] at hue
        cases hue
        obtain ⟨wv, hwb, hwo⟩ := HI.out.w
        obtain ⟨v, hv⟩ : ∃ v, out.getD (goL ps next us (k + 1)) 0 = v := ⟨_, rfl⟩
        have e1 : stepN ps next (goL ps next us k) x = goL ps next us (k + 1) := by rw [← hx]; rfl
        have HSD : Hid (Calls Try.prog 17 #[.pointer (some ⟨Q, 0, none⟩), .int .u16 (x : Nat)] wr.drew fun e w' => e = .returned (.int .u8 (v : Nat)) ∧ Hid (DocW w' hi Q pd nd od ps next out (goL ps next us (k + 1))) ∧ Hid (Kept [Q] wr.drew w')) := by
          have q := refStepW_any hi Q (goL ps next us k) x pd nd od ps next out wr.drew (HI.out.d.keptF (Kept.refl [] wr).drew (by simp)) HMR.out hx16
          rw [e1, hv] at q
          exact q
        have HSS : Hid (∀ W, Kept [] W6 W → W.cell? ⟨UB, 0, none⟩ = some (.slice (some ⟨b, o, none⟩) un uc) ∧ W.cell? ⟨b, o + k, none⟩ = some (.int .u16 (x : Nat))) := fun W kk => ⟨(HC.out W (keptB HV6.out kk)).2.2.2.1, cell_kept0 (keptB HV6.out kk) hxc⟩
        have HAP : Hid (∀ W2, DocW W2 hi Q pd nd od ps next out (goL ps next us (k + 1)) → Kept [Q] wr.drew W2 → ∃ (vad : Option Addr) (vc : Nat) (W3 W4 : World), Hid (∀ ty, (Builtin.append_ #[24, 24] ty #[wv, .slice (some ⟨W2.heap.size, 0, none⟩) 1 1]).run Try.prog (W2.alloc (.cells #[.int .u8 (v : Nat)] 60)) = .ok (.slice vad (k + 1) vc) W3) ∧ Hid (W3.setCell ⟨WB, 0, none⟩ (.slice vad (k + 1) vc) = W4) ∧ Hid ((fun Y => Y.cell? ⟨UB, 0, none⟩ = some (.slice (some ⟨b, o, none⟩) un uc) ∧ Y.cell? ⟨b, o + k, none⟩ = some (.int .u16 (x : Nat))) W2) ∧ Hid ((fun Y => Y.cell? ⟨UB, 0, none⟩ = some (.slice (some ⟨b, o, none⟩) un uc) ∧ Y.cell? ⟨b, o + k, none⟩ = some (.int .u16 (x : Nat))) (W2.alloc (.cells #[.int .u8 (v : Nat)] 60))) ∧
            Hid ((fun Y => Y.cell? ⟨UB, 0, none⟩ = some (.slice (some ⟨b, o, none⟩) un uc) ∧ Y.cell? ⟨b, o + k, none⟩ = some (.int .u16 (x : Nat))) W3 ∧ (fun Y => Y.cell? ⟨UB, 0, none⟩ = some (.slice (some ⟨b, o, none⟩) un uc) ∧ Y.cell? ⟨b, o + k, none⟩ = some (.int .u16 (x : Nat))) W4 ∧ W3.cell? ⟨WB, 0, none⟩ = some wv ∧ W3.frozen? ⟨WB, 0, none⟩ = false) ∧ Hid (W2.cell? ⟨WB, 0, none⟩ = some wv ∧ (W2.alloc (.cells #[.int .u8 (v : Nat)] 60)).cell? ⟨WB, 0, none⟩ = some wv) ∧ Hid (WantI W6 W7 W4 WB hi Q pd nd od ps next out us (k + 1))) := fun W2 hD2 kQ => want_step (Wd := wr.drew) _ HSS.out HI.out.k6.drew HI.out.k7 ((Kept.refl [] wr).drew.at hwb (by simp)) (bx_kept hwo (Kept.refl [] wr).drew (by simp)) hD2 kQ HZ.out (by omega) hv
        have hwb1 : Boxed wr.drew WB 24 wv := (Kept.refl [] wr).drew.at hwb (by simp)
        have HWB1 : Hid (wr.drew.cell? ⟨WB, 0, none⟩ = some wv) := hwb1.cell
        have HS1 : Hid ((fun Y => Y.cell? ⟨UB, 0, none⟩ = some (.slice (some ⟨b, o, none⟩) un uc) ∧ Y.cell? ⟨b, o + k, none⟩ = some (.int .u16 (x : Nat))) wr.drew) := HSS.out _ HI.out.k6.drew
        clear hud hx hxc hx16 hwb hwo hv e1 hwb1
        go_upto_region 17 with fail
        clear c3
        refine wp_regionHp (fun Y => Y.cell? ⟨UB, 0, none⟩ = some (.slice (some ⟨b, o, none⟩) un uc) ∧ Y.cell? ⟨b, o + k, none⟩ = some (.int .u16 (x : Nat))) (by kernel_rfl) ?_
        refine heldTakeHp 1 (some 69) (.pointer (some ⟨Q, 0, none⟩)) rfl rfl rfl (by kernel_rfl) (by kernel_rfl) (by kernel_rfl) (fun Y hY => ?_) HS1.out ?_
        · obtain ⟨y0, y1⟩ := hY
          go_simp
        simp only [Act.put, List.setIfInBounds_toArray, List.set_cons_zero, List.set_cons_succ]
        refine heldTakeHp 2 (some 70) (.slice (some ⟨b, o, none⟩) un uc) rfl rfl rfl (by kernel_rfl) (by kernel_rfl) (by kernel_rfl) (fun Y hY => ?_) HS1.out ?_
        · obtain ⟨y0, y1⟩ := hY
          go_simp
        simp only [Act.put, List.setIfInBounds_toArray, List.set_cons_zero, List.set_cons_succ]
        refine heldTakeHp 3 (some 71) (.int .i64 (k : Nat)) rfl rfl rfl (by kernel_rfl) (by kernel_rfl) (by kernel_rfl) (fun Y hY => ?_) HS1.out ?_
        · obtain ⟨y0, y1⟩ := hY
          go_simp
        simp only [Act.put, List.setIfInBounds_toArray, List.set_cons_zero, List.set_cons_succ]
        refine heldTakeHp 4 (some 72) (.pointer (some ⟨b, o + k, none⟩)) rfl rfl rfl (by kernel_rfl) (by kernel_rfl) (by kernel_rfl) (fun Y hY => ?_) HS1.out ?_
        · obtain ⟨y0, y1⟩ := hY
          go_simp
        simp only [Act.put, List.setIfInBounds_toArray, List.set_cons_zero, List.set_cons_succ]
        refine heldTakeHp 5 (some 73) (.int .u16 (x : Nat)) rfl rfl rfl (by kernel_rfl) (by kernel_rfl) (by kernel_rfl) (fun Y hY => ?_) HS1.out ?_
        · obtain ⟨y0, y1⟩ := hY
          go_simp
        simp only [Act.put, List.setIfInBounds_toArray, List.set_cons_zero, List.set_cons_succ]
        refine heldTwoHp 0 6 (by kernel_rfl) ?_ ?_
        · refine opValueHp (some 68) wv _ rfl rfl rfl ?_ ⟨HS1.out, ?_⟩
          · have y0 := HWB1.out
            go_simp
          simp only [Act.put, List.setIfInBounds_toArray, List.set_cons_zero, List.set_cons_succ]
          refine heldOneHp 6 (by kernel_rfl) ?_
          refine opCallHp (some 74) 17 #[.pointer (some ⟨Q, 0, none⟩), .int .u16 (x : Nat)] rfl rfl rfl ?_ ?_
          · go_simp
          refine Calls.mono HSD.out ?_
          rintro e W2 ⟨rfl, HD2, HK2⟩
          obtain ⟨vad, vc, W3, W4, HRUN, HW4, HS2, HS3, HS4, HWB2, HNX⟩ := HAP.out W2 HD2.out HK2.out
          refine ⟨_, rfl, HS2.out, ?_⟩
          simp only [Act.put, List.setIfInBounds_toArray, List.set_cons_zero, List.set_cons_succ]
          refine heldOneHp 7 (by kernel_rfl) ?_
          refine opValueHp (some 75) (.slice (some ⟨W2.heap.size, 0, none⟩) 1 1) (W2.alloc (.cells #[.int .u8 (v : Nat)] 60)) rfl rfl rfl ?_ ⟨HS3.out, ?_⟩
          · go_simp
          simp only [Act.put, List.setIfInBounds_toArray, List.set_cons_zero, List.set_cons_succ]
          refine heldOneHp 8 (by kernel_rfl) ?_
          refine opAppG (some 76) (.slice vad (k + 1) vc) W3 rfl rfl rfl rfl rfl rfl HRUN.out ⟨HS4.out.1, ?_⟩
          simp only [Act.put, List.setIfInBounds_toArray, List.set_cons_zero, List.set_cons_succ]
          refine heldOneHp 9 (by kernel_rfl) ?_
          refine opSkipHp W4 rfl rfl rfl ?_ ⟨HS4.out.2.1, ?_⟩
          · have y0 := HS4.out.2.2.1
            have y1 := HS4.out.2.2.2
            rw [← HW4.out]
            go_simp
          refine wpAnyH_done (by kernel_rfl) ?_ _
          simp only [Q1Hp]
          go_wp2
          go_roundw
          case rel => exact ⟨k + 1, by go_num, by omega, HNX⟩
          case measure => simp [intOf]; omega
        · refine opCallHp (some 74) 17 #[.pointer (some ⟨Q, 0, none⟩), .int .u16 (x : Nat)] rfl rfl rfl ?_ ?_
          · go_simp
          refine Calls.mono HSD.out ?_
          rintro e W2 ⟨rfl, HD2, HK2⟩
          obtain ⟨vad, vc, W3, W4, HRUN, HW4, HS2, HS3, HS4, HWB2, HNX⟩ := HAP.out W2 HD2.out HK2.out
          refine ⟨_, rfl, HS2.out, ?_⟩
          simp only [Act.put, List.setIfInBounds_toArray, List.set_cons_zero, List.set_cons_succ]
          refine heldTwoHp 0 7 (by kernel_rfl) ?_ ?_
          · refine opValueHp (some 68) wv _ rfl rfl rfl ?_ ⟨HS2.out, ?_⟩
            · have y0 := HWB2.out.1
              go_simp
            simp only [Act.put, List.setIfInBounds_toArray, List.set_cons_zero, List.set_cons_succ]
            refine heldOneHp 7 (by kernel_rfl) ?_
            refine opValueHp (some 75) (.slice (some ⟨W2.heap.size, 0, none⟩) 1 1) (W2.alloc (.cells #[.int .u8 (v : Nat)] 60)) rfl rfl rfl ?_ ⟨HS3.out, ?_⟩
            · go_simp
            simp only [Act.put, List.setIfInBounds_toArray, List.set_cons_zero, List.set_cons_succ]
            refine heldOneHp 8 (by kernel_rfl) ?_
            refine opAppG (some 76) (.slice vad (k + 1) vc) W3 rfl rfl rfl rfl rfl rfl HRUN.out ⟨HS4.out.1, ?_⟩
            simp only [Act.put, List.setIfInBounds_toArray, List.set_cons_zero, List.set_cons_succ]
            refine heldOneHp 9 (by kernel_rfl) ?_
            refine opSkipHp W4 rfl rfl rfl ?_ ⟨HS4.out.2.1, ?_⟩
            · have y0 := HS4.out.2.2.1
              have y1 := HS4.out.2.2.2
              rw [← HW4.out]
              go_simp
            refine wpAnyH_done (by kernel_rfl) ?_ _
            simp only [Q1Hp]
            go_wp2
            go_roundw
            case rel => exact ⟨k + 1, by go_num, by omega, HNX⟩
            case measure => simp [intOf]; omega
          · refine opValueHp (some 75) (.slice (some ⟨W2.heap.size, 0, none⟩) 1 1) (W2.alloc (.cells #[.int .u8 (v : Nat)] 60)) rfl rfl rfl ?_ ⟨HS3.out, ?_⟩
            · go_simp
            simp only [Act.put, List.setIfInBounds_toArray, List.set_cons_zero, List.set_cons_succ]
            refine heldOneHp 0 (by kernel_rfl) ?_
            refine opValueHp (some 68) wv _ rfl rfl rfl ?_ ⟨HS3.out, ?_⟩
            · have y0 := HWB2.out.2
              go_simp
            simp only [Act.put, List.setIfInBounds_toArray, List.set_cons_zero, List.set_cons_succ]
            refine heldOneHp 8 (by kernel_rfl) ?_
            refine opAppG (some 76) (.slice vad (k + 1) vc) W3 rfl rfl rfl rfl rfl rfl HRUN.out ⟨HS4.out.1, ?_⟩
            simp only [Act.put, List.setIfInBounds_toArray, List.set_cons_zero, List.set_cons_succ]
            refine heldOneHp 9 (by kernel_rfl) ?_
            refine opSkipHp W4 rfl rfl rfl ?_ ⟨HS4.out.2.1, ?_⟩
            · have y0 := HS4.out.2.2.1
              have y1 := HS4.out.2.2.2
              rw [← HW4.out]
              go_simp
            refine wpAnyH_done (by kernel_rfl) ?_ _
            simp only [Q1Hp]
            go_wp2
            go_roundw
            case rel => exact ⟨k + 1, by go_num, by omega, HNX⟩
            case measure => simp [intOf]; omega
      · obtain rfl : k = un := by omega
        have q0 : ¬ ((k : Int) < (k : Int)) := by omega
        have q3 : decide ((k : Int) < (k : Int)) = false := decide_eq_false q0
        obtain ⟨wvv, hwb, hwo⟩ := HI.out.w
        obtain ⟨h1, h2, h3, h4, h5, h6, h7, h8⟩ := HIT.out
        obtain ⟨L, hL⟩ : ∃ L, verL ps next out us k = L := ⟨_, rfl⟩
        obtain ⟨T, hTd⟩ : ∃ T : Nat → Prop, (fun q => q = fb ∨ q = lb ∨ q = R ∨ (lo ≤ q ∧ q < N) ∨ q = UB ∨ (0 < k ∧ ∃ o : Nat, ua = some ⟨q, o, none⟩)) = T := ⟨_, rfl⟩
        have s1 := HK4.out.size
        have s2 := HK45.out.size
        have s3 := HK6.out.size
        have s4 := HI.out.k6.size
        have s5 := HAB.out.1.lt
        have s6 := HBX.out.1.lt
        have s7 := HAB.out.2
        have s8 := HA3.out.lt
        have s9 := HK3.out.size
        have hRn := h3.high
        have hF : ∀ f ∈ b1 :: b3 :: b2 :: bs, f < W3.heap.size := fun f hf => (HFS.out f hf).2
        have hN3 : ∀ q, W3.heap.size ≤ q → q ∉ b1 :: b3 :: b2 :: bs := fun q hq hm => by have := hF q hm; omega
        have k46 : Kept (b1 :: b3 :: b2 :: bs) W4 W6 := HK45.out.trans HK6.out (by simp) (fun f hf => .inl hf)
        have kxr : Kept [] W6 wr := HI.out.k6
        have r6 : RunS W6 lo N R ps next out fin 0 := h3.keptF k46 (hN3 R (by omega)) (fun x hx => .inl (by have := hF x hx; omega))
        have f6 : Boxed W6 fb 32 (.pointer (some ⟨R, 0, none⟩)) := k46.at h1 (hN3 fb h4)
        have l6 : Boxed W6 lb 87 (.func (.func 15) #[] #[.pointer (some ⟨UB, 0, none⟩), .pointer (some ⟨AB, 0, none⟩)]) := k46.at h2 (hN3 lb h5)
        have HAA : Hid (AllAt T fb lb R lo N UB AB k us (.slice ua k uc) ps next out fin wr) := by
          show AllAt _ _ _ _ _ _ _ _ _ _ _ _ _ _ _ _
          rw [← hTd]
          refine ⟨kxr.at f6 (by simp), kxr.at l6 (by simp), r6.keptF kxr (by simp) (by simp), ⟨HKr.out.at HBX.out.1 (by simp), ?_, .inr (.inr (.inr (.inr (.inl rfl)))), HUN.out⟩, .inl rfl, .inr (.inl rfl), .inr (.inr (.inl rfl)), fun x hx1 hx2 => .inr (.inr (.inr (.inl ⟨hx1, hx2⟩)))⟩
          by_cases hk0 : 0 < k
          · obtain ⟨b, o, c, e1, _, _, e2⟩ := (HM4.out wr HKr.out).2.2.2.there (by rw [HUN.out]; exact hk0)
            rw [HUN.out] at e1
            cases e1
            exact .inr ⟨b, o, _, by rw [HUN.out], .inr (.inr (.inr (.inr (.inr ⟨hk0, o, rfl⟩)))), e2⟩
          · have hk1 : k = 0 := by omega
            exact .inl ⟨List.length_eq_zero_iff.1 (by rw [HUN.out]; exact hk1), ua, uc, by rw [hk1]⟩
        have hdat : ∀ q, (0 < k ∧ ∃ o : Nat, ua = some ⟨q, o, none⟩) → q < V.heap.size := fun q ⟨hk0, o, e⟩ => by
          obtain ⟨b, o', c, e1, _, _, e2⟩ := (HM4.out V (Kept.refl [] V)).2.2.2.there (by rw [HUN.out]; exact hk0)
          rw [e] at e1
          cases e1
          exact World.block_lt_of_cell? V _ (e2 0 (by rw [HUN.out]; exact hk0))
        have t6 := f6.lt
        have t7 := l6.lt
        have HTT : Hid ((∀ q, T q → q < wr.heap.size) ∧ ¬ T AB) := by
          rw [← hTd]
          refine ⟨?_, ?_⟩
          · rintro q (e | e | e | ⟨q1, q2⟩ | e | e)
            · omega
            · omega
            · omega
            · omega
            · omega
            · have := hdat q e; omega
          · rintro (e | e | e | ⟨q1, q2⟩ | e | e)
            · omega
            · omega
            · omega
            · omega
            · omega
            · have := hdat AB e; omega
        have HWV : Hid (Boxed wr WB 24 wvv ∧ wr.ownsRow W7.heap.size 60 1 wvv k (vdC L) ∧ L.length = k) := ⟨hwb, by rw [← hL]; exact hwo, by rw [← hL]; exact verL_len⟩
        have HVL : Hid (∀ i, i < k → (vdC L)[i]? = some (.int .u8 (out.getD (goL ps next us (i + 1)) 0 : Nat))) := fun i hi => by rw [← hL]; exact verL_at hi
        have HGO : Hid (∀ W, KpX T wr W → Asked AB 0 W → GoesAtP Fence.wide (9 - 1) Try.prog 45 #[.pointer (some ⟨fb, 0, none⟩), .pointer (some ⟨lb, 0, none⟩)] (verV ps next out us) (fun i W => Asked AB (i + 1) W) T (fun k => k = AB) (upTo k) (upSome k) k (fun pre i => pre = List.range i) (fun xs W => Asked AB xs.length W) W) := fun W kz ha => (all_goes9 T fb lb R lo N UB AB k us _ ps next out fin (by omega) HMR.out HWF.out.2.2.2 W (HAA.out.kpx kz) (fun q hq => by have := HTT.out.1 q hq; have := kz.size; omega) ha HTT.out.2).anyDepth _
        have HBD : Hid (w.heap.size ≤ AB ∧ AB < wr.heap.size ∧ RB < AB ∧ AB < WB ∧ WB < wr.heap.size ∧ (∀ g, wvv.ownBlock = some g → AB < g ∧ g < wr.heap.size) ∧ k ≤ 10000) := by
          have := HBX.out.2.1.lt
          have := HKV.out.size
          have := HZ.out
          have := hwb.lt
          exact ⟨by omega, by omega, by omega, by omega, by omega, fun g hg => ⟨by have := (bx_base hwo hg).1; omega, (bx_base hwo hg).2⟩, by omega⟩
        have HRX : Hid (Boxed wr RB 4 (.bool false) ∧ Asked AB 0 wr ∧ Kept [] w wr ∧ w.heap.size ≤ RB) := ⟨HKr.out.at HBX.out.2.1 (by simp), kxr.at HA6.out (by simp), keptB HKV.out HKr.out, HBX.out.2.2.1⟩
        clear h1 h2 h3 h4 h5 h6 h7 h8 hwb hwo hL hTd s1 s2 s3 s4 s5 s6 s7 s8 s9 hRn hF hN3 k46 kxr r6 f6 l6 hdat t6 t7
        go_upto_region 18 with fail
        clear c3 q3
        have F10 : Hid (Boxed wr RB 4 (.bool false) ∧ Asked AB 0 wr ∧ Kept [] w wr) := ⟨HRX.out.1, HRX.out.2.1, HRX.out.2.2.1⟩
        have F20 : Hid (Boxed wr WB 24 wvv ∧ wr.ownsRow W7.heap.size 60 1 wvv k (vdC L)) := ⟨HWV.out.1, HWV.out.2.1⟩
        have F30 : Hid (∀ W, KpX T wr W → Asked AB 0 W → GoesAtP Fence.wide (9 - 1) Try.prog 45 #[.pointer (some ⟨fb, 0, none⟩), .pointer (some ⟨lb, 0, none⟩)] (verV ps next out us) (fun i W => Asked AB (i + 1) W) T (fun k => k = AB) (upTo k) (upSome k) k (fun pre i => pre = List.range i) (fun xs W => Asked AB xs.length W) W) := HGO.out
        have F40 : Hid (∀ q, zG T RB WB wvv [] q → q < wr.heap.size) := fun q hq => by
          have hbd := HBD.out
          rcases hq with h | h | h | h | h
          · exact HTT.out.1 q h
          · omega
          · omega
          · exact (hbd.2.2.2.2.2.1 q h).2
          · cases h
        have F50 : Hid (∀ q ∈ ([] : List Nat), AB < q) := fun q hq => by cases hq
        have F60 : Hid (wr.heap.size ≤ wr.heap.size) := Nat.le_refl _
        have F70 : Hid (∀ q ∈ ([] : List Nat), wr.heap[q]? = some (.deferred (some []))) := fun q hq => by cases hq
        go_upto_region 19 with fail
        refine wp_loop_rounds 3 ?_
        rw [rounds_succ]
        obtain ⟨f1, f2, f3⟩ := F10.out
        have kA0 : Kept [] wr (wr.alloc (.cells #[.int .i64 0] 3)) := (Kept.refl [] wr).alloc _
        have q1 : (wr.alloc (.cells #[.int .i64 0] 3)).cell? ⟨AB, 0, none⟩ = some _ := cell_kept0 kA0 f2.cell
        have q3 : Boxed (wr.alloc (.cells #[.int .i64 0] 3)) AB 3 _ := kA0.at f2 (by simp)
        have q2 : (wr.alloc (.cells #[.int .i64 0] 3)).frozen? ⟨AB, 0, none⟩ = false := q3.frozen
        go_upto_region 23 with fail
        clear q1 q2 q3 kA0
        obtain ⟨Ux0, hU⟩ : ∃ U, (wr.alloc (.cells #[.int .i64 0] 3)).setCell ⟨AB, 0, none⟩ (.int .i64 0) = U := ⟨_, rfl⟩
        obtain ⟨nb0, hnb⟩ : ∃ nb, wr.heap.size = nb := ⟨_, rfl⟩
        have hZA : ¬ zG T RB WB wvv [] AB := fun h => by
          have hbd := HBD.out
          have hds := F50.out
          rcases h with h | h | h | h | h
          · exact HTT.out.2 h
          · omega
          · omega
          · have := (hbd.2.2.2.2.2.1 AB h).1; omega
          · exact absurd rfl (Nat.ne_of_gt (hds AB h))
        have hst := goI_start (w := w) (Wx := wr) (Z := zG T RB WB wvv []) (lim := k) hU f2 hZA f3 HBD.out.1 (KpX.refl _ _)
        have hUs := hst.2.2.2
        rw [hnb] at hst hUs
        have HG0 : Hid (GoI w Ux0 (zG T RB WB wvv []) nb0 (k) (fun k => k = AB) [] Ux0 ∧ Asked AB 0 Ux0 ∧ KpX (zG T RB WB wvv []) wr Ux0) := ⟨hst.1, hst.2.1, hst.2.2.1⟩
        have HN0 : Hid (¬ zG T RB WB wvv [] nb0 ∧ w.heap.size ≤ nb0 ∧ (∀ q, zG T RB WB wvv [] q → q < Ux0.heap.size) ∧ wr.heap.size = nb0 ∧ Ux0.heap.size = nb0 + 1) := ⟨fun h => by have := F40.out _ h; omega, by rw [← hnb]; exact f3.size, fun q h => by have := F40.out q h; omega, hnb, hUs⟩
        rw [hU, hnb]
        clear hU hnb hst hUs hZA f1 f2 f3
        go_wp2_with fail
        refine (wpIn_wide (n := 9)).1 ?_
        refine rangeAtP1 rfl (by omega) (gf := 45) (lb := #[.pointer (some ⟨fb, 0, none⟩), .pointer (some ⟨lb, 0, none⟩)]) rfl trivial (enters_of Try.func45 (by kernel_rfl) rfl)
          (F30.out Ux0 (HG0.out.2.2.mono (fun _ h => .inl h)) HG0.out.2.1) (fun _ _ _ _ _ h1 h2 h => asked_put h h1 h2) (asked_kept AB) (fun q hq => HN0.out.2.2.1 q (.inl hq)) (fun q hq => by have := HBD.out.2.1; have := HN0.out; have := F60.out; show q < Ux0.heap.size; rw [show q = AB from hq]; omega) (fun _ => rfl)
          (GoI w Ux0 (zG T RB WB wvv []) nb0 k) (noX) ?abI0 ?abX0 HG0.out.1 ?m10 ?assign0 ?body0 ?done0 ?stop0
        case abI0 => exact goI_abide HN0.out.2.2.1
        case abX0 => exact noX_abide
        case assign0 =>
          intro l x W K hK
          dsimp only [verV]
          gi_wp2
          exact hK
        case body0 =>
          rintro l Y pre x W1 _ _ hYb hI hat hlen hpf
          obtain rfl : x = pre.length := by rw [show pre = List.range x from hpf, List.length_range]
          obtain ⟨i, hi⟩ : ∃ i, pre.length = i := ⟨_, rfl⟩
          rw [hi] at hat hlen ⊢
          have hn1 := hI.n
          rw [hi] at hn1
          have kz : KpX (zG T RB WB wvv []) wr W1 := HG0.out.2.2.trans hI.k
          have w1 : Boxed W1 WB 24 wvv := kz.own _ _ (.inr (.inr (.inl rfl))) F20.out.1
          have w2 := row_own F20.out.2 kz (fun g hg => .inr (.inr (.inr (.inl hg))))
          obtain ⟨g, c, hwv, hcell⟩ := own_thereR w2 (by omega)
          obtain ⟨v, hv⟩ : ∃ v, out.getD (goL ps next us (i + 1)) 0 = v := ⟨_, rfl⟩
          have e0 := hcell i _ (HVL.out i hlen)
          rw [hv] at e0
          have w0 : W1.cell? ⟨WB, 0, none⟩ = some (.slice (some ⟨g, 0, none⟩) k c) := by rw [← hwv]; exact w1.cell
          have n0 : W1.cell? ⟨nb0, 0, none⟩ = some (.int .i64 (i : Nat)) := hn1.cell
          have n1 : W1.frozen? ⟨nb0, 0, none⟩ = false := hn1.frozen
          have e9 : ((i + 1 : Nat) : Int) = (i : Int) + 1 := rfl
          have a0 : W1.cell? ⟨AB, 0, none⟩ = some (.int .i64 ((i : Int) + 1)) := by rw [← e9]; exact hat.cell
          have z1 : decide ((k : Int) ≤ (i : Int)) = false := decide_eq_false (by omega)
          have z2 : (0 : Int) ≤ (i : Int) := by omega
          have z3 : (i : Int) < (k : Int) := by omega
          have z4 : ((v : Int) != (v : Int)) = false := by simp
          have z5 : (((i : Int) + 1) != ((i : Int) + 1)) = false := by simp
          have hk8 := HBD.out.2.2.2.2.2.2
          rw [← List.getD_eq_getElem?_getD, hv]
          have hTY : ¬ orT T Y nb0 := fun h => h.elim hI.nY.1 (fun h => HN0.out.1 (.inl h))
          have HIH : Hid (GoI w Ux0 (zG T RB WB wvv []) nb0 (k) Y pre W1 ∧ pre.length = i) := ⟨hI, hi⟩
          clear hI hat hn1 kz w1 w2 hcell hv hwv hpf hYb hi
          gi_wp2_with fail
          exact ⟨KpX.setCell hTY _, HIH.out.1.next HIH.out.2 (by omega) HN0.out.1 HN0.out.2.1 _⟩
        case stop0 =>
          rintro D Y c pre W1 _ _ _ hX
          exact hX.elim
        case done0 =>
          rintro D0 Y xs E0 hD hYD hS hI hE hK
          have hxl : xs.length = k := by rw [show xs = List.range k from hS, List.length_range]
          have hE' : Asked AB k E0 := by rw [← hxl]; exact hE
          have kz : KpX (zG T RB WB wvv []) wr E0 := HG0.out.2.2.trans hI.k
          have hkp := hI.kept
          have hsz := hI.k.size
          have hun := hI.n
          rw [hxl] at hun
          have F11 : Hid (Boxed E0 RB 4 (.bool false) ∧ Asked AB k E0 ∧ Kept [] w E0) := ⟨kz.own _ _ (.inr (.inl rfl)) F10.out.1, hE', hkp⟩
          have F21 : Hid (Boxed E0 WB 24 wvv ∧ E0.ownsRow W7.heap.size 60 1 wvv k (vdC L)) := ⟨kz.own _ _ (.inr (.inr (.inl rfl))) F20.out.1, row_own F20.out.2 kz (fun g hg => .inr (.inr (.inr (.inl hg))))⟩
          have F31 : Hid (∀ W, KpX T E0 W → Asked AB 0 W → GoesAtP Fence.wide (9 - 1) Try.prog 45 #[.pointer (some ⟨fb, 0, none⟩), .pointer (some ⟨lb, 0, none⟩)] (verV ps next out us) (fun i W => Asked AB (i + 1) W) T (fun k => k = AB) (upTo k) (upSome k) k (fun pre i => pre = List.range i) (fun xs W => Asked AB xs.length W) W) := fun W kk ha => F30.out W ((kz.mono (fun _ h => .inl h)).trans kk) ha
          have F41 : Hid (∀ q, zG T RB WB wvv [D0] q → q < E0.heap.size) := fun q hq => by
            have hsz2 := kz.size
            rcases hq with h | h | h | h | h
            · have := F40.out q (.inl h); omega
            · have := F40.out q (.inr (.inl h)); omega
            · have := F40.out q (.inr (.inr (.inl h))); omega
            · have := F40.out q (.inr (.inr (.inr (.inl h)))); omega
            · rcases List.mem_cons.1 h with h | h
              · rw [h]; exact lt_of hK
              · have := F40.out q (.inr (.inr (.inr (.inr h)))); omega
          have F51 : Hid (∀ q ∈ [D0], AB < q) := fun q hq => by
            rcases List.mem_cons.1 hq with h | h
            · have := HN0.out; have := F60.out; have := HBD.out; omega
            · exact F50.out q h
          have F61 : Hid (wr.heap.size ≤ E0.heap.size) := by have := F60.out; have := kz.size; show _ ≤ _; omega
          have F71 : Hid (∀ q ∈ [D0], E0.heap[q]? = some (.deferred (some []))) := fun q hq => by
            rcases List.mem_cons.1 hq with h | h
            · rw [h]; exact hK
            · exact kz.own _ _ (.inr (.inr (.inr (.inr h)))) (F70.out q h)
          have HDD0 : Hid (Ux0.heap.size ≤ D0) := hD
          have c0 : E0.cell? ⟨nb0, 0, none⟩ = some (.int .i64 (k : Nat)) := hun.cell
          obtain ⟨wad, wc, hwf⟩ := own_formR F21.out.2
          have c1 : E0.cell? ⟨WB, 0, none⟩ = some (.slice wad k wc) := by rw [← hwf]; exact F21.out.1.cell
          have z4 : ((k : Int) != (k : Int)) = false := by simp
          clear hxl hE' kz hkp hsz hun hwf hI hE hS hK
          go_wp2_with fail
          rw [rounds_succ]
          clear c0 c1 z4
          obtain ⟨f1, f2, f3⟩ := F11.out
          have kA1 : Kept [] E0 (E0.alloc (.cells #[.int .i64 0] 3)) := (Kept.refl [] E0).alloc _
          have q1 : (E0.alloc (.cells #[.int .i64 0] 3)).cell? ⟨AB, 0, none⟩ = some _ := cell_kept0 kA1 f2.cell
          have q3 : Boxed (E0.alloc (.cells #[.int .i64 0] 3)) AB 3 _ := kA1.at f2 (by simp)
          have q2 : (E0.alloc (.cells #[.int .i64 0] 3)).frozen? ⟨AB, 0, none⟩ = false := q3.frozen
          go_upto_region 23 with fail
          clear q1 q2 q3 kA1
          obtain ⟨Ux1, hU⟩ : ∃ U, (E0.alloc (.cells #[.int .i64 0] 3)).setCell ⟨AB, 0, none⟩ (.int .i64 0) = U := ⟨_, rfl⟩
          obtain ⟨nb1, hnb⟩ : ∃ nb, E0.heap.size = nb := ⟨_, rfl⟩
          have hZA : ¬ zG T RB WB wvv [D0] AB := fun h => by
            have hbd := HBD.out
            have hds := F51.out
            rcases h with h | h | h | h | h
            · exact HTT.out.2 h
            · omega
            · omega
            · have := (hbd.2.2.2.2.2.1 AB h).1; omega
            · exact absurd rfl (Nat.ne_of_gt (hds AB h))
          have hst := goI_start (w := w) (Wx := E0) (Z := zG T RB WB wvv [D0]) (lim := k) hU f2 hZA f3 HBD.out.1 (KpX.refl _ _)
          have hUs := hst.2.2.2
          rw [hnb] at hst hUs
          have HG1 : Hid (GoI w Ux1 (zG T RB WB wvv [D0]) nb1 (k) (fun k => k = AB) [] Ux1 ∧ Asked AB 0 Ux1 ∧ KpX (zG T RB WB wvv [D0]) E0 Ux1) := ⟨hst.1, hst.2.1, hst.2.2.1⟩
          have HN1 : Hid (¬ zG T RB WB wvv [D0] nb1 ∧ w.heap.size ≤ nb1 ∧ (∀ q, zG T RB WB wvv [D0] q → q < Ux1.heap.size) ∧ E0.heap.size = nb1 ∧ Ux1.heap.size = nb1 + 1) := ⟨fun h => by have := F41.out _ h; omega, by rw [← hnb]; exact f3.size, fun q h => by have := F41.out q h; omega, hnb, hUs⟩
          rw [hU, hnb]
          clear hU hnb hst hUs hZA f1 f2 f3
          go_wp2_with fail
          refine (wpIn_wide (n := 9)).1 ?_
          refine rangeAtP1 rfl (by omega) (gf := 45) (lb := #[.pointer (some ⟨fb, 0, none⟩), .pointer (some ⟨lb, 0, none⟩)]) rfl trivial (enters_of Try.func45 (by kernel_rfl) rfl)
            (F31.out Ux1 (HG1.out.2.2.mono (fun _ h => .inl h)) HG1.out.2.1) (fun _ _ _ _ _ h1 h2 h => asked_put h h1 h2) (asked_kept AB) (fun q hq => HN1.out.2.2.1 q (.inl hq)) (fun q hq => by have := HBD.out.2.1; have := HN1.out; have := F61.out; show q < Ux1.heap.size; rw [show q = AB from hq]; omega) (fun _ => rfl)
            (GoI w Ux1 (zG T RB WB wvv [D0]) nb1 k) (noX) ?abI1 ?abX1 HG1.out.1 ?m11 ?assign1 ?body1 ?done1 ?stop1
          case abI1 => exact goI_abide HN1.out.2.2.1
          case abX1 => exact noX_abide
          case assign1 =>
            intro l x W K hK
            dsimp only [verV]
            gi_wp2
            exact hK
          case body1 =>
            rintro l Y pre x W1 _ _ hYb hI hat hlen hpf
            obtain rfl : x = pre.length := by rw [show pre = List.range x from hpf, List.length_range]
            obtain ⟨i, hi⟩ : ∃ i, pre.length = i := ⟨_, rfl⟩
            rw [hi] at hat hlen ⊢
            have hn1 := hI.n
            rw [hi] at hn1
            have kz : KpX (zG T RB WB wvv [D0]) E0 W1 := HG1.out.2.2.trans hI.k
            have w1 : Boxed W1 WB 24 wvv := kz.own _ _ (.inr (.inr (.inl rfl))) F21.out.1
            have w2 := row_own F21.out.2 kz (fun g hg => .inr (.inr (.inr (.inl hg))))
            obtain ⟨g, c, hwv, hcell⟩ := own_thereR w2 (by omega)
            obtain ⟨v, hv⟩ : ∃ v, out.getD (goL ps next us (i + 1)) 0 = v := ⟨_, rfl⟩
            have e0 := hcell i _ (HVL.out i hlen)
            rw [hv] at e0
            have w0 : W1.cell? ⟨WB, 0, none⟩ = some (.slice (some ⟨g, 0, none⟩) k c) := by rw [← hwv]; exact w1.cell
            have n0 : W1.cell? ⟨nb1, 0, none⟩ = some (.int .i64 (i : Nat)) := hn1.cell
            have n1 : W1.frozen? ⟨nb1, 0, none⟩ = false := hn1.frozen
            have e9 : ((i + 1 : Nat) : Int) = (i : Int) + 1 := rfl
            have a0 : W1.cell? ⟨AB, 0, none⟩ = some (.int .i64 ((i : Int) + 1)) := by rw [← e9]; exact hat.cell
            have z1 : decide ((k : Int) ≤ (i : Int)) = false := decide_eq_false (by omega)
            have z2 : (0 : Int) ≤ (i : Int) := by omega
            have z3 : (i : Int) < (k : Int) := by omega
            have z4 : ((v : Int) != (v : Int)) = false := by simp
            have z5 : (((i : Int) + 1) != ((i : Int) + 1)) = false := by simp
            have hk8 := HBD.out.2.2.2.2.2.2
            rw [← List.getD_eq_getElem?_getD, hv]
            have hTY : ¬ orT T Y nb1 := fun h => h.elim hI.nY.1 (fun h => HN1.out.1 (.inl h))
            have HIH : Hid (GoI w Ux1 (zG T RB WB wvv [D0]) nb1 (k) Y pre W1 ∧ pre.length = i) := ⟨hI, hi⟩
            clear hI hat hn1 kz w1 w2 hcell hv hwv hpf hYb hi
            gi_wp2_with fail
            exact ⟨KpX.setCell hTY _, HIH.out.1.next HIH.out.2 (by omega) HN1.out.1 HN1.out.2.1 _⟩
          case stop1 =>
            rintro D Y c pre W1 _ _ _ hX
            exact hX.elim
          case done1 =>
            rintro D1 Y xs E1 hD hYD hS hI hE hK
            have hxl : xs.length = k := by rw [show xs = List.range k from hS, List.length_range]
            have hE' : Asked AB k E1 := by rw [← hxl]; exact hE
            have kz : KpX (zG T RB WB wvv [D0]) E0 E1 := HG1.out.2.2.trans hI.k
            have hkp := hI.kept
            have hsz := hI.k.size
            have hun := hI.n
            rw [hxl] at hun
            have F12 : Hid (Boxed E1 RB 4 (.bool false) ∧ Asked AB k E1 ∧ Kept [] w E1) := ⟨kz.own _ _ (.inr (.inl rfl)) F11.out.1, hE', hkp⟩
            have F22 : Hid (Boxed E1 WB 24 wvv ∧ E1.ownsRow W7.heap.size 60 1 wvv k (vdC L)) := ⟨kz.own _ _ (.inr (.inr (.inl rfl))) F21.out.1, row_own F21.out.2 kz (fun g hg => .inr (.inr (.inr (.inl hg))))⟩
            have F32 : Hid (∀ W, KpX T E1 W → Asked AB 0 W → GoesAtP Fence.wide (9 - 1) Try.prog 45 #[.pointer (some ⟨fb, 0, none⟩), .pointer (some ⟨lb, 0, none⟩)] (verV ps next out us) (fun i W => Asked AB (i + 1) W) T (fun k => k = AB) (upTo k) (upSome k) k (fun pre i => pre = List.range i) (fun xs W => Asked AB xs.length W) W) := fun W kk ha => F31.out W ((kz.mono (fun _ h => .inl h)).trans kk) ha
            have F42 : Hid (∀ q, zG T RB WB wvv [D1, D0] q → q < E1.heap.size) := fun q hq => by
              have hsz2 := kz.size
              rcases hq with h | h | h | h | h
              · have := F41.out q (.inl h); omega
              · have := F41.out q (.inr (.inl h)); omega
              · have := F41.out q (.inr (.inr (.inl h))); omega
              · have := F41.out q (.inr (.inr (.inr (.inl h)))); omega
              · rcases List.mem_cons.1 h with h | h
                · rw [h]; exact lt_of hK
                · have := F41.out q (.inr (.inr (.inr (.inr h)))); omega
            have F52 : Hid (∀ q ∈ [D1, D0], AB < q) := fun q hq => by
              rcases List.mem_cons.1 hq with h | h
              · have := HN1.out; have := F61.out; have := HBD.out; omega
              · exact F51.out q h
            have F62 : Hid (wr.heap.size ≤ E1.heap.size) := by have := F61.out; have := kz.size; show _ ≤ _; omega
            have F72 : Hid (∀ q ∈ [D1, D0], E1.heap[q]? = some (.deferred (some []))) := fun q hq => by
              rcases List.mem_cons.1 hq with h | h
              · rw [h]; exact hK
              · exact kz.own _ _ (.inr (.inr (.inr (.inr h)))) (F71.out q h)
            have HDD1 : Hid (Ux1.heap.size ≤ D1) := hD
            have c0 : E1.cell? ⟨nb1, 0, none⟩ = some (.int .i64 (k : Nat)) := hun.cell
            obtain ⟨wad, wc, hwf⟩ := own_formR F22.out.2
            have c1 : E1.cell? ⟨WB, 0, none⟩ = some (.slice wad k wc) := by rw [← hwf]; exact F22.out.1.cell
            have z4 : ((k : Int) != (k : Int)) = false := by simp
            clear hxl hE' kz hkp hsz hun hwf hI hE hS hK
            go_wp2_with fail
            rw [rounds_succ]
            clear c0 z4
            obtain ⟨hp1, _⟩ := pickN_lt (c := most) (n := k + 1) (by omega) hmost.1
            obtain ⟨pk, hpk⟩ : ∃ pk, pickN most (k + 1) = pk := ⟨_, rfl⟩
            have HPK : Hid (∀ W, Calls Try.prog 18 #[.int .i64 most, .int .i64 ((k : Int) + 1)] W fun e w' => e = .returned (.int .i64 (pk : Nat)) ∧ w' = W) := fun W => by
              have q := pick_any most (k + 1) W (by omega) (by have := HBD.out.2.2.2.2.2.2; omega) hmost
              rw [hpk] at q
              exact q
            rw [hpk] at hp1
            have hk9 := HBD.out.2.2.2.2.2.2
            obtain ⟨early, hear⟩ : ∃ early : Nat, 1 + pk = early := ⟨_, rfl⟩
            have he1 : 1 ≤ early := by omega
            have he2 : early ≤ k + 1 := by omega
            have hei : (1 : Int) + (pk : Int) = (early : Int) := by omega
            clear hpk hear
            go_upto_region 31 with (go_at_call 18; refine (HPK.out _).mono ?_; rintro e w1 ⟨rfl, hw1⟩; rw [hw1]; clear hw1)
            clear c1
            obtain ⟨E2, hE2⟩ : ∃ E2, E1.alloc (.cells #[.int .i64 (early : Nat)] 3) = E2 := ⟨_, rfl⟩
            obtain ⟨EB, hEB⟩ : ∃ EB, E1.heap.size = EB := ⟨_, rfl⟩
            have kE2 : Kept [] E1 E2 := by rw [← hE2]; exact (Kept.refl [] E1).alloc _
            have HEB : Hid (Boxed E2 EB 3 (.int .i64 (early : Nat))) := by show Boxed _ _ _ _; rw [← hE2, ← hEB]; exact al0 _ _
            have HKE : Hid (Kept [] E1 E2 ∧ E1.heap.size = EB) := ⟨kE2, hEB⟩
            have HD10 : Hid (D0 < D1) := by have h1 := F41.out D0 (.inr (.inr (.inr (.inr (by simp))))); have h2 := HN1.out; have h3 := HDD1.out; show _ < _; omega
            have F13 : Hid (Boxed E2 RB 4 (.bool false) ∧ Asked AB k E2 ∧ Kept [] w E2) := ⟨kE2.at F12.out.1 (by simp), kE2.at F12.out.2.1 (by simp), keptB F12.out.2.2 kE2⟩
            have F23 : Hid (Boxed E2 WB 24 wvv ∧ E2.ownsRow W7.heap.size 60 1 wvv k (vdC L)) := ⟨kE2.at F22.out.1 (by simp), bx_kept F22.out.2 kE2 (by simp)⟩
            have F33 : Hid (∀ W, KpX T E2 W → Asked AB 0 W → GoesAtP Fence.wide (9 - 1) Try.prog 45 #[.pointer (some ⟨fb, 0, none⟩), .pointer (some ⟨lb, 0, none⟩)] (verV ps next out us) (fun i W => Asked AB (i + 1) W) T (fun k => k = AB) (upTo k) (upSome k) k (fun pre i => pre = List.range i) (fun xs W => Asked AB xs.length W) W) := fun W kk ha => F32.out W ((KpX.of_kept kE2).trans kk) ha
            have F43 : Hid (∀ q, zG T RB WB wvv [EB, D1, D0] q → q < E2.heap.size) := fun q hq => by
              have hsz2 := kE2.size
              rcases hq with h | h | h | h | h
              · have := F42.out q (.inl h); omega
              · have := F42.out q (.inr (.inl h)); omega
              · have := F42.out q (.inr (.inr (.inl h))); omega
              · have := F42.out q (.inr (.inr (.inr (.inl h)))); omega
              · rcases List.mem_cons.1 h with h | h
                · rw [h]; exact HEB.out.lt
                · have := F42.out q (.inr (.inr (.inr (.inr h)))); omega
            have F53 : Hid (∀ q ∈ [EB, D1, D0], AB < q) := fun q hq => by
              rcases List.mem_cons.1 hq with h | h
              · have := HBD.out; have := F62.out; have := HKE.out.2; omega
              · exact F52.out q h
            have F63 : Hid (wr.heap.size ≤ E2.heap.size) := by have := F62.out; have := kE2.size; show _ ≤ _; omega
            have F73 : Hid (∀ q ∈ [D1, D0], E2.heap[q]? = some (.deferred (some []))) := fun q hq => kE2.at (F72.out q hq) (by simp)
            rw [hE2, hEB]
            clear hE2 hEB kE2 hp1 HPK
            obtain ⟨f1, f2, f3⟩ := F13.out
            have kA3 : Kept [] E2 (E2.alloc (.cells #[.int .i64 0] 3)) := (Kept.refl [] E2).alloc _
            have q1 : (E2.alloc (.cells #[.int .i64 0] 3)).cell? ⟨AB, 0, none⟩ = some _ := cell_kept0 kA3 f2.cell
            have q3 : Boxed (E2.alloc (.cells #[.int .i64 0] 3)) AB 3 _ := kA3.at f2 (by simp)
            have q2 : (E2.alloc (.cells #[.int .i64 0] 3)).frozen? ⟨AB, 0, none⟩ = false := q3.frozen
            go_upto_region 33 with fail
            clear q1 q2 q3 kA3
            obtain ⟨Ux3, hU⟩ : ∃ U, (E2.alloc (.cells #[.int .i64 0] 3)).setCell ⟨AB, 0, none⟩ (.int .i64 0) = U := ⟨_, rfl⟩
            obtain ⟨nb3, hnb⟩ : ∃ nb, E2.heap.size = nb := ⟨_, rfl⟩
            have hZA : ¬ zG T RB WB wvv [EB, D1, D0] AB := fun h => by
              have hbd := HBD.out
              have hds := F53.out
              rcases h with h | h | h | h | h
              · exact HTT.out.2 h
              · omega
              · omega
              · have := (hbd.2.2.2.2.2.1 AB h).1; omega
              · exact absurd rfl (Nat.ne_of_gt (hds AB h))
            have hst := goI_start (w := w) (Wx := E2) (Z := zG T RB WB wvv [EB, D1, D0]) (lim := early - 1) hU f2 hZA f3 HBD.out.1 (KpX.refl _ _)
            have hUs := hst.2.2.2
            rw [hnb] at hst hUs
            have HG3 : Hid (GoI w Ux3 (zG T RB WB wvv [EB, D1, D0]) nb3 (early - 1) (fun k => k = AB) [] Ux3 ∧ Asked AB 0 Ux3 ∧ KpX (zG T RB WB wvv [EB, D1, D0]) E2 Ux3) := ⟨hst.1, hst.2.1, hst.2.2.1⟩
            have HN3 : Hid (¬ zG T RB WB wvv [EB, D1, D0] nb3 ∧ w.heap.size ≤ nb3 ∧ (∀ q, zG T RB WB wvv [EB, D1, D0] q → q < Ux3.heap.size) ∧ E2.heap.size = nb3 ∧ Ux3.heap.size = nb3 + 1) := ⟨fun h => by have := F43.out _ h; omega, by rw [← hnb]; exact f3.size, fun q h => by have := F43.out q h; omega, hnb, hUs⟩
            rw [hU, hnb]
            clear hU hnb hst hUs hZA f1 f2 f3
            go_wp2_with fail
            refine (wpIn_wide (n := 9)).1 ?_
            refine rangeAtP1 rfl (by omega) (gf := 45) (lb := #[.pointer (some ⟨fb, 0, none⟩), .pointer (some ⟨lb, 0, none⟩)]) rfl trivial (enters_of Try.func45 (by kernel_rfl) rfl)
              (F33.out Ux3 (HG3.out.2.2.mono (fun _ h => .inl h)) HG3.out.2.1) (fun _ _ _ _ _ h1 h2 h => asked_put h h1 h2) (asked_kept AB) (fun q hq => HN3.out.2.2.1 q (.inl hq)) (fun q hq => by have := HBD.out.2.1; have := HN3.out; have := F63.out; show q < Ux3.heap.size; rw [show q = AB from hq]; omega) (fun _ => rfl)
              (GoI w Ux3 (zG T RB WB wvv [EB, D1, D0]) nb3 (early - 1)) (GoX w Ux3 (zG T RB WB wvv [EB, D1, D0]) nb3 early early 6) ?abI3 ?abX3 HG3.out.1 ?m13 ?assign3 ?body3 ?done3 ?stop3
            case abI3 => exact goI_abide HN3.out.2.2.1
            case abX3 => exact goX_abide HN3.out.2.2.1
            case assign3 =>
              intro l x W K hK
              dsimp only [verV]
              gi_wp2
              exact hK
            case body3 =>
              rintro l Y pre x W1 _ _ hYb hI hat hlen hpf
              obtain rfl : x = pre.length := by rw [show pre = List.range x from hpf, List.length_range]
              obtain ⟨i, hi⟩ : ∃ i, pre.length = i := ⟨_, rfl⟩
              rw [hi] at hat hlen ⊢
              have hn1 := hI.n
              rw [hi] at hn1
              have kz : KpX (zG T RB WB wvv [EB, D1, D0]) E2 W1 := HG3.out.2.2.trans hI.k
              have w1 : Boxed W1 WB 24 wvv := kz.own _ _ (.inr (.inr (.inl rfl))) F23.out.1
              have w2 := row_own F23.out.2 kz (fun g hg => .inr (.inr (.inr (.inl hg))))
              obtain ⟨g, c, hwv, hcell⟩ := own_thereR w2 (by omega)
              obtain ⟨v, hv⟩ : ∃ v, out.getD (goL ps next us (i + 1)) 0 = v := ⟨_, rfl⟩
              have e0 := hcell i _ (HVL.out i hlen)
              rw [hv] at e0
              have w0 : W1.cell? ⟨WB, 0, none⟩ = some (.slice (some ⟨g, 0, none⟩) k c) := by rw [← hwv]; exact w1.cell
              have n0 : W1.cell? ⟨nb3, 0, none⟩ = some (.int .i64 (i : Nat)) := hn1.cell
              have n1 : W1.frozen? ⟨nb3, 0, none⟩ = false := hn1.frozen
              have e9 : ((i + 1 : Nat) : Int) = (i : Int) + 1 := rfl
              have a0 : W1.cell? ⟨AB, 0, none⟩ = some (.int .i64 ((i : Int) + 1)) := by rw [← e9]; exact hat.cell
              have z1 : decide ((k : Int) ≤ (i : Int)) = false := decide_eq_false (by omega)
              have z2 : (0 : Int) ≤ (i : Int) := by omega
              have z3 : (i : Int) < (k : Int) := by omega
              have z4 : ((v : Int) != (v : Int)) = false := by simp
              have z5 : (((i : Int) + 1) != ((i : Int) + 1)) = false := by simp
              have hk8 := HBD.out.2.2.2.2.2.2
              rw [← List.getD_eq_getElem?_getD, hv]
              have hTY : ¬ orT T Y nb3 := fun h => h.elim hI.nY.1 (fun h => HN3.out.1 (.inl h))
              have HIH : Hid (GoI w Ux3 (zG T RB WB wvv [EB, D1, D0]) nb3 (early - 1) Y pre W1 ∧ pre.length = i) := ⟨hI, hi⟩
              clear hI hat hn1 kz w1 w2 hcell hv hwv hpf hYb hi
              have n2 : (W1.setCell ⟨nb3, 0, none⟩ (.int .i64 ((i : Int) + 1))).cell? ⟨nb3, 0, none⟩ = some (.int .i64 ((i : Int) + 1)) := (Boxed.set _ (HIH.out.2 ▸ HIH.out.1.n) : Boxed _ nb3 3 _).cell
              have kE : KpX (zG T RB WB wvv [EB, D1, D0]) E2 (W1.setCell ⟨nb3, 0, none⟩ (.int .i64 ((i : Int) + 1))) := HG3.out.2.2.trans (HIH.out.1.k.trans (KpX.setCell HN3.out.1 _))
              have hbE : Boxed (W1.setCell ⟨nb3, 0, none⟩ (.int .i64 ((i : Int) + 1))) EB 3 (.int .i64 (early : Nat)) := kE.own _ _ (.inr (.inr (.inr (.inr (by simp))))) HEB.out
              have b0 : (W1.setCell ⟨nb3, 0, none⟩ (.int .i64 ((i : Int) + 1))).cell? ⟨EB, 0, none⟩ = some (.int .i64 (early : Nat)) := hbE.cell
              by_cases hie : i + 1 = early
              · have z6 : (((i : Int) + 1) == (early : Int)) = true := by simp; omega
                have z7 : decide (((i : Int) + 1) = (early : Int)) = true := decide_eq_true (by omega)
                gi_wp2_with fail
                refine ⟨KpX.setCell hTY _, rfl, ?_, by rw [List.length_append, List.length_singleton, HIH.out.2, hie]⟩
                have hI2 : GoI w Ux3 (zG T RB WB wvv [EB, D1, D0]) nb3 early Y pre W1 := ⟨HIH.out.1.k, HIH.out.1.n, by have := HIH.out.1.few; omega, HIH.out.1.nY, HIH.out.1.kept⟩
                exact hI2.next HIH.out.2 (by omega) HN3.out.1 HN3.out.2.1 _
              · have z6 : (((i : Int) + 1) == (early : Int)) = false := by simp; omega
                have z7 : decide (((i : Int) + 1) = (early : Int)) = false := decide_eq_false (by omega)
                have hfew := HIH.out.1.few
                rw [HIH.out.2] at hfew
                gi_wp2_with fail
                exact ⟨KpX.setCell hTY _, HIH.out.1.next HIH.out.2 (by omega) HN3.out.1 HN3.out.2.1 _⟩
            case done3 =>
              rintro D3 Y xs E3 hD hYD hS hI hE hK
              have hxl : xs.length = k := by rw [show xs = List.range k from hS, List.length_range]
              have hfew := hI.few
              rw [hxl] at hfew
              have hek : early = k + 1 := by omega
              have hlt2 : (k : Int) < (early : Int) := by omega
              have kz : KpX (zG T RB WB wvv [EB, D1, D0]) E2 E3 := HG3.out.2.2.trans hI.k
              have hm1 : E3.heap[D1]? = some (.deferred (some [])) := kz.own _ _ (.inr (.inr (.inr (.inr (by simp))))) (F73.out D1 (by simp))
              have hm0 : E3.heap[D0]? = some (.deferred (some [])) := kz.own _ _ (.inr (.inr (.inr (.inr (by simp))))) (F73.out D0 (by simp))
              have hrb : Boxed E3 RB 4 (.bool false) := kz.own _ _ (.inr (.inl rfl)) F13.out.1
              have heb : Boxed E3 EB 3 (.int .i64 (early : Nat)) := kz.own _ _ (.inr (.inr (.inr (.inr (by simp))))) HEB.out
              have hwb : Boxed E3 WB 24 wvv := kz.own _ _ (.inr (.inr (.inl rfl))) F23.out.1
              have hkp := hI.kept
              have hnn := hI.n
              obtain ⟨wad, wc, hwf⟩ := own_formR F23.out.2
              have c1 : E3.cell? ⟨WB, 0, none⟩ = some (.slice wad k wc) := by rw [← hwf]; exact hwb.cell
              have c2 : E3.cell? ⟨EB, 0, none⟩ = some (.int .i64 (early : Nat)) := heb.cell
              have c3 : E3.cell? ⟨RB, 0, none⟩ = some (.bool false) := hrb.cell
              have c4 : E3.frozen? ⟨RB, 0, none⟩ = false := hrb.frozen
              have hDD : D3 ≠ D1 ∧ D3 ≠ D0 ∧ D1 ≠ D0 := by
                have h1 := HN3.out
                have h2 := F43.out D1 (.inr (.inr (.inr (.inr (by simp)))))
                have h3 := F43.out D0 (.inr (.inr (.inr (.inr (by simp)))))
                have h4 := HD10.out
                refine ⟨by omega, by omega, by omega⟩
              rw [hxl] at hnn
              have c0 : E3.cell? ⟨nb3, 0, none⟩ = some (.int .i64 (k : Nat)) := hnn.cell
              have hE' : Asked AB k E3 := by rw [← hxl]; exact hE
              have c5 : E3.cell? ⟨AB, 0, none⟩ = some (.int .i64 (k : Nat)) := hE'.cell
              have hk8 := HBD.out.2.2.2.2.2.2
              have HFIN : Hid (E3.heap[D3]? = some (.deferred (some [])) ∧ E3.heap[D1]? = some (.deferred (some [])) ∧ E3.heap[D0]? = some (.deferred (some [])) ∧ Boxed E3 RB 4 (.bool false) ∧ Kept [] w E3 ∧ (D3 ≠ D1 ∧ D3 ≠ D0 ∧ D1 ≠ D0) ∧ (w.heap.size ≤ D3 ∧ w.heap.size ≤ D1 ∧ w.heap.size ≤ D0)) := by
                have h1 := HN3.out
                have h2 := F53.out D1 (by simp)
                have h3 := F53.out D0 (by simp)
                have h4 := HBD.out
                exact ⟨hK, hm1, hm0, hrb, hkp, hDD, by omega, by omega, by omega⟩
              clear hek hei he1 he2 hfew hwf hxl kz hm1 hm0 hrb heb hwb hkp hnn hDD hE' hK hE hI hS hD hYD hk9
              obtain ⟨ez, hez⟩ : ∃ ez : Int, (early : Int) = ez := ⟨_, rfl⟩
              have hmin : min ez (k : Int) = (k : Int) := by omega
              rw [hez] at c2
              clear hlt2 hez
              go_wp2_with fail
              have kR : KpX (fun q => q ≠ RB) E3 (E3.setCell ⟨RB, 0, none⟩ (.bool true)) := KpX.setCell (by simp) _
              obtain ⟨m3, m1, m0, hb, hkp, hne, hw⟩ := HFIN.out
              have hx : ∀ D, E3.heap[D]? = some (.deferred (some [])) → D ≠ RB := fun D h e => by
                subst e
                rw [show E3.heap[D]? = _ from hb] at h
                cases h
              exact leaveG3 rfl (hb.set _) (kR.own _ _ (hx _ m3) m3) (kR.own _ _ (hx _ m1) m1) (kR.own _ _ (hx _ m0) m0) hne (hkp.setCell (.inr HRX.out.2.2.2) _) hw
            case stop3 =>
              rintro D3 Y c xs E3 hD hYD hS hX hE hK
              obtain ⟨rfl, hI, hxe⟩ := hX
              have hxk : xs.length ≤ k := by
                obtain ⟨j, hj, e⟩ := hS
                rw [e, List.length_range]
                exact hj
              have kz : KpX (zG T RB WB wvv [EB, D1, D0]) E2 E3 := HG3.out.2.2.trans hI.k
              have hm1 : E3.heap[D1]? = some (.deferred (some [])) := kz.own _ _ (.inr (.inr (.inr (.inr (by simp))))) (F73.out D1 (by simp))
              have hm0 : E3.heap[D0]? = some (.deferred (some [])) := kz.own _ _ (.inr (.inr (.inr (.inr (by simp))))) (F73.out D0 (by simp))
              have hrb : Boxed E3 RB 4 (.bool false) := kz.own _ _ (.inr (.inl rfl)) F13.out.1
              have heb : Boxed E3 EB 3 (.int .i64 (early : Nat)) := kz.own _ _ (.inr (.inr (.inr (.inr (by simp))))) HEB.out
              have hwb : Boxed E3 WB 24 wvv := kz.own _ _ (.inr (.inr (.inl rfl))) F23.out.1
              have hkp := hI.kept
              have hnn := hI.n
              obtain ⟨wad, wc, hwf⟩ := own_formR F23.out.2
              have c1 : E3.cell? ⟨WB, 0, none⟩ = some (.slice wad k wc) := by rw [← hwf]; exact hwb.cell
              have c2 : E3.cell? ⟨EB, 0, none⟩ = some (.int .i64 (early : Nat)) := heb.cell
              have c3 : E3.cell? ⟨RB, 0, none⟩ = some (.bool false) := hrb.cell
              have c4 : E3.frozen? ⟨RB, 0, none⟩ = false := hrb.frozen
              have hDD : D3 ≠ D1 ∧ D3 ≠ D0 ∧ D1 ≠ D0 := by
                have h1 := HN3.out
                have h2 := F43.out D1 (.inr (.inr (.inr (.inr (by simp)))))
                have h3 := F43.out D0 (.inr (.inr (.inr (.inr (by simp)))))
                have h4 := HD10.out
                refine ⟨by omega, by omega, by omega⟩
              rw [hxe] at hnn hxk
              have c0 : E3.cell? ⟨nb3, 0, none⟩ = some (.int .i64 (early : Nat)) := hnn.cell
              have hE' : Asked AB early E3 := by rw [← hxe]; exact hE
              have c5 : E3.cell? ⟨AB, 0, none⟩ = some (.int .i64 (early : Nat)) := hE'.cell
              have hk8 := HBD.out.2.2.2.2.2.2
              have HFIN : Hid (E3.heap[D3]? = some (.deferred (some [])) ∧ E3.heap[D1]? = some (.deferred (some [])) ∧ E3.heap[D0]? = some (.deferred (some [])) ∧ Boxed E3 RB 4 (.bool false) ∧ Kept [] w E3 ∧ (D3 ≠ D1 ∧ D3 ≠ D0 ∧ D1 ≠ D0) ∧ (w.heap.size ≤ D3 ∧ w.heap.size ≤ D1 ∧ w.heap.size ≤ D0)) := by
                have h1 := HN3.out
                have h2 := F53.out D1 (by simp)
                have h3 := F53.out D0 (by simp)
                have h4 := HBD.out
                exact ⟨hK, hm1, hm0, hrb, hkp, hDD, by omega, by omega, by omega⟩
              obtain ⟨ez, hez⟩ : ∃ ez : Int, (early : Int) = ez := ⟨_, rfl⟩
              have hmin : min ez (k : Int) = ez := by omega
              rw [hez] at c0 c2 c5
              clear hei he1 he2 hwf hxe hxk kz hm1 hm0 hrb heb hwb hkp hnn hDD hE' hK hE hI hS hD hYD hk9 hez
              refine (wpIn_wide (n := 9)).2 ?_
              go_wp2_with fail
              have kR : KpX (fun q => q ≠ RB) E3 (E3.setCell ⟨RB, 0, none⟩ (.bool true)) := KpX.setCell (by simp) _
              obtain ⟨m3, m1, m0, hb, hkp, hne, hw⟩ := HFIN.out
              have hx : ∀ D, E3.heap[D]? = some (.deferred (some [])) → D ≠ RB := fun D h e => by
                subst e
                rw [show E3.heap[D]? = _ from hb] at h
                cases h
              exact leaveG3 rfl (hb.set _) (kR.own _ _ (hx _ m3) m3) (kR.own _ _ (hx _ m1) m1) (kR.own _ _ (hx _ m0) m0) hne (hkp.setCell (.inr HRX.out.2.2.2) _) hw
end Go.Proofs.Ytbbfajbnklgncaa
