/- WordsOnce: the walk. -/
import Derived.Test.YtgbmfclboliliaaDoorWdOnceI
import Derived.Deep.CutRange
import Derived.Deep.RegionHeld3
namespace Go.Proofs.YtgbmfclboliliaaDoor
open Go.RowKit Go.Shelf
attribute [local go_sem] Oper.semAt_some

theorem all01 : allW 0 1 = [⟨[], [0]⟩] := by kernel_rfl
theorem all_zero {n : Nat} {r : Wd} (h : 1 ≤ n) : r ∈ allW 0 1 ↔ r ∈ allW 0 n := by
  rw [mem_all, mem_all]
  constructor
  · rintro ⟨h1, h2, h3, h4⟩
    exact ⟨h1, h2, h3, by omega⟩
  · rintro ⟨h1, h2, h3, _⟩
    refine ⟨h1, h2, h3, ?_⟩
    have hz : ∀ i, r.at i = 0 := fun i => by have := at_below h1.1 h2 h3 i; omega
    have hin : (⟨[], [0]⟩ : Wd) ∈ allW 0 1 := by rw [all01]; simp
    have hone : (⟨[], [0]⟩ : Wd).Norm := ((mem_all (props := 0) (size := 1)).1 hin).1
    have e : r = ⟨[], [0]⟩ := Wd.Norm.unique h1 hone (fun i => by
      rw [hz]
      unfold Wd.at
      simp [Nat.mod_one])
    rw [e]; decide
theorem leaveO {n : Nat} {W : World} {B D : Nat} {b : Bool} {R : Ending → World → Prop} {tmps : Array Value} (p6 : tmps[6]?.getD undef = .pointer (some ⟨B, 0, none⟩)) (bb : Boxed W B 4 (.bool b)) (hK : W.heap[D]? = some (.deferred (some []))) (hR : R (.returned (.bool b)) (W.putObj D (.deferred none))) :
    bodyPostM Fence.wide n Tryd.prog Tryd.f5 R .ret { tmps := tmps, defers := [{ target := .collected D, args := #[] }] } W := by
  have bb' : Boxed (W.putObj D (.deferred none)) B 4 (.bool b) := (World.putObj_heap_other (fun e => by subst e; rw [show W.heap[B]? = _ from bb] at hK; cases hK)).trans bb
  have c := bb'.cell
  refine ⟨by simp, .inl ⟨_, _, rfl, run_takeDeferred hK, ⟨.bool b, ?_, hR⟩⟩⟩
  simp [results, Tryd.f5, go_sem, p6, c]
theorem found_false {r : Wd} {pre : List Nw} {x : Nw} {isb : Bool} (hf : inB r (pre.map Nw.q) = false) (hi : eqW x.q r = isb) : isb = inB r ((pre ++ [x]).map Nw.q) := by
  rw [mem_snoc, hf, hi]; simp
theorem found_true {r : Wd} {pre : List Nw} {x : Nw} (hf : inB r (pre.map Nw.q) = true) : true = inB r ((pre ++ [x]).map Nw.q) := by
  rw [mem_snoc, hf]; simp
theorem norm_own {q : Wd} (h : q.Norm) : NormOf q q := ⟨fun e => by have := h.1; rw [e] at this; simp at this, fun _ => ⟨h, fun _ => rfl⟩⟩
theorem normOf_one' {q r r' : Wd} (h : NormOf q r) (h' : NormOf q r') : r = r' := by
  by_cases h0 : q.loop = []
  · rw [h.1 h0, h'.1 h0]
  · exact Wd.Norm.unique (h.2 h0).1 (h'.2 h0).1 (fun i => by rw [(h.2 h0).2, (h'.2 h0).2])
theorem normal_it (sv lv : Value) (q : Wd) (w : World) (hs : Lets w sv q.stem) (hl : Lets w lv q.loop) : Calls Tryd.prog 10 #[.agg #[sv, lv]] w fun e W' => ∃ r a1 n1 c1 a2 n2 c2, e = .returned (.agg #[.slice a1 n1 c1, .slice a2 n2 c2]) ∧ Hid (NewW w.heap.size W' (.slice a1 n1 c1) (.slice a2 n2 c2) r) ∧ Hid (NormOf q r) ∧ Hid (Kept [] w W') := by
  have f1 := hs.few
  have f2 := hl.few
  refine (normal_anyB sv lv q w hs hl (by omega)).mono ?_
  rintro e W' ⟨s, l, r, rfl, hn, ho, k⟩
  obtain ⟨a1, c1, rfl⟩ := own_form hn.own1
  obtain ⟨a2, c2, rfl⟩ := own_form hn.own2
  exact ⟨r, _, _, _, _, _, _, rfl, hn, ho, k⟩
theorem norm_few' {q r : Wd} {n : Nat} (h : NormOf q r) (hn : q.stem.length + q.loop.length ≤ n) : r.stem.length + r.loop.length ≤ n := by
  by_cases h0 : q.loop = []
  · rw [h.1 h0]; simp
  · obtain ⟨n1, n2⟩ := h.2 h0
    obtain ⟨s1, s2⟩ := norm_small n1 (List.length_pos_iff.2 h0) n2
    omega
theorem check_small {q : Wd} {k : Nat} (h0 : 0 < q.loop.length) (h1 : ∀ c ∈ q.stem, c < 2 ^ k) (h2 : ∀ c ∈ q.loop, c < 2 ^ k) (hk : k ≤ 8) : checkE q (k : Int) = 0 := by
  unfold checkE anyGreat
  rw [if_neg (by omega), if_neg]
  rintro (hx | hx | hx)
  · omega
  · obtain ⟨c, hc, hx⟩ := List.any_eq_true.1 hx
    have := h1 c hc
    simp at hx; omega
  · obtain ⟨c, hc, hx⟩ := List.any_eq_true.1 hx
    have := h2 c hc
    simp at hx; omega

set_option maxHeartbeats 8000000 in
set_option maxRecDepth 20000 in
theorem once_walk (props size : Int) (a1 a2 : Option Addr) (c1 c2 : Nat) (q : Wd) (w : World) (hp : -9223372036854775808 ≤ props ∧ props ≤ 9223372036854775807) (hz : -9223372036854775808 ≤ size ∧ size ≤ 9223372036854775807) (h1 : Lets w (.slice a1 q.stem.length c1) q.stem) (h2 : Lets w (.slice a2 q.loop.length c2) q.loop) (hT : PowTab w) :
    Calls Tryd.prog 5 #[.int .i64 props, .int .i64 size, .agg #[.slice a1 q.stem.length c1, .slice a2 q.loop.length c2]] w fun e w' => e = .returned (.bool true) ∧ Below w.heap.size w w' := by
  obtain ⟨V, hV⟩ : ∃ V, (w.alloc (.cells #[.slice a1 q.stem.length c1, .slice a2 q.loop.length c2] 24)).alloc (.cells #[.bool false] 4) = V := ⟨_, rfl⟩
  have HKV : Hid (Kept [] w V) := by show Kept [] w V; rw [← hV]; exact ((Kept.refl [] w).alloc _).alloc _
  have HAV : Hid (Wd2 V w.heap.size (.slice a1 q.stem.length c1) (.slice a2 q.loop.length c2)) := by show Wd2 _ _ _ _; rw [← hV]; exact alUp (al0 _ _) _
  have HRV : Hid (Boxed V (w.heap.size + 1) 4 (.bool false)) := by show Boxed _ _ _ _; rw [← hV]; exact al1 _ _ _
  have HVV : Hid (_ = V) := hV
  have HQ1 : Hid (∀ W, Kept [] w W → Lets W (.slice a1 q.stem.length c1) q.stem) := fun W k => h1.kept k
  have HQ2 : Hid (∀ W, Kept [] w W → Lets W (.slice a2 q.loop.length c2) q.loop) := fun W k => h2.kept k
  have hf1 := h1.few
  have hf2 := h2.few
  have HWK : Hid (Calls Tryd.prog 6 #[] V fun e w' => e = .returned (.bool true) ∧ Hid (Kept [] V w')) := works_any V (hT.kept HKV.out)
  have HP1 : Hid (∀ W, Calls Tryd.prog 37 #[.int .i64 props, .int .i64 3] W fun e w' => ∃ k : Nat, e = .returned (.int .i64 (k : Nat)) ∧ (k : Int) < 3 ∧ w' = W) := fun W => pick_any props 3 W hp (by decide) (by decide)
  have HP2 : Hid (∀ (m : Int) W, 0 < m → m ≤ 6 → Calls Tryd.prog 37 #[.int .i64 size, .int .i64 m] W fun e w' => ∃ k : Nat, e = .returned (.int .i64 (k : Nat)) ∧ (k : Int) < m ∧ w' = W) := fun m W h h' => pick_any size m W hz h (by omega)
  have heq := eql_nil
  clear h1 h2 hT hV hp hz
  refine (callsIn_wide (n := 9)).1 ?_
  refine callsIn_of_wp_marks Tryd.func5 rfl trivial ?_ rfl
  simp only [Tryd.ntmps5, List.size_toArray, List.length_cons, List.length_nil, Nat.reduceSub, Nat.reduceAdd, Array.replicate_succ, Array.replicate_zero, List.push_toArray, List.append_toArray, List.nil_append, List.cons_append]
  refine wpIn_wide.2 ?_
  go_upto_region 2 with (go_at_call 6; rw [HVV.out]; refine HWK.out.mono ?_; rintro e W1 ⟨rfl, HK1⟩)
  clear HWK HVV
  go_upto_region 3 with (go_at_call 37; refine (HP1.out W1).mono ?_; rintro e W1b ⟨k, rfl, hk3, rfl⟩)
  obtain ⟨A, hA⟩ : ∃ A, W1b.alloc (.cells #[.int .i64 (k : Nat)] 3) = A := ⟨_, rfl⟩
  have HKA : Hid (Kept [] V A) := by show Kept [] V A; rw [← hA]; exact HK1.out.alloc _
  have HBK : Hid (Boxed A W1b.heap.size 3 (.int .i64 (k : Nat))) := by show Boxed _ _ _ _; rw [← hA]; exact al0 _ _
  have HZ1 : Hid (V.heap.size ≤ W1b.heap.size ∧ A.heap.size = W1b.heap.size + 1) := ⟨HK1.out.size, by rw [← hA, World.size_alloc]⟩
  rw [hA]
  obtain ⟨Bk, hBk⟩ : ∃ Bk, W1b.heap.size = Bk := ⟨_, rfl⟩
  rw [hBk] at HBK HZ1 ⊢
  clear hA hBk HK1 HP1
  have ck := HBK.out.cell
  have hk2 : k ≤ 2 := by omega
  have y1 : IntKind.i64.wrap (6 - (k : Int)) = 6 - (k : Int) := by rw [IntKind.wrap_i64]; omega
  go_upto_region 4 with (go_at_call 37; refine (HP2.out (6 - (k : Int)) A (by omega) (by omega)).mono ?_; rintro e A2 ⟨n0, rfl, hn0, rfl⟩; obtain ⟨n, hn⟩ : ∃ n : Nat, 1 + (n0 : Int) = (n : Int) := ⟨1 + n0, by omega⟩)
  have hn1 : 1 ≤ n ∧ n ≤ 6 := by omega
  obtain ⟨C, hC⟩ : ∃ C, A2.alloc (.cells #[.int .i64 (n : Nat)] 3) = C := ⟨_, rfl⟩
  have HKC : Hid (Kept [] A2 C) := by show Kept [] A2 C; rw [← hC]; exact (Kept.refl [] A2).alloc _
  have HBN : Hid (Boxed C A2.heap.size 3 (.int .i64 (n : Nat))) := by show Boxed _ _ _ _; rw [← hC]; exact al0 _ _
  have HZ2 : Hid (C.heap.size = A2.heap.size + 1) := by show _ = _; rw [← hC, World.size_alloc]
  first | rw [hC] | (rw [hn, hC])
  obtain ⟨Bn, hBn⟩ : ∃ Bn, A2.heap.size = Bn := ⟨_, rfl⟩
  rw [hBn] at HBN HZ2 HZ1 ⊢
  clear hC hBn ck y1 hn0 hn HP2
  have ck := (show Boxed C Bk 3 (.int .i64 (k : Nat)) from HKC.out.at HBK.out (by simp)).cell
  have cn := HBN.out.cell
  go_upto_region 7 with (go_at_call 39; refine (all_any k n C (by omega) hn1.1 (by omega)).mono ?_; rintro e D ⟨rfl, HAL, HKD⟩)
  have HWD : Hid (Kept [] w D) := kept_same HKV.out (kept_same HKA.out (kept_same HKC.out HKD.out))
  have HVD : Hid (Kept [] V D) := kept_same HKA.out (kept_same HKC.out HKD.out)
  clear ck cn heq
  obtain ⟨g0, g1, _, _⟩ := (HAV.out.kept HVD.out).cells
  go_upto_region 8 with (go_at_call 10; refine (normal_it _ _ q D (HQ1.out D HWD.out) (HQ2.out D HWD.out)).mono ?_; rintro e We ⟨r, ma1, mn1, mc1, ma2, mn2, mc2, rfl, HNM, HNO, HKe⟩)
  obtain ⟨E, hE⟩ : ∃ E, We.alloc (.cells #[.slice ma1 mn1 mc1, .slice ma2 mn2 mc2] 24) = E := ⟨_, rfl⟩
  have HKE : Hid (Kept [] D E) := by show Kept [] D E; rw [← hE]; exact HKe.out.alloc _
  have HBM : Hid (Wd2 E We.heap.size (.slice ma1 mn1 mc1) (.slice ma2 mn2 mc2)) := by show Wd2 _ _ _ _; rw [← hE]; exact al0 _ _
  have HZ3 : Hid (D.heap.size ≤ We.heap.size ∧ E.heap.size = We.heap.size + 1) := ⟨HKe.out.size, by rw [← hE, World.size_alloc]⟩
  have HRM : Hid (NewW D.heap.size E (.slice ma1 mn1 mc1) (.slice ma2 mn2 mc2) r) := by show NewW _ _ _ _ _; rw [← hE]; exact HNM.out.kept ((Kept.refl [] We).alloc _)
  rw [hE]
  obtain ⟨Bm, hBm⟩ : ∃ Bm, We.heap.size = Bm := ⟨_, rfl⟩
  rw [hBm] at HBM HZ3 ⊢
  clear hE hBm HNM HKe g0 g1
  have HWE : Hid (Kept [] w E) := kept_same HWD.out HKE.out
  have HCE : Hid (∀ W, Kept [] E W → (W.cell? ⟨w.heap.size, 0, none⟩ = some (.slice a1 q.stem.length c1) ∧ W.cell? ⟨w.heap.size, 1, none⟩ = some (.slice a2 q.loop.length c2)) ∧ W.cell? ⟨Bk, 0, none⟩ = some (.int .i64 (k : Nat)) ∧ (W.cell? ⟨Bm, 0, none⟩ = some (.slice ma1 mn1 mc1) ∧ W.cell? ⟨Bm, 1, none⟩ = some (.slice ma2 mn2 mc2)) ∧ W.cell? ⟨Bn, 0, none⟩ = some (.int .i64 (n : Nat))) := fun W kW => by
    have kDW : Kept [] D W := kept_same HKE.out kW
    have b1 := (HAV.out.kept (kept_same HVD.out kDW)).cells
    have b2 := (HBM.out.kept kW).cells
    exact ⟨⟨b1.1, b1.2.1⟩, cell_kept0 (kept_same HKC.out (kept_same HKD.out kDW)) HBK.out.cell, ⟨b2.1, b2.2.1⟩, cell_kept0 (kept_same HKD.out kDW) HBN.out.cell⟩
  obtain ⟨ce, hce⟩ : ∃ ce, checkE q (k : Int) = ce := ⟨_, rfl⟩
  obtain ⟨pl, hpl⟩ : ∃ pl, placesN r = pl := ⟨_, rfl⟩
  have hrf : r.stem.length + r.loop.length ≤ 140737488355328 := norm_few' HNO.out (by omega)
  have hpb : pl ≤ 140737488355328 := by rw [← hpl]; unfold placesN; split <;> omega
  have HCK : Hid (∀ W, Kept [] E W → Calls Tryd.prog 20 #[.agg #[.slice a1 q.stem.length c1, .slice a2 q.loop.length c2], .int .i64 (k : Nat)] W fun e w' => e = .returned (.int .i64 (ce : Nat)) ∧ Kept [] W w') := fun W kW => by rw [← hce]; exact check_goodB _ _ q k W (HQ1.out W (kept_same HWE.out kW)) (HQ2.out W (kept_same HWE.out kW)) (by omega)
  have HPL : Hid (∀ W, Kept [] E W → Calls Tryd.prog 22 #[.agg #[.slice ma1 mn1 mc1, .slice ma2 mn2 mc2]] W fun e w' => e = .returned (.int .i64 (pl : Nat)) ∧ Kept [] W w') := fun W kW => by rw [← hpl]; exact places_anyB _ _ r W (HRM.out.kept kW).lets1 (HRM.out.kept kW).lets2 hrf
  obtain ⟨sz, hsz⟩ : ∃ sz, (if k = 0 then 1 else n) = sz := ⟨_, rfl⟩
  obtain ⟨sm, hsm⟩ : ∃ sm, inB r (allW k sz) = sm := ⟨_, rfl⟩
  have HSM : Hid (sm = true ↔ ce = 0 ∧ pl ≤ n) := by
    show _ ↔ _
    rw [← hsm, inB_iff, ← hsz]
    by_cases hk0 : k = 0
    · subst hk0
      rw [if_pos rfl, ← hce, ← hpl, all_zero (n := n) hn1.1]
      exact all_small HNO.out (by omega)
    · rw [if_neg hk0, ← hce, ← hpl]
      exact all_small HNO.out (by omega)
  have HIN : Hid (inB r (allW k sz) = sm) := hsm
  have hsn : 1 ≤ sz ∧ sz ≤ n := by rw [← hsz]; split <;> omega
  rw [hsz] at HAL
  clear hce hpl hsz hsm hrf
  go_cut [12] from 36 to 45 (fun s12 wx => s12 = .bool sm ∧ Hid (Kept [] E wx))
  case first =>
    by_cases hz0 : ce = 0
    · by_cases hz1 : pl ≤ n
      · obtain rfl : sm = true := HSM.out.2 ⟨hz0, hz1⟩
        have z2 : (pl : Int) ≤ (n : Int) := by omega
        subst hz0
        clear hz1
        refine wp_region_quiet (C := fun w' => Kept [] E w') (by kernel_rfl) (by kernel_rfl) ((Kept.refl [] E).drew) ?_
        simp only []
        go_big_quiet_want
        refine ⟨.agg #[.slice a1 q.stem.length c1, .slice a2 q.loop.length c2], fun w' hw => ?_, ?_⟩
        · obtain ⟨⟨g0, g1⟩, g2, ⟨g3, g4⟩, g5⟩ := HCE.out w' hw
          go_simp
        go_big_quiet_on
        simp only [Act.put, Array.setIfInBounds, List.size_toArray, List.length_cons, List.length_nil, Nat.reduceAdd, Nat.reduceLT, ↓reduceDIte, List.set_toArray, List.set_cons_succ, List.set_cons_zero]
        go_big_quiet_want
        refine ⟨.int .i64 (k : Nat), fun w' hw => ?_, ?_⟩
        · obtain ⟨⟨g0, g1⟩, g2, ⟨g3, g4⟩, g5⟩ := HCE.out w' hw
          go_simp
        go_big_quiet_on
        simp only [Act.put, Array.setIfInBounds, List.size_toArray, List.length_cons, List.length_nil, Nat.reduceAdd, Nat.reduceLT, ↓reduceDIte, List.set_toArray, List.set_cons_succ, List.set_cons_zero]
        go_big_quiet_want
        refine ⟨.int .i64 0, fun w' hw => ?_, ?_⟩
        · go_simp
          exact (HCK.out w' hw).mono fun e w'' ⟨h1, h2⟩ => ⟨h1, hw.trans h2 (by simp) (by simp)⟩
        go_big_quiet_on
        simp only [Act.put, Array.setIfInBounds, List.size_toArray, List.length_cons, List.length_nil, Nat.reduceAdd, Nat.reduceLT, ↓reduceDIte, List.set_toArray, List.set_cons_succ, List.set_cons_zero]
        go_big_quiet_want
        refine ⟨.bool true, fun w' hw => (by go_simp), ?_⟩
        go_big_quiet_on
        simp only [Act.put, Array.setIfInBounds, List.size_toArray, List.length_cons, List.length_nil, Nat.reduceAdd, Nat.reduceLT, ↓reduceDIte, List.set_toArray, List.set_cons_succ, List.set_cons_zero]
        go_big_quiet_want
        refine ⟨.bool true, fun w' hw => (by go_simp), ?_⟩
        go_big_quiet_on
        simp only [Act.put, Array.setIfInBounds, List.size_toArray, List.length_cons, List.length_nil, Nat.reduceAdd, Nat.reduceLT, ↓reduceDIte, List.set_toArray, List.set_cons_succ, List.set_cons_zero]
        go_big_quiet_want
        refine ⟨.agg #[.slice ma1 mn1 mc1, .slice ma2 mn2 mc2], fun w' hw => ?_, ?_⟩
        · obtain ⟨⟨g0, g1⟩, g2, ⟨g3, g4⟩, g5⟩ := HCE.out w' hw
          go_simp
        go_big_quiet_on
        simp only [Act.put, Array.setIfInBounds, List.size_toArray, List.length_cons, List.length_nil, Nat.reduceAdd, Nat.reduceLT, ↓reduceDIte, List.set_toArray, List.set_cons_succ, List.set_cons_zero]
        go_big_quiet_want
        refine ⟨.int .i64 (pl : Nat), fun w' hw => ?_, ?_⟩
        · go_simp
          exact (HPL.out w' hw).mono fun e w'' ⟨h1, h2⟩ => ⟨h1, hw.trans h2 (by simp) (by simp)⟩
        go_big_quiet_on
        simp only [Act.put, Array.setIfInBounds, List.size_toArray, List.length_cons, List.length_nil, Nat.reduceAdd, Nat.reduceLT, ↓reduceDIte, List.set_toArray, List.set_cons_succ, List.set_cons_zero]
        go_big_quiet_want
        refine ⟨.int .i64 (n : Nat), fun w' hw => ?_, ?_⟩
        · obtain ⟨⟨g0, g1⟩, g2, ⟨g3, g4⟩, g5⟩ := HCE.out w' hw
          go_simp
        go_big_quiet_on
        simp only [Act.put, Array.setIfInBounds, List.size_toArray, List.length_cons, List.length_nil, Nat.reduceAdd, Nat.reduceLT, ↓reduceDIte, List.set_toArray, List.set_cons_succ, List.set_cons_zero]
        go_big_quiet_want
        refine ⟨.bool true, fun w' hw => (by go_simp), ?_⟩
        go_big_quiet_on
        simp only [Act.put, Array.setIfInBounds, List.size_toArray, List.length_cons, List.length_nil, Nat.reduceAdd, Nat.reduceLT, ↓reduceDIte, List.set_toArray, List.set_cons_succ, List.set_cons_zero]
        go_big_quiet_want
        refine ⟨.bool true, fun w' hw => (by go_simp), ?_⟩
        go_big_quiet_on
        simp only [Act.put, Array.setIfInBounds, List.size_toArray, List.length_cons, List.length_nil, Nat.reduceAdd, Nat.reduceLT, ↓reduceDIte, List.set_toArray, List.set_cons_succ, List.set_cons_zero]
        go_big_quiet_want
        refine ⟨.bool true, fun w' hw => (by go_simp), ?_⟩
        go_big_quiet_on
        simp only [Act.put, Array.setIfInBounds, List.size_toArray, List.length_cons, List.length_nil, Nat.reduceAdd, Nat.reduceLT, ↓reduceDIte, List.set_toArray, List.set_cons_succ, List.set_cons_zero]
        refine wpQuiet_nil ?_
        intro W9 hk9
        first | go_meet | (go_wp2_with fail; go_meet)
        exact ⟨rfl, hk9⟩
      · obtain rfl : sm = false := by cases sm with | false => rfl | true => exact absurd (HSM.out.1 rfl).2 hz1
        have z2 : ¬ ((pl : Int) ≤ (n : Int)) := by omega
        have z3 : decide ((pl : Int) ≤ (n : Int)) = false := decide_eq_false z2
        have z4 : n < pl := by omega
        subst hz0
        clear hz1
        refine wp_region_quiet (C := fun w' => Kept [] E w') (by kernel_rfl) (by kernel_rfl) ((Kept.refl [] E).drew) ?_
        simp only []
        go_big_quiet_want
        refine ⟨.agg #[.slice a1 q.stem.length c1, .slice a2 q.loop.length c2], fun w' hw => ?_, ?_⟩
        · obtain ⟨⟨g0, g1⟩, g2, ⟨g3, g4⟩, g5⟩ := HCE.out w' hw
          go_simp
        go_big_quiet_on
        simp only [Act.put, Array.setIfInBounds, List.size_toArray, List.length_cons, List.length_nil, Nat.reduceAdd, Nat.reduceLT, ↓reduceDIte, List.set_toArray, List.set_cons_succ, List.set_cons_zero]
        go_big_quiet_want
        refine ⟨.int .i64 (k : Nat), fun w' hw => ?_, ?_⟩
        · obtain ⟨⟨g0, g1⟩, g2, ⟨g3, g4⟩, g5⟩ := HCE.out w' hw
          go_simp
        go_big_quiet_on
        simp only [Act.put, Array.setIfInBounds, List.size_toArray, List.length_cons, List.length_nil, Nat.reduceAdd, Nat.reduceLT, ↓reduceDIte, List.set_toArray, List.set_cons_succ, List.set_cons_zero]
        go_big_quiet_want
        refine ⟨.int .i64 0, fun w' hw => ?_, ?_⟩
        · go_simp
          exact (HCK.out w' hw).mono fun e w'' ⟨h1, h2⟩ => ⟨h1, hw.trans h2 (by simp) (by simp)⟩
        go_big_quiet_on
        simp only [Act.put, Array.setIfInBounds, List.size_toArray, List.length_cons, List.length_nil, Nat.reduceAdd, Nat.reduceLT, ↓reduceDIte, List.set_toArray, List.set_cons_succ, List.set_cons_zero]
        go_big_quiet_want
        refine ⟨.bool true, fun w' hw => (by go_simp), ?_⟩
        go_big_quiet_on
        simp only [Act.put, Array.setIfInBounds, List.size_toArray, List.length_cons, List.length_nil, Nat.reduceAdd, Nat.reduceLT, ↓reduceDIte, List.set_toArray, List.set_cons_succ, List.set_cons_zero]
        go_big_quiet_want
        refine ⟨.bool true, fun w' hw => (by go_simp), ?_⟩
        go_big_quiet_on
        simp only [Act.put, Array.setIfInBounds, List.size_toArray, List.length_cons, List.length_nil, Nat.reduceAdd, Nat.reduceLT, ↓reduceDIte, List.set_toArray, List.set_cons_succ, List.set_cons_zero]
        go_big_quiet_want
        refine ⟨.agg #[.slice ma1 mn1 mc1, .slice ma2 mn2 mc2], fun w' hw => ?_, ?_⟩
        · obtain ⟨⟨g0, g1⟩, g2, ⟨g3, g4⟩, g5⟩ := HCE.out w' hw
          go_simp
        go_big_quiet_on
        simp only [Act.put, Array.setIfInBounds, List.size_toArray, List.length_cons, List.length_nil, Nat.reduceAdd, Nat.reduceLT, ↓reduceDIte, List.set_toArray, List.set_cons_succ, List.set_cons_zero]
        go_big_quiet_want
        refine ⟨.int .i64 (pl : Nat), fun w' hw => ?_, ?_⟩
        · go_simp
          exact (HPL.out w' hw).mono fun e w'' ⟨h1, h2⟩ => ⟨h1, hw.trans h2 (by simp) (by simp)⟩
        go_big_quiet_on
        simp only [Act.put, Array.setIfInBounds, List.size_toArray, List.length_cons, List.length_nil, Nat.reduceAdd, Nat.reduceLT, ↓reduceDIte, List.set_toArray, List.set_cons_succ, List.set_cons_zero]
        go_big_quiet_want
        refine ⟨.int .i64 (n : Nat), fun w' hw => ?_, ?_⟩
        · obtain ⟨⟨g0, g1⟩, g2, ⟨g3, g4⟩, g5⟩ := HCE.out w' hw
          go_simp
        go_big_quiet_on
        simp only [Act.put, Array.setIfInBounds, List.size_toArray, List.length_cons, List.length_nil, Nat.reduceAdd, Nat.reduceLT, ↓reduceDIte, List.set_toArray, List.set_cons_succ, List.set_cons_zero]
        go_big_quiet_want
        refine ⟨.bool false, fun w' hw => (by go_simp), ?_⟩
        go_big_quiet_on
        simp only [Act.put, Array.setIfInBounds, List.size_toArray, List.length_cons, List.length_nil, Nat.reduceAdd, Nat.reduceLT, ↓reduceDIte, List.set_toArray, List.set_cons_succ, List.set_cons_zero]
        go_big_quiet_want
        refine ⟨.bool false, fun w' hw => (by go_simp), ?_⟩
        go_big_quiet_on
        simp only [Act.put, Array.setIfInBounds, List.size_toArray, List.length_cons, List.length_nil, Nat.reduceAdd, Nat.reduceLT, ↓reduceDIte, List.set_toArray, List.set_cons_succ, List.set_cons_zero]
        go_big_quiet_want
        refine ⟨.bool false, fun w' hw => (by go_simp), ?_⟩
        go_big_quiet_on
        simp only [Act.put, Array.setIfInBounds, List.size_toArray, List.length_cons, List.length_nil, Nat.reduceAdd, Nat.reduceLT, ↓reduceDIte, List.set_toArray, List.set_cons_succ, List.set_cons_zero]
        refine wpQuiet_nil ?_
        intro W9 hk9
        first | go_meet | (go_wp2_with fail; go_meet)
        exact ⟨rfl, hk9⟩
    · obtain rfl : sm = false := by cases sm with | false => rfl | true => exact absurd (HSM.out.1 rfl).1 hz0
      have z2 : ((ce : Int) == 0) = false := by rw [beq_eq_false_iff_ne]; omega
      clear hz0
      refine wp_region_quiet (C := fun w' => Kept [] E w') (by kernel_rfl) (by kernel_rfl) ((Kept.refl [] E).drew) ?_
      simp only []
      go_big_quiet_want
      refine ⟨.agg #[.slice a1 q.stem.length c1, .slice a2 q.loop.length c2], fun w' hw => ?_, ?_⟩
      · obtain ⟨⟨g0, g1⟩, g2, ⟨g3, g4⟩, g5⟩ := HCE.out w' hw
        go_simp
      go_big_quiet_on
      simp only [Act.put, Array.setIfInBounds, List.size_toArray, List.length_cons, List.length_nil, Nat.reduceAdd, Nat.reduceLT, ↓reduceDIte, List.set_toArray, List.set_cons_succ, List.set_cons_zero]
      go_big_quiet_want
      refine ⟨.int .i64 (k : Nat), fun w' hw => ?_, ?_⟩
      · obtain ⟨⟨g0, g1⟩, g2, ⟨g3, g4⟩, g5⟩ := HCE.out w' hw
        go_simp
      go_big_quiet_on
      simp only [Act.put, Array.setIfInBounds, List.size_toArray, List.length_cons, List.length_nil, Nat.reduceAdd, Nat.reduceLT, ↓reduceDIte, List.set_toArray, List.set_cons_succ, List.set_cons_zero]
      go_big_quiet_want
      refine ⟨.int .i64 (ce : Nat), fun w' hw => ?_, ?_⟩
      · go_simp
        exact (HCK.out w' hw).mono fun e w'' ⟨h1, h2⟩ => ⟨h1, hw.trans h2 (by simp) (by simp)⟩
      go_big_quiet_on
      simp only [Act.put, Array.setIfInBounds, List.size_toArray, List.length_cons, List.length_nil, Nat.reduceAdd, Nat.reduceLT, ↓reduceDIte, List.set_toArray, List.set_cons_succ, List.set_cons_zero]
      go_big_quiet_want
      refine ⟨.bool false, fun w' hw => (by go_simp), ?_⟩
      go_big_quiet_on
      simp only [Act.put, Array.setIfInBounds, List.size_toArray, List.length_cons, List.length_nil, Nat.reduceAdd, Nat.reduceLT, ↓reduceDIte, List.set_toArray, List.set_cons_succ, List.set_cons_zero]
      go_big_quiet_want
      refine ⟨.bool false, fun w' hw => (by go_simp), ?_⟩
      go_big_quiet_on
      simp only [Act.put, Array.setIfInBounds, List.size_toArray, List.length_cons, List.length_nil, Nat.reduceAdd, Nat.reduceLT, ↓reduceDIte, List.set_toArray, List.set_cons_succ, List.set_cons_zero]
      go_big_quiet_skip
      go_big_quiet_skip
      go_big_quiet_skip
      go_big_quiet_skip
      go_big_quiet_want
      refine ⟨.bool false, fun w' hw => (by go_simp), ?_⟩
      go_big_quiet_on
      simp only [Act.put, Array.setIfInBounds, List.size_toArray, List.length_cons, List.length_nil, Nat.reduceAdd, Nat.reduceLT, ↓reduceDIte, List.set_toArray, List.set_cons_succ, List.set_cons_zero]
      go_big_quiet_want
      refine ⟨.bool false, fun w' hw => (by go_simp), ?_⟩
      go_big_quiet_on
      simp only [Act.put, Array.setIfInBounds, List.size_toArray, List.length_cons, List.length_nil, Nat.reduceAdd, Nat.reduceLT, ↓reduceDIte, List.set_toArray, List.set_cons_succ, List.set_cons_zero]
      refine wpQuiet_nil ?_
      intro W9 hk9
      first | go_meet | (go_wp2_with fail; go_meet)
      exact ⟨rfl, hk9⟩
  case rest =>
    obtain ⟨rfl, HKG⟩ := hcut
    rename World => G
    clear HCE HCK HPL
    go_wp2_with fail
    obtain ⟨U, hU⟩ : ∃ U, (G.alloc (.cells #[.bool false] 4)).alloc (.cells #[.slice none 0 0, .slice none 0 0] 24) = U := ⟨_, rfl⟩
    have kU : Kept [] G U := by rw [← hU]; exact ((Kept.refl [] G).alloc _).alloc _
    have bfU : Boxed U G.heap.size 4 (.bool false) := by rw [← hU]; exact alUp (al0 _ _) _
    have blU : U.heap[G.heap.size + 1]? = some (.cells #[.slice none 0 0, .slice none 0 0] 24 (0, 0)) := by rw [← hU]; exact al1 _ _ _
    rw [hU]
    clear hU
    obtain ⟨Bf, hBf⟩ : ∃ Bf, G.heap.size = Bf := ⟨_, rfl⟩
    rw [hBf] at bfU blU ⊢
    have kEU : Kept [] E U := kept_same HKG.out kU
    have kDU : Kept [] D U := kept_same HKE.out kEU
    have kCU : Kept [] C U := kept_same HKD.out kDU
    have kAU : Kept [] A2 U := kept_same HKC.out kCU
    have kVU : Kept [] V U := kept_same HKA.out kAU
    have kwU : Kept [] w U := kept_same HKV.out kVU
    have hAU : AllAt (C.heap.size + 1) C.heap.size sz k U := (show AllAt (C.heap.size + 1) C.heap.size sz k D from HAL.out).kpx (KpX.of_kept kDU)
    have z1 : w.heap.size + 1 < V.heap.size := HRV.out.lt
    have z2 := HZ1.out
    have z3 := HZ2.out
    have z4 : C.heap.size + 1 < D.heap.size := HAL.out.bz.lt
    have z5 := HZ3.out
    have z6 := HKG.out.size
    have z7 := lt_of blU
    have HS0 : Hid (OnS w (allW k sz) (w.heap.size + 1) Bk Bn Bm Bf (Bf + 1) k n (.slice ma1 mn1 mc1) (.slice ma2 mn2 mc2) r (fun _ => False) [] U) := by
      refine ⟨⟨kVU.at HRV.out (by simp), fun h => h⟩, ⟨kAU.at HBK.out (by simp), fun h => h⟩, ⟨kCU.at HBN.out (by simp), fun h => h⟩, ⟨HBM.out.kept kEU, fun h => h⟩, ⟨⟨_, HRM.out.kept kEU⟩, fun _ _ h => h, fun _ _ h => h⟩, ⟨bfU, fun h => h⟩, ⟨_, _, ⟨blU, fun h => h⟩, .inl ⟨rfl, rfl, rfl⟩⟩, ⟨kwU.below, kwU.size, fun _ h => h.elim⟩⟩
    have HDD : Hid (OnD w (fun k => k = C.heap.size + 1 ∨ k = C.heap.size) (w.heap.size + 1) Bk Bn Bm Bf (Bf + 1)) := ⟨by omega, by omega, by omega, by omega, by omega, by omega, by omega, by omega, by omega, fun h => by omega, fun h => by omega, by omega, by omega⟩
    have HTR : Hid (¬ (w.heap.size + 1 = C.heap.size + 1 ∨ w.heap.size + 1 = C.heap.size)) := by show ¬ _; omega
    have hcz : C.heap.size + 1 < U.heap.size := by omega
    clear hBf kU bfU blU kEU kDU kCU kAU kVU kwU z1 z2 z3 z4 z5 z6 z7 HAL HKG HKE HKD HKC HKA HKV HRV HBK HBN HBM HRM HZ1 HZ2 HZ3 HAV HWD HVD HWE HQ1 HQ2
    obtain ⟨Bl, hBl⟩ : ∃ Bl, Bf + 1 = Bl := ⟨_, rfl⟩
    rw [hBl] at HS0 HDD ⊢
    clear hBl
    have HRW : Hid (w.heap.size ≤ w.heap.size + 1) := Nat.le_succ _
    obtain ⟨Br, hBr⟩ : ∃ Br, w.heap.size + 1 = Br := ⟨_, rfl⟩
    rw [hBr] at HS0 HDD HRW HTR ⊢
    clear hBr
    refine (wpIn_wide (n := 9)).1 ?_
    refine rangeWord rfl (by omega) (gf := 68) (lb := #[.pointer (some ⟨C.heap.size + 1, 0, none⟩), .pointer (some ⟨C.heap.size, 0, none⟩)]) rfl trivial (enters_of Tryd.func68 (by kernel_rfl) rfl)
      (all_goes (9 - 1) (C.heap.size + 1) C.heap.size sz k U hAU (by omega) (by omega)) (nwAt_kept _) (fun k h => by omega) (fun k h => h.elim) (fun _ => rfl)
      (OnS w (allW k sz) Br Bk Bn Bm Bf Bl k n (.slice ma1 mn1 mc1) (.slice ma2 mn2 mc2) r)
      (fun (c : Code) (_ : Nat → Prop) (pre : List Nw) (_ : World) => c = Code.ret ∧ ∃ (p : List Nw) (a b : Nw), pre = p ++ [a] ++ [b] ∧ ¬ AheadP a.q b.q)
      onS_abide (fun c => ⟨fun h _ => h, fun h _ _ => h⟩) HS0.out ?a1 ?assign ?body ?done ?stop
    case assign =>
      intro l x W Bx K hBx hK
      dsimp only [nwV]
      dsimp only [nwC] at hK
      gi_wp2
      exact hK
    case body =>
      rintro l X pre x Bx W _ _ hXb hI hBx hrow hat hlt
      dsimp only [nwC] at hrow
      obtain ⟨hn, hl1, hl2, hl3⟩ := mem_all.1 hat.mem
      have h0 := hn.1
      have HRX : Hid (RowX X W (.slice x.a1 x.q.stem.length x.c1) (.slice x.a2 x.q.loop.length x.c2) x.q) := ⟨hat.new, hat.off1, hat.off2⟩
      have HI : Hid (OnS w (allW k sz) Br Bk Bn Bm Bf Bl k n (.slice ma1 mn1 mc1) (.slice ma2 mn2 mc2) r X pre W) := hI
      have HAT : Hid (NwAt (allW k sz) X x W) := hat
      obtain ⟨v1, v2, hbl, hlast⟩ := hI.last
      obtain ⟨fd, hfd⟩ : ∃ fd, inB r (pre.map Nw.q) = fd := ⟨_, rfl⟩
      have HFD : Hid (inB r (pre.map Nw.q) = fd) := hfd
      have bf0 := hI.bf.1
      rw [hfd] at bf0
      have HC : Hid (OnC W Br Bx Bl Bm Bf Bk Bn k n (.slice x.a1 x.q.stem.length x.c1) (.slice x.a2 x.q.loop.length x.c2) v1 v2 (.slice ma1 mn1 mc1) (.slice ma2 mn2 mc2) fd) := ⟨hrow, hbl.1, hI.bm.1, bf0, hI.bk.1, hI.bn.1, hI.res.1⟩
      have HNX : Hid (∀ W2, Kept [] W W2 → Calls Tryd.prog 10 #[.agg #[.slice x.a1 x.q.stem.length x.c1, .slice x.a2 x.q.loop.length x.c2]] W2 fun e W' => ∃ a1 n1 c1 a2 n2 c2, e = .returned (.agg #[.slice a1 n1 c1, .slice a2 n2 c2]) ∧ Hid (NewW W2.heap.size W' (.slice a1 n1 c1) (.slice a2 n2 c2) x.q) ∧ Hid (Kept [] W2 W')) := fun W2 k2 => by
        refine (normal_it _ _ x.q W2 (HRX.out.kept k2).lets.1 (HRX.out.kept k2).lets.2).mono ?_
        rintro e W3 ⟨r3, a1, n1, c1, a2, n2, c2, he, hn3, ho3, k3⟩
        obtain rfl := normOf_one' ho3.out (norm_own hn)
        exact ⟨a1, n1, c1, a2, n2, c2, he, hn3, k3⟩
      have HSX : Hid (∀ W2 n0 a b, Kept [] W W2 → NewW n0 W2 a b x.q → Calls Tryd.prog 14 #[.agg #[a, b], .agg #[.slice x.a1 x.q.stem.length x.c1, .slice x.a2 x.q.loop.length x.c2]] W2 fun e W' => e = .returned (.bool true) ∧ Hid (Kept [] W2 W')) := fun W2 n0 a b k2 hnw => by
        have h := sameWord_any _ _ _ _ x.q x.q W2 hnw.lets1 hnw.lets2 (HRX.out.kept k2).lets.1 (HRX.out.kept k2).lets.2
        rw [eqW_iff.2 rfl] at h
        exact h
      obtain ⟨isb, hisb⟩ : ∃ isb, eqW x.q r = isb := ⟨_, rfl⟩
      have HIB : Hid (eqW x.q r = isb) := hisb
      have HIS : Hid (∀ W2, Kept [] W W2 → Calls Tryd.prog 14 #[.agg #[.slice x.a1 x.q.stem.length x.c1, .slice x.a2 x.q.loop.length x.c2], .agg #[.slice ma1 mn1 mc1, .slice ma2 mn2 mc2]] W2 fun e W' => e = .returned (.bool isb) ∧ Hid (Kept [] W2 W')) := fun W2 k2 => by
        have h := sameWord_any _ _ _ _ x.q r W2 (HRX.out.kept k2).lets.1 (HRX.out.kept k2).lets.2 (HI.out.rm.kept k2).lets.1 (HI.out.rm.kept k2).lets.2
        rw [hisb] at h
        exact h
      have HCX : Hid (∀ W2, Kept [] W W2 → Calls Tryd.prog 20 #[.agg #[.slice x.a1 x.q.stem.length x.c1, .slice x.a2 x.q.loop.length x.c2], .int .i64 (k : Nat)] W2 fun e W' => e = .returned (.int .i64 0) ∧ Hid (Kept [] W2 W')) := fun W2 k2 => by
        have h := check_goodB _ _ x.q k W2 (HRX.out.kept k2).lets.1 (HRX.out.kept k2).lets.2 (by omega)
        rw [check_small h0 hl1 hl2 (by omega)] at h
        exact h
      obtain ⟨px, hpx⟩ : ∃ px, placesN x.q = px := ⟨_, rfl⟩
      have hpn : px ≤ n := by rw [← hpx]; unfold placesN; rw [if_neg (by omega)]; omega
      have HPX : Hid (∀ W2, Kept [] W W2 → Calls Tryd.prog 22 #[.agg #[.slice x.a1 x.q.stem.length x.c1, .slice x.a2 x.q.loop.length x.c2]] W2 fun e W' => e = .returned (.int .i64 (px : Nat)) ∧ Hid (Kept [] W2 W')) := fun W2 k2 => by rw [← hpx]; exact places_any _ _ x.q W2 ((HRX.out.kept k2).isW (by omega))
      have z1 : ¬ ((n : Int) < (px : Int)) := by omega
      have z2 : decide ((n : Int) < (px : Int)) = false := decide_eq_false z1
      have z3 : ¬ (n < px) := by omega
      have hx3 : x.q.stem.length + x.q.loop.length ≤ 1000 := by omega
      have hBfU := HS0.out.bf.1.lt
      obtain ⟨l1U, l2U, hblU, _⟩ := HS0.out.last
      have hBlU := lt_of hblU.1
      have nf1 : ¬ (Bx = Bf) := by omega
      have nf2 : ¬ (Bf = Bx) := by omega
      have nf3 : ¬ (Bx = Bl) := by omega
      have nf4 : ¬ (Bl = Bx) := by omega
      have nf5 : ¬ (Bl = Bf) := fun e => HDD.out.fl e.symm
      have nf6 : ¬ (Bf = Bl) := HDD.out.fl
      clear hBfU hBlU hblU
      clear hI hat hfd bf0 hrow hbl hisb hpx hpn hn hl1 hl2 hl3 hBx hXb hlt
      cases fd with
      | false =>
        rcases hlast with ⟨rfl, rfl, rfl⟩ | ⟨p0, y, rfl, rfl, rfl, hrowy, hmy⟩
        · obtain ⟨⟨x0, x1⟩, ⟨e0, e1⟩, ⟨m0, m1⟩, f0, k0, n0, r0⟩ := HC.out.cells
          gi_wp2_with (refine ⟨trivial, ?_⟩; first
            | (gi_at_call 10; refine (CallsIn.inRound l (callsIn_wide.2 (HNX.out W (Kept.refl [] W)))).mono ?_; rintro e Wa ⟨oa1, on1, oc1, oa2, on2, oc2, rfl, HNa, HKa⟩; clear x0 x1 e0 e1 m0 m1 f0 k0 n0 r0; obtain ⟨⟨x0, x1⟩, ⟨e0, e1⟩, ⟨m0, m1⟩, f0, k0, n0, r0⟩ := (HC.out.kept (HKa.out.alloc (.cells #[.slice oa1 on1 oc1, .slice oa2 on2 oc2] 24))).cells)
            | (gi_at_call 14; refine (CallsIn.inRound l (callsIn_wide.2 (HSX.out _ _ _ _ (HKa.out.alloc (.cells #[.slice oa1 on1 oc1, .slice oa2 on2 oc2] 24)) (HNa.out.kept ((Kept.refl [] Wa).alloc _))))).mono ?_; rintro e Wb ⟨rfl, hkb⟩; have HKb : Hid (Kept [] W Wb) := kept_same (HKa.out.alloc _) hkb.out; clear hkb; clear x0 x1 e0 e1 m0 m1 f0 k0 n0 r0; obtain ⟨⟨x0, x1⟩, ⟨e0, e1⟩, ⟨m0, m1⟩, f0, k0, n0, r0⟩ := (HC.out.kept HKb.out).cells)
            | (gi_at_call 20; refine (CallsIn.inRound l (callsIn_wide.2 (HCX.out Wb HKb.out))).mono ?_; rintro e Wd ⟨rfl, hkd⟩; have HKd : Hid (Kept [] W Wd) := kept_same HKb.out hkd.out; clear hkd; clear x0 x1 e0 e1 m0 m1 f0 k0 n0 r0; obtain ⟨⟨x0, x1⟩, ⟨e0, e1⟩, ⟨m0, m1⟩, f0, k0, n0, r0⟩ := (HC.out.kept HKd.out).cells)
            | skip)
          gi_region_with (first
            | (refine ⟨trivial, ?_⟩; gi_at_call 22; refine (CallsIn.inRound l (callsIn_wide.2 (HPX.out _ HKd.out.drew))).mono ?_; rintro e Wp ⟨rfl, hkp⟩; have HKp : Hid (Kept [] W Wp) := kept_same HKd.out.drew hkp.out; clear hkp; have n2 := (HC.out.kept HKp.out).n.cell))
          all_goals (clear x0 x1 e0 e1 m0 m1 f0 k0 n0 r0)
          all_goals (obtain ⟨⟨x0, x1⟩, ⟨e0, e1⟩, ⟨m0, m1⟩, f0, k0, n0, r0⟩ := (HC.out.kept HKp.out).cells)
          all_goals gi_wp2_with (refine ⟨trivial, ?_⟩; (gi_at_call 14; refine (CallsIn.inRound l (callsIn_wide.2 (HIS.out Wp HKp.out))).mono ?_; rintro e Wq ⟨rfl, hkq⟩; have HKq : Hid (Kept [] W Wq) := kept_same HKp.out hkq.out; clear hkq; clear x0 x1 e0 e1 m0 m1 f0 k0 n0 r0; obtain ⟨⟨x0, x1⟩, ⟨e0, e1⟩, ⟨m0, m1⟩, f0, k0, n0, r0⟩ := (HC.out.kept HKq.out).cells; obtain ⟨fz0, fz1, fz2, fz3⟩ := (HC.out.kept HKq.out).frees))
          all_goals exact on_step HI.out HDD.out HAT.out HKq.out (found_false HFD.out HIB.out)
        · have hy := mem_all.1 hmy
          have hy0 := hy.1.1
          have hy3 : y.q.stem.length + y.q.loop.length ≤ 1000 := by omega
          have HAH : Hid (∀ W2, Kept [] W W2 → Calls Tryd.prog 40 #[.agg #[.slice y.a1 y.q.stem.length y.c1, .slice y.a2 y.q.loop.length y.c2], .agg #[.slice x.a1 x.q.stem.length x.c1, .slice x.a2 x.q.loop.length x.c2]] W2 (AheadEnds y.q x.q W2)) := fun W2 k2 => ahead_any _ _ _ _ _ _ _ _ y.q x.q W2 ((hrowy.kept k2).isW (by omega)) ((HRX.out.kept k2).isW (by omega)) hy0 h0 hy3 hx3
          have zy : ((y.q.loop.length : Int) == 0) = false := by rw [beq_eq_false_iff_ne]; omega
          obtain ⟨⟨x0, x1⟩, ⟨e0, e1⟩, ⟨m0, m1⟩, f0, k0, n0, r0⟩ := HC.out.cells
          clear hrowy hmy hy hy0 hy3
          gi_wp2_with (refine ⟨trivial, ?_⟩; first
            | (gi_at_call 10; refine (CallsIn.inRound l (callsIn_wide.2 (HNX.out W (Kept.refl [] W)))).mono ?_; rintro e Wa ⟨oa1, on1, oc1, oa2, on2, oc2, rfl, HNa, HKa⟩; clear x0 x1 e0 e1 m0 m1 f0 k0 n0 r0; obtain ⟨⟨x0, x1⟩, ⟨e0, e1⟩, ⟨m0, m1⟩, f0, k0, n0, r0⟩ := (HC.out.kept (HKa.out.alloc (.cells #[.slice oa1 on1 oc1, .slice oa2 on2 oc2] 24))).cells)
            | (gi_at_call 14; refine (CallsIn.inRound l (callsIn_wide.2 (HSX.out _ _ _ _ (HKa.out.alloc (.cells #[.slice oa1 on1 oc1, .slice oa2 on2 oc2] 24)) (HNa.out.kept ((Kept.refl [] Wa).alloc _))))).mono ?_; rintro e Wb ⟨rfl, hkb⟩; have HKb : Hid (Kept [] W Wb) := kept_same (HKa.out.alloc _) hkb.out; clear hkb; clear x0 x1 e0 e1 m0 m1 f0 k0 n0 r0; obtain ⟨⟨x0, x1⟩, ⟨e0, e1⟩, ⟨m0, m1⟩, f0, k0, n0, r0⟩ := (HC.out.kept HKb.out).cells)
            | (gi_at_call 40; refine (CallsIn.inRound l (callsIn_wide.2 (HAH.out Wb HKb.out))).mono ?_; rintro e Wc ⟨rb, rfl, hrb, hkc⟩; have HKc : Hid (Kept [] W Wc) := kept_same HKb.out hkc.out; have HRB : Hid (rb = false → Hid (¬ AheadP y.q x.q)) := hrb; clear hkc hrb; clear x0 x1 e0 e1 m0 m1 f0 k0 n0 r0; obtain ⟨⟨x0, x1⟩, ⟨e0, e1⟩, ⟨m0, m1⟩, f0, k0, n0, r0⟩ := (HC.out.kept HKc.out).cells)
            | (gi_at_call 20; refine (CallsIn.inRound l (callsIn_wide.2 (HCX.out Wc HKc.out))).mono ?_; rintro e Wd ⟨rfl, hkd⟩; have HKd : Hid (Kept [] W Wd) := kept_same HKc.out hkd.out; clear hkd; clear x0 x1 e0 e1 m0 m1 f0 k0 n0 r0; obtain ⟨⟨x0, x1⟩, ⟨e0, e1⟩, ⟨m0, m1⟩, f0, k0, n0, r0⟩ := (HC.out.kept HKd.out).cells)
            | skip)
          cases rb with
          | false =>
            have HNA : Hid (¬ AheadP y.q x.q) := HRB.out rfl
            have fz3 := (HC.out.kept HKd.out).frees.2.2.2
            gi_region_with (refine ⟨trivial, ?_⟩)
            all_goals gi_wp2
            all_goals exact ⟨(KpX.of_kept HKd.out.drew).trans (KpX.setCell (p := ⟨Br, 0, none⟩) (fun h => h.elim HI.out.res.2 HTR.out) _), rfl, p0, y, x, rfl, HNA.out⟩
          | true =>
            gi_region_with (first
              | (refine ⟨trivial, ?_⟩; gi_at_call 22; refine (CallsIn.inRound l (callsIn_wide.2 (HPX.out _ HKd.out.drew))).mono ?_; rintro e Wp ⟨rfl, hkp⟩; have HKp : Hid (Kept [] W Wp) := kept_same HKd.out.drew hkp.out; clear hkp; have n2 := (HC.out.kept HKp.out).n.cell))
            all_goals (clear x0 x1 e0 e1 m0 m1 f0 k0 n0 r0)
            all_goals (obtain ⟨⟨x0, x1⟩, ⟨e0, e1⟩, ⟨m0, m1⟩, f0, k0, n0, r0⟩ := (HC.out.kept HKp.out).cells)
            all_goals gi_wp2_with (refine ⟨trivial, ?_⟩; (gi_at_call 14; refine (CallsIn.inRound l (callsIn_wide.2 (HIS.out Wp HKp.out))).mono ?_; rintro e Wq ⟨rfl, hkq⟩; have HKq : Hid (Kept [] W Wq) := kept_same HKp.out hkq.out; clear hkq; clear x0 x1 e0 e1 m0 m1 f0 k0 n0 r0; obtain ⟨⟨x0, x1⟩, ⟨e0, e1⟩, ⟨m0, m1⟩, f0, k0, n0, r0⟩ := (HC.out.kept HKq.out).cells; obtain ⟨fz0, fz1, fz2, fz3⟩ := (HC.out.kept HKq.out).frees))
            all_goals exact on_step HI.out HDD.out HAT.out HKq.out (found_false HFD.out HIB.out)
      | true =>
        rcases hlast with ⟨rfl, rfl, rfl⟩ | ⟨p0, y, rfl, rfl, rfl, hrowy, hmy⟩
        · obtain ⟨⟨x0, x1⟩, ⟨e0, e1⟩, ⟨m0, m1⟩, f0, k0, n0, r0⟩ := HC.out.cells
          gi_wp2_with (refine ⟨trivial, ?_⟩; first
            | (gi_at_call 10; refine (CallsIn.inRound l (callsIn_wide.2 (HNX.out W (Kept.refl [] W)))).mono ?_; rintro e Wa ⟨oa1, on1, oc1, oa2, on2, oc2, rfl, HNa, HKa⟩; clear x0 x1 e0 e1 m0 m1 f0 k0 n0 r0; obtain ⟨⟨x0, x1⟩, ⟨e0, e1⟩, ⟨m0, m1⟩, f0, k0, n0, r0⟩ := (HC.out.kept (HKa.out.alloc (.cells #[.slice oa1 on1 oc1, .slice oa2 on2 oc2] 24))).cells)
            | (gi_at_call 14; refine (CallsIn.inRound l (callsIn_wide.2 (HSX.out _ _ _ _ (HKa.out.alloc (.cells #[.slice oa1 on1 oc1, .slice oa2 on2 oc2] 24)) (HNa.out.kept ((Kept.refl [] Wa).alloc _))))).mono ?_; rintro e Wb ⟨rfl, hkb⟩; have HKb : Hid (Kept [] W Wb) := kept_same (HKa.out.alloc _) hkb.out; clear hkb; clear x0 x1 e0 e1 m0 m1 f0 k0 n0 r0; obtain ⟨⟨x0, x1⟩, ⟨e0, e1⟩, ⟨m0, m1⟩, f0, k0, n0, r0⟩ := (HC.out.kept HKb.out).cells)
            | (gi_at_call 20; refine (CallsIn.inRound l (callsIn_wide.2 (HCX.out Wb HKb.out))).mono ?_; rintro e Wd ⟨rfl, hkd⟩; have HKd : Hid (Kept [] W Wd) := kept_same HKb.out hkd.out; clear hkd; clear x0 x1 e0 e1 m0 m1 f0 k0 n0 r0; obtain ⟨⟨x0, x1⟩, ⟨e0, e1⟩, ⟨m0, m1⟩, f0, k0, n0, r0⟩ := (HC.out.kept HKd.out).cells)
            | skip)
          gi_region_with (first
            | (refine ⟨trivial, ?_⟩; gi_at_call 22; refine (CallsIn.inRound l (callsIn_wide.2 (HPX.out _ HKd.out.drew))).mono ?_; rintro e Wp ⟨rfl, hkp⟩; have HKp : Hid (Kept [] W Wp) := kept_same HKd.out.drew hkp.out; clear hkp; have n2 := (HC.out.kept HKp.out).n.cell))
          all_goals (clear x0 x1 e0 e1 m0 m1 f0 k0 n0 r0)
          all_goals (obtain ⟨⟨x0, x1⟩, ⟨e0, e1⟩, ⟨m0, m1⟩, f0, k0, n0, r0⟩ := (HC.out.kept HKp.out).cells)
          all_goals gi_wp2_with (refine ⟨trivial, ?_⟩; (gi_at_call 14; refine (CallsIn.inRound l (callsIn_wide.2 (HIS.out Wp HKp.out))).mono ?_; rintro e Wq ⟨rfl, hkq⟩; have HKq : Hid (Kept [] W Wq) := kept_same HKp.out hkq.out; clear hkq; clear x0 x1 e0 e1 m0 m1 f0 k0 n0 r0; obtain ⟨⟨x0, x1⟩, ⟨e0, e1⟩, ⟨m0, m1⟩, f0, k0, n0, r0⟩ := (HC.out.kept HKq.out).cells; obtain ⟨fz0, fz1, fz2, fz3⟩ := (HC.out.kept HKq.out).frees))
          all_goals exact on_step HI.out HDD.out HAT.out HKq.out (found_true HFD.out)
        · have hy := mem_all.1 hmy
          have hy0 := hy.1.1
          have hy3 : y.q.stem.length + y.q.loop.length ≤ 1000 := by omega
          have HAH : Hid (∀ W2, Kept [] W W2 → Calls Tryd.prog 40 #[.agg #[.slice y.a1 y.q.stem.length y.c1, .slice y.a2 y.q.loop.length y.c2], .agg #[.slice x.a1 x.q.stem.length x.c1, .slice x.a2 x.q.loop.length x.c2]] W2 (AheadEnds y.q x.q W2)) := fun W2 k2 => ahead_any _ _ _ _ _ _ _ _ y.q x.q W2 ((hrowy.kept k2).isW (by omega)) ((HRX.out.kept k2).isW (by omega)) hy0 h0 hy3 hx3
          have zy : ((y.q.loop.length : Int) == 0) = false := by rw [beq_eq_false_iff_ne]; omega
          obtain ⟨⟨x0, x1⟩, ⟨e0, e1⟩, ⟨m0, m1⟩, f0, k0, n0, r0⟩ := HC.out.cells
          clear hrowy hmy hy hy0 hy3
          gi_wp2_with (refine ⟨trivial, ?_⟩; first
            | (gi_at_call 10; refine (CallsIn.inRound l (callsIn_wide.2 (HNX.out W (Kept.refl [] W)))).mono ?_; rintro e Wa ⟨oa1, on1, oc1, oa2, on2, oc2, rfl, HNa, HKa⟩; clear x0 x1 e0 e1 m0 m1 f0 k0 n0 r0; obtain ⟨⟨x0, x1⟩, ⟨e0, e1⟩, ⟨m0, m1⟩, f0, k0, n0, r0⟩ := (HC.out.kept (HKa.out.alloc (.cells #[.slice oa1 on1 oc1, .slice oa2 on2 oc2] 24))).cells)
            | (gi_at_call 14; refine (CallsIn.inRound l (callsIn_wide.2 (HSX.out _ _ _ _ (HKa.out.alloc (.cells #[.slice oa1 on1 oc1, .slice oa2 on2 oc2] 24)) (HNa.out.kept ((Kept.refl [] Wa).alloc _))))).mono ?_; rintro e Wb ⟨rfl, hkb⟩; have HKb : Hid (Kept [] W Wb) := kept_same (HKa.out.alloc _) hkb.out; clear hkb; clear x0 x1 e0 e1 m0 m1 f0 k0 n0 r0; obtain ⟨⟨x0, x1⟩, ⟨e0, e1⟩, ⟨m0, m1⟩, f0, k0, n0, r0⟩ := (HC.out.kept HKb.out).cells)
            | (gi_at_call 40; refine (CallsIn.inRound l (callsIn_wide.2 (HAH.out Wb HKb.out))).mono ?_; rintro e Wc ⟨rb, rfl, hrb, hkc⟩; have HKc : Hid (Kept [] W Wc) := kept_same HKb.out hkc.out; have HRB : Hid (rb = false → Hid (¬ AheadP y.q x.q)) := hrb; clear hkc hrb; clear x0 x1 e0 e1 m0 m1 f0 k0 n0 r0; obtain ⟨⟨x0, x1⟩, ⟨e0, e1⟩, ⟨m0, m1⟩, f0, k0, n0, r0⟩ := (HC.out.kept HKc.out).cells)
            | (gi_at_call 20; refine (CallsIn.inRound l (callsIn_wide.2 (HCX.out Wc HKc.out))).mono ?_; rintro e Wd ⟨rfl, hkd⟩; have HKd : Hid (Kept [] W Wd) := kept_same HKc.out hkd.out; clear hkd; clear x0 x1 e0 e1 m0 m1 f0 k0 n0 r0; obtain ⟨⟨x0, x1⟩, ⟨e0, e1⟩, ⟨m0, m1⟩, f0, k0, n0, r0⟩ := (HC.out.kept HKd.out).cells)
            | skip)
          cases rb with
          | false =>
            have HNA : Hid (¬ AheadP y.q x.q) := HRB.out rfl
            have fz3 := (HC.out.kept HKd.out).frees.2.2.2
            gi_region_with (refine ⟨trivial, ?_⟩)
            all_goals gi_wp2
            all_goals exact ⟨(KpX.of_kept HKd.out.drew).trans (KpX.setCell (p := ⟨Br, 0, none⟩) (fun h => h.elim HI.out.res.2 HTR.out) _), rfl, p0, y, x, rfl, HNA.out⟩
          | true =>
            gi_region_with (first
              | (refine ⟨trivial, ?_⟩; gi_at_call 22; refine (CallsIn.inRound l (callsIn_wide.2 (HPX.out _ HKd.out.drew))).mono ?_; rintro e Wp ⟨rfl, hkp⟩; have HKp : Hid (Kept [] W Wp) := kept_same HKd.out.drew hkp.out; clear hkp; have n2 := (HC.out.kept HKp.out).n.cell))
            all_goals (clear x0 x1 e0 e1 m0 m1 f0 k0 n0 r0)
            all_goals (obtain ⟨⟨x0, x1⟩, ⟨e0, e1⟩, ⟨m0, m1⟩, f0, k0, n0, r0⟩ := (HC.out.kept HKp.out).cells)
            all_goals gi_wp2_with (refine ⟨trivial, ?_⟩; (gi_at_call 14; refine (CallsIn.inRound l (callsIn_wide.2 (HIS.out Wp HKp.out))).mono ?_; rintro e Wq ⟨rfl, hkq⟩; have HKq : Hid (Kept [] W Wq) := kept_same HKp.out hkq.out; clear hkq; clear x0 x1 e0 e1 m0 m1 f0 k0 n0 r0; obtain ⟨⟨x0, x1⟩, ⟨e0, e1⟩, ⟨m0, m1⟩, f0, k0, n0, r0⟩ := (HC.out.kept HKq.out).cells; obtain ⟨fz0, fz1, fz2, fz3⟩ := (HC.out.kept HKq.out).frees))
            all_goals exact on_step HI.out HDD.out HAT.out HKq.out (found_true HFD.out)
    case done =>
      rintro D1 X xs W1 hD hXD hS hI hK
      have hb := hI.bf
      rw [show xs.map Nw.q = allW k sz from hS, HIN.out] at hb
      have cf := hb.1.cell
      have cr := hI.res.1.cell
      have fr := hI.res.1.frozen
      have hss : (sm == sm) = true := by cases sm <;> rfl
      have HI : Hid (OnS w (allW k sz) Br Bk Bn Bm Bf Bl k n (.slice ma1 mn1 mc1) (.slice ma2 mn2 mc2) r X xs W1) := hI
      have HKD : Hid (W1.heap[D1]? = some (.deferred (some []))) := hK
      have HXD : Hid (X D1) := hXD
      clear hI hK hS hb hXD hD
      go_wp2
      have hK2 : (W1.setCell ⟨Br, 0, none⟩ (.bool true)).heap[D1]? = some (.deferred (some [])) := (Below.heap_setCell _ _ _ _ (fun e => by have h1 := HI.out.res.1; have h2 := HKD.out; rw [e] at h2; rw [show W1.heap[Br]? = _ from h1] at h2; cases h2)).trans HKD.out
      have hB2 := HI.out.low.set HRW.out (o := 0) (.bool true)
      exact leaveO rfl (Boxed.set _ HI.out.res.1) hK2 ⟨rfl, hB2.1.trans (belowK_b (w := w) (Nat.le_refl _) _ D1 _ _ (by have := hB2.2.2 D1 HXD.out; omega) hK2 rfl rfl)⟩
    case stop =>
      rintro D1 X c pre W1 hD hXD hS ⟨rfl, p, a, b, rfl, hno⟩ hK
      refine absurd (all_next (props := k) (size := sz) (pre := p.map Nw.q) ?_) hno
      have h : (p ++ [a] ++ [b]).map Nw.q <+: allW k sz := hS
      rw [List.map_append, List.map_append] at h
      exact h
theorem wordsOnce_walk (props size : Int) (sv lv : Value) (q : Wd) (w : World) (hp : -9223372036854775808 ≤ props ∧ props ≤ 9223372036854775807) (hz : -9223372036854775808 ≤ size ∧ size ≤ 9223372036854775807) (h1 : Lets w sv q.stem) (h2 : Lets w lv q.loop) (hT : PowTab w) :
    Calls Tryd.prog 5 #[.int .i64 props, .int .i64 size, .agg #[sv, lv]] w fun e w' => e = .returned (.bool true) ∧ Kept [] w w' := by
  obtain ⟨a1, c1, rfl, _, _⟩ := h1.form
  obtain ⟨a2, c2, rfl, _, _⟩ := h2.form
  refine (once_walk props size a1 a2 c1 c2 q w hp hz h1 h2 hT).mono ?_
  rintro e w' ⟨rfl, hb⟩
  exact ⟨rfl, hb.os, hb.tape, hb.output, hb.size, fun k hk _ => hb.block k hk⟩
end Go.Proofs.YtgbmfclboliliaaDoor
