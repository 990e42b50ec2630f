/- works: what the chapter's examples fix. -/
import Derived.Test.YtamfnefnaelgfaaDoorHC
namespace Go.Proofs.YtamfnefnaelgfaaDoor
open Go.RowKit Go.Shelf Go.Lib
attribute [local go_sem] Oper.semAt_some

theorem show_small {q : Wd} (h : q ∈ allW 1 2) : q.stem.length + q.loop.length ≤ 2 ∧ (showB q).length ≤ 8 := by
  rw [all12] at h
  simp only [List.mem_cons, List.not_mem_nil, or_false] at h
  rcases h with rfl | rfl | rfl | rfl | rfl | rfl <;> simp [showB, stemB, loopB, sepB, decDigits_one, List.range_succ]
theorem works_end {w W W2 : World} {X T : Nat → Prop} {Bs Bc g : Nat} {cs cur : Array Value} {sa sb : ByteArray} {pre : List Nw} {x : Nw} {n : Nat} (_hX : ∀ k, X k → k < W.heap.size)
    (hs : sa ++ sb = ⟨(texts ((pre ++ [x]).map Nw.q)).toArray⟩ ∧ (texts ((pre ++ [x]).map Nw.q)).length ≤ 8 * (pre ++ [x]).length) (h1 : Bc ≠ Bs) (h2 : g ≠ Bs) (h3 : w.heap.size ≤ Bs)
    (hq : Bx1 Bs 9 (.string sa) X W ∧ Blk Bc cs 47 X W ∧ Blk g cur 51 X W ∧ Bw w.heap.size w X W ∧ n ≤ 8 * pre.length) (k : Kept [] W W2) (hT : ¬ T Bs) :
    KpX (orT T X) W (W2.setCell ⟨Bs, 0, none⟩ (.string (sa ++ sb))) ∧ Bx1 Bs 9 (.string ⟨(texts ((pre ++ [x]).map Nw.q)).toArray⟩) X (W2.setCell ⟨Bs, 0, none⟩ (.string (sa ++ sb))) ∧ Blk Bc cs 47 X (W2.setCell ⟨Bs, 0, none⟩ (.string (sa ++ sb))) ∧ Blk g cur 51 X (W2.setCell ⟨Bs, 0, none⟩ (.string (sa ++ sb))) ∧ Bw w.heap.size w X (W2.setCell ⟨Bs, 0, none⟩ (.string (sa ++ sb))) ∧ (texts ((pre ++ [x]).map Nw.q)).length ≤ 8 * (pre ++ [x]).length := by
  obtain ⟨q1, q2, q3, q4, _⟩ := hq
  rw [hs.1]
  exact ⟨(KpX.of_kept k).trans (KpX.setCell (p := ⟨Bs, 0, none⟩) (fun h => h.elim q1.2 hT) _), (q1.kept0 k).set _, (q2.kept0 k).other h1, (q3.kept0 k).other h2, (q4.kept0 k).set h3 _, hs.2⟩
set_option maxHeartbeats 4000000 in
set_option maxRecDepth 20000 in
theorem works_walk (w : World) (hT : PowTab w) :
    Calls Tryd.prog 4 #[] w fun e w' => e = .returned (.bool true) ∧ Below w.heap.size w w' := by
  have HT : Hid (∀ W, Kept [] w W → PowTab W) := fun W k => hT.kept k
  have HT2 : Hid (∀ W, Below w.heap.size w W → PowTab W) := fun W k => tab_below hT k
  clear hT
  have T1 : Hid True := trivial
  have T2 : Hid True := trivial
  have T3 : Hid True := trivial
  have T4 : Hid True := trivial
  have T5 : Hid True := trivial
  refine (callsIn_wide (n := 9)).1 ?_
  refine callsIn_of_wp_marks Tryd.func4 rfl trivial ?_ rfl
  simp only [Tryd.ntmps4, List.size_toArray, List.length_nil, Nat.reduceSub, Array.replicate_succ, Array.replicate_zero, List.push_toArray, List.append_toArray, List.nil_append, List.cons_append]
  gi_wp2_with (refine ⟨trivial, ?_⟩; first
    | (gi_at_call 11; refine (callsIn_wide.2 (wk_normal w _ ((Kept.refl [] _).alloc _))).mono ?_; rintro e w1 ⟨a1, c1, a2, c2, rfl, HI1, hk⟩; have HK1 : Hid (Kept [] w w1) := Kept.trans (F := []) (G := []) (H := []) ((((Kept.refl [] w).alloc _).alloc _).alloc _) hk.out (by simp) (by simp); clear hk)
    | (clear T1; gi_at_call 12; refine (callsIn_wide.2 (wk_show1 HI1.out _ ((Kept.refl [] _).alloc _) (HT.out _ (HK1.out.alloc _)))).mono ?_; clear HI1; rintro e w2 ⟨rfl, hk⟩; have HK2 : Hid (Kept [] w w2) := (HK1.out.alloc _).trans hk.out (by simp) (by simp); clear hk HK1)
    | (gi_at_call 13; refine (callsIn_wide.2 (wk_suffix w2 _ (Kept.refl [] _))).mono ?_; rintro e w3 ⟨a3, c3, a4, c4, rfl, HI3, hk⟩; have HK3 : Hid (Kept [] w w3) := ((HK2.out.alloc _).alloc _).trans hk.out (by simp) (by simp); clear hk HK2)
    | (clear T2; gi_at_call 12; refine (callsIn_wide.2 (wk_show2 HI3.out _ (Kept.refl [] _) (HT.out _ HK3.out))).mono ?_; clear HI3; rintro e w4 ⟨rfl, hk⟩; have HK4 : Hid (Kept [] w w4) := HK3.out.trans hk.out (by simp) (by simp); clear hk HK3)
    | (clear T3; gi_at_call 14; refine (callsIn_wide.2 (wk_read1 _)).mono ?_; rintro e w5 ⟨a5, c5, a6, c6, rfl, HI5, hk⟩; have HK5 : Hid (Kept [] w w5) := HK4.out.trans hk.out (by simp) (by simp); clear hk HK4)
    | (gi_at_call 14; refine (callsIn_wide.2 (wk_read2 _)).mono ?_; rintro e w6 ⟨a7, n7, c7, a8, n8, c8, rfl, hk⟩; have HC6 : Hid (CAt w6 w5.heap.size (.slice a5 2 c5) (.slice a6 2 c6)) := (CAt.new HI5.out).kept hk.out; have HK6 : Hid (Kept [] w w6) := (HK5.out.alloc _).trans hk.out (by simp) (by simp); have HZ5 : Hid (w.heap.size ≤ w5.heap.size) := HK5.out.size; obtain ⟨p0, p1, -, -⟩ := (HC6.out.kept ((Kept.refl [] w6).alloc (.cells #[.slice a7 n7 c7, .slice a8 n8 c8] 47))).box.cells; clear hk HK5 HI5)
    | (gi_at_call 15; refine (callsIn_wide.2 (wk_behind (HC6.out.kept ((Kept.refl [] _).alloc _)))).mono ?_; clear p0 p1; rintro e w7 ⟨rfl, hk⟩; have HC7 : Hid (CAt w7 w5.heap.size (.slice a5 2 c5) (.slice a6 2 c6)) := (HC6.out.kept ((Kept.refl [] _).alloc _)).kept hk.out; have HK7 : Hid (Kept [] w w7) := (HK6.out.alloc _).trans hk.out (by simp) (by simp); obtain ⟨p0, p1, -, -⟩ := HC7.out.box.cells; clear hk HK6 HC6)
    | (clear T4; gi_at_call 16; refine (callsIn_wide.2 (wk_check1 HC7.out)).mono ?_; clear p0 p1; rintro e w8 ⟨rfl, hk⟩; have HC8 : Hid (CAt w8 w5.heap.size (.slice a5 2 c5) (.slice a6 2 c6)) := HC7.out.kept hk.out; have HK8 : Hid (Kept [] w w8) := HK7.out.trans hk.out (by simp) (by simp); obtain ⟨p0, p1, -, -⟩ := HC8.out.box.cells; clear hk HK7 HC7)
    | (gi_at_call 16; refine (callsIn_wide.2 (wk_check2 HC8.out)).mono ?_; clear p0 p1; rintro e w9 ⟨rfl, hk⟩; have HC9 : Hid (CAt w9 w5.heap.size (.slice a5 2 c5) (.slice a6 2 c6)) := HC8.out.kept hk.out; have HK9 : Hid (Kept [] w w9) := HK8.out.trans hk.out (by simp) (by simp); obtain ⟨p0, p1, -, -⟩ := HC9.out.box.cells; clear hk HK8 HC8)
    | (gi_at_call 17; refine (callsIn_wide.2 (wk_places HC9.out)).mono ?_; clear p0 p1; rintro e w10 ⟨rfl, hk⟩; have HC10 : Hid (CAt w10 w5.heap.size (.slice a5 2 c5) (.slice a6 2 c6)) := HC9.out.kept hk.out; have HK10 : Hid (Kept [] w w10) := HK9.out.trans hk.out (by simp) (by simp); obtain ⟨p0, p1, -, -⟩ := HC10.out.box.cells; clear hk HK9 HC9)
    | (gi_at_call 18; refine (callsIn_wide.2 (wk_at HC10.out)).mono ?_; clear p0 p1; rintro e w11 ⟨rfl, hk⟩; have HC11 : Hid (CAt w11 w5.heap.size (.slice a5 2 c5) (.slice a6 2 c6)) := HC10.out.kept hk.out; have HK11 : Hid (Kept [] w w11) := HK10.out.trans hk.out (by simp) (by simp); obtain ⟨p0, p1, -, -⟩ := HC11.out.box.cells; clear hk HK10 HC10)
    | (gi_at_call 19; refine (callsIn_wide.2 (wk_same HC11.out _ (Kept.refl [] _))).mono ?_; clear p0 p1; rintro e w12 ⟨rfl, hk⟩; have HC12 : Hid (CAt w12 w5.heap.size (.slice a5 2 c5) (.slice a6 2 c6)) := (HC11.out.kept (((Kept.refl [] _).alloc _).alloc _)).kept hk.out; have HK12 : Hid (Kept [] w w12) := ((HK11.out.alloc _).alloc _).trans hk.out (by simp) (by simp); clear hk HK11 HC11)
    | (gi_at_call 20; refine (callsIn_wide.2 (wk_join w12 _ (Kept.refl [] _))).mono ?_; rintro e w13 ⟨a3, c3, a4, c4, rfl, HI13, hk⟩; have HC13 : Hid (CAt w13 w5.heap.size (.slice a5 2 c5) (.slice a6 2 c6)) := (HC12.out.kept (((Kept.refl [] _).alloc _).alloc _)).kept hk.out; have HK13 : Hid (Kept [] w w13) := ((HK12.out.alloc _).alloc _).trans hk.out (by simp) (by simp); clear hk HK12 HC12)
    | (gi_at_call 12; refine (callsIn_wide.2 (wk_show2 HI13.out _ (Kept.refl [] _) (HT.out _ HK13.out))).mono ?_; clear HI13; rintro e w14 ⟨rfl, hk⟩; have HC14 : Hid (CAt w14 w5.heap.size (.slice a5 2 c5) (.slice a6 2 c6)) := HC13.out.kept hk.out; have HK14 : Hid (Kept [] w w14) := HK13.out.trans hk.out (by simp) (by simp); obtain ⟨p0, p1, -, -⟩ := HC14.out.box.cells; clear hk HK13 HC13)
    | (gi_at_call 21; refine (callsIn_wide.2 (wk_prefix HC14.out)).mono ?_; clear p0 p1; rintro e w15 ⟨g, cur, rfl, HG15, hk⟩; have HC15 : Hid (CAt w15 w5.heap.size (.slice a5 2 c5) (.slice a6 2 c6)) := HC14.out.kept hk.out; have HK15 : Hid (Kept [] w w15) := HK14.out.trans hk.out (by simp) (by simp); clear hk HK14 HC14)
    | (gi_at_call 7; refine (callsIn_wide.2 (all_any 1 2 _ (by decide) (by decide) (by decide))).mono ?_; rintro e V ⟨rfl, HA, HKV⟩))
  rw [eql_nil]
  simp only [Result.andThen]
  gi_wp2
  obtain ⟨U, hU⟩ : ∃ U, V.alloc (.cells #[.string ⟨#[]⟩] 9) = U := ⟨_, rfl⟩
  have kU : Kept [] V U := by rw [← hU]; exact (Kept.refl [] V).alloc _
  have zU : U.heap.size = V.heap.size + 1 := by rw [← hU]; simp
  have bU : Boxed U V.heap.size 9 (.string ⟨(texts []).toArray⟩) := by rw [← hU]; exact Boxed.new V _ _
  have kw : Kept [] w15 U := HKV.out.trans kU (by simp) (by simp)
  have kW : Kept [] w U := HK15.out.trans kw (by simp) (by simp)
  have rC : U.heap[w5.heap.size]? = some (.cells #[.slice a5 2 c5, .slice a6 2 c6] 47 (0, 0)) := HC15.out.box.kept kw
  have rG : U.heap[g]? = some (.cells cur 51 (0, 0)) := kw.at HG15.out.1 (by simp)
  have HCU : Hid (cur[2]? = some (.int .u16 3)) := HG15.out.2
  have hAU : AllAt (w15.heap.size + 1) w15.heap.size 2 1 U := (show AllAt (w15.heap.size + 1) w15.heap.size 2 1 V from HA.out).kpx (KpX.of_kept kU)
  have z1 : w5.heap.size < w15.heap.size := lt_of HC15.out.box
  have z2 : g < w15.heap.size := lt_of HG15.out.1
  have z3 : w15.heap.size + 1 < V.heap.size := HA.out.bz.lt
  have z4 : w.heap.size ≤ w15.heap.size := HK15.out.size
  have z5 : w.heap.size ≤ w5.heap.size := HZ5.out
  rw [hU]
  clear hU kU HA HKV HK15 HC15 HG15 HZ5 T5
  refine rangeWord rfl (by omega) (gf := 24) (lb := #[.pointer (some ⟨w15.heap.size + 1, 0, none⟩), .pointer (some ⟨w15.heap.size, 0, none⟩)]) rfl trivial (enters_of Tryd.func24 (by kernel_rfl) rfl)
    (all_goes (9 - 1) (w15.heap.size + 1) w15.heap.size 2 1 U hAU (by decide) (by decide)) (nwAt_kept _) (fun k h => by omega) (fun k h => h.elim) (fun _ => rfl)
    (fun X pre W => Bx1 V.heap.size 9 (.string ⟨(texts (pre.map Nw.q)).toArray⟩) X W ∧ Blk w5.heap.size #[.slice a5 2 c5, .slice a6 2 c6] 47 X W ∧ Blk g cur 51 X W ∧ Bw w.heap.size w X W ∧ (texts (pre.map Nw.q)).length ≤ 8 * pre.length)
    (fun _ _ _ _ => False)
    ⟨fun h hX => ⟨h.1.more hX, h.2.1.more hX, h.2.2.1.more hX, h.2.2.2.1.more hX, h.2.2.2.2⟩, fun h hg hr => ⟨h.1.turn hg hr, h.2.1.turn hg hr, h.2.2.1.turn hg hr, h.2.2.2.1.turn hg hr, h.2.2.2.2⟩⟩
    (fun c => ⟨fun h _ => h, fun h _ _ => h⟩)
    ⟨⟨bU, fun h => h⟩, ⟨rC, fun h => h⟩, ⟨rG, fun h => h⟩, ⟨kW.below, kW.size, fun k h => h.elim⟩, Nat.le_refl _⟩ ?a1 ?assign ?body ?done ?stop
  case assign =>
    intro l x W Bx K hBx hK
    dsimp only [nwV]
    dsimp only [nwC] at hK
    gi_wp2
    exact hK
  case body =>
    rintro l X pre x Bx W _ _ hXb ⟨q1, q2, q3, q4, q5⟩ hBx hrow hat hlt
    dsimp only [nwC] at hrow
    obtain ⟨hm1, hm2⟩ := show_small hat.mem
    obtain ⟨n₀, hn⟩ := hat.new
    have hi : IsW W (.slice x.a1 x.q.stem.length x.c1) (.slice x.a2 x.q.loop.length x.c2) x.q := ⟨hn.lets1, hn.lets2, by omega⟩
    have HSH : Hid (∀ W', Kept [] W W' → Calls Tryd.prog 12 #[.agg #[.slice x.a1 x.q.stem.length x.c1, .slice x.a2 x.q.loop.length x.c2]] W' fun e W2 => e = .returned (.string ⟨(showB x.q).toArray⟩) ∧ Hid (Kept [] W' W2)) := fun W' k => show_any _ _ _ W' (hi.kept k) (by omega) (HT2.out _ (q4.kept0 k).1)
    obtain ⟨sa, hsa⟩ : ∃ sa : ByteArray, ⟨(texts (pre.map Nw.q)).toArray⟩ = sa := ⟨_, rfl⟩
    obtain ⟨sb, hsb⟩ : ∃ sb : ByteArray, ⟨(showB x.q).toArray⟩ = sb := ⟨_, rfl⟩
    have HSA : Hid (sa ++ sb = ⟨(texts ((pre ++ [x]).map Nw.q)).toArray⟩ ∧ (texts ((pre ++ [x]).map Nw.q)).length ≤ 8 * (pre ++ [x]).length) := by
      rw [← hsa, ← hsb, List.map_append, List.map_singleton, texts_snoc]
      refine ⟨by rw [ByteArray.mk_append_mk], ?_⟩
      rw [List.length_append, List.length_append, List.length_singleton]
      omega
    have hsum : sa.size + sb.size ≤ 9223372036854775807 := by
      rw [← hsa, ← hsb]; simp only [ByteArray.size, List.size_toArray]
      have hN : (allW 1 2).length = 6 := by rw [all12]; rfl
      omega
    rw [hsa] at q1
    rw [hsb] at HSH
    have c0 := q1.1.cell
    have f0 := q1.1.frozen
    have t0 : W.cell? ⟨Bx, 0, none⟩ = some (.slice x.a1 x.q.stem.length x.c1) := (cell_of hrow 0).trans rfl
    have t1 : W.cell? ⟨Bx, 1, none⟩ = some (.slice x.a2 x.q.loop.length x.c2) := (cell_of hrow 1).trans rfl
    have Hq : Hid (Bx1 V.heap.size 9 (.string sa) X W ∧ Blk w5.heap.size #[.slice a5 2 c5, .slice a6 2 c6] 47 X W ∧ Blk g cur 51 X W ∧ Bw w.heap.size w X W ∧ (texts (pre.map Nw.q)).length ≤ 8 * pre.length) := ⟨q1, q2, q3, q4, q5⟩
    clear hrow hat hn hi q1 q2 q3 q4 q5 hsa hsb hm1 hm2 hlt
    gi_wp2
    gi_region_with (first
      | (refine ⟨trivial, ?_⟩; gi_at_call 12; refine (CallsIn.inRound l (callsIn_wide.2 (HSH.out _ ((Kept.refl [] W).drew)))).mono ?_; rintro e W2 ⟨rfl, HK2⟩; have c2 := (Hq.out.1.kept0 (kept_same ((Kept.refl [] W).drew) HK2.out)).1.cell; have f2 := (Hq.out.1.kept0 (kept_same ((Kept.refl [] W).drew) HK2.out)).1.frozen))
    all_goals gi_wp2
    all_goals exact works_end hXb HSA.out (by omega) (by omega) (by omega) Hq.out (kept_same ((Kept.refl [] W).drew) HK2.out) (by omega)
  case done =>
    rintro D X xs W1 hD hXD hS ⟨q1, q2, q3, q4, _⟩ hK
    rw [show xs.map Nw.q = allW 1 2 from hS, texts12] at q1
    have cn : W1.cell? ⟨V.heap.size, 0, none⟩ = some (.string ⟨#[40, 48, 41, 40, 49, 41, 40, 48, 32, 49, 41, 40, 49, 32, 48, 41, 48, 32, 40, 49, 41, 49, 32, 40, 48, 41]⟩) := q1.1.cell
    have r0 : W1.cell? ⟨w5.heap.size, 0, none⟩ = some (.slice a5 2 c5) := (cell_of q2.1 0).trans rfl
    have r1 : W1.cell? ⟨g, 2, none⟩ = some (.int .u16 3) := (cell_of q3.1 2).trans HCU.out
    have Hq4 : Hid (Bw _ _ _ _) := q4
    have HKD : Hid (W1.heap[D]? = some (.deferred (some []))) := hK
    clear q1 q2 q3 q4 hK hS
    gi_wp2
    exact ⟨by simp, .inl ⟨_, _, rfl, run_takeDeferred HKD.out, ⟨_, results_tmp rfl _ _ _, rfl, Hq4.out.1.trans (belowK_b (w := w) (Nat.le_refl _) _ D _ _ (by have := Hq4.out.2.2 D hXD; omega) HKD.out rfl rfl)⟩⟩⟩
  case stop =>
    rintro D X c pre W1 _ _ _ h _
    exact h.elim
theorem works_any (w : World) (hT : PowTab w) : Calls Tryd.prog 4 #[] w fun e w' => e = .returned (.bool true) ∧ Kept [] w w' := by
  refine (works_walk w hT).mono ?_
  rintro e w' ⟨rfl, hb⟩
  exact ⟨rfl, hb.os, hb.tape, hb.output, hb.size, fun k hk _ => hb.block k hk⟩
end Go.Proofs.YtamfnefnaelgfaaDoor
