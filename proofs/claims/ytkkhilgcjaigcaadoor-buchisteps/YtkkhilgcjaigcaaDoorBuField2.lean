/- package buchi: newField over one state with one edge, at a loop of two letters. -/
import Derived.Test.YtkkhilgcjaigcaaDoorBuField
namespace Go.Proofs.YtkkhilgcjaigcaaDoor
open Go.RowKit Go.Shelf
attribute [local go_sem] Oper.semAt_some

set_option maxHeartbeats 4000000 in
set_option maxRecDepth 20000 in
theorem newField_two (RB rc EB ec b g c LB lc : Nat) (w : World)
    (hr : w.cell? ⟨RB, 0, none⟩ = some (.slice (some ⟨EB, 0, none⟩) 1 ec))
    (he : w.cell? ⟨EB, 0, none⟩ = some (.int .i64 0) ∧ w.cell? ⟨EB, 1, none⟩ = some (.int .i64 0) ∧ w.cell? ⟨EB, 2, none⟩ = some (.int .u16 1) ∧ w.cell? ⟨EB, 3, none⟩ = some (.int .u16 0))
    (hs : IsSet w b g c 1 [1]) (hT : Tab w) (hl0 : w.cell? ⟨LB, 0, none⟩ = some (.int .u16 1)) (hl1 : w.cell? ⟨LB, 1, none⟩ = some (.int .u16 0)) :
    Calls Tryd.prog 68 #[.slice (some ⟨RB, 0, none⟩) 1 rc, .pointer (some ⟨b, 0, none⟩), .slice (some ⟨LB, 0, none⟩) 2 lc] w (NfEnds 2 w) := by
  have hmm := @run_makeMap Tryd.prog
  have HS : Hid (∀ W, Kept [] w W → IsSet W b g c 1 [1]) := fun W k => hs.kept k (by simp) (by simp)
  have HT : Hid (∀ W, Kept [] w W → Tab W) := fun W k => hT.kept k (by simp)
  have HCL : Hid (∀ W, Kept [] w W → W.cell? ⟨RB, 0, none⟩ = some (.slice (some ⟨EB, 0, none⟩) 1 ec) ∧ W.cell? ⟨EB, 0, none⟩ = some (.int .i64 0) ∧ W.cell? ⟨EB, 1, none⟩ = some (.int .i64 0) ∧ W.cell? ⟨EB, 2, none⟩ = some (.int .u16 1) ∧ W.cell? ⟨EB, 3, none⟩ = some (.int .u16 0) ∧ W.cell? ⟨LB, 0, none⟩ = some (.int .u16 1)) := fun W k =>
    ⟨cell_kept0 k hr, cell_kept0 k he.1, cell_kept0 k he.2.1, cell_kept0 k he.2.2.1, cell_kept0 k he.2.2.2, cell_kept0 k hl0⟩
  have HL1 : Hid (∀ W, Kept [] w W → W.cell? ⟨LB, 1, none⟩ = some (.int .u16 0)) := fun W k => cell_kept0 k hl1
  have H0 : Hid (0 < w.heap.size) := hT.1
  clear hs hT hr he hl0 hl1
  refine (callsIn_wide (n := 9)).1 ?_
  refine callsIn_of_wp_marks Tryd.func68 rfl trivial ?_ rfl
  simp only [Tryd.ntmps68, List.size_toArray, List.length_cons, List.length_nil, Nat.reduceAdd, Nat.reduceSub, Array.replicate_succ, Array.replicate_zero, List.push_toArray, List.append_toArray, List.nil_append, List.cons_append]
  gi_wp2_with (refine ⟨trivial, ?_⟩; gi_at_call 41; refine (callsIn_wide.2 (all_any b g c 1 [1] _ (HS.out _ ((((Kept.refl [] w).alloc _).alloc _).alloc _)) good1 (HT.out _ ((((Kept.refl [] w).alloc _).alloc _).alloc _)))).mono ?_; rintro e V1 ⟨Bn, b', g', c', rfl, hA, hBn, hb', hg', hk1⟩)
  have hk1 : Kept [] (nfW w) V1 := hk1
  have hBn : (nfW w).heap.size ≤ Bn := hBn
  have hb' : (nfW w).heap.size ≤ b' := hb'
  have hg' : (nfW w).heap.size ≤ g' := hg'
  have zN : (nfW w).heap.size = w.heap.size + 1 + 1 + 1 := by simp [nfW]
  have hG0 := (nf_first w).turn (grownBy_of_kept hk1) (fun r e => by cases e)
  obtain ⟨F, hF⟩ : ∃ F, w.heap.size + 1 = F := ⟨_, rfl⟩
  obtain ⟨Bf, hBf⟩ : ∃ Bf, F + 1 = Bf := ⟨_, rfl⟩
  have HLB : Hid (Bf < Bn ∧ Bf < b' ∧ Bf < g' ∧ w.heap.size < F ∧ F < Bf) := ⟨by omega, by omega, by omega, by omega, by omega⟩
  rw [hF, hBf] at hG0 ⊢
  have HWV : Hid (w.heap.size ≤ V1.heap.size) := hG0.m.f.kept.size
  clear hF hBf zN hBn hb' hg' hk1 hmm
  refine rangeAt1 rfl (by omega) (gf := 54) (lb := #[.pointer (some ⟨Bn, 0, none⟩)]) rfl trivial (enters_of Tryd.func54 (by kernel_rfl) rfl)
    (all_goes (9 - 1) (by omega) (allB Bn b' g') Bn b' g' c' 1 [1] good1 V1 hA.lt hA.allT) (memAt_kept 1 [1]) hA.lt (fun k h => h.elim) (fun _ => rfl)
    (NfI w F w.heap.size Bf) (fun _ _ _ _ => False) (nfI_abide _ _ _ _) (fun _ => ⟨fun h _ => h, fun h _ _ => h⟩) (.inl ⟨rfl, hG0⟩) ?a1 ?assign ?body ?done ?stop
  case assign =>
    intro l x W K hK
    gi_wp2
    exact hK
  case body =>
    rintro l X pre x W _ _ hXb hI hat hlt
    obtain rfl := mem1 hat
    rw [elems1] at hlt
    rcases hI with ⟨rfl, hG⟩ | ⟨rfl, _⟩
    rotate_left
    · simp at hlt
    have cb := hG.bx.cell
    have HG : Hid (NfG w W F w.heap.size Bf X ents0 0 (fldV w.heap.size (.slice none 0 0) (.slice none 0 0) (.slice none 0 0) (.slice none 0 0) (.slice none 0 0)) (fldR 0 [] [] [] [] [])) := hG
    have HPF : Hid _ := put_first hG.m
    clear hG hlt hat hG0
    gi_wp2_with (refine ⟨trivial, ?_⟩; gi_at_call 82; refine (CallsIn.inRound l (callsIn_wide.2 HPF.out)).mono ?_; rintro e W1 ⟨rfl, kv, av, lv, iv, yv, HB1, HO1, HN1⟩)
    have hq := HLB.out
    have h0 := H0.out
    have hk : ∀ k o, (orT (allB Bn b' g') X) k → W.heap[k]? = some o → W1.heap[k]? = some o := by
      rintro k o hk ho
      refine HO1.out k o ho ?_ ?_
      · rintro rfl
        rcases hk with h | h | h | h | h
        · exact HG.out.nf h
        all_goals omega
      · rintro rfl
        rcases hk with h | h | h | h | h
        · exact HG.out.nm h
        all_goals omega
    refine ⟨⟨HN1.out.2, hk⟩, .inr ⟨rfl, kv, av, lv, iv, yv, HB1.out, HO1.out Bf _ HG.out.bx (by omega) (by omega), HG.out.nf, HG.out.nm, HG.out.nb, fun i r v h1 h2 g e hx => ?_, HG.out.lo⟩⟩
    have := HN1.out.1 v (vals5 h1 h2) g e
    have := hXb g hx
    omega
  case done =>
    rintro D X xs W hD hXD hS hI hK
    rw [hS, elems1] at hI
    rcases hI with ⟨h, _⟩ | ⟨hz, kv, av, lv, iv, yv, hG⟩
    · cases h
    clear hz
    have HG : Hid (NfG w W F w.heap.size Bf X (ents1 0) 1 (fldV w.heap.size kv av lv iv yv) (fldR 1 [.int .i64 0, .int .i64 0] [.slice none 0 0] [.int .i64 0] [.bool true] [.int .i64 0])) := hG
    have HKD : Hid (W.heap[D]? = some (.deferred (some []))) := hK
    clear hG hK hS hG0 hA
    rename_i K0 a0
    refine a0 _ _ (wpIn_wide.2 ?_)
    dsimp only
    obtain ⟨kb, kc, rfl, _, _, _, _, hkc⟩ := HG.out.m.f.row (i := 1) (v := kv) rfl rfl (by show 0 < 1; omega)
    dsimp only at hkc
    have cb := HG.out.bx.cell
    have x1 := (HG.out.m.f.cell (i := 1) rfl).1
    have k0 := (hkc 0 _ rfl).1
    have k1 := (hkc 1 _ rfl).1
    obtain ⟨r0, e0, e1, e2, e3, l0⟩ := HCL.out W HG.out.m.f.kept
    clear hkc
    go_wp2_with fail
    refine wp_loop_rounds 3 ?_
    rw [rounds_succ]
    go_upto_region 9 with fail
    obtain ⟨A, hA⟩ : ∃ A, W.alloc (.cells #[.int .i64 0, .int .i64 0] 114) = A := ⟨_, rfl⟩
    have kA : Kept [] W A := by rw [← hA]; exact (Kept.refl [] W).alloc _
    have bA : A.heap[W.heap.size]? = some (.cells #[.int .i64 0, .int .i64 0] 114 (0, 0)) := by rw [← hA]; exact al0 _ _
    rw [hA]
    have p0 : A.cell? ⟨W.heap.size, 0, none⟩ = some (.int .i64 0) := (cell_of bA 0).trans rfl
    have p1 : A.cell? ⟨W.heap.size, 1, none⟩ = some (.int .i64 0) := (cell_of bA 1).trans rfl
    clear x1 k0 k1 r0 e0 e1 e2 e3 l0 cb hA
    obtain ⟨r0, e0, e1, e2, e3, l0⟩ := HCL.out A (keptB HG.out.m.f.kept kA)
    have HGO : Hid (∀ (l : Nat) W', l < 65536 → Calls Tryd.prog 42 #[.agg #[.int .i64 0, .int .i64 0, .int .u16 1, .int .u16 0], .int .u16 (l : Nat)] W' fun e' w' => e' = .returned (.bool (goesB ⟨0, 0, 1, 0⟩ l)) ∧ Kept [] W' w') := fun l W' h => goes_any ⟨0, 0, 1, 0⟩ l W' (by decide) h
    have HBF : Hid (∀ W', Kept [] W W' → W'.heap[Bf]? = some (.cells #[.pointer (some ⟨F, 0, none⟩)] 95 (0, 0)) ∧ W'.heap[D]? = some (.deferred (some []))) := fun W' k => ⟨k.at HG.out.bx (by simp), k.at HKD.out (by simp)⟩
    have HP2 : Hid (∀ W', Kept [] W W' → Calls Tryd.prog 82 #[.pointer (some ⟨F, 0, none⟩), .agg #[.int .i64 0, .int .i64 1]] W' fun e w' => e = .returned (.int .i64 1) ∧ P2 w F w.heap.size Bf D w') := fun W' k => nf_put2 (HG.out.m.go k) (HBF.out W' k)
    go_wp2_with fail
    refine wp_loop_rounds 2 ?_
    rw [rounds_succ]
    go_upto_region 13 with fail
    obtain ⟨C, hC⟩ : ∃ C, A.alloc (.cells #[.int .i64 0, .int .i64 0, .int .u16 1, .int .u16 0] 52) = C := ⟨_, rfl⟩
    have kC : Kept [] A C := by rw [← hC]; exact (Kept.refl [] A).alloc _
    have bC : C.heap[A.heap.size]? = some (.cells #[.int .i64 0, .int .i64 0, .int .u16 1, .int .u16 0] 52 (0, 0)) := by rw [← hC]; exact al0 _ _
    rw [hC]
    have HWC : Hid (Kept [] W C) := keptB kA kC
    have q0 : C.cell? ⟨A.heap.size, 0, none⟩ = some (.int .i64 0) := (cell_of bC 0).trans rfl
    have q1 : C.cell? ⟨A.heap.size, 1, none⟩ = some (.int .i64 0) := (cell_of bC 1).trans rfl
    have q2 : C.cell? ⟨A.heap.size, 2, none⟩ = some (.int .u16 1) := (cell_of bC 2).trans rfl
    have q3 : C.cell? ⟨A.heap.size, 3, none⟩ = some (.int .u16 0) := (cell_of bC 3).trans rfl
    have p1c := cell_kept0 kC p1
    have l0c := cell_kept0 kC l0
    have HQ1 : Hid (C.cell? ⟨A.heap.size, 1, none⟩ = some (.int .i64 0)) := q1
    clear p0 p1 r0 e0 e1 e2 e3 l0 hC kA kC bA bC
    go_cut [65] from 59 to 65 (fun s65 wx => s65 = .bool true ∧ Hid (Kept [] C wx))
    case first =>
      refine wp_region_noPanic ?_
      go_region_with (go_at_call 42; refine (HGO.out 1 _ (by omega)).mono ?_; rintro e w1 ⟨rfl, hk⟩; have HK1 : Hid (Kept [] C w1) := keptB ((Kept.refl [] C).drew) hk; clear hk)
      all_goals refine NoPanic.normal ?_
      all_goals go_wp2_with fail
      all_goals go_meet
      all_goals exact ⟨rfl, HK1⟩
    case rest =>
      obtain ⟨rfl, HK1⟩ := hcut
      rename World => E
      clear q0 q1 q2 q3 p1c l0c
      have HWE : Hid (Kept [] W E) := keptB HWC.out HK1.out
      have cb : E.cell? ⟨Bf, 0, none⟩ = some (.pointer (some ⟨F, 0, none⟩)) := (cell_of (HBF.out E HWE.out).1 0).trans rfl
      have t1 := cell_kept0 HK1.out HQ1.out
      go_upto_region 14 with fail
      refine wp_merge ?fr (P4 w F w.heap.size Bf D) ?ways ?on
      case ways =>
        go_region_with (first
          | (go_at_call 82; refine (HP2.out _ (HWE.out.drew)).mono ?_; rintro e w3 ⟨rfl, hp3⟩; have HP3 : Hid (P2 w F w.heap.size Bf D w3) := hp3; have cb3 : w3.cell? ⟨Bf, 0, none⟩ = some (.pointer (some ⟨F, 0, none⟩)) := p2_cell hp3; clear hp3)
          | (go_at_call 83; refine (nf_join2 HP3.out).mono ?_; rintro e w4 ⟨rfl, hp4⟩; have HP4 : Hid (P4 w F w.heap.size Bf D w4) := hp4; clear hp4))
        all_goals (refine mPost_in ?_ ?_; exact rfl; exact HP4.out)
      case on =>
        rintro w4 ⟨kv2, av2, lv2, iv2, yv2, B, bc, HM4, HB4, HD4⟩
        clear cb t1
        obtain ⟨kb2, kc2, rfl, _, _, _, _, hkc⟩ := HM4.out.f.row (i := 1) (v := kv2) rfl rfl (by show 0 < 2; omega)
        dsimp only at hkc
        have cb : w4.cell? ⟨Bf, 0, none⟩ = some (.pointer (some ⟨F, 0, none⟩)) := (cell_of HD4.out.1 0).trans rfl
        have x1 := (HM4.out.f.cell (i := 1) rfl).1
        have k2 := (hkc 2 _ rfl).1
        have k3 := (hkc 3 _ rfl).1
        clear hkc
        go_wp2_with fail
        rw [rounds_succ]
        go_wp2_with fail
        rw [rounds_succ]
        go_upto_region 9 with fail
        obtain ⟨A2, hA2⟩ : ∃ A2, w4.alloc (.cells #[.int .i64 0, .int .i64 1] 114) = A2 := ⟨_, rfl⟩
        have kA2 : Kept [] w4 A2 := by rw [← hA2]; exact (Kept.refl [] w4).alloc _
        have bA2 : A2.heap[w4.heap.size]? = some (.cells #[.int .i64 0, .int .i64 1] 114 (0, 0)) := by rw [← hA2]; exact al0 _ _
        rw [hA2]
        have p0 : A2.cell? ⟨w4.heap.size, 0, none⟩ = some (.int .i64 0) := (cell_of bA2 0).trans rfl
        have p1 : A2.cell? ⟨w4.heap.size, 1, none⟩ = some (.int .i64 1) := (cell_of bA2 1).trans rfl
        clear x1 k2 k3 cb hA2
        have HwA : Hid (Kept [] w A2) := keptB HM4.out.f.kept kA2
        obtain ⟨r0, e0, e1, e2, e3, l0⟩ := HCL.out A2 HwA.out
        have l1 := HL1.out A2 HwA.out
        go_wp2_with fail
        refine wp_loop_rounds 2 ?_
        rw [rounds_succ]
        go_upto_region 13 with fail
        obtain ⟨C2, hC2⟩ : ∃ C2, A2.alloc (.cells #[.int .i64 0, .int .i64 0, .int .u16 1, .int .u16 0] 52) = C2 := ⟨_, rfl⟩
        have kC2 : Kept [] A2 C2 := by rw [← hC2]; exact (Kept.refl [] A2).alloc _
        have bC2 : C2.heap[A2.heap.size]? = some (.cells #[.int .i64 0, .int .i64 0, .int .u16 1, .int .u16 0] 52 (0, 0)) := by rw [← hC2]; exact al0 _ _
        rw [hC2]
        have HWC2 : Hid (Kept [] w4 C2) := keptB kA2 kC2
        have q0 : C2.cell? ⟨A2.heap.size, 0, none⟩ = some (.int .i64 0) := (cell_of bC2 0).trans rfl
        have q1 : C2.cell? ⟨A2.heap.size, 1, none⟩ = some (.int .i64 0) := (cell_of bC2 1).trans rfl
        have q2 : C2.cell? ⟨A2.heap.size, 2, none⟩ = some (.int .u16 1) := (cell_of bC2 2).trans rfl
        have q3 : C2.cell? ⟨A2.heap.size, 3, none⟩ = some (.int .u16 0) := (cell_of bC2 3).trans rfl
        have p1c := cell_kept0 kC2 p1
        have l1c := cell_kept0 kC2 l1
        clear p0 p1 r0 e0 e1 e2 e3 l0 l1 hC2 kA2 kC2 bA2 bC2
        go_cut [65] from 59 to 65 (fun s65 wx => s65 = .bool false ∧ Hid (Kept [] C2 wx))
        case first =>
          refine wp_region_noPanic ?_
          go_region_with (go_at_call 42; refine (HGO.out 0 _ (by omega)).mono ?_; rintro e w1 ⟨rfl, hk⟩; have HK1 : Hid (Kept [] C2 w1) := keptB ((Kept.refl [] C2).drew) hk; clear hk)
          all_goals refine NoPanic.normal ?_
          all_goals go_wp2_with fail
          all_goals go_meet
          all_goals exact ⟨rfl, HK1⟩
        case rest =>
          obtain ⟨rfl, HK1⟩ := hcut
          rename World => E2
          clear q0 q1 q2 q3 p1c l1c
          have HWE2 : Hid (Kept [] w4 E2) := keptB HWC2.out HK1.out
          have HM5 : Hid (MBox w E2 F w.heap.size (ents2 0 1) 2 102 (fldV w.heap.size (.slice (some ⟨kb2, 0, none⟩) 2 kc2) av2 lv2 iv2 yv2) (fldR 2 [.int .i64 0, .int .i64 0, .int .i64 0, .int .i64 1] [.slice none 0 0, .slice (some ⟨B, 0, none⟩) 1 bc] [.int .i64 0, .int .i64 1] [.bool true, .bool true] [.int .i64 1, .int .i64 0])) := HM4.out.go HWE2.out
          have HD5 : Hid (NfB F Bf D E2) := ⟨HWE2.out.at HD4.out.1 (by simp), HWE2.out.at HD4.out.2 (by simp)⟩
          have cb : E2.cell? ⟨Bf, 0, none⟩ = some (.pointer (some ⟨F, 0, none⟩)) := (cell_of HD5.out.1 0).trans rfl
          have x1 := (HM5.out.f.cell (i := 1) rfl).1
          go_wp2_with fail
          rw [rounds_succ]
          go_wp2_with fail
          rw [rounds_succ]
          go_wp2_with fail
          refine ⟨by simp, .inl ⟨_, _, rfl, run_takeDeferred HD5.out.2, ⟨_, results_tmp rfl _ _ _, F, w.heap.size, _, _, _, _, _, _, _, B, bc, rfl, fun h => (by cases h), fun _ => ⟨HM5.out.putD HD5.out.2 (Nat.le_trans HWV.out hD) _, ?_, HB4.out.2⟩⟩⟩⟩
          obtain ⟨cur, g1, g2⟩ := HB4.out.1
          exact ⟨cur, (World.putObj_heap_other (heap_ne (HWE2.out.at g1 (by simp)) HD5.out.2 (by intro q; cases q))).trans (HWE2.out.at g1 (by simp)), g2⟩
  case stop =>
    rintro D X c pre W _ _ _ h _
    exact h.elim
end Go.Proofs.YtkkhilgcjaigcaaDoor
