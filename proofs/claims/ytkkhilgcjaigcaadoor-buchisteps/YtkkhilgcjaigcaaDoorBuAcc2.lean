/- package buchi: accepts at the laws' example, for the word 1 (1 0). -/
import Derived.Test.YtkkhilgcjaigcaaDoorBuAcc1
import Derived.Test.YtkkhilgcjaigcaaDoorBuField2
import Derived.Test.YtkkhilgcjaigcaaDoorBuTwo3
namespace Go.Proofs.YtkkhilgcjaigcaaDoor
open Go.RowKit Go.Shelf

set_option maxHeartbeats 4000000 in
set_option maxRecDepth 20000 in
theorem accepts_two (PB IB EB FB SB : Nat) (sv lv : Value) (w : World) (h : Ex w PB IB EB FB) (hS : w.cell? ⟨SB, 0, none⟩ = some (.slice (some ⟨FB, 0, none⟩) 1 1)) (hT : Tab w) (hw : IsW w sv lv ⟨[1], [1, 0]⟩) :
    Calls Tryd.prog 51 #[.agg #[.slice (some ⟨PB, 0, none⟩) 1 1, .int .i64 1, .slice (some ⟨IB, 0, none⟩) 1 1, .slice (some ⟨EB, 0, none⟩) 1 1, .slice (some ⟨SB, 0, none⟩) 1 1], .agg #[sv, lv]] w fun e w' => e = .returned (.bool false) ∧ Kept [] w w' := by
  obtain ⟨a1, c1, hs1, _, _⟩ := hw.st.form
  obtain ⟨a2, c2, hs2, _, _⟩ := hw.lp.form
  subst hs1 hs2
  have HX : Hid (∀ W, Kept [] w W → Ex W PB IB EB FB) := fun W k => h.kept k
  have HSB : Hid (∀ W, Kept [] w W → W.cell? ⟨SB, 0, none⟩ = some (.slice (some ⟨FB, 0, none⟩) 1 1)) := fun W k => cell_kept0 k hS
  have HTB : Hid (∀ W, Kept [] w W → Tab W) := fun W k => hT.kept k (by simp)
  obtain ⟨V, hV⟩ : ∃ V, (w.alloc (.cells #[.slice (some ⟨PB, 0, none⟩) 1 1, .int .i64 1, .slice (some ⟨IB, 0, none⟩) 1 1, .slice (some ⟨EB, 0, none⟩) 1 1, .slice (some ⟨SB, 0, none⟩) 1 1] 31)).alloc (.cells #[.slice a1 1 c1, .slice a2 2 c2] 35) = V := ⟨_, rfl⟩
  have HV : Hid (_ = V) := hV
  have kV : Kept [] w V := by rw [← hV]; exact ((Kept.refl [] w).alloc _).alloc _
  have bG : V.heap[w.heap.size]? = some (.cells #[.slice (some ⟨PB, 0, none⟩) 1 1, .int .i64 1, .slice (some ⟨IB, 0, none⟩) 1 1, .slice (some ⟨EB, 0, none⟩) 1 1, .slice (some ⟨SB, 0, none⟩) 1 1] 31 (0, 0)) := by rw [← hV]; exact alUp (al0 _ _) _
  have bW : V.heap[w.heap.size + 1]? = some (.cells #[.slice a1 1 c1, .slice a2 2 c2] 35 (0, 0)) := by rw [← hV]; exact al1 _ _ _
  have zV : V.heap.size = w.heap.size + 2 := by rw [← hV]; simp
  have HNX : Hid (Calls Tryd.prog 67 #[.agg #[.slice a1 1 c1, .slice a2 2 c2]] V (NormEx V ⟨[1], [1, 0]⟩)) := normal_ex _ _ ⟨[1], [1, 0]⟩ V (hw.kept kV) (by decide) (by decide) (by decide)
  have HBG : Hid (V.heap[w.heap.size]? = some (.cells #[.slice (some ⟨PB, 0, none⟩) 1 1, .int .i64 1, .slice (some ⟨IB, 0, none⟩) 1 1, .slice (some ⟨EB, 0, none⟩) 1 1, .slice (some ⟨SB, 0, none⟩) 1 1] 31 (0, 0)) ∧ V.heap[w.heap.size + 1]? = some (.cells #[.slice a1 1 c1, .slice a2 2 c2] 35 (0, 0)) ∧ V.heap.size = w.heap.size + 2) := ⟨bG, bW, zV⟩
  have w0 : V.cell? ⟨w.heap.size + 1, 0, none⟩ = some (.slice a1 1 c1) := (cell_of bW 0).trans rfl
  have w1 : V.cell? ⟨w.heap.size + 1, 1, none⟩ = some (.slice a2 2 c2) := (cell_of bW 1).trans rfl
  have HKV : Hid (Kept [] w V) := kV
  clear h hS hT hw hV kV bG bW zV
  go_enter Tryd.func51, Tryd.ntmps51
  go_upto_region 1 with fail
  rw [HV.out]
  go_upto_region 2 with (go_at_call 67; refine HNX.out.mono ?_; rintro e N ⟨v1, v2, rfl, HO1, HO2, HKN⟩; obtain ⟨SM, m1, rfl, hSM, hSc⟩ := own_there HO1.out (by decide); obtain ⟨LB, lc, rfl, hLB, hLc⟩ := own_there HO2.out (by decide); have hbn := HKN.out.at HBG.out.2.1 (by simp); have x0 : N.cell? ⟨w.heap.size + 1, 0, none⟩ = some (.slice a1 1 c1) := (cell_of hbn 0).trans rfl; have x1 : N.cell? ⟨w.heap.size + 1, 1, none⟩ = some (.slice a2 2 c2) := (cell_of hbn 1).trans rfl; have f0 := free_of hbn 0; have f1 := free_of hbn 1)
  obtain ⟨S, hS⟩ : ∃ S, (N.setCell ⟨w.heap.size + 1, 0, none⟩ (.slice (some ⟨SM, 0, none⟩) 1 m1)).setCell ⟨w.heap.size + 1, 1, none⟩ (.slice (some ⟨LB, 0, none⟩) 2 lc) = S := ⟨_, rfl⟩
  have kNS : Kept [w.heap.size + 1] N S := by rw [← hS]; exact ((Kept.refl [w.heap.size + 1] N).setCell (.inl (by simp)) _).setCell (.inl (by simp)) _
  have bS : S.heap[w.heap.size + 1]? = some (.cells #[.slice (some ⟨SM, 0, none⟩) 1 m1, .slice (some ⟨LB, 0, none⟩) 2 lc] 35 (0, 0)) := by rw [← hS, bx_set (bx_set hbn _)]; rfl
  have zV := HBG.out.2.2
  have HKS : Hid (Kept [] w S) := (keptB HKV.out HKN.out).trans kNS (by simp) (by simp)
  have gS : S.heap[w.heap.size]? = some (.cells #[.slice (some ⟨PB, 0, none⟩) 1 1, .int .i64 1, .slice (some ⟨IB, 0, none⟩) 1 1, .slice (some ⟨EB, 0, none⟩) 1 1, .slice (some ⟨SB, 0, none⟩) 1 1] 31 (0, 0)) := kNS.at (HKN.out.at HBG.out.1 (by simp)) (by simp)
  have hcS : ∀ {X j : Nat} {x : Value}, N.cell? ⟨X, j, none⟩ = some x → V.heap.size ≤ X → S.cell? ⟨X, j, none⟩ = some x := fun {X j x} hc hX => (World.cell?_of_block (w := N) (a := ⟨X, j, none⟩) (kNS.block X (World.block_lt_of_cell? N _ hc) (by simp; omega))).trans hc
  have HLC : Hid (S.cell? ⟨LB, 0, none⟩ = some (.int .u16 1) ∧ S.cell? ⟨LB, 1, none⟩ = some (.int .u16 0) ∧ S.cell? ⟨SM, 0, none⟩ = some (.int .u16 1)) := ⟨hcS (hLc 0 _ rfl) hLB, hcS (hLc 1 _ rfl) hLB, hcS (hSc 0 _ rfl) hSM⟩
  rw [hS]
  have HGC : Hid (∀ W, Kept [] S W → W.cell? ⟨w.heap.size, 1, none⟩ = some (.int .i64 1) ∧ W.cell? ⟨w.heap.size, 2, none⟩ = some (.slice (some ⟨IB, 0, none⟩) 1 1) ∧ W.cell? ⟨w.heap.size, 3, none⟩ = some (.slice (some ⟨EB, 0, none⟩) 1 1) ∧ W.cell? ⟨w.heap.size, 4, none⟩ = some (.slice (some ⟨SB, 0, none⟩) 1 1) ∧ W.cell? ⟨w.heap.size + 1, 0, none⟩ = some (.slice (some ⟨SM, 0, none⟩) 1 m1) ∧ W.cell? ⟨w.heap.size + 1, 1, none⟩ = some (.slice (some ⟨LB, 0, none⟩) 2 lc)) := fun W k =>
    ⟨cell_kept0 k ((cell_of gS 1).trans rfl), cell_kept0 k ((cell_of gS 2).trans rfl), cell_kept0 k ((cell_of gS 3).trans rfl), cell_kept0 k ((cell_of gS 4).trans rfl), cell_kept0 k ((cell_of bS 0).trans rfl), cell_kept0 k ((cell_of bS 1).trans rfl)⟩
  clear hcS hS kNS bS gS zV x0 x1 f0 f1 hbn w0 w1 HNX HV HBG HO1 HO2 HKN hLB hLc hSM hSc
  obtain ⟨y1, y2, y3, y4, y5, y6⟩ := HGC.out S (Kept.refl [] S)
  go_upto_region 3 with (go_at_call 26; refine (rowsOf_one EB 0 1 S (HX.out S HKS.out).e.1 (by omega) (by omega)).mono ?_; rintro e R ⟨RB, rfl, HRB, HKR, HRZ⟩)
  clear y1 y2 y3 y4 y5 y6
  obtain ⟨y1, y2, y3, y4, y5, y6⟩ := HGC.out R HKR.out
  go_upto_region 4 with (go_at_call 20; refine (of_one (HX.out R (keptB HKS.out HKR.out)).i).mono ?_; rintro e O ⟨fb, fg, fc, rfl, hso, _, _, hko⟩; have HSO : Hid (IsSet O fb fg fc 1 [1]) := hso; have HKO : Hid (Kept [] R O) := hko; clear hso hko)
  clear y1 y2 y3 y4 y5 y6
  have HSOK : Hid (Kept [] S O) := keptB HKR.out HKO.out
  obtain ⟨y1, y2, y3, y4, y5, y6⟩ := HGC.out O HSOK.out
  have HRC : Hid (O.cell? ⟨RB, 0, none⟩ = some (.slice (some ⟨EB, 0, none⟩) 1 1)) := (cell_of (HKO.out.at HRB.out (by simp)) 0).trans rfl
  have s0 := cell_kept0 HSOK.out HLC.out.2.2
  have HwO : Hid (Kept [] w O) := keptB HKS.out HSOK.out
  have HST : Hid (Calls Tryd.prog 25 #[.slice (some ⟨RB, 0, none⟩) 1 1, .pointer (some ⟨fb, 0, none⟩), .int .u16 1] O (StEnds O)) := step_one RB 1 EB 1 fb fg fc O HRC.out (HX.out O HwO.out).e HSO.out (HTB.out O HwO.out)
  go_wp2_with fail
  refine wp_loop_rounds 2 ?_
  rw [rounds_succ]
  go_upto_region 8 with (go_at_call 25; refine HST.out.mono ?_; rintro e P ⟨tb, tg, tc, rfl, htp, hkp⟩; have HSP : Hid (IsSet P tb tg tc 1 [1]) := htp; have HKP : Hid (Kept [] O P) := hkp; clear htp hkp)
  clear y1 y2 y3 y4 y5 y6 s0
  have HSPK : Hid (Kept [] S P) := keptB HSOK.out HKP.out
  have HwP : Hid (Kept [] w P) := keptB HwO.out HKP.out
  obtain ⟨y1, y2, y3, y4, y5, y6⟩ := HGC.out P HSPK.out
  have HNF : Hid (Calls Tryd.prog 68 #[.slice (some ⟨RB, 0, none⟩) 1 1, .pointer (some ⟨tb, 0, none⟩), .slice (some ⟨LB, 0, none⟩) 2 lc] P (NfEnds 2 P)) :=
    newField_two RB 1 EB 1 tb tg tc LB lc P (cell_kept0 HKP.out HRC.out) (HX.out P HwP.out).e HSP.out (HTB.out P HwP.out) (cell_kept0 HSPK.out HLC.out.1) (cell_kept0 HSPK.out HLC.out.2.1)
  go_wp2_with fail
  rw [rounds_succ]
  go_upto_region 10 with (go_at_call 68; refine HNF.out.mono ?_; rintro e A ⟨F, M, es, ck, kv, av, lv, iv, yv, B, bc, rfl, _, hA⟩; have HA : Hid (MBox P A F M es ck 102 (fldV M kv av lv iv yv) (fldR 2 [.int .i64 0, .int .i64 0, .int .i64 0, .int .i64 1] [.slice none 0 0, .slice (some ⟨B, 0, none⟩) 1 bc] [.int .i64 0, .int .i64 1] [.bool true, .bool true] [.int .i64 1, .int .i64 0]) ∧ (∃ cur, A.heap[B]? = some (.cells cur 3 (0, 0)) ∧ cur[0]? = some (.int .i64 0)) ∧ ∀ v ∈ fldV M kv av lv iv yv, v.ownBlock ≠ some B) := hA rfl; clear hA)
  clear y1 y2 y3 y4 y5 y6
  have HDE : Hid (Calls Tryd.prog 69 #[.pointer (some ⟨F, 0, none⟩)] A fun e w' => e = .returned (.tuple #[]) ∧ Kept [] P w' ∧ ∃ lb lc, w'.cell? ⟨F, 3, none⟩ = some (.slice (some ⟨lb, 0, none⟩) 0 lc)) := dropEnds_two F M B bc es ck _ P A kv av lv iv yv _ HA.out.1 HA.out.2.1 HA.out.2.2
  go_upto_region 11 with (go_at_call 69; refine HDE.out.mono ?_; rintro e D ⟨rfl, hkd, lb, lcc, z2⟩; have HKD : Hid (Kept [] P D) := hkd; clear hkd)
  have HwD : Hid (Kept [] w D) := keptB HwP.out HKD.out
  obtain ⟨y1, y2, y3, y4, y5, y6⟩ := HGC.out D (keptB HSPK.out HKD.out)
  clear HDE HNF HA
  go_wp2_with fail
  refine wp_loop_rounds 1 ?_
  rw [rounds_succ]
  go_wp2_with fail
  go_ret
  exact ⟨rfl, HwD.out⟩
end Go.Proofs.YtkkhilgcjaigcaaDoor
