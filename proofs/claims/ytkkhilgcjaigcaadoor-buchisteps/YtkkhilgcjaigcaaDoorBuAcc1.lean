/- package buchi: accepts at the laws' example, for the words (1) and 1 (1 0). -/
import Derived.Test.YtkkhilgcjaigcaaDoorBuField1
import Derived.Test.YtkkhilgcjaigcaaDoorBuRows
import Derived.Test.YtkkhilgcjaigcaaDoorBuEnds
import Derived.Test.YtkkhilgcjaigcaaDoorBuGrow2
import Derived.Test.YtkkhilgcjaigcaaDoorHW
namespace Go.Proofs.YtkkhilgcjaigcaaDoor
open Go.RowKit Go.Shelf

/-- Is a word normal? -/
def normBA (q : Wd) : Bool := ((List.range q.loop.length).all fun d => decide (d = 0) || !(decide (q.loop.length % d = 0) && repB q.loop d)) && (decide (q.stem.length = 0) || decide (q.stem.getD (q.stem.length - 1) 0 ≠ q.loop.getD (q.loop.length - 1) 0))
theorem leastA_iff {l : List Nat} (h0 : 0 < l.length) : Least (cyc l) 0 l.length ↔ ∀ d, 0 < d → d < l.length → l.length % d = 0 → ¬ rep l d := by
  constructor
  · intro h d hd hlt hm hr
    obtain ⟨k, hk⟩ := Nat.dvd_of_mod_eq_zero hm
    have := h.2.2 d hd ((rep_iff l d k hk h0).1 hr)
    omega
  · intro h
    obtain ⟨d, hd⟩ := least_some l.length h0 (cyc_per l)
    have hdv := hd.dvd (cyc_per l)
    have hle := Nat.le_of_dvd h0 hdv
    rcases Nat.lt_or_ge d l.length with hlt | hge
    · obtain ⟨k, hk⟩ := hdv
      exact absurd ((rep_iff l d k hk h0).2 hd.2.1) (h d hd.1 hlt (Nat.mod_eq_zero_of_dvd ⟨k, hk⟩))
    · obtain rfl : d = l.length := by omega
      exact hd
theorem normBA_iff {q : Wd} (h0 : 0 < q.loop.length) : normBA q = true ↔ q.Norm := by
  rw [norm_self h0, leastA_iff h0]
  unfold normBA
  rw [Bool.and_eq_true, List.all_eq_true, Bool.or_eq_true, decide_eq_true_eq, decide_eq_true_eq]
  refine and_congr ?_ Iff.rfl
  constructor
  · intro h d hd hlt hm hr
    have := h d (by simpa using hlt)
    rw [decide_eq_false (by omega), Bool.false_or, decide_eq_true hm, Bool.true_and, (repB_iff q.loop d (by omega)).2 hr] at this
    cases this
  · intro h d hd
    rw [List.mem_range] at hd
    by_cases h1 : d = 0
    · rw [decide_eq_true h1]; rfl
    · by_cases h2 : q.loop.length % d = 0
      · have h3 : repB q.loop d = false := by
          rw [Bool.eq_false_iff]
          intro hr
          exact h d (by omega) hd h2 ((repB_iff q.loop d (by omega)).1 hr)
        rw [h3]; simp
      · rw [decide_eq_false h2]; simp
theorem norm_isA {q r c : Wd} (h : NormOf q r) (hq : 0 < q.loop.length) (hc0 : 0 < c.loop.length) (hc : normBA c = true) (hs : sameB c q = true) : r = c := by
  obtain ⟨h1, h2⟩ := h.2 (fun e => by rw [e] at hq; simp at hq)
  refine h1.unique ((normBA_iff hc0).1 hc) (fun i => ?_)
  rw [h2, ← (sameB_iff hc0 hq).1 hs]
/-- A row of its own: where it lies, and what it holds. -/
theorem own_there {W : World} {base : Nat} {e : TypeId} {v : Value} {n : Nat} {xs : List Value} (h : W.ownsRow base e 1 v n xs) (h0 : 0 < n) : ∃ g c, v = .slice (some ⟨g, 0, none⟩) n c ∧ base ≤ g ∧ ∀ j x, xs[j]? = some x → W.cell? ⟨g, j, none⟩ = some x := by
  rcases h.2 with ⟨_, hz⟩ | ⟨g, cap, cur, hve, hb, hw, h3, h4, h5, h6⟩
  · omega
  · refine ⟨g, cap, hve, hb, fun j x hx => ?_⟩
    rw [cell_of hw]
    rw [← h6, List.getElem?_take] at hx
    split at hx
    · rw [← Array.getElem?_toList]; exact hx
    · cases hx
/-- What words.Normal makes of a word that is in normal form. -/
def NormEx (V : World) (q : Wd) (e : Ending) (w' : World) : Prop := ∃ v1 v2, e = .returned (.agg #[v1, v2]) ∧ Hid (w'.ownsRow V.heap.size 27 1 v1 q.stem.length (u16s q.stem)) ∧ Hid (w'.ownsRow V.heap.size 27 1 v2 q.loop.length (u16s q.loop)) ∧ Hid (Kept [] V w')
theorem normal_ex (sv lv : Value) (q : Wd) (V : World) (h : IsW V sv lv q) (h0 : 0 < q.loop.length) (hn : normBA q = true) (hs : sameB q q = true) : Calls Tryd.prog 67 #[.agg #[sv, lv]] V (NormEx V q) := by
  refine (normal_any sv lv q V h.st h.lp h.few).mono ?_
  rintro e w' ⟨v1, v2, r, rfl, hw, ho, hk⟩
  obtain rfl := norm_isA ho h0 h0 hn hs
  exact ⟨v1, v2, rfl, hw.own1, hw.own2, hk⟩
/-- The example's automaton, in memory. -/
structure Ex (W : World) (PB IB EB FB : Nat) : Prop where
  p : W.cell? ⟨PB, 0, none⟩ = some (.string ⟨#[97]⟩)
  i : W.cell? ⟨IB, 0, none⟩ = some (.int .i64 0)
  e : W.cell? ⟨EB, 0, none⟩ = some (.int .i64 0) ∧ W.cell? ⟨EB, 1, none⟩ = some (.int .i64 0) ∧ W.cell? ⟨EB, 2, none⟩ = some (.int .u16 1) ∧ W.cell? ⟨EB, 3, none⟩ = some (.int .u16 0)
  f : W.cell? ⟨FB, 0, none⟩ = some (.int .i64 0)
theorem Ex.kept {W W' : World} {PB IB EB FB : Nat} (h : Ex W PB IB EB FB) (k : Kept [] W W') : Ex W' PB IB EB FB :=
  ⟨cell_kept0 k h.p, cell_kept0 k h.i, ⟨cell_kept0 k h.e.1, cell_kept0 k h.e.2.1, cell_kept0 k h.e.2.2.1, cell_kept0 k h.e.2.2.2⟩, cell_kept0 k h.f⟩
theorem of_one {W : World} {b : Nat} (h : W.cell? ⟨b, 0, none⟩ = some (.int .i64 0)) : Calls Tryd.prog 20 #[.int .i64 1, .slice (some ⟨b, 0, none⟩) 1 1] W (Makes W 1 [1]) :=
  of_in 1 b 0 1 [0] W (by omega) (by decide) (World.block_lt_of_cell? W _ h) (fun i hi => by
    obtain rfl : i = 0 := by simpa using hi
    exact h)
theorem has_one {W : World} {b g c : Nat} (h : IsSet W b g c 1 [1]) : ∀ W', Kept [] W W' → Calls Tryd.prog 13 #[.pointer (some ⟨b, 0, none⟩), .int .i64 0] W' fun e w' => e = .returned (.bool true) ∧ Kept [] W' w' := fun W' k =>
  (has_in b g c 1 [1] 0 W' (h.kept k (by simp) (by simp)) good1 (by omega)).mono fun e w' ⟨h1, h2⟩ => ⟨h1, h2.kept⟩
set_option maxHeartbeats 4000000 in
set_option maxRecDepth 20000 in
theorem accepts_one (PB IB EB FB SB : Nat) (sv lv : Value) (w : World) (h : Ex w PB IB EB FB) (hS : w.cell? ⟨SB, 0, none⟩ = some (.slice (some ⟨FB, 0, none⟩) 1 1)) (hT : Tab w) (hw : IsW w sv lv ⟨[], [1]⟩) :
    Calls Tryd.prog 51 #[.agg #[.slice (some ⟨PB, 0, none⟩) 1 1, .int .i64 1, .slice (some ⟨IB, 0, none⟩) 1 1, .slice (some ⟨EB, 0, none⟩) 1 1, .slice (some ⟨SB, 0, none⟩) 1 1], .agg #[sv, lv]] w fun e w' => e = .returned (.bool true) ∧ Kept [] w w' := by
  obtain ⟨a1, c1, hs1, _, _⟩ := hw.st.form
  obtain ⟨a2, c2, hs2, _, _⟩ := hw.lp.form
  subst hs1 hs2
  have HX : Hid (∀ W, Kept [] w W → Ex W PB IB EB FB) := fun W k => h.kept k
  have HSB : Hid (∀ W, Kept [] w W → W.cell? ⟨SB, 0, none⟩ = some (.slice (some ⟨FB, 0, none⟩) 1 1)) := fun W k => cell_kept0 k hS
  have HTB : Hid (∀ W, Kept [] w W → Tab W) := fun W k => hT.kept k (by simp)
  obtain ⟨V, hV⟩ : ∃ V, (w.alloc (.cells #[.slice (some ⟨PB, 0, none⟩) 1 1, .int .i64 1, .slice (some ⟨IB, 0, none⟩) 1 1, .slice (some ⟨EB, 0, none⟩) 1 1, .slice (some ⟨SB, 0, none⟩) 1 1] 31)).alloc (.cells #[.slice a1 0 c1, .slice a2 1 c2] 35) = V := ⟨_, rfl⟩
  have HV : Hid (_ = V) := hV
  have kV : Kept [] w V := by rw [← hV]; exact ((Kept.refl [] w).alloc _).alloc _
  have bG : V.heap[w.heap.size]? = some (.cells #[.slice (some ⟨PB, 0, none⟩) 1 1, .int .i64 1, .slice (some ⟨IB, 0, none⟩) 1 1, .slice (some ⟨EB, 0, none⟩) 1 1, .slice (some ⟨SB, 0, none⟩) 1 1] 31 (0, 0)) := by rw [← hV]; exact alUp (al0 _ _) _
  have bW : V.heap[w.heap.size + 1]? = some (.cells #[.slice a1 0 c1, .slice a2 1 c2] 35 (0, 0)) := by rw [← hV]; exact al1 _ _ _
  have zV : V.heap.size = w.heap.size + 2 := by rw [← hV]; simp
  have HNX : Hid (Calls Tryd.prog 67 #[.agg #[.slice a1 0 c1, .slice a2 1 c2]] V (NormEx V ⟨[], [1]⟩)) := normal_ex _ _ ⟨[], [1]⟩ V (hw.kept kV) (by decide) (by decide) (by decide)
  have HBG : Hid (V.heap[w.heap.size]? = some (.cells #[.slice (some ⟨PB, 0, none⟩) 1 1, .int .i64 1, .slice (some ⟨IB, 0, none⟩) 1 1, .slice (some ⟨EB, 0, none⟩) 1 1, .slice (some ⟨SB, 0, none⟩) 1 1] 31 (0, 0)) ∧ V.heap[w.heap.size + 1]? = some (.cells #[.slice a1 0 c1, .slice a2 1 c2] 35 (0, 0)) ∧ V.heap.size = w.heap.size + 2) := ⟨bG, bW, zV⟩
  have w0 : V.cell? ⟨w.heap.size + 1, 0, none⟩ = some (.slice a1 0 c1) := (cell_of bW 0).trans rfl
  have w1 : V.cell? ⟨w.heap.size + 1, 1, none⟩ = some (.slice a2 1 c2) := (cell_of bW 1).trans rfl
  have HKV : Hid (Kept [] w V) := kV
  clear h hS hT hw hV kV bG bW zV
  go_enter Tryd.func51, Tryd.ntmps51
  go_upto_region 1 with fail
  rw [HV.out]
  go_upto_region 2 with (go_at_call 67; refine HNX.out.mono ?_; rintro e N ⟨v1, v2, rfl, HO1, HO2, HKN⟩; obtain ⟨n1, m1, rfl⟩ := own_form HO1.out; obtain ⟨LB, lc, rfl, hLB, hLc⟩ := own_there HO2.out (by decide); have hbn := HKN.out.at HBG.out.2.1 (by simp); have x0 : N.cell? ⟨w.heap.size + 1, 0, none⟩ = some (.slice a1 0 c1) := (cell_of hbn 0).trans rfl; have x1 : N.cell? ⟨w.heap.size + 1, 1, none⟩ = some (.slice a2 1 c2) := (cell_of hbn 1).trans rfl; have f0 := free_of hbn 0; have f1 := free_of hbn 1)
  obtain ⟨S, hS⟩ : ∃ S, (N.setCell ⟨w.heap.size + 1, 0, none⟩ (.slice n1 0 m1)).setCell ⟨w.heap.size + 1, 1, none⟩ (.slice (some ⟨LB, 0, none⟩) 1 lc) = S := ⟨_, rfl⟩
  have kNS : Kept [w.heap.size + 1] N S := by rw [← hS]; exact ((Kept.refl [w.heap.size + 1] N).setCell (.inl (by simp)) _).setCell (.inl (by simp)) _
  have bS : S.heap[w.heap.size + 1]? = some (.cells #[.slice n1 0 m1, .slice (some ⟨LB, 0, none⟩) 1 lc] 35 (0, 0)) := by rw [← hS, bx_set (bx_set hbn _)]; rfl
  have zV := HBG.out.2.2
  have HKS : Hid (Kept [] w S) := (keptB HKV.out HKN.out).trans kNS (by simp) (by simp)
  have gS : S.heap[w.heap.size]? = some (.cells #[.slice (some ⟨PB, 0, none⟩) 1 1, .int .i64 1, .slice (some ⟨IB, 0, none⟩) 1 1, .slice (some ⟨EB, 0, none⟩) 1 1, .slice (some ⟨SB, 0, none⟩) 1 1] 31 (0, 0)) := kNS.at (HKN.out.at HBG.out.1 (by simp)) (by simp)
  have HLC : Hid (S.cell? ⟨LB, 0, none⟩ = some (.int .u16 1)) := by
    have hc := hLc 0 (.int .u16 1) rfl
    show S.cell? _ = _
    exact (World.cell?_of_block (w := N) (a := ⟨LB, 0, none⟩) (kNS.block LB (World.block_lt_of_cell? N _ hc) (by simp; omega))).trans hc
  rw [hS]
  have HGC : Hid (∀ W, Kept [] S W → W.cell? ⟨w.heap.size, 1, none⟩ = some (.int .i64 1) ∧ W.cell? ⟨w.heap.size, 2, none⟩ = some (.slice (some ⟨IB, 0, none⟩) 1 1) ∧ W.cell? ⟨w.heap.size, 3, none⟩ = some (.slice (some ⟨EB, 0, none⟩) 1 1) ∧ W.cell? ⟨w.heap.size, 4, none⟩ = some (.slice (some ⟨SB, 0, none⟩) 1 1) ∧ W.cell? ⟨w.heap.size + 1, 0, none⟩ = some (.slice n1 0 m1) ∧ W.cell? ⟨w.heap.size + 1, 1, none⟩ = some (.slice (some ⟨LB, 0, none⟩) 1 lc)) := fun W k =>
    ⟨cell_kept0 k ((cell_of gS 1).trans rfl), cell_kept0 k ((cell_of gS 2).trans rfl), cell_kept0 k ((cell_of gS 3).trans rfl), cell_kept0 k ((cell_of gS 4).trans rfl), cell_kept0 k ((cell_of bS 0).trans rfl), cell_kept0 k ((cell_of bS 1).trans rfl)⟩
  clear hS kNS bS gS zV x0 x1 f0 f1 hbn w0 w1 HNX HV HBG HO1 HO2 HKN hLB hLc
  obtain ⟨y1, y2, y3, y4, y5, y6⟩ := HGC.out S (Kept.refl [] S)
  go_upto_region 3 with (go_at_call 26; refine (rowsOf_one EB 0 1 S (HX.out S HKS.out).e.1 (by omega) (by omega)).mono ?_; rintro e R ⟨RB, rfl, HRB, HKR, HRZ⟩)
  clear y1 y2 y3 y4 y5 y6
  obtain ⟨y1, y2, y3, y4, y5, y6⟩ := HGC.out R HKR.out
  go_upto_region 4 with (go_at_call 20; refine (of_one (HX.out R (keptB HKS.out HKR.out)).i).mono ?_; rintro e O ⟨fb, fg, fc, rfl, hso, _, _, hko⟩; have HSO : Hid (IsSet O fb fg fc 1 [1]) := hso; have HKO : Hid (Kept [] R O) := hko; clear hso hko)
  clear y1 y2 y3 y4 y5 y6
  have HSOK : Hid (Kept [] S O) := keptB HKR.out HKO.out
  obtain ⟨y1, y2, y3, y4, y5, y6⟩ := HGC.out O HSOK.out
  have HRC : Hid (O.cell? ⟨RB, 0, none⟩ = some (.slice (some ⟨EB, 0, none⟩) 1 1)) := (cell_of (HKO.out.at HRB.out (by simp)) 0).trans rfl
  go_wp2_with fail
  refine wp_loop_rounds 1 ?_
  rw [rounds_succ]
  have HwO : Hid (Kept [] w O) := keptB HKS.out HSOK.out
  have HNF : Hid (Calls Tryd.prog 68 #[.slice (some ⟨RB, 0, none⟩) 1 1, .pointer (some ⟨fb, 0, none⟩), .slice (some ⟨LB, 0, none⟩) 1 lc] O (NfEnds 1 O)) :=
    newField_one RB 1 EB 1 fb fg fc LB lc O HRC.out (HX.out O HwO.out).e HSO.out (HTB.out O HwO.out) (cell_kept0 HSOK.out HLC.out)
  go_upto_region 10 with (go_at_call 68; refine HNF.out.mono ?_; rintro e A ⟨F, M, es, ck, kv, av, lv, iv, yv, B, bc, rfl, hA, _⟩; have HA : Hid (MBox O A F M es ck 102 (fldV M kv av lv iv yv) (fldR 1 [.int .i64 0, .int .i64 0] [.slice (some ⟨B, 0, none⟩) 1 bc] [.int .i64 0] [.bool true] [.int .i64 1]) ∧ A.cell? ⟨B, 0, none⟩ = some (.int .i64 0)) := hA rfl; clear hA)
  clear y1 y2 y3 y4 y5 y6
  have HDE : Hid (Calls Tryd.prog 69 #[.pointer (some ⟨F, 0, none⟩)] A fun e w' => e = .returned (.tuple #[]) ∧ Hid (MBox O w' F M es ck 102 (fldV M kv av lv iv yv) (fldR 1 [.int .i64 0, .int .i64 0] [.slice (some ⟨B, 0, none⟩) 1 bc] [.int .i64 0] [.bool true] [.int .i64 1])) ∧ Hid (Kept [F] A w')) := dropEnds_one F M es ck _ O A kv av lv iv yv _ _ HA.out.1
  go_upto_region 11 with (go_at_call 69; refine HDE.out.mono ?_; rintro e D ⟨rfl, HM1, HKF⟩)
  have hBF : B ≠ F := by
    rintro rfl
    have h1 := (HA.out.1.f.cell (i := 0) rfl).1
    rw [HA.out.2] at h1
    cases h1
  have HB1 : Hid (D.cell? ⟨B, 0, none⟩ = some (.int .i64 0)) := (World.cell?_of_block (w := A) (a := ⟨B, 0, none⟩) (HKF.out.block B (World.block_lt_of_cell? A _ HA.out.2) (by simpa using hBF))).trans HA.out.2
  have HSD : Hid (Kept [] S D) := keptB HSOK.out HM1.out.f.kept
  have HwD : Hid (Kept [] w D) := keptB HwO.out HM1.out.f.kept
  obtain ⟨lb, lcc, rfl, _, _, _, _, _⟩ := HM1.out.f.row (i := 3) (v := lv) rfl rfl (by show 0 < 1; omega)
  obtain ⟨y1, y2, y3, y4, y5, y6⟩ := HGC.out D HSD.out
  have z1 := HSB.out D HwD.out
  have z2 := (HM1.out.f.cell (i := 3) rfl).1
  have HGR : Hid (∀ (G : World) (gb gg gc : Nat), Kept [] D G → IsSet G gb gg gc 1 [1] → Calls Tryd.prog 70 #[.pointer (some ⟨F, 0, none⟩), .pointer (some ⟨gb, 0, none⟩)] G fun e w' => e = .returned (.bool false) ∧ Hid (MBox O w' F M es ck 102 (fldV M kv av (.slice (some ⟨lb, 0, none⟩) 1 lcc) iv yv) (fldR 1 [.int .i64 0, .int .i64 0] [.slice (some ⟨B, 0, none⟩) 1 bc] [.int .i64 0] [.bool true] [.int .i64 1]))) := fun G gb gg gc k hs =>
    shrinkTo_one F M gb es ck _ O G kv av _ iv yv _ _ (HM1.out.go k) (grow_one F M gb B bc es ck _ O G kv av _ iv yv (HM1.out.go k) (cell_kept0 k HB1.out) (has_one hs))
  clear HDE HNF HA HKF hBF
  go_wp2_with fail
  refine wp_loop_rounds 2 ?_
  rw [rounds_succ]
  go_upto_region 15 with fail
  go_cut [73] from 64 to 73 (fun s73 wx => s73 = .bool false ∧ Hid (MBox O wx F M es ck 102 (fldV M kv av (.slice (some ⟨lb, 0, none⟩) 1 lcc) iv yv) (fldR 1 [.int .i64 0, .int .i64 0] [.slice (some ⟨B, 0, none⟩) 1 bc] [.int .i64 0] [.bool true] [.int .i64 1])))
  case first =>
    go_region_with (first
      | (go_at_call 20; refine (of_one (HX.out _ (HwD.out.drew)).f).mono ?_; rintro e G ⟨gb, gg, gc, rfl, hsg, _, _, hkg⟩; have HSG : Hid (IsSet G gb gg gc 1 [1]) := hsg; have HKG : Hid (Kept [] D G) := keptB ((Kept.refl [] D).drew) hkg; clear hsg hkg)
      | (go_at_call 70; refine (HGR.out G gb gg gc HKG.out HSG.out).mono ?_; rintro e H ⟨rfl, HMH⟩))
    all_goals go_wp2_with fail
    all_goals go_meet
    all_goals exact ⟨rfl, HMH⟩
  case rest =>
    obtain ⟨rfl, HM2⟩ := hcut
    rename World => E
    clear y1 y2 y3 y4 y5 y6 z1 z2
    obtain ⟨y1, y2, y3, y4, y5, y6⟩ := HGC.out E (keptB HSOK.out HM2.out.f.kept)
    have z2 := (HM2.out.f.cell (i := 3) rfl).1
    have HKE : Hid (Kept [] w E) := keptB HwO.out HM2.out.f.kept
    go_wp2_with fail
    rw [rounds_succ]
    go_wp2_with fail
    go_ret
    exact ⟨rfl, HKE.out⟩
end Go.Proofs.YtkkhilgcjaigcaaDoor
