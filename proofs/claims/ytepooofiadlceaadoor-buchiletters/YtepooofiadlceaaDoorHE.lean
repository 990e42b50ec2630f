/- package buchi: dropEnds where there is one spot, which goes on. -/
import Derived.Test.YtepooofiadlceaaDoorBuDrop
namespace Go.Proofs.YtepooofiadlceaaDoor
open Go.RowKit Go.Shelf

theorem out_none : ∀ j (h : j < ([0] : List Int).length), outB [true] ([0] : List Int)[j] = false := by
  intro j hj
  obtain rfl : j = 0 := by simpa using hj
  rfl
set_option maxHeartbeats 2000000 in
set_option maxRecDepth 10000 in
theorem dropEnds_one (F M : Nat) (es : Array MapEntry) (ck : Nat) (T : TypeId) (w0 w : World) (kv av lv iv yv : Value) (ks ah : List Value) (h : MBox w0 w F M es ck T (fldV M kv av lv iv yv) (fldR 1 ks ah [.int .i64 0] [.bool true] [.int .i64 1])) :
    Calls Tryd.prog 33 #[.pointer (some ⟨F, 0, none⟩)] w fun e w' => e = .returned (.tuple #[]) ∧ Hid (MBox w0 w' F M es ck T (fldV M kv av lv iv yv) (fldR 1 ks ah [.int .i64 0] [.bool true] [.int .i64 1])) ∧ Hid (Kept [F] w w') := by
  have HD : Hid (Calls Tryd.prog 51 #[.pointer (some ⟨F, 0, none⟩), .slice none 0 0] w fun e w' => e = .returned (.tuple #[]) ∧ Hid (MBox w0 w' F M es ck T (fldV M kv av lv iv yv) (fldR 1 ks ah [.int .i64 0] [.bool true] [.int .i64 1])) ∧ Hid (Kept [F] w w')) :=
    drop_nil F M es ck T w0 w _ _ lv iv [0] [true] h rfl rfl rfl rfl (by simp) (by simp) (by intro x hx; simp at hx; subst hx; simp) out_none
  obtain ⟨yb, yc, rfl, hy1, hy2, hyF, _, hyc⟩ := h.f.row (i := 5) (v := yv) rfl rfl (by show 0 < 1; omega)
  dsimp only at hy1 hy2 hyc
  obtain ⟨y0, _⟩ := hyc 0 (.int .i64 1) rfl
  have c5 := (h.f.cell (i := 5) rfl).1
  clear h hyc hyF
  go_enter Tryd.func33, Tryd.ntmps33
  go_wp2_with fail
  refine wp_loop_rounds 2 ?_
  rw [rounds_succ]
  go_wp2_with fail
  rw [rounds_succ]
  go_wp2_with (go_at_call 51; refine HD.out.mono ?_; rintro e w1 ⟨rfl, HB, HKF⟩)
  go_end0
  exact ⟨rfl, HB, HKF⟩
set_option maxHeartbeats 2000000 in
set_option maxRecDepth 10000 in
theorem shrinkTo_one (F M S : Nat) (es : Array MapEntry) (ck : Nat) (T : TypeId) (w0 w : World) (kv av lv iv yv : Value) (ks ah : List Value) (h : MBox w0 w F M es ck T (fldV M kv av lv iv yv) (fldR 1 ks ah [.int .i64 0] [.bool true] [.int .i64 1]))
    (hgrow : Calls Tryd.prog 52 #[.pointer (some ⟨F, 0, none⟩), .pointer (some ⟨S, 0, none⟩)] w fun e w' => ∃ G, e = .returned (.slice (some ⟨G, 0, none⟩) 1 1) ∧ Kept [] w w' ∧ w'.cell? ⟨G, 0, none⟩ = some (.bool true)) :
    Calls Tryd.prog 34 #[.pointer (some ⟨F, 0, none⟩), .pointer (some ⟨S, 0, none⟩)] w fun e w' => e = .returned (.bool false) ∧ Hid (MBox w0 w' F M es ck T (fldV M kv av lv iv yv) (fldR 1 ks ah [.int .i64 0] [.bool true] [.int .i64 1])) := by
  have HGR : Hid (Calls Tryd.prog 52 #[.pointer (some ⟨F, 0, none⟩), .pointer (some ⟨S, 0, none⟩)] w fun e w' => ∃ G, e = .returned (.slice (some ⟨G, 0, none⟩) 1 1) ∧ Kept [] w w' ∧ w'.cell? ⟨G, 0, none⟩ = some (.bool true)) := hgrow
  have HD : Hid (∀ W, Kept [] w W → Calls Tryd.prog 51 #[.pointer (some ⟨F, 0, none⟩), .slice none 0 0] W fun e w' => e = .returned (.tuple #[]) ∧ Hid (MBox w0 w' F M es ck T (fldV M kv av lv iv yv) (fldR 1 ks ah [.int .i64 0] [.bool true] [.int .i64 1]))) := fun W k =>
    (drop_nil F M es ck T w0 W _ _ lv iv [0] [true] (h.go k) rfl rfl rfl rfl (by simp) (by simp) (by intro x hx; simp at hx; subst hx; simp) out_none).mono fun e w' ⟨h1, h2, _⟩ => ⟨h1, h2⟩
  obtain ⟨lb, lc, rfl, hl1, hl2, hlF, _, hlc⟩ := h.f.row (i := 3) (v := lv) rfl rfl (by show 0 < 1; omega)
  dsimp only at hl1 hl2 hlc
  obtain ⟨l0, _⟩ := hlc 0 (.int .i64 0) rfl
  have c3 := (h.f.cell (i := 3) rfl).1
  have HC : Hid (w.cell? ⟨lb, 0, none⟩ = some (.int .i64 0) ∧ w.cell? ⟨F, 3, none⟩ = some (.slice (some ⟨lb, 0, none⟩) 1 lc)) := ⟨l0, c3⟩
  clear h hlc hlF l0 c3 hgrow
  go_enter Tryd.func34, Tryd.ntmps34
  go_upto_region 2 with (go_at_call 52; refine HGR.out.mono ?_; rintro e w1 ⟨G, rfl, hk1, g0⟩; have HK : Hid (Kept [] w w1) := hk1; clear hk1)
  have l0 := cell_kept0 HK.out HC.out.1
  have c3 := cell_kept0 HK.out HC.out.2
  go_wp2_with fail
  refine wp_loop_rounds 2 ?_
  rw [rounds_succ]
  go_wp2_with fail
  rw [rounds_succ]
  go_wp2_with (go_at_call 51; refine (HD.out _ HK.out).mono ?_; rintro e w2 ⟨rfl, HB⟩)
  go_ret
  exact ⟨rfl, HB⟩
end Go.Proofs.YtepooofiadlceaaDoor

/- package buchi: grow's closure. -/
namespace Go.Proofs.YtepooofiadlceaaDoor
open Go.RowKit Go.Shelf

set_option maxHeartbeats 2000000 in
set_option maxRecDepth 10000 in
theorem gput_again (FB F GB WB ib ic Gr : Nat) (w : World) (h1 : w.cell? ⟨FB, 0, none⟩ = some (.pointer (some ⟨F, 0, none⟩))) (h2 : w.cell? ⟨F, 4, none⟩ = some (.slice (some ⟨ib, 0, none⟩) 1 ic)) (h3 : w.cell? ⟨ib, 0, none⟩ = some (.bool true)) (h4 : w.cell? ⟨GB, 0, none⟩ = some (.slice (some ⟨Gr, 0, none⟩) 1 1)) (h5 : w.cell? ⟨Gr, 0, none⟩ = some (.bool true)) :
    Calls Tryd.prog 68 #[.int .i64 0, .pointer (some ⟨FB, 0, none⟩), .pointer (some ⟨GB, 0, none⟩), .pointer (some ⟨WB, 0, none⟩)] w fun e w' => e = .returned (.tuple #[]) ∧ w' = w := by
  go_enter Tryd.func68, Tryd.ntmps68
  go_wp2_with fail
  go_end0
  exact ⟨rfl, rfl⟩
/-- What grow has made: the boxes of f, of the truths and of what waits. -/
structure GS (w W : World) (F FB GB WB Gr : Nat) (gb : Bool) (wv : Value) (ws : List Int) : Prop where
  kept : Kept [] w W
  fb : W.heap[FB]? = some (.cells #[.pointer (some ⟨F, 0, none⟩)] 67 (0, 0))
  gbx : W.heap[GB]? = some (.cells #[.slice (some ⟨Gr, 0, none⟩) 1 1] 73 (0, 0))
  gr : W.heap[Gr]? = some (.cells #[.bool gb] 4 (0, 0))
  wb : W.heap[WB]? = some (.cells #[wv] 31 (0, 0))
  own : W.ownsRow w.heap.size 3 1 wv ws.length (ws.map (Value.int .i64))
  new : w.heap.size ≤ Gr ∧ w.heap.size ≤ WB
theorem set_box {W : World} {B : Nat} {x : Value} {T : TypeId} (h : W.heap[B]? = some (.cells #[x] T (0, 0))) (v : Value) : (W.setCell ⟨B, 0, none⟩ v).heap[B]? = some (.cells #[v] T (0, 0)) := by
  rw [bx_set h]; rfl
set_option maxRecDepth 10000 in
theorem GS.push {w W : World} {F FB GB WB Gr : Nat} {gb : Bool} {wv : Value} {ws : List Int} (h : GS w W F FB GB WB Gr gb wv ws) (x : Int) (hl : ws.length ≤ 1000) :
    ∃ g cap w2, (∀ ty, (Builtin.append_ #[31, 31] ty #[wv, .slice (some ⟨W.heap.size, 0, none⟩) 1 1]).run Tryd.prog (W.alloc (.cells #[.int .i64 x] 3)) = .ok (.slice (some ⟨g, 0, none⟩) (ws.length + 1) cap) w2) ∧ w2.cell? ⟨WB, 0, none⟩ = some wv ∧ w2.frozen? ⟨WB, 0, none⟩ = false ∧ Hid (GS w (w2.setCell ⟨WB, 0, none⟩ (.slice (some ⟨g, 0, none⟩) (ws.length + 1) cap)) F FB GB WB Gr gb (.slice (some ⟨g, 0, none⟩) (ws.length + 1) cap) (ws ++ [x])) := by
  have kQ : Kept [] W (W.alloc (.cells #[.int .i64 x] 3)) := (Kept.refl [] W).alloc _
  have hbQ : (W.alloc (.cells #[.int .i64 x] 3)).heap[W.heap.size]? = some (.cells #[.int .i64 x] 3 (0, 0)) := al0 W _
  have ho := bx_kept h.own kQ (by simp)
  have hsz := h.kept.size
  obtain ⟨g, cap, w2, g1, g2, g3, g4, g5⟩ := run_append_lies (P := Tryd.prog) (W.alloc (.cells #[.int .i64 x] 3)) 31 0 w.heap.size 3 _ (.int .i64 0) 1 8 Tryd.underlying31 rfl rfl rfl rfl rfl (by decide) wv ws.length _ ho ⟨W.heap.size, 0, none⟩ 1 1 [.int .i64 x] rfl (fun j u hu => by
      rw [show (Addr.add ⟨W.heap.size, 0, none⟩ j) = ⟨W.heap.size, j, none⟩ from by simp [Addr.add]; exact fun e => e.symm]
      rw [cell_of hbQ]
      simpa using hu) (by intro u hu; simp at hu; subst hu; rfl) (by decide) (by unfold maxLen; omega) (by omega) (Nat.le_trans hsz kQ.size) _ rfl
  -- a block that is no row of numbers stays
  have hst : ∀ (b : Nat) (cs : Array Value) (T : TypeId), T ≠ 3 → W.heap[b]? = some (.cells cs T (0, 0)) → w2.heap[b]? = some (.cells cs T (0, 0)) := by
    intro b cs T hT hb
    have hb' := kQ.at hb (by simp)
    refine (g3.block _ (lt_of hb') (fun e => ?_)).trans hb'
    rcases ho.2 with ⟨q1, _⟩ | ⟨g', cap', cur, q1, _, hw, _⟩
    · rw [q1] at e; cases e
    · rw [q1] at e; cases e; rw [hb'] at hw; cases hw; exact hT rfl
  have hne : ∀ (b : Nat) (cs : Array Value) (T : TypeId), T ≠ 31 → W.heap[b]? = some (.cells cs T (0, 0)) → b ≠ WB := by
    intro b cs T hT hb e
    subst e
    rw [h.wb] at hb; cases hb; exact hT rfl
  have wb2 := hst WB _ _ (by decide) h.wb
  have hset : Kept [WB] w2 (w2.setCell ⟨WB, 0, none⟩ (.slice (some ⟨g, 0, none⟩) (ws.length + 1) cap)) := (Kept.refl [WB] w2).setCell (.inl (by simp)) _
  refine ⟨g, cap, w2, fun ty => g1, by rw [cell_of wb2]; rfl, free_of wb2 0, ?_, ?_, ?_, ?_, set_box wb2 _, ?_, h.new⟩
  · exact ((keptB h.kept kQ).grown g3 (fun k e => .inr (bx_base ho e).1)).setCell (.inr h.new.2) _
  · exact hset.at (hst FB _ _ (by decide) h.fb) (by simpa using hne FB _ _ (by decide) h.fb)
  · exact hset.at (hst GB _ _ (by decide) h.gbx) (by simpa using hne GB _ _ (by decide) h.gbx)
  · exact hset.at (hst Gr _ _ (by decide) h.gr) (by simpa using hne Gr _ _ (by decide) h.gr)
  · have := bx_kept g2 hset (fun g' e hg => by
      simp at hg; subst hg
      rcases g2.2 with ⟨q1, _⟩ | ⟨g'', cap', cur, q1, _, hw, _⟩
      · cases q1
      · cases q1; cases e; rw [wb2] at hw; cases hw)
    simpa using this
theorem GS.mark {w W : World} {F FB GB WB Gr : Nat} {gb : Bool} {wv : Value} {ws : List Int} (h : GS w W F FB GB WB Gr gb wv ws) (b' : Bool) : GS w (W.setCell ⟨Gr, 0, none⟩ (.bool b')) F FB GB WB Gr b' wv ws := by
  have hset : Kept [Gr] W (W.setCell ⟨Gr, 0, none⟩ (.bool b')) := (Kept.refl [Gr] W).setCell (.inl (by simp)) _
  have hne : ∀ (b : Nat) (cs : Array Value) (T : TypeId), T ≠ 4 → W.heap[b]? = some (.cells cs T (0, 0)) → b ≠ Gr := by
    intro b cs T hT hb e
    subst e
    rw [h.gr] at hb; cases hb; exact hT rfl
  refine ⟨h.kept.setCell (.inr h.new.1) _, hset.at h.fb (by simpa using hne FB _ _ (by decide) h.fb), hset.at h.gbx (by simpa using hne GB _ _ (by decide) h.gbx), set_box h.gr _, hset.at h.wb (by simpa using hne WB _ _ (by decide) h.wb), bx_kept h.own hset (fun g' e hg => ?_), h.new⟩
  simp at hg; subst hg
  rcases h.own.2 with ⟨q1, _⟩ | ⟨g'', cap', cur, q1, _, hw, _⟩
  · rw [q1] at e; cases e
  · rw [q1] at e; cases e; rw [h.gr] at hw; cases hw
set_option maxHeartbeats 2000000 in
set_option maxRecDepth 10000 in
theorem gput_first (w W : World) (F FB GB WB Gr ib ic : Nat) (wv : Value) (ws : List Int) (h : GS w W F FB GB WB Gr false wv ws) (hl : ws.length ≤ 1000) (h2 : W.cell? ⟨F, 4, none⟩ = some (.slice (some ⟨ib, 0, none⟩) 1 ic)) (h3 : W.cell? ⟨ib, 0, none⟩ = some (.bool true)) :
    Calls Tryd.prog 68 #[.int .i64 0, .pointer (some ⟨FB, 0, none⟩), .pointer (some ⟨GB, 0, none⟩), .pointer (some ⟨WB, 0, none⟩)] W fun e w' => e = .returned (.tuple #[]) ∧ ∃ g cap, Hid (GS w w' F FB GB WB Gr true (.slice (some ⟨g, 0, none⟩) (ws.length + 1) cap) (ws ++ [0])) := by
  have h1 : W.cell? ⟨FB, 0, none⟩ = some (.pointer (some ⟨F, 0, none⟩)) := (cell_of h.fb 0).trans rfl
  have h4 : W.cell? ⟨GB, 0, none⟩ = some (.slice (some ⟨Gr, 0, none⟩) 1 1) := (cell_of h.gbx 0).trans rfl
  have h5 : W.cell? ⟨Gr, 0, none⟩ = some (.bool false) := (cell_of h.gr 0).trans rfl
  have h6 : W.frozen? ⟨Gr, 0, none⟩ = false := free_of h.gr 0
  obtain ⟨V, hV⟩ : ∃ V, W.setCell ⟨Gr, 0, none⟩ (.bool true) = V := ⟨_, rfl⟩
  have hm := h.mark true
  rw [hV] at hm
  obtain ⟨g, cap, w2, hrun, d1, d2, HG⟩ := hm.push 0 hl
  have v1 : V.cell? ⟨WB, 0, none⟩ = some wv := (cell_of hm.wb 0).trans rfl
  obtain ⟨wa, wc, rfl⟩ := own_slice h.own
  have HRUN : Hid (∀ ty, (Builtin.append_ #[31, 31] ty #[.slice wa ws.length wc, .slice (some ⟨V.heap.size, 0, none⟩) 1 1]).run Tryd.prog (V.alloc (.cells #[.int .i64 0] 3)) = .ok (.slice (some ⟨g, 0, none⟩) (ws.length + 1) cap) w2) := hrun
  have HV : Hid (W.setCell ⟨Gr, 0, none⟩ (.bool true) = V) := hV
  clear hrun hm h hV
  go_enter Tryd.func68, Tryd.ntmps68
  go_upto_region 2 with fail
  rw [HV.out]
  clear h1 h2 h3 h4 h5 h6
  go_wp2_with (refine bx_append_list rfl _ _ _ rfl _ _ _ _ rfl rfl (HRUN.out _) ?_)
  go_end0
  exact ⟨rfl, g, cap, HG⟩
end Go.Proofs.YtepooofiadlceaaDoor

/- package buchi: grow where one spot goes on. -/
namespace Go.Proofs.YtepooofiadlceaaDoor
open Go.RowKit Go.Shelf

theorem GS.go {w W W' : World} {F fb GB WB Gr : Nat} {b : Bool} {v : Value} {l : List Int} (h : GS w W F fb GB WB Gr b v l) (k : Kept [] W W') : GS w W' F fb GB WB Gr b v l :=
  ⟨keptB h.kept k, k.at h.fb (by simp), k.at h.gbx (by simp), k.at h.gr (by simp), k.at h.wb (by simp), bx_kept h.own k (by simp), h.new⟩
set_option maxHeartbeats 4000000 in
set_option maxRecDepth 10000 in
theorem grow_one (F M S B bc : Nat) (es : Array MapEntry) (ck : Nat) (T : TypeId) (w0 w : World) (kv av lv iv yv : Value) (h : MBox w0 w F M es ck T (fldV M kv av lv iv yv) (fldR 1 [.int .i64 0, .int .i64 0] [.slice (some ⟨B, 0, none⟩) 1 bc] [.int .i64 0] [.bool true] [.int .i64 1]))
    (hB : w.cell? ⟨B, 0, none⟩ = some (.int .i64 0))
    (hhas : ∀ W, Kept [] w W → Calls Tryd.prog 69 #[.pointer (some ⟨S, 0, none⟩), .int .i64 0] W fun e w' => e = .returned (.bool true) ∧ Kept [] W w') :
    Calls Tryd.prog 52 #[.pointer (some ⟨F, 0, none⟩), .pointer (some ⟨S, 0, none⟩)] w fun e w' => ∃ G, e = .returned (.slice (some ⟨G, 0, none⟩) 1 1) ∧ Kept [] w w' ∧ w'.cell? ⟨G, 0, none⟩ = some (.bool true) := by
  obtain ⟨lb, lc, rfl, _, _, _, _, hlc⟩ := h.f.row (i := 3) (v := lv) rfl rfl (by show 0 < 1; omega)
  obtain ⟨ib, ic, rfl, _, _, _, _, hic⟩ := h.f.row (i := 4) (v := iv) rfl rfl (by show 0 < 1; omega)
  obtain ⟨ab, ac, rfl, _, _, _, _, hac⟩ := h.f.row (i := 2) (v := av) rfl rfl (by show 0 < 1; omega)
  obtain ⟨kb, kc, rfl, _, _, _, _, hkc⟩ := h.f.row (i := 1) (v := kv) rfl rfl (by show 0 < 1; omega)
  dsimp only at hlc hic hac hkc
  have HC : Hid (∀ W, Kept [] w W → W.cell? ⟨F, 1, none⟩ = some (.slice (some ⟨kb, 0, none⟩) 1 kc) ∧ W.cell? ⟨F, 2, none⟩ = some (.slice (some ⟨ab, 0, none⟩) 1 ac) ∧ W.cell? ⟨F, 3, none⟩ = some (.slice (some ⟨lb, 0, none⟩) 1 lc) ∧ W.cell? ⟨F, 4, none⟩ = some (.slice (some ⟨ib, 0, none⟩) 1 ic) ∧ W.cell? ⟨kb, 0, none⟩ = some (.int .i64 0) ∧ W.cell? ⟨ab, 0, none⟩ = some (.slice (some ⟨B, 0, none⟩) 1 bc) ∧ W.cell? ⟨lb, 0, none⟩ = some (.int .i64 0) ∧ W.cell? ⟨ib, 0, none⟩ = some (.bool true) ∧ W.cell? ⟨B, 0, none⟩ = some (.int .i64 0)) := fun W k =>
    ⟨cell_kept0 k (h.f.cell (i := 1) rfl).1, cell_kept0 k (h.f.cell (i := 2) rfl).1, cell_kept0 k (h.f.cell (i := 3) rfl).1, cell_kept0 k (h.f.cell (i := 4) rfl).1, cell_kept0 k (hkc 0 _ rfl).1, cell_kept0 k (hac 0 _ rfl).1, cell_kept0 k (hlc 0 _ rfl).1, cell_kept0 k (hic 0 _ rfl).1, cell_kept0 k hB⟩
  have HH : Hid (∀ W, Kept [] w W → Calls Tryd.prog 69 #[.pointer (some ⟨S, 0, none⟩), .int .i64 0] W fun e w' => e = .returned (.bool true) ∧ Kept [] W w') := hhas
  have hmk1 : ∀ W : World, Sem.run Tryd.prog (Instr.makeSlice 73 (.int .i64 1) (.int .i64 1)) W = .ok (.slice (some ⟨W.heap.size, 0, none⟩) 1 1) (W.alloc (.cells #[.bool false] 4)) := fun _ => by kernel_rfl
  have hmk2 : ∀ W : World, Sem.run Tryd.prog (Instr.makeSlice 31 (.int .i64 0) (.int .i64 1)) W = .ok (.slice (some ⟨W.heap.size, 0, none⟩) 0 1) (W.alloc (.cells #[.int .i64 0] 3)) := fun _ => by kernel_rfl
  obtain ⟨V, hV⟩ : ∃ V, w.alloc (.cells #[.pointer (some ⟨F, 0, none⟩)] 67) = V := ⟨_, rfl⟩
  have HKV : Hid (Kept [] w V) := by show Kept [] w V; rw [← hV]; exact (Kept.refl [] w).alloc _
  have hbV : V.heap[w.heap.size]? = some (.cells #[.pointer (some ⟨F, 0, none⟩)] 67 (0, 0)) := by rw [← hV]; exact al0 _ _
  have x0 : V.cell? ⟨w.heap.size, 0, none⟩ = some (.pointer (some ⟨F, 0, none⟩)) := (cell_of hbV 0).trans rfl
  have HV : Hid (w.alloc (.cells #[.pointer (some ⟨F, 0, none⟩)] 67) = V) := hV
  obtain ⟨y1, y2, y3, y4, y5, y6, y7, y8, y9⟩ := HC.out V HKV.out
  clear h hB hhas hlc hic hac hkc hV
  go_enter Tryd.func52, Tryd.ntmps52
  go_upto_region 1 with fail
  rw [HV.out]
  go_upto_region 2 with fail
  obtain ⟨U, hU⟩ : ∃ U, (V.alloc (.cells #[.bool false] 4)).alloc (.cells #[.slice (some ⟨V.heap.size, 0, none⟩) 1 1] 73) = U := ⟨_, rfl⟩
  have kU : Kept [] V U := by rw [← hU]; exact ((Kept.refl [] V).alloc _).alloc _
  have bU1 : U.heap[V.heap.size]? = some (.cells #[.bool false] 4 (0, 0)) := by rw [← hU]; exact alUp (al0 V _) _
  have bU2 : U.heap[V.heap.size + 1]? = some (.cells #[.slice (some ⟨V.heap.size, 0, none⟩) 1 1] 73 (0, 0)) := by rw [← hU]; exact al1 V _ _
  rw [hU]
  have bU0 := kU.at hbV (by simp)
  have HKU : Hid (Kept [] w U) := keptB HKV.out kU
  have HVS : Hid (w.heap.size < V.heap.size) := lt_of hbV
  obtain ⟨Gr, hGr⟩ : ∃ Gr, V.heap.size = Gr := ⟨_, rfl⟩
  obtain ⟨GB, hGB⟩ : ∃ GB, Gr + 1 = GB := ⟨_, rfl⟩
  rw [hGr] at bU1 bU2 HVS ⊢
  rw [hGB] at bU2 ⊢
  clear x0 y1 y2 y3 y4 y5 y6 y7 y8 y9
  have x0 : U.cell? ⟨w.heap.size, 0, none⟩ = some (.pointer (some ⟨F, 0, none⟩)) := (cell_of bU0 0).trans rfl
  obtain ⟨y1, y2, y3, y4, y5, y6, y7, y8, y9⟩ := HC.out U HKU.out
  go_upto_region 3 with fail
  obtain ⟨X, hX⟩ : ∃ X, (U.alloc (.cells #[.int .i64 0] 3)).alloc (.cells #[.slice (some ⟨U.heap.size, 0, none⟩) 0 1] 31) = X := ⟨_, rfl⟩
  have kX : Kept [] U X := by rw [← hX]; exact ((Kept.refl [] U).alloc _).alloc _
  have bX1 : X.heap[U.heap.size]? = some (.cells #[.int .i64 0] 3 (0, 0)) := by rw [← hX]; exact alUp (al0 U _) _
  have bX2 : X.heap[U.heap.size + 1]? = some (.cells #[.slice (some ⟨U.heap.size, 0, none⟩) 0 1] 31 (0, 0)) := by rw [← hX]; exact al1 U _ _
  rw [hX]
  have HGS : Hid (GS w X F w.heap.size GB (U.heap.size + 1) Gr false (.slice (some ⟨U.heap.size, 0, none⟩) 0 1) []) :=
    ⟨keptB HKU.out kX, kX.at bU0 (by simp), kX.at bU2 (by simp), kX.at bU1 (by simp), bX2, ⟨rfl, .inr ⟨U.heap.size, 1, #[.int .i64 0], rfl, HKU.out.size, bX1, by decide, by unfold maxLen; omega, rfl, rfl⟩⟩, ⟨by have := HVS.out; omega, by have := HKU.out.size; omega⟩⟩
  obtain ⟨WB, hWB⟩ : ∃ WB, U.heap.size + 1 = WB := ⟨_, rfl⟩
  obtain ⟨Wt, hWt⟩ : ∃ Wt, U.heap.size = Wt := ⟨_, rfl⟩
  rw [hWB, hWt] at HGS
  rw [hWB]
  clear x0 y1 y2 y3 y4 y5 y6 y7 y8 y9 kU kX bU0 bU1 bU2 bX1 bX2 hU hX hWB hWt hGr hGB hbV hmk1 hmk2
  have x0 : X.cell? ⟨w.heap.size, 0, none⟩ = some (.pointer (some ⟨F, 0, none⟩)) := (cell_of HGS.out.fb 0).trans rfl
  obtain ⟨y1, y2, y3, y4, y5, y6, y7, y8, y9⟩ := HC.out X HGS.out.kept
  go_wp2_with fail
  have HP1 : Hid (∀ W, Kept [] X W → Calls Tryd.prog 68 #[.int .i64 0, .pointer (some ⟨w.heap.size, 0, none⟩), .pointer (some ⟨GB, 0, none⟩), .pointer (some ⟨WB, 0, none⟩)] W fun e w' => e = .returned (.tuple #[]) ∧ ∃ g cap, Hid (GS w w' F w.heap.size GB WB Gr true (.slice (some ⟨g, 0, none⟩) (0 + 1) cap) ([] ++ [0]))) := fun W kW => gput_first w W F w.heap.size GB WB Gr ib ic _ [] (HGS.out.go kW) (by simp) (cell_kept0 kW y4) (cell_kept0 kW y8)
  have HHX : Hid (Calls Tryd.prog 69 #[.pointer (some ⟨S, 0, none⟩), .int .i64 0] X fun e w' => e = .returned (.bool true) ∧ Kept [] X w') := HH.out X HGS.out.kept
  refine wp_loop_rounds 2 ?_
  rw [rounds_succ]
  go_wp2_with (first
    | (go_at_call 69; refine HHX.out.mono ?_; rintro e w1 ⟨rfl, hw1⟩; have HW1 : Hid (Kept [] X w1) := hw1; have z0 := cell_kept0 hw1 x0; have z1 := cell_kept0 hw1 y1; have z2 := cell_kept0 hw1 y2; have z3 := cell_kept0 hw1 y3; have z5 := cell_kept0 hw1 y5; have z7 := cell_kept0 hw1 y7; clear hw1)
    | (go_at_call 68; refine (HP1.out _ HW1.out).mono ?_; rintro e w2 ⟨rfl, g, cap, HG2⟩))
  rw [rounds_succ]
  clear x0 y1 y2 y3 y4 y5 y6 y7 y8 y9 z0 z1 z2 z3 z5 z7 HP1 HHX HGS HW1
  have v1 : w2.cell? ⟨WB, 0, none⟩ = some (.slice (some ⟨g, 0, none⟩) 1 cap) := (cell_of HG2.out.wb 0).trans rfl
  have v2 : w2.frozen? ⟨WB, 0, none⟩ = false := free_of HG2.out.wb 0
  obtain ⟨v3, hcap⟩ : w2.cell? ⟨g, 0, none⟩ = some (.int .i64 0) ∧ 1 ≤ cap := by
    rcases HG2.out.own.2 with ⟨q1, _⟩ | ⟨g', cap', cur, q1, hb, hw, p1, p2, p3, p4⟩
    · cases q1
    · cases q1
      refine ⟨?_, p1⟩
      rw [cell_of hw]
      have e : (cur.toList.take 1)[0]? = some (Value.int .i64 0) := by rw [show cur.toList.take 1 = [Value.int .i64 0] from p4]; rfl
      rw [List.getElem?_take] at e
      simpa using e
  have hcz : (0 : Int) ≤ (cap : Int) := by omega
  obtain ⟨Y, hY⟩ : ∃ Y, w2.setCell ⟨WB, 0, none⟩ (.slice (some ⟨g, 0, none⟩) 0 cap) = Y := ⟨_, rfl⟩
  have HY : Hid (w2.setCell ⟨WB, 0, none⟩ (.slice (some ⟨g, 0, none⟩) 0 cap) = Y) := hY
  have hset : Kept [WB] w2 Y := by rw [← hY]; exact (Kept.refl [WB] w2).setCell (.inl (by simp)) _
  have HKY : Hid (Kept [] w Y) := by show Kept [] w Y; rw [← hY]; exact HG2.out.kept.setCell (.inr HG2.out.new.2) _
  have HBY : Hid (Y.heap[WB]? = some (.cells #[.slice (some ⟨g, 0, none⟩) 0 cap] 31 (0, 0))) := by show Y.heap[WB]? = _; rw [← hY]; exact set_box HG2.out.wb _
  have hne : ∀ (b : Nat) (cs : Array Value) (T : TypeId), T ≠ 31 → w2.heap[b]? = some (.cells cs T (0, 0)) → Y.heap[b]? = some (.cells cs T (0, 0)) := by
    intro b cs T hT hb
    refine hset.at hb (fun e => ?_)
    simp at e
    subst e
    rw [HG2.out.wb] at hb; cases hb; exact hT rfl
  have HB0 : Hid (Y.cell? ⟨w.heap.size, 0, none⟩ = some (.pointer (some ⟨F, 0, none⟩)) ∧ Y.cell? ⟨GB, 0, none⟩ = some (.slice (some ⟨Gr, 0, none⟩) 1 1) ∧ Y.cell? ⟨Gr, 0, none⟩ = some (.bool true)) := ⟨(cell_of (hne _ _ _ (by decide) HG2.out.fb) 0).trans rfl, (cell_of (hne _ _ _ (by decide) HG2.out.gbx) 0).trans rfl, (cell_of (hne _ _ _ (by decide) HG2.out.gr) 0).trans rfl⟩
  clear hY hset hne
  go_wp2_with fail
  refine wp_loop_rounds 2 ?_
  rw [rounds_succ]
  go_upto_region 13 with fail
  rw [HY.out]
  clear v1 v2 v3 HY HG2
  obtain ⟨y1, y2, y3, y4, y5, y6, y7, y8, y9⟩ := HC.out Y HKY.out
  obtain ⟨x0, x1, x2⟩ := HB0.out
  have v1 : Y.cell? ⟨WB, 0, none⟩ = some (.slice (some ⟨g, 0, none⟩) 0 cap) := (cell_of HBY.out 0).trans rfl
  have HP2 : Hid (Calls Tryd.prog 68 #[.int .i64 0, .pointer (some ⟨w.heap.size, 0, none⟩), .pointer (some ⟨GB, 0, none⟩), .pointer (some ⟨WB, 0, none⟩)] Y fun e w' => e = .returned (.tuple #[]) ∧ w' = Y) := gput_again w.heap.size F GB WB ib ic Gr Y x0 y4 y8 x1 x2
  go_wp2_with fail
  refine wp_loop_rounds 2 ?_
  rw [rounds_succ]
  go_wp2_with (go_at_call 68; refine HP2.out.mono ?_; rintro e w3 ⟨rfl, hw3⟩; rw [hw3]; clear hw3)
  rw [rounds_succ]
  go_wp2_with fail
  rw [rounds_succ]
  go_wp2_with fail
  go_ret
  exact ⟨Gr, rfl, HKY.out, HB0.out.2.2⟩
end Go.Proofs.YtepooofiadlceaaDoor
