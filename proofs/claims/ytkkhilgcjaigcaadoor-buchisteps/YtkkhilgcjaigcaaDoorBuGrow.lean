/- package buchi: grow's closure. -/
import Derived.Test.YtkkhilgcjaigcaaDoorBuDrop
namespace Go.Proofs.YtkkhilgcjaigcaaDoor
open Go.RowKit Go.Shelf

set_option maxHeartbeats 2000000 in
set_option maxRecDepth 10000 in
theorem gput_again (FB F GB WB ib ic Gr : Nat) (w : World) (h1 : w.cell? ⟨FB, 0, none⟩ = some (.pointer (some ⟨F, 0, none⟩))) (h2 : w.cell? ⟨F, 4, none⟩ = some (.slice (some ⟨ib, 0, none⟩) 1 ic)) (h3 : w.cell? ⟨ib, 0, none⟩ = some (.bool true)) (h4 : w.cell? ⟨GB, 0, none⟩ = some (.slice (some ⟨Gr, 0, none⟩) 1 1)) (h5 : w.cell? ⟨Gr, 0, none⟩ = some (.bool true)) :
    Calls Tryd.prog 95 #[.int .i64 0, .pointer (some ⟨FB, 0, none⟩), .pointer (some ⟨GB, 0, none⟩), .pointer (some ⟨WB, 0, none⟩)] w fun e w' => e = .returned (.tuple #[]) ∧ w' = w := by
  go_enter Tryd.func95, Tryd.ntmps95
  go_wp2_with fail
  go_end0
  exact ⟨rfl, rfl⟩
/-- What grow has made: the boxes of f, of the truths and of what waits. -/
structure GS (w W : World) (F FB GB WB Gr : Nat) (gb : Bool) (wv : Value) (ws : List Int) : Prop where
  kept : Kept [] w W
  fb : W.heap[FB]? = some (.cells #[.pointer (some ⟨F, 0, none⟩)] 95 (0, 0))
  gbx : W.heap[GB]? = some (.cells #[.slice (some ⟨Gr, 0, none⟩) 1 1] 45 (0, 0))
  gr : W.heap[Gr]? = some (.cells #[.bool gb] 4 (0, 0))
  wb : W.heap[WB]? = some (.cells #[wv] 23 (0, 0))
  own : W.ownsRow w.heap.size 3 1 wv ws.length (ws.map (Value.int .i64))
  new : w.heap.size ≤ Gr ∧ w.heap.size ≤ WB
theorem set_box {W : World} {B : Nat} {x : Value} {T : TypeId} (h : W.heap[B]? = some (.cells #[x] T (0, 0))) (v : Value) : (W.setCell ⟨B, 0, none⟩ v).heap[B]? = some (.cells #[v] T (0, 0)) := by
  rw [bx_set h]; rfl
set_option maxRecDepth 10000 in
theorem GS.push {w W : World} {F FB GB WB Gr : Nat} {gb : Bool} {wv : Value} {ws : List Int} (h : GS w W F FB GB WB Gr gb wv ws) (x : Int) (hl : ws.length ≤ 1000) :
    ∃ g cap w2, (∀ ty, (Builtin.append_ #[23, 23] ty #[wv, .slice (some ⟨W.heap.size, 0, none⟩) 1 1]).run Tryd.prog (W.alloc (.cells #[.int .i64 x] 3)) = .ok (.slice (some ⟨g, 0, none⟩) (ws.length + 1) cap) w2) ∧ w2.cell? ⟨WB, 0, none⟩ = some wv ∧ w2.frozen? ⟨WB, 0, none⟩ = false ∧ Hid (GS w (w2.setCell ⟨WB, 0, none⟩ (.slice (some ⟨g, 0, none⟩) (ws.length + 1) cap)) F FB GB WB Gr gb (.slice (some ⟨g, 0, none⟩) (ws.length + 1) cap) (ws ++ [x])) := by
  have kQ : Kept [] W (W.alloc (.cells #[.int .i64 x] 3)) := (Kept.refl [] W).alloc _
  have hbQ : (W.alloc (.cells #[.int .i64 x] 3)).heap[W.heap.size]? = some (.cells #[.int .i64 x] 3 (0, 0)) := al0 W _
  have ho := bx_kept h.own kQ (by simp)
  have hsz := h.kept.size
  obtain ⟨g, cap, w2, g1, g2, g3, g4, g5⟩ := run_append_lies (P := Tryd.prog) (W.alloc (.cells #[.int .i64 x] 3)) 23 0 w.heap.size 3 _ (.int .i64 0) 1 8 Tryd.underlying23 rfl rfl rfl rfl rfl (by decide) wv ws.length _ ho ⟨W.heap.size, 0, none⟩ 1 1 [.int .i64 x] rfl (fun j u hu => by
      rw [show (Addr.add ⟨W.heap.size, 0, none⟩ j) = ⟨W.heap.size, j, none⟩ from by simp [Addr.add]; exact fun e => e.symm]
      rw [cell_of hbQ]
      simpa using hu) (by intro u hu; simp at hu; subst hu; rfl) (by decide) (by unfold maxLen; omega) (by omega) (Nat.le_trans hsz kQ.size) _ rfl
  -- a block that is no row of numbers stays
  have hst : ∀ (b : Nat) (cs : Array Value) (T : TypeId), T ≠ 3 → W.heap[b]? = some (.cells cs T (0, 0)) → w2.heap[b]? = some (.cells cs T (0, 0)) := by
    intro b cs T hT hb
    have hb' := kQ.at hb (by simp)
    refine (g3.block _ (lt_of hb') (fun e => ?_)).trans hb'
    rcases ho.2 with ⟨q1, _⟩ | ⟨g', cap', cur, q1, _, hw, _⟩
    · rw [q1] at e; cases e
    · rw [q1] at e; cases e; rw [hb'] at hw; cases hw; exact hT rfl
  have hne : ∀ (b : Nat) (cs : Array Value) (T : TypeId), T ≠ 23 → W.heap[b]? = some (.cells cs T (0, 0)) → b ≠ WB := by
    intro b cs T hT hb e
    subst e
    rw [h.wb] at hb; cases hb; exact hT rfl
  have wb2 := hst WB _ _ (by decide) h.wb
  have hset : Kept [WB] w2 (w2.setCell ⟨WB, 0, none⟩ (.slice (some ⟨g, 0, none⟩) (ws.length + 1) cap)) := (Kept.refl [WB] w2).setCell (.inl (by simp)) _
  refine ⟨g, cap, w2, fun ty => g1, by rw [cell_of wb2]; rfl, free_of wb2 0, ?_, ?_, ?_, ?_, set_box wb2 _, ?_, h.new⟩
  · exact ((keptB h.kept kQ).grown g3 (fun k e => .inr (bx_base ho e).1)).setCell (.inr h.new.2) _
  · exact hset.at (hst FB _ _ (by decide) h.fb) (by simpa using hne FB _ _ (by decide) h.fb)
  · exact hset.at (hst GB _ _ (by decide) h.gbx) (by simpa using hne GB _ _ (by decide) h.gbx)
  · exact hset.at (hst Gr _ _ (by decide) h.gr) (by simpa using hne Gr _ _ (by decide) h.gr)
  · have := bx_kept g2 hset (fun g' e hg => by
      simp at hg; subst hg
      rcases g2.2 with ⟨q1, _⟩ | ⟨g'', cap', cur, q1, _, hw, _⟩
      · cases q1
      · cases q1; cases e; rw [wb2] at hw; cases hw)
    simpa using this
theorem GS.mark {w W : World} {F FB GB WB Gr : Nat} {gb : Bool} {wv : Value} {ws : List Int} (h : GS w W F FB GB WB Gr gb wv ws) (b' : Bool) : GS w (W.setCell ⟨Gr, 0, none⟩ (.bool b')) F FB GB WB Gr b' wv ws := by
  have hset : Kept [Gr] W (W.setCell ⟨Gr, 0, none⟩ (.bool b')) := (Kept.refl [Gr] W).setCell (.inl (by simp)) _
  have hne : ∀ (b : Nat) (cs : Array Value) (T : TypeId), T ≠ 4 → W.heap[b]? = some (.cells cs T (0, 0)) → b ≠ Gr := by
    intro b cs T hT hb e
    subst e
    rw [h.gr] at hb; cases hb; exact hT rfl
  refine ⟨h.kept.setCell (.inr h.new.1) _, hset.at h.fb (by simpa using hne FB _ _ (by decide) h.fb), hset.at h.gbx (by simpa using hne GB _ _ (by decide) h.gbx), set_box h.gr _, hset.at h.wb (by simpa using hne WB _ _ (by decide) h.wb), bx_kept h.own hset (fun g' e hg => ?_), h.new⟩
  simp at hg; subst hg
  rcases h.own.2 with ⟨q1, _⟩ | ⟨g'', cap', cur, q1, _, hw, _⟩
  · rw [q1] at e; cases e
  · rw [q1] at e; cases e; rw [h.gr] at hw; cases hw
set_option maxHeartbeats 2000000 in
set_option maxRecDepth 10000 in
theorem gput_first (w W : World) (F FB GB WB Gr ib ic : Nat) (wv : Value) (ws : List Int) (h : GS w W F FB GB WB Gr false wv ws) (hl : ws.length ≤ 1000) (h2 : W.cell? ⟨F, 4, none⟩ = some (.slice (some ⟨ib, 0, none⟩) 1 ic)) (h3 : W.cell? ⟨ib, 0, none⟩ = some (.bool true)) :
    Calls Tryd.prog 95 #[.int .i64 0, .pointer (some ⟨FB, 0, none⟩), .pointer (some ⟨GB, 0, none⟩), .pointer (some ⟨WB, 0, none⟩)] W fun e w' => e = .returned (.tuple #[]) ∧ ∃ g cap, Hid (GS w w' F FB GB WB Gr true (.slice (some ⟨g, 0, none⟩) (ws.length + 1) cap) (ws ++ [0])) := by
  have h1 : W.cell? ⟨FB, 0, none⟩ = some (.pointer (some ⟨F, 0, none⟩)) := (cell_of h.fb 0).trans rfl
  have h4 : W.cell? ⟨GB, 0, none⟩ = some (.slice (some ⟨Gr, 0, none⟩) 1 1) := (cell_of h.gbx 0).trans rfl
  have h5 : W.cell? ⟨Gr, 0, none⟩ = some (.bool false) := (cell_of h.gr 0).trans rfl
  have h6 : W.frozen? ⟨Gr, 0, none⟩ = false := free_of h.gr 0
  obtain ⟨V, hV⟩ : ∃ V, W.setCell ⟨Gr, 0, none⟩ (.bool true) = V := ⟨_, rfl⟩
  have hm := h.mark true
  rw [hV] at hm
  obtain ⟨g, cap, w2, hrun, d1, d2, HG⟩ := hm.push 0 hl
  have v1 : V.cell? ⟨WB, 0, none⟩ = some wv := (cell_of hm.wb 0).trans rfl
  obtain ⟨wa, wc, rfl⟩ := own_slice h.own
  have HRUN : Hid (∀ ty, (Builtin.append_ #[23, 23] ty #[.slice wa ws.length wc, .slice (some ⟨V.heap.size, 0, none⟩) 1 1]).run Tryd.prog (V.alloc (.cells #[.int .i64 0] 3)) = .ok (.slice (some ⟨g, 0, none⟩) (ws.length + 1) cap) w2) := hrun
  have HV : Hid (W.setCell ⟨Gr, 0, none⟩ (.bool true) = V) := hV
  clear hrun hm h hV
  go_enter Tryd.func95, Tryd.ntmps95
  go_upto_region 2 with fail
  rw [HV.out]
  clear h1 h2 h3 h4 h5 h6
  go_wp2_with (refine bx_append_list rfl _ _ _ rfl _ _ _ _ rfl rfl (HRUN.out _) ?_)
  go_end0
  exact ⟨rfl, g, cap, HG⟩
end Go.Proofs.YtkkhilgcjaigcaaDoor
