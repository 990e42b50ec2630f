/- package buchi: grow where one spot goes on. -/
import Derived.Test.YtkkhilgcjaigcaaDoorBuGrow
namespace Go.Proofs.YtkkhilgcjaigcaaDoor
open Go.RowKit Go.Shelf

theorem GS.go {w W W' : World} {F fb GB WB Gr : Nat} {b : Bool} {v : Value} {l : List Int} (h : GS w W F fb GB WB Gr b v l) (k : Kept [] W W') : GS w W' F fb GB WB Gr b v l :=
  ⟨keptB h.kept k, k.at h.fb (by simp), k.at h.gbx (by simp), k.at h.gr (by simp), k.at h.wb (by simp), bx_kept h.own k (by simp), h.new⟩
set_option maxHeartbeats 4000000 in
set_option maxRecDepth 10000 in
theorem grow_one (F M S B bc : Nat) (es : Array MapEntry) (ck : Nat) (T : TypeId) (w0 w : World) (kv av lv iv yv : Value) (h : MBox w0 w F M es ck T (fldV M kv av lv iv yv) (fldR 1 [.int .i64 0, .int .i64 0] [.slice (some ⟨B, 0, none⟩) 1 bc] [.int .i64 0] [.bool true] [.int .i64 1]))
    (hB : w.cell? ⟨B, 0, none⟩ = some (.int .i64 0))
    (hhas : ∀ W, Kept [] w W → Calls Tryd.prog 13 #[.pointer (some ⟨S, 0, none⟩), .int .i64 0] W fun e w' => e = .returned (.bool true) ∧ Kept [] W w') :
    Calls Tryd.prog 85 #[.pointer (some ⟨F, 0, none⟩), .pointer (some ⟨S, 0, none⟩)] w fun e w' => ∃ G, e = .returned (.slice (some ⟨G, 0, none⟩) 1 1) ∧ Kept [] w w' ∧ w'.cell? ⟨G, 0, none⟩ = some (.bool true) := by
  obtain ⟨lb, lc, rfl, _, _, _, _, hlc⟩ := h.f.row (i := 3) (v := lv) rfl rfl (by show 0 < 1; omega)
  obtain ⟨ib, ic, rfl, _, _, _, _, hic⟩ := h.f.row (i := 4) (v := iv) rfl rfl (by show 0 < 1; omega)
  obtain ⟨ab, ac, rfl, _, _, _, _, hac⟩ := h.f.row (i := 2) (v := av) rfl rfl (by show 0 < 1; omega)
  obtain ⟨kb, kc, rfl, _, _, _, _, hkc⟩ := h.f.row (i := 1) (v := kv) rfl rfl (by show 0 < 1; omega)
  dsimp only at hlc hic hac hkc
  have HC : Hid (∀ W, Kept [] w W → W.cell? ⟨F, 1, none⟩ = some (.slice (some ⟨kb, 0, none⟩) 1 kc) ∧ W.cell? ⟨F, 2, none⟩ = some (.slice (some ⟨ab, 0, none⟩) 1 ac) ∧ W.cell? ⟨F, 3, none⟩ = some (.slice (some ⟨lb, 0, none⟩) 1 lc) ∧ W.cell? ⟨F, 4, none⟩ = some (.slice (some ⟨ib, 0, none⟩) 1 ic) ∧ W.cell? ⟨kb, 0, none⟩ = some (.int .i64 0) ∧ W.cell? ⟨ab, 0, none⟩ = some (.slice (some ⟨B, 0, none⟩) 1 bc) ∧ W.cell? ⟨lb, 0, none⟩ = some (.int .i64 0) ∧ W.cell? ⟨ib, 0, none⟩ = some (.bool true) ∧ W.cell? ⟨B, 0, none⟩ = some (.int .i64 0)) := fun W k =>
    ⟨cell_kept0 k (h.f.cell (i := 1) rfl).1, cell_kept0 k (h.f.cell (i := 2) rfl).1, cell_kept0 k (h.f.cell (i := 3) rfl).1, cell_kept0 k (h.f.cell (i := 4) rfl).1, cell_kept0 k (hkc 0 _ rfl).1, cell_kept0 k (hac 0 _ rfl).1, cell_kept0 k (hlc 0 _ rfl).1, cell_kept0 k (hic 0 _ rfl).1, cell_kept0 k hB⟩
  have HH : Hid (∀ W, Kept [] w W → Calls Tryd.prog 13 #[.pointer (some ⟨S, 0, none⟩), .int .i64 0] W fun e w' => e = .returned (.bool true) ∧ Kept [] W w') := hhas
  have hmk1 : ∀ W : World, Sem.run Tryd.prog (Instr.makeSlice 45 (.int .i64 1) (.int .i64 1)) W = .ok (.slice (some ⟨W.heap.size, 0, none⟩) 1 1) (W.alloc (.cells #[.bool false] 4)) := fun _ => by kernel_rfl
  have hmk2 : ∀ W : World, Sem.run Tryd.prog (Instr.makeSlice 23 (.int .i64 0) (.int .i64 1)) W = .ok (.slice (some ⟨W.heap.size, 0, none⟩) 0 1) (W.alloc (.cells #[.int .i64 0] 3)) := fun _ => by kernel_rfl
  obtain ⟨V, hV⟩ : ∃ V, w.alloc (.cells #[.pointer (some ⟨F, 0, none⟩)] 95) = V := ⟨_, rfl⟩
  have HKV : Hid (Kept [] w V) := by show Kept [] w V; rw [← hV]; exact (Kept.refl [] w).alloc _
  have hbV : V.heap[w.heap.size]? = some (.cells #[.pointer (some ⟨F, 0, none⟩)] 95 (0, 0)) := by rw [← hV]; exact al0 _ _
  have x0 : V.cell? ⟨w.heap.size, 0, none⟩ = some (.pointer (some ⟨F, 0, none⟩)) := (cell_of hbV 0).trans rfl
  have HV : Hid (w.alloc (.cells #[.pointer (some ⟨F, 0, none⟩)] 95) = V) := hV
  obtain ⟨y1, y2, y3, y4, y5, y6, y7, y8, y9⟩ := HC.out V HKV.out
  clear h hB hhas hlc hic hac hkc hV
  go_enter Tryd.func85, Tryd.ntmps85
  go_upto_region 1 with fail
  rw [HV.out]
  go_upto_region 2 with fail
  obtain ⟨U, hU⟩ : ∃ U, (V.alloc (.cells #[.bool false] 4)).alloc (.cells #[.slice (some ⟨V.heap.size, 0, none⟩) 1 1] 45) = U := ⟨_, rfl⟩
  have kU : Kept [] V U := by rw [← hU]; exact ((Kept.refl [] V).alloc _).alloc _
  have bU1 : U.heap[V.heap.size]? = some (.cells #[.bool false] 4 (0, 0)) := by rw [← hU]; exact alUp (al0 V _) _
  have bU2 : U.heap[V.heap.size + 1]? = some (.cells #[.slice (some ⟨V.heap.size, 0, none⟩) 1 1] 45 (0, 0)) := by rw [← hU]; exact al1 V _ _
  rw [hU]
  have bU0 := kU.at hbV (by simp)
  have HKU : Hid (Kept [] w U) := keptB HKV.out kU
  have HVS : Hid (w.heap.size < V.heap.size) := lt_of hbV
  obtain ⟨Gr, hGr⟩ : ∃ Gr, V.heap.size = Gr := ⟨_, rfl⟩
  obtain ⟨GB, hGB⟩ : ∃ GB, Gr + 1 = GB := ⟨_, rfl⟩
  rw [hGr] at bU1 bU2 HVS ⊢
  rw [hGB] at bU2 ⊢
  clear x0 y1 y2 y3 y4 y5 y6 y7 y8 y9
  have x0 : U.cell? ⟨w.heap.size, 0, none⟩ = some (.pointer (some ⟨F, 0, none⟩)) := (cell_of bU0 0).trans rfl
  obtain ⟨y1, y2, y3, y4, y5, y6, y7, y8, y9⟩ := HC.out U HKU.out
  go_upto_region 3 with fail
  obtain ⟨X, hX⟩ : ∃ X, (U.alloc (.cells #[.int .i64 0] 3)).alloc (.cells #[.slice (some ⟨U.heap.size, 0, none⟩) 0 1] 23) = X := ⟨_, rfl⟩
  have kX : Kept [] U X := by rw [← hX]; exact ((Kept.refl [] U).alloc _).alloc _
  have bX1 : X.heap[U.heap.size]? = some (.cells #[.int .i64 0] 3 (0, 0)) := by rw [← hX]; exact alUp (al0 U _) _
  have bX2 : X.heap[U.heap.size + 1]? = some (.cells #[.slice (some ⟨U.heap.size, 0, none⟩) 0 1] 23 (0, 0)) := by rw [← hX]; exact al1 U _ _
  rw [hX]
  have HGS : Hid (GS w X F w.heap.size GB (U.heap.size + 1) Gr false (.slice (some ⟨U.heap.size, 0, none⟩) 0 1) []) :=
    ⟨keptB HKU.out kX, kX.at bU0 (by simp), kX.at bU2 (by simp), kX.at bU1 (by simp), bX2, ⟨rfl, .inr ⟨U.heap.size, 1, #[.int .i64 0], rfl, HKU.out.size, bX1, by decide, by unfold maxLen; omega, rfl, rfl⟩⟩, ⟨by have := HVS.out; omega, by have := HKU.out.size; omega⟩⟩
  obtain ⟨WB, hWB⟩ : ∃ WB, U.heap.size + 1 = WB := ⟨_, rfl⟩
  obtain ⟨Wt, hWt⟩ : ∃ Wt, U.heap.size = Wt := ⟨_, rfl⟩
  rw [hWB, hWt] at HGS
  rw [hWB]
  clear x0 y1 y2 y3 y4 y5 y6 y7 y8 y9 kU kX bU0 bU1 bU2 bX1 bX2 hU hX hWB hWt hGr hGB hbV hmk1 hmk2
  have x0 : X.cell? ⟨w.heap.size, 0, none⟩ = some (.pointer (some ⟨F, 0, none⟩)) := (cell_of HGS.out.fb 0).trans rfl
  obtain ⟨y1, y2, y3, y4, y5, y6, y7, y8, y9⟩ := HC.out X HGS.out.kept
  go_wp2_with fail
  have HP1 : Hid (∀ W, Kept [] X W → Calls Tryd.prog 95 #[.int .i64 0, .pointer (some ⟨w.heap.size, 0, none⟩), .pointer (some ⟨GB, 0, none⟩), .pointer (some ⟨WB, 0, none⟩)] W fun e w' => e = .returned (.tuple #[]) ∧ ∃ g cap, Hid (GS w w' F w.heap.size GB WB Gr true (.slice (some ⟨g, 0, none⟩) (0 + 1) cap) ([] ++ [0]))) := fun W kW => gput_first w W F w.heap.size GB WB Gr ib ic _ [] (HGS.out.go kW) (by simp) (cell_kept0 kW y4) (cell_kept0 kW y8)
  have HHX : Hid (Calls Tryd.prog 13 #[.pointer (some ⟨S, 0, none⟩), .int .i64 0] X fun e w' => e = .returned (.bool true) ∧ Kept [] X w') := HH.out X HGS.out.kept
  refine wp_loop_rounds 2 ?_
  rw [rounds_succ]
  go_wp2_with (first
    | (go_at_call 13; refine HHX.out.mono ?_; rintro e w1 ⟨rfl, hw1⟩; have HW1 : Hid (Kept [] X w1) := hw1; have z0 := cell_kept0 hw1 x0; have z1 := cell_kept0 hw1 y1; have z2 := cell_kept0 hw1 y2; have z3 := cell_kept0 hw1 y3; have z5 := cell_kept0 hw1 y5; have z7 := cell_kept0 hw1 y7; clear hw1)
    | (go_at_call 95; refine (HP1.out _ HW1.out).mono ?_; rintro e w2 ⟨rfl, g, cap, HG2⟩))
  rw [rounds_succ]
  clear x0 y1 y2 y3 y4 y5 y6 y7 y8 y9 z0 z1 z2 z3 z5 z7 HP1 HHX HGS HW1
  have v1 : w2.cell? ⟨WB, 0, none⟩ = some (.slice (some ⟨g, 0, none⟩) 1 cap) := (cell_of HG2.out.wb 0).trans rfl
  have v2 : w2.frozen? ⟨WB, 0, none⟩ = false := free_of HG2.out.wb 0
  obtain ⟨v3, hcap⟩ : w2.cell? ⟨g, 0, none⟩ = some (.int .i64 0) ∧ 1 ≤ cap := by
    rcases HG2.out.own.2 with ⟨q1, _⟩ | ⟨g', cap', cur, q1, hb, hw, p1, p2, p3, p4⟩
    · cases q1
    · cases q1
      refine ⟨?_, p1⟩
      rw [cell_of hw]
      have e : (cur.toList.take 1)[0]? = some (Value.int .i64 0) := by rw [show cur.toList.take 1 = [Value.int .i64 0] from p4]; rfl
      rw [List.getElem?_take] at e
      simpa using e
  have hcz : (0 : Int) ≤ (cap : Int) := by omega
  obtain ⟨Y, hY⟩ : ∃ Y, w2.setCell ⟨WB, 0, none⟩ (.slice (some ⟨g, 0, none⟩) 0 cap) = Y := ⟨_, rfl⟩
  have HY : Hid (w2.setCell ⟨WB, 0, none⟩ (.slice (some ⟨g, 0, none⟩) 0 cap) = Y) := hY
  have hset : Kept [WB] w2 Y := by rw [← hY]; exact (Kept.refl [WB] w2).setCell (.inl (by simp)) _
  have HKY : Hid (Kept [] w Y) := by show Kept [] w Y; rw [← hY]; exact HG2.out.kept.setCell (.inr HG2.out.new.2) _
  have HBY : Hid (Y.heap[WB]? = some (.cells #[.slice (some ⟨g, 0, none⟩) 0 cap] 23 (0, 0))) := by show Y.heap[WB]? = _; rw [← hY]; exact set_box HG2.out.wb _
  have hne : ∀ (b : Nat) (cs : Array Value) (T : TypeId), T ≠ 23 → w2.heap[b]? = some (.cells cs T (0, 0)) → Y.heap[b]? = some (.cells cs T (0, 0)) := by
    intro b cs T hT hb
    refine hset.at hb (fun e => ?_)
    simp at e
    subst e
    rw [HG2.out.wb] at hb; cases hb; exact hT rfl
  have HB0 : Hid (Y.cell? ⟨w.heap.size, 0, none⟩ = some (.pointer (some ⟨F, 0, none⟩)) ∧ Y.cell? ⟨GB, 0, none⟩ = some (.slice (some ⟨Gr, 0, none⟩) 1 1) ∧ Y.cell? ⟨Gr, 0, none⟩ = some (.bool true)) := ⟨(cell_of (hne _ _ _ (by decide) HG2.out.fb) 0).trans rfl, (cell_of (hne _ _ _ (by decide) HG2.out.gbx) 0).trans rfl, (cell_of (hne _ _ _ (by decide) HG2.out.gr) 0).trans rfl⟩
  clear hY hset hne
  go_wp2_with fail
  refine wp_loop_rounds 2 ?_
  rw [rounds_succ]
  go_upto_region 13 with fail
  rw [HY.out]
  clear v1 v2 v3 HY HG2
  obtain ⟨y1, y2, y3, y4, y5, y6, y7, y8, y9⟩ := HC.out Y HKY.out
  obtain ⟨x0, x1, x2⟩ := HB0.out
  have v1 : Y.cell? ⟨WB, 0, none⟩ = some (.slice (some ⟨g, 0, none⟩) 0 cap) := (cell_of HBY.out 0).trans rfl
  have HP2 : Hid (Calls Tryd.prog 95 #[.int .i64 0, .pointer (some ⟨w.heap.size, 0, none⟩), .pointer (some ⟨GB, 0, none⟩), .pointer (some ⟨WB, 0, none⟩)] Y fun e w' => e = .returned (.tuple #[]) ∧ w' = Y) := gput_again w.heap.size F GB WB ib ic Gr Y x0 y4 y8 x1 x2
  go_wp2_with fail
  refine wp_loop_rounds 2 ?_
  rw [rounds_succ]
  go_wp2_with (go_at_call 95; refine HP2.out.mono ?_; rintro e w3 ⟨rfl, hw3⟩; rw [hw3]; clear hw3)
  rw [rounds_succ]
  go_wp2_with fail
  rw [rounds_succ]
  go_wp2_with fail
  go_ret
  exact ⟨Gr, rfl, HKY.out, HB0.out.2.2⟩
end Go.Proofs.YtkkhilgcjaigcaaDoor
