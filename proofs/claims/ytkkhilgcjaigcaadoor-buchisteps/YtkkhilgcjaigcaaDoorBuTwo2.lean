/- package buchi: drop where the last of two spots goes, and with it the first. -/
import Derived.Test.YtkkhilgcjaigcaaDoorBuTwo
namespace Go.Proofs.YtkkhilgcjaigcaaDoor
open Go.RowKit Go.Shelf

theorem MBox.goF {w0 W W' : World} {F M X : Nat} {es : Array MapEntry} {ck : Nat} {T : TypeId} {vs : List Value} {rs : List (Option Rw)} (h : MBox w0 W F M es ck T vs rs) (k : Kept [X] W W') (h0 : w0.heap.size ≤ X) (h1 : X ≠ F) (h2 : X ≠ M) (hv : ∀ v ∈ vs, v.ownBlock ≠ some X) : MBox w0 W' F M es ck T vs rs := by
  refine ⟨⟨h.f.base, h.f.kept.trans k (by simp) (by simpa using h0), k.at h.f.box (by simpa using fun e => h1 e.symm), fun i r v a b => bx_kept (h.f.own i r v a b) k (fun g e hg => ?_), h.f.apart⟩, k.at h.m (by simpa using fun e => h2 e.symm), h.m0⟩
  simp at hg
  subst hg
  exact hv v (List.mem_of_getElem? b) e
/-- What lies beside the field: the box of f, the row that leads to the first spot, and the list of what goes. -/
structure Aux (W : World) (base F FB B : Nat) (gv : Value) (n : Nat) (xs : List Value) : Prop where
  fb : W.heap[FB]? = some (.cells #[.pointer (some ⟨F, 0, none⟩)] 95 (0, 0))
  row : ∃ cur, W.heap[B]? = some (.cells cur 3 (0, 0)) ∧ cur[0]? = some (.int .i64 0)
  own : W.ownsRow base 3 1 gv n xs
theorem Aux.go {W W' : World} {base F FB B : Nat} {gv : Value} {n : Nat} {xs : List Value} {L : List Nat} (h : Aux W base F FB B gv n xs) (k : Kept L W W') (h1 : FB ∉ L) (h2 : B ∉ L) (h3 : ∀ g, gv.ownBlock = some g → g ∉ L) : Aux W' base F FB B gv n xs := by
  obtain ⟨cur, q1, q2⟩ := h.row
  exact ⟨k.at h.fb h1, ⟨cur, k.at q1 h2, q2⟩, bx_kept h.own k h3⟩
theorem Aux.cells {W : World} {base F FB B : Nat} {gv : Value} {n : Nat} {xs : List Value} (h : Aux W base F FB B gv n xs) : W.cell? ⟨FB, 0, none⟩ = some (.pointer (some ⟨F, 0, none⟩)) ∧ W.cell? ⟨B, 0, none⟩ = some (.int .i64 0) := by
  obtain ⟨cur, q1, q2⟩ := h.row
  exact ⟨(cell_of h.fb 0).trans rfl, (cell_of q1 0).trans q2⟩
theorem own_cell {W : World} {base g c : Nat} {x : Value} (h : W.ownsRow base 3 1 (.slice (some ⟨g, 0, none⟩) 1 c) 1 [x]) : W.cell? ⟨g, 0, none⟩ = some x := by
  rcases h.2 with ⟨q1, _⟩ | ⟨g', cap', cur, q1, _, hw, q2, q3, q4, q5⟩
  · cases q1
  · cases q1
    rw [cell_of hw]
    have e : (cur.toList.take 1)[0]? = some x := by rw [show cur.toList.take 1 = [x] from q5]; rfl
    rw [List.getElem?_take] at e
    simpa using e
theorem own_none {W : World} {base g c : Nat} {x : Value} (h : W.ownsRow base 3 1 (.slice (some ⟨g, 0, none⟩) 1 c) 1 [x]) : W.ownsRow base 3 1 (.slice (some ⟨g, 0, none⟩) 0 c) 0 [] := by
  rcases h.2 with ⟨q1, _⟩ | ⟨g', cap', cur, q1, hb, hw, q2, q3, q4, q5⟩
  · cases q1
  · cases q1
    exact ⟨rfl, .inr ⟨g, c, cur, rfl, hb, hw, Nat.zero_le _, q3, q4, rfl⟩⟩
set_option maxRecDepth 10000 in
theorem own_push {W : World} {base g c : Nat} (x : Int) (hb : base ≤ W.heap.size) (h : W.ownsRow base 3 1 (.slice (some ⟨g, 0, none⟩) 0 c) 0 []) :
    ∃ g' cap w2, (∀ ty, (Builtin.append_ #[23, 23] ty #[.slice (some ⟨g, 0, none⟩) 0 c, .slice (some ⟨W.heap.size, 0, none⟩) 1 1]).run Tryd.prog (W.alloc (.cells #[.int .i64 x] 3)) = .ok (.slice (some ⟨g', 0, none⟩) 1 cap) w2) ∧ w2.ownsRow base 3 1 (.slice (some ⟨g', 0, none⟩) 1 cap) 1 [.int .i64 x] ∧ Kept [g] W w2 ∧ 1 ≤ cap := by
  have kQ : Kept [g] W (W.alloc (.cells #[.int .i64 x] 3)) := (Kept.refl [g] W).alloc _
  have kQ0 : Kept [] W (W.alloc (.cells #[.int .i64 x] 3)) := (Kept.refl [] W).alloc _
  have hbQ : (W.alloc (.cells #[.int .i64 x] 3)).heap[W.heap.size]? = some (.cells #[.int .i64 x] 3 (0, 0)) := al0 W _
  have ho := bx_kept h kQ0 (by simp)
  obtain ⟨g', cap, w2, g1, g2, g3, g4, g5⟩ := run_append_lies (P := Tryd.prog) (W.alloc (.cells #[.int .i64 x] 3)) 23 0 base 3 _ (.int .i64 0) 1 8 Tryd.underlying23 rfl rfl rfl rfl rfl (by decide) (.slice (some ⟨g, 0, none⟩) 0 c) 0 [] ho ⟨W.heap.size, 0, none⟩ 1 1 [.int .i64 x] rfl (fun j u hu => by
      rw [show (Addr.add ⟨W.heap.size, 0, none⟩ j) = ⟨W.heap.size, j, none⟩ from by simp [Addr.add]; exact fun e => e.symm]
      rw [cell_of hbQ]
      simpa using hu) (by intro u hu; simp at hu; subst hu; rfl) (by decide) (by unfold maxLen; omega) (by omega) (Nat.le_trans hb kQ.size) _ rfl
  refine ⟨g', cap, w2, fun ty => g1, g2, kQ.grown g3 (fun k e => .inl (by cases e; simp)), ?_⟩
  rcases g2.2 with ⟨q1, _⟩ | ⟨g'', cap', cur, q1, _, hw, q2, _⟩
  · cases q1
  · cases q1; exact q2
set_option maxHeartbeats 4000000 in
set_option maxRecDepth 10000 in
theorem drop_two (F M B bc eb ec : Nat) (es : Array MapEntry) (ck : Nat) (T : TypeId) (w0 w : World) (kv av lv iv yv : Value) (ks : List Value) (h : MBox w0 w F M es ck T (fldV M kv av lv iv yv) (fldR 2 ks [.slice none 0 0, .slice (some ⟨B, 0, none⟩) 1 bc] [.int .i64 0, .int .i64 1] [.bool true, .bool true] [.int .i64 1, .int .i64 0]))
    (hB : ∃ cur, w.heap[B]? = some (.cells cur 3 (0, 0)) ∧ cur[0]? = some (.int .i64 0)) (hBn : ∀ v ∈ fldV M kv av lv iv yv, v.ownBlock ≠ some B) (hBe : B ≠ eb)
    (ho : w.ownsRow w0.heap.size 3 1 (.slice (some ⟨eb, 0, none⟩) 1 ec) 1 [.int .i64 1]) (hen : ∀ v ∈ fldV M kv av lv iv yv, v.ownBlock ≠ some eb) (heF : eb ≠ F) :
    Calls Tryd.prog 84 #[.pointer (some ⟨F, 0, none⟩), .slice (some ⟨eb, 0, none⟩) 1 ec] w fun e w' => e = .returned (.tuple #[]) ∧ Kept [] w0 w' ∧ ∃ lb lc, w'.cell? ⟨F, 3, none⟩ = some (.slice (some ⟨lb, 0, none⟩) 0 lc) := by
  have heM : eb ≠ M := fun e => by
    subst e
    rcases ho.2 with ⟨q1, _⟩ | ⟨g', cap', cur, q1, _, hw, _⟩
    · cases q1
    · cases q1; rw [h.m] at hw; cases hw
  have HEN : Hid ((∀ v ∈ fldV M kv av lv iv yv, v.ownBlock ≠ some eb) ∧ eb ≠ F ∧ eb ≠ M ∧ w0.heap.size ≤ eb) := ⟨hen, heF, heM, (bx_base ho (g := eb) rfl).1⟩
  have HBN : Hid (∀ v ∈ fldV M kv av lv iv yv, v.ownBlock ≠ some B) := hBn
  obtain ⟨lb, lc, rfl, hl1, hl2, _, _, _⟩ := h.f.row (i := 3) (v := lv) rfl rfl (by show 0 < 2; omega)
  obtain ⟨ib, ic, rfl, _, _, _, _, _⟩ := h.f.row (i := 4) (v := iv) rfl rfl (by show 0 < 2; omega)
  obtain ⟨ab, ac, rfl, _, _, _, _, _⟩ := h.f.row (i := 2) (v := av) rfl rfl (by show 0 < 2; omega)
  obtain ⟨yb, yc, rfl, _, _, _, _, _⟩ := h.f.row (i := 5) (v := yv) rfl rfl (by show 0 < 2; omega)
  dsimp only at hl1 hl2
  have HLB : Hid (lb < w.heap.size) := (bx_base (h.f.own 3 _ _ rfl rfl) (g := lb) rfl).2
  obtain ⟨V, hV⟩ : ∃ V, w.alloc (.cells #[.pointer (some ⟨F, 0, none⟩)] 95) = V := ⟨_, rfl⟩
  have hkV : Kept [] w V := by rw [← hV]; exact (Kept.refl [] w).alloc _
  have hbV : V.heap[w.heap.size]? = some (.cells #[.pointer (some ⟨F, 0, none⟩)] 95 (0, 0)) := by rw [← hV]; exact al0 _ _
  have hM0 := h.go hkV
  have ho0 := bx_kept ho hkV (by simp)
  have hec : 1 ≤ ec ∧ ec ≤ maxLen := by
    rcases ho.2 with ⟨q1, _⟩ | ⟨g', cap', cur, q1, _, hw, q2, q3, _⟩
    · cases q1
    · cases q1; exact ⟨q2, q3⟩
  have HV : Hid (w.alloc (.cells #[.pointer (some ⟨F, 0, none⟩)] 95) = V) := hV
  have HM0 : Hid (MBox w0 V F M es ck T (fldV M kv (.slice (some ⟨ab, 0, none⟩) 2 ac) (.slice (some ⟨lb, 0, none⟩) 2 lc) (.slice (some ⟨ib, 0, none⟩) 2 ic) (.slice (some ⟨yb, 0, none⟩) 2 yc)) (fldR 2 ks [.slice none 0 0, .slice (some ⟨B, 0, none⟩) 1 bc] [.int .i64 0, .int .i64 1] [.bool true, .bool true] [.int .i64 1, .int .i64 0])) := hM0
  have x0 : V.cell? ⟨w.heap.size, 0, none⟩ = some (.pointer (some ⟨F, 0, none⟩)) := (cell_of hbV 0).trans rfl
  have g0 : V.cell? ⟨eb, 0, none⟩ = some (.int .i64 1) := by
    rcases ho0.2 with ⟨q1, _⟩ | ⟨g', cap', cur, q1, _, hw, q2, q3, q4, q5⟩
    · cases q1
    · cases q1
      rw [cell_of hw]
      have e : (cur.toList.take 1)[0]? = some (Value.int .i64 1) := by rw [show cur.toList.take 1 = [Value.int .i64 1] from q5]; rfl
      rw [List.getElem?_take] at e
      simpa using e
  have HA0 : Hid (Aux V w0.heap.size F w.heap.size B (.slice (some ⟨eb, 0, none⟩) 1 ec) 1 [.int .i64 1]) := by
    obtain ⟨cur, q1, q2⟩ := hB
    exact ⟨hbV, ⟨cur, hkV.at q1 (by simp), q2⟩, ho0⟩
  have HLT : Hid (ib < w.heap.size ∧ yb < w.heap.size ∧ B < w.heap.size ∧ eb < w.heap.size) := ⟨(bx_base (h.f.own 4 _ _ rfl rfl) (g := ib) rfl).2, (bx_base (h.f.own 5 _ _ rfl rfl) (g := yb) rfl).2, by obtain ⟨cur, q1, _⟩ := hB; exact lt_of q1, (bx_base ho (g := eb) rfl).2⟩
  have HNE : Hid (ib ≠ B ∧ yb ≠ B ∧ ib ≠ eb ∧ yb ≠ eb ∧ B ≠ eb) := ⟨fun e => hBn (.slice (some ⟨ib, 0, none⟩) 2 ic) (by simp [fldV]) (by rw [← e]; rfl), fun e => hBn (.slice (some ⟨yb, 0, none⟩) 2 yc) (by simp [fldV]) (by rw [← e]; rfl), fun e => hen (.slice (some ⟨ib, 0, none⟩) 2 ic) (by simp [fldV]) (by rw [← e]; rfl), fun e => hen (.slice (some ⟨yb, 0, none⟩) 2 yc) (by simp [fldV]) (by rw [← e]; rfl), hBe⟩
  have HSET : Hid (∀ (W : World) gv n xs, gv.ownBlock = some eb → ∀ X j v, (X = ib ∨ X = yb) → Aux W w0.heap.size F w.heap.size B gv n xs → Aux (W.setCell ⟨X, j, none⟩ v) w0.heap.size F w.heap.size B gv n xs) := by
    intro W gv n xs hg X j v hX hA
    have h1 := HLT.out
    have h2 := HNE.out
    refine hA.go ((Kept.refl [X] W).setCell (.inl (by simp)) v) ?_ ?_ ?_
    · rcases hX with rfl | rfl <;> simp <;> omega
    · rcases hX with rfl | rfl <;> simp <;> omega
    · intro g e
      rw [hg] at e; cases e
      rcases hX with rfl | rfl <;> simp <;> omega
  have c4 := (HM0.out.f.cell (i := 4) rfl).1
  obtain ⟨i1, i1f⟩ := HM0.out.f.rowAt (i := 4) (j := 1) rfl rfl rfl
  have hecm : ec ≤ 9223372036854775807 := by have := hec.2; unfold maxLen at this; exact this
  have hecz : (0 : Int) ≤ (ec : Int) := by omega
  clear hV h hM0 hB hBn hen heF heM hkV hbV ho ho0 hBe
  go_enter Tryd.func84, Tryd.ntmps84
  go_wp2_with fail
  rw [HV.out]
  refine wp_loop_rounds 2 ?_
  rw [rounds_succ]
  go_wp2_with fail
  rw [rounds_succ]
  go_wp2_with fail
  obtain ⟨W1, hW1⟩ : ∃ W1, V.setCell ⟨ib, 1, none⟩ (.bool false) = W1 := ⟨_, rfl⟩
  have HM1 : Hid (MBox w0 W1 F M es ck T (fldV M kv (.slice (some ⟨ab, 0, none⟩) 2 ac) (.slice (some ⟨lb, 0, none⟩) 2 lc) (.slice (some ⟨ib, 0, none⟩) 2 ic) (.slice (some ⟨yb, 0, none⟩) 2 yc)) (fldR 2 ks [.slice none 0 0, .slice (some ⟨B, 0, none⟩) 1 bc] [.int .i64 0, .int .i64 1] [.bool true, .bool false] [.int .i64 1, .int .i64 0])) := by show MBox w0 W1 _ _ _ _ _ _ _; rw [← hW1]; exact HM0.out.store (i := 4) rfl rfl 1 _
  have HA1 : Hid (Aux W1 w0.heap.size F w.heap.size B (.slice (some ⟨eb, 0, none⟩) 1 ec) 1 [.int .i64 1]) := by show Aux W1 _ _ _ _ _ _ _; rw [← hW1]; exact HSET.out V _ _ _ rfl ib 1 _ (.inl rfl) HA0.out
  rw [hW1]
  clear hW1 x0 g0 c4 i1 i1f HM0 HA0 HV
  obtain ⟨x0, b0⟩ := HA1.out.cells
  have g0 := own_cell HA1.out.own
  have c2 := (HM1.out.f.cell (i := 2) rfl).1
  have c5 := (HM1.out.f.cell (i := 5) rfl).1
  obtain ⟨a1, _⟩ := HM1.out.f.rowAt (i := 2) (j := 1) rfl rfl rfl
  obtain ⟨y0, y0f⟩ := HM1.out.f.rowAt (i := 5) (j := 0) rfl rfl rfl
  refine wp_loop_rounds 3 ?_
  rw [rounds_succ]
  go_wp2_with fail
  refine wp_loop_rounds 2 ?_
  rw [rounds_succ]
  go_upto_region 13 with fail
  obtain ⟨W2, hW2⟩ : ∃ W2, W1.setCell ⟨yb, 0, none⟩ (.int .i64 0) = W2 := ⟨_, rfl⟩
  have HM2 : Hid (MBox w0 W2 F M es ck T (fldV M kv (.slice (some ⟨ab, 0, none⟩) 2 ac) (.slice (some ⟨lb, 0, none⟩) 2 lc) (.slice (some ⟨ib, 0, none⟩) 2 ic) (.slice (some ⟨yb, 0, none⟩) 2 yc)) (fldR 2 ks [.slice none 0 0, .slice (some ⟨B, 0, none⟩) 1 bc] [.int .i64 0, .int .i64 1] [.bool true, .bool false] [.int .i64 0, .int .i64 0])) := by show MBox w0 W2 _ _ _ _ _ _ _; rw [← hW2]; exact HM1.out.store (i := 5) rfl rfl 0 _
  have HA2 : Hid (Aux W2 w0.heap.size F w.heap.size B (.slice (some ⟨eb, 0, none⟩) 1 ec) 1 [.int .i64 1]) := by show Aux W2 _ _ _ _ _ _ _; rw [← hW2]; exact HSET.out W1 _ _ _ rfl yb 0 _ (.inr rfl) HA1.out
  rw [hW2]
  clear hW2 x0 b0 g0 c2 c5 a1 y0 y0f HM1 HA1
  obtain ⟨x0, b0⟩ := HA2.out.cells
  have c5 := (HM2.out.f.cell (i := 5) rfl).1
  have c4 := (HM2.out.f.cell (i := 4) rfl).1
  obtain ⟨y0, y0f⟩ := HM2.out.f.rowAt (i := 5) (j := 0) rfl rfl rfl
  obtain ⟨i0, i0f⟩ := HM2.out.f.rowAt (i := 4) (j := 0) rfl rfl rfl
  go_upto_region 15 with fail
  obtain ⟨W3, hW3⟩ : ∃ W3, W2.setCell ⟨ib, 0, none⟩ (.bool false) = W3 := ⟨_, rfl⟩
  have HM3 : Hid (MBox w0 W3 F M es ck T (fldV M kv (.slice (some ⟨ab, 0, none⟩) 2 ac) (.slice (some ⟨lb, 0, none⟩) 2 lc) (.slice (some ⟨ib, 0, none⟩) 2 ic) (.slice (some ⟨yb, 0, none⟩) 2 yc)) (fldR 2 ks [.slice none 0 0, .slice (some ⟨B, 0, none⟩) 1 bc] [.int .i64 0, .int .i64 1] [.bool false, .bool false] [.int .i64 0, .int .i64 0])) := by show MBox w0 W3 _ _ _ _ _ _ _; rw [← hW3]; exact HM2.out.store (i := 4) rfl rfl 0 _
  have HA3 : Hid (Aux W3 w0.heap.size F w.heap.size B (.slice (some ⟨eb, 0, none⟩) 1 ec) 1 [.int .i64 1]) := by show Aux W3 _ _ _ _ _ _ _; rw [← hW3]; exact HSET.out W2 _ _ _ rfl ib 0 _ (.inl rfl) HA2.out
  rw [hW3]
  clear hW3 x0 b0 c4 c5 y0 y0f i0 i0f HM2 HA2
  obtain ⟨g, cap, W4, hrun, ho4, hk4, hcap⟩ := own_push (W := W3) 0 HM3.out.f.kept.size (own_none HA3.out.own)
  have HRUN : Hid (∀ ty, (Builtin.append_ #[23, 23] ty #[.slice (some ⟨eb, 0, none⟩) 0 ec, .slice (some ⟨W3.heap.size, 0, none⟩) 1 1]).run Tryd.prog (W3.alloc (.cells #[.int .i64 0] 3)) = .ok (.slice (some ⟨g, 0, none⟩) 1 cap) W4) := hrun
  have HM4 : Hid (MBox w0 W4 F M es ck T (fldV M kv (.slice (some ⟨ab, 0, none⟩) 2 ac) (.slice (some ⟨lb, 0, none⟩) 2 lc) (.slice (some ⟨ib, 0, none⟩) 2 ic) (.slice (some ⟨yb, 0, none⟩) 2 yc)) (fldR 2 ks [.slice none 0 0, .slice (some ⟨B, 0, none⟩) 1 bc] [.int .i64 0, .int .i64 1] [.bool false, .bool false] [.int .i64 0, .int .i64 0])) := HM3.out.goF hk4 HEN.out.2.2.2 HEN.out.2.1 HEN.out.2.2.1 HEN.out.1
  have HX4 : Hid (W4.heap[w.heap.size]? = some (.cells #[.pointer (some ⟨F, 0, none⟩)] 95 (0, 0))) := hk4.at HA3.out.fb (by have := HLT.out; simp; omega)
  have HO4 : Hid (W4.cell? ⟨g, 0, none⟩ = some (.int .i64 0)) := own_cell ho4
  have hcz : (0 : Int) ≤ (cap : Int) := by omega
  clear hrun ho4 hk4 HA3 HM3
  have x0 : W4.cell? ⟨w.heap.size, 0, none⟩ = some (.pointer (some ⟨F, 0, none⟩)) := (cell_of HX4.out 0).trans rfl
  have g0 := HO4.out
  have c2 := (HM4.out.f.cell (i := 2) rfl).1
  obtain ⟨a0, _⟩ := HM4.out.f.rowAt (i := 2) (j := 0) rfl rfl rfl
  go_wp2_with (refine bx_append_list rfl _ _ _ rfl _ _ _ _ rfl rfl (HRUN.out _) ?_)
  rw [rounds_succ]
  go_wp2_with fail
  rw [rounds_succ]
  go_wp2_with fail
  refine wp_loop_rounds 1 ?_
  rw [rounds_succ]
  go_wp2_with fail
  rw [rounds_succ]
  go_wp2_with fail
  have kd : Kept [] W4 W4.drew := (Kept.refl [] W4).drew
  have hM5 := HM4.out.go kd
  obtain ⟨l0, l0f⟩ := hM5.f.rowAt (i := 3) (j := 0) rfl rfl rfl
  obtain ⟨l1, l1f⟩ := hM5.f.rowAt (i := 3) (j := 1) rfl rfl rfl
  have hD := delete_both lb lc (.slice (some ⟨ib, 0, none⟩) 2 ic) w.heap.size F W4.drew hl1 hl2 l0 l1 l0f l1f (cell_kept0 kd x0) (hM5.f.cell (i := 4) rfl).1 (bools_row (xs := [false, false]) (hM5.f.own 4 _ _ rfl rfl) (by simp))
  have hZ := (hM5.store (i := 3) rfl rfl 0 (.int .i64 0)).store (i := 3) rfl rfl 1 (.int .i64 0)
  obtain ⟨Z, hZe⟩ : ∃ Z, W4.drew.setCells lb 0 (List.replicate 2 (.int .i64 0)) = Z := ⟨_, rfl⟩
  have hZe2 : (W4.drew.setCell ⟨lb, 0, none⟩ (.int .i64 0)).setCell ⟨lb, 1, none⟩ (.int .i64 0) = Z := hZe
  rw [hZe] at hD
  rw [hZe2] at hZ
  have HD : Hid (Calls Tryd.prog 93 #[.slice (some ⟨lb, 0, none⟩) 2 lc, .func (.func 94) #[] #[.pointer (some ⟨w.heap.size, 0, none⟩)]] W4.drew fun e w' => e = .returned (.slice (some ⟨lb, 0, none⟩) 0 lc) ∧ w' = Z) := hD
  have d1 := (hZ.f.cell (i := 3) rfl).1
  have d2 := (hZ.f.cell (i := 3) rfl).2
  have HEND : Hid (Kept [] w0 (Z.setCell ⟨F, 3, none⟩ (.slice (some ⟨lb, 0, none⟩) 0 lc)) ∧ (Z.setCell ⟨F, 3, none⟩ (.slice (some ⟨lb, 0, none⟩) 0 lc)).cell? ⟨F, 3, none⟩ = some (.slice (some ⟨lb, 0, none⟩) 0 lc)) := ⟨hZ.f.kept.setCell (.inr hZ.f.base) _, (cell_of (bx_set hZ.f.box _) 3).trans rfl⟩
  have c3 := (HM4.out.f.cell (i := 3) rfl).1
  have d0 : Z.cell? ⟨w.heap.size, 0, none⟩ = some (.pointer (some ⟨F, 0, none⟩)) := by
    have k : Kept [lb] W4.drew Z := by rw [← hZe2]; exact (((Kept.refl [lb] W4.drew).setCell (.inl (by simp)) _).setCell (.inl (by simp)) _)
    exact (cell_of (k.at (kd.at HX4.out (by simp)) (by have := HLB.out; simp; omega)) 0).trans rfl
  clear hD hZ hZe hZe2 kd hM5 l0 l0f l1 l1f g0 c2 a0 HRUN HM4 HX4 HO4 HSET HNE HLT HEN HBN
  go_region_with (go_at_call 93; refine HD.out.mono ?_; rintro e w1 ⟨rfl, hw1⟩; rw [hw1]; clear hw1)
  all_goals go_wp2_with fail
  all_goals go_end0
  all_goals exact ⟨rfl, HEND.out.1, lb, lc, HEND.out.2⟩
end Go.Proofs.YtkkhilgcjaigcaaDoor
