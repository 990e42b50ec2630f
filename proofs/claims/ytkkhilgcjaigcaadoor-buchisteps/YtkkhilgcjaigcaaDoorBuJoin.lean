/- package buchi: field.put of a known spot, field.join. -/
import Derived.Test.YtkkhilgcjaigcaaDoorBuPut
namespace Go.Proofs.YtkkhilgcjaigcaaDoor
open Go.RowKit Go.Shelf

set_option maxHeartbeats 2000000 in
set_option maxRecDepth 10000 in
theorem put_old (n k m : Nat) (hk : k < m) (es : Array MapEntry) (ck F M : Nat) (ia : Option Addr) (ic : Nat) (w : World)
    (hL : ∀ W : World, W.heap[M]? = some (.map es ck) → (Instr.lookup 97 (.map (some M)) (spotV n) true).run Tryd.prog W = .ok (.tuple #[.int .i64 (k : Nat), .bool true]) W)
    (hc : w.cell? ⟨F, 0, none⟩ = some (.map (some M))) (hi : w.cell? ⟨F, 4, none⟩ = some (.slice ia m ic)) (hM : w.heap[M]? = some (.map es ck)) :
    Calls Tryd.prog 82 #[.pointer (some ⟨F, 0, none⟩), spotV n] w fun e w' => e = .returned (.int .i64 (k : Nat)) ∧ Kept [] w w' := by
  have HNUM : Hid (∀ W, Kept [] w W → Calls Tryd.prog 92 #[.pointer (some ⟨F, 0, none⟩), spotV n] W fun e w' => e = .returned (.int .i64 (k : Nat)) ∧ Kept [] W w') := fun W h => number_old n k es ck F M W hL (cell_kept0 h hc) (h.at hM (by simp))
  unfold spotV at HNUM ⊢
  obtain ⟨V, hV⟩ : ∃ V, w.alloc (.cells #[.int .i64 0, .int .i64 (n : Nat)] 114) = V := ⟨_, rfl⟩
  have hkV : Kept [] w V := by rw [← hV]; exact (Kept.refl [] w).alloc _
  have hbV : V.heap[w.heap.size]? = some (.cells #[.int .i64 0, .int .i64 (n : Nat)] 114 (0, 0)) := by rw [← hV]; exact al0 _ _
  have HKV : Hid (Kept [] w V.drew) := keptB hkV (Kept.refl [] V).drew
  have x0 : V.cell? ⟨w.heap.size, 0, none⟩ = some (.int .i64 0) := (cell_of hbV 0).trans rfl
  have x1 : V.cell? ⟨w.heap.size, 1, none⟩ = some (.int .i64 (n : Nat)) := (cell_of hbV 1).trans rfl
  have HV : Hid (w.alloc (.cells #[.int .i64 0, .int .i64 (n : Nat)] 114) = V) := hV
  have HI : Hid (w.cell? ⟨F, 4, none⟩ = some (.slice ia m ic)) := hi
  have hne : ((k : Int) == (m : Int)) = false := by rw [beq_eq_false_iff_ne]; omega
  clear hV hkV hbV hL hc hi hM
  go_enter Tryd.func82, Tryd.ntmps82
  go_upto_region 1 with fail
  rw [HV.out]
  go_cut [5] from 6 to 10 (fun s5 wx => s5 = .int .i64 (k : Nat) ∧ Hid (Kept [] w wx))
  case first =>
    go_region_with (go_at_call 92; refine (HNUM.out _ HKV.out).mono ?_; rintro e w1 ⟨rfl, hk1⟩; have HK1 : Hid (Kept [] w w1) := keptB HKV.out hk1; clear hk1)
    all_goals go_wp2_with fail
    all_goals go_meet
    all_goals exact ⟨rfl, HK1⟩
  case rest =>
    obtain ⟨rfl, HK1⟩ := hcut
    rename World => W1
    have c4 := cell_kept0 HK1.out HI.out
    clear x0 x1 HV HKV HNUM HI
    go_wp2_with fail
    go_ret
    exact ⟨rfl, HK1.out⟩
set_option maxRecDepth 10000 in
/-- append of one number to nothing. -/
theorem nil_one (W : World) (x : Int) : ∃ gr cap w2, (∀ ty, (Builtin.append_ #[23, 23] ty #[.slice none 0 0, .slice (some ⟨W.heap.size, 0, none⟩) 1 1]).run Tryd.prog (W.alloc (.cells #[.int .i64 x] 3)).drew = .ok (.slice (some ⟨gr, 0, none⟩) 1 cap) w2) ∧ Kept [] W w2 ∧ W.heap.size ≤ gr ∧ ∃ cur, w2.heap[gr]? = some (.cells cur 3 (0, 0)) ∧ cur[0]? = some (.int .i64 x) ∧ 1 ≤ cap := by
  have hbQ : (W.alloc (.cells #[.int .i64 x] 3)).drew.heap[W.heap.size]? = some (.cells #[.int .i64 x] 3 (0, 0)) := al0 W _
  have kQ : Kept [] W (W.alloc (.cells #[.int .i64 x] 3)).drew := ((Kept.refl [] W).alloc _).drew
  obtain ⟨gr, cap, w2, g1, g2, g3, g4, g5⟩ := run_append_lies (P := Tryd.prog) (W.alloc (.cells #[.int .i64 x] 3)).drew 23 0 (W.alloc (.cells #[.int .i64 x] 3)).drew.heap.size 3 _ (.int .i64 0) 1 8 Tryd.underlying23 rfl rfl rfl rfl rfl (by decide) (.slice none 0 0) 0 [] (World.ownsRow_nil _ _ _ _) ⟨W.heap.size, 0, none⟩ 1 1 [.int .i64 x] rfl (fun j u hu => by
      rw [show (Addr.add ⟨W.heap.size, 0, none⟩ j) = ⟨W.heap.size, j, none⟩ from by simp [Addr.add]; exact fun e => e.symm]
      rw [cell_of hbQ]
      simpa using hu) (by intro u hu; simp at hu; subst hu; rfl) (by decide) (by unfold maxLen; omega) (by omega) (Nat.le_refl _) _ rfl
  refine ⟨gr, cap, w2, fun ty => g1, kQ.grown g3 (fun k e => by cases e), ?_, ?_⟩
  · have := (bx_base g2 (g := gr) rfl).1
    have := kQ.size
    omega
  · rcases g2.2 with ⟨h1, _⟩ | ⟨g', cap', cur, h1, hb, hw, q1, q2, q3, q4⟩
    · cases h1
    · cases h1
      refine ⟨cur, hw, ?_⟩
      have : (cur.toList.take 1)[0]? = some (Value.int .i64 x) := by rw [show cur.toList.take 1 = [Value.int .i64 x] from q4]; rfl
      rw [List.getElem?_take] at this
      exact ⟨by simpa using this, q1⟩
theorem FBox.rowAt {w0 W : World} {F : Nat} {T : TypeId} {vs : List Value} {rs : List (Option Rw)} (h : FBox w0 W F T vs rs) {i : Nat} {r : Rw} {g n c : Nat} (hr : rs[i]? = some (some r)) (hv : vs[i]? = some (.slice (some ⟨g, 0, none⟩) n c)) {j : Nat} {x : Value} (hx : r.xs[j]? = some x) : W.cell? ⟨g, j, none⟩ = some x ∧ W.frozen? ⟨g, j, none⟩ = false := by
  have ho := h.own i r _ hr hv
  rcases ho.2 with ⟨q1, _⟩ | ⟨g', cap, cur, q1, hb, hw, h3, h4, h5, h6⟩
  · cases q1
  · cases q1
    refine ⟨?_, free_of hw j⟩
    rw [cell_of hw]
    rw [← h6, List.getElem?_take] at hx
    split at hx
    · rw [← Array.getElem?_toList]; exact hx
    · cases hx
theorem MBox.store {w0 W : World} {F M : Nat} {es : Array MapEntry} {ck : Nat} {T : TypeId} {vs : List Value} {rs : List (Option Rw)} (h : MBox w0 W F M es ck T vs rs) {i : Nat} {r : Rw} {g n c : Nat} (hr : rs[i]? = some (some r)) (hv : vs[i]? = some (.slice (some ⟨g, 0, none⟩) n c)) (j : Nat) (x : Value) : MBox w0 (W.setCell ⟨g, j, none⟩ x) F M es ck T vs (rs.set i (some ⟨r.e, r.sz, r.n, r.xs.set j x⟩)) := by
  refine ⟨h.f.put hr hv j x, ((Kept.refl [g] W).setCell (.inl (by simp)) x).at h.m (fun e => ?_), h.m0⟩
  simp at e
  subst e
  rcases (h.f.own i _ _ hr hv).2 with ⟨q1, _⟩ | ⟨g', cap', cur, q1, hb', hw, _⟩
  · cases q1
  · cases q1; rw [h.m] at hw; cases hw
set_option maxHeartbeats 4000000 in
set_option maxRecDepth 10000 in
theorem join_new (n fr tt : Nat) (hn : n ≤ 1000) (hfr : fr < n) (hto : tt < n) (es : Array MapEntry) (ck F M : Nat) (T : TypeId) (w0 w : World) (kv av lv iv yv : Value) (ks ah lf inn wy : List Value)
    (h : MBox w0 w F M es ck T (fldV M kv av lv iv yv) (fldR n ks ah lf inn wy)) (ha : ah[tt]? = some (.slice none 0 0)) (hy : wy[fr]? = some (.int .i64 0)) :
    Calls Tryd.prog 83 #[.pointer (some ⟨F, 0, none⟩), .int .i64 (fr : Nat), .int .i64 (tt : Nat)] w fun e w' => e = .returned (.tuple #[]) ∧ ∃ B c, Hid (MBox w0 w' F M es ck T (fldV M kv av lv iv yv) (fldR n ks (ah.set tt (.slice (some ⟨B, 0, none⟩) 1 c)) lf inn (wy.set fr (.int .i64 1)))) ∧ Hid (w.heap.size ≤ B ∧ 1 ≤ c ∧ ∃ cur, w'.heap[B]? = some (.cells cur 3 (0, 0)) ∧ cur[0]? = some (.int .i64 (fr : Nat))) ∧ Hid (∀ b o, w.heap[b]? = some o → (∀ v ∈ [av, yv], v.ownBlock ≠ some b) → w'.heap[b]? = some o) := by
  have H : Hid (MBox w0 w F M es ck T (fldV M kv av lv iv yv) (fldR n ks ah lf inn wy)) := h
  obtain ⟨ab, ac, rfl, ha1, ha2, haF, _, hac⟩ := h.f.row (i := 2) (v := av) rfl rfl (by show 0 < n; omega)
  obtain ⟨yb, yc, rfl, hy1, hy2, hyF, _, hyc⟩ := h.f.row (i := 5) (v := yv) rfl rfl (by show 0 < n; omega)
  dsimp only at ha1 ha2 hac hy1 hy2 hyc
  obtain ⟨a0, a1⟩ := hac tt _ ha
  obtain ⟨y0, y1⟩ := hyc fr _ hy
  have c2 := (h.f.cell (i := 2) rfl).1
  have z1 : (tt : Int) < (n : Int) := by omega
  have z2 : (fr : Int) < (n : Int) := by omega
  have HYW : Hid (wy[fr]? = some (.int .i64 0)) := hy
  have HA : Hid (w.cell? ⟨ab, tt, none⟩ = some (.slice none 0 0) ∧ w.cell? ⟨yb, fr, none⟩ = some (.int .i64 0)) := ⟨a0, y0⟩
  clear h hac hyc ha hy a1 y0 y1
  go_enter Tryd.func83, Tryd.ntmps83
  go_upto_region 3 with fail
  have HLT : Hid (ab < w.heap.size ∧ yb < w.heap.size) := ⟨(bx_base (H.out.f.own 2 _ _ rfl rfl) (g := ab) rfl).2, (bx_base (H.out.f.own 5 _ _ rfl rfl) (g := yb) rfl).2⟩
  obtain ⟨gr, cap, w2, hrun, hk2, hgr, cur, hcur, hcur0, hcap⟩ := nil_one w (fr : Nat)
  have HRUN : Hid (∀ ty, (Builtin.append_ #[23, 23] ty #[.slice none 0 0, .slice (some ⟨w.heap.size, 0, none⟩) 1 1]).run Tryd.prog (w.alloc (.cells #[.int .i64 (fr : Nat)] 3)).drew = .ok (.slice (some ⟨gr, 0, none⟩) 1 cap) w2) := hrun
  have H2 := H.out.go hk2
  obtain ⟨ab', ac', e1, _, _, _, _, hac⟩ := H2.f.row (i := 2) (v := .slice (some ⟨ab, 0, none⟩) n ac) rfl rfl (by show 0 < n; omega)
  have HC : Hid (∃ cur, w2.heap[gr]? = some (.cells cur 3 (0, 0)) ∧ cur[0]? = some (.int .i64 (fr : Nat))) := ⟨cur, hcur, hcur0⟩
  have e2 := (H2.f.cell (i := 2) rfl).1
  have e3 : w2.cell? ⟨ab, tt, none⟩ = some (.slice none 0 0) := cell_kept0 hk2 HA.out.1
  have e4 : w2.frozen? ⟨ab, tt, none⟩ = false := by
    rcases (H2.f.own 2 _ _ rfl rfl).2 with ⟨q1, _⟩ | ⟨g', cap', cur', q1, hb', hw, _⟩
    · cases q1
    · cases q1; exact free_of hw tt
  have ca : (w.alloc (.cells #[.int .i64 (fr : Nat)] 3)).cell? ⟨F, 2, none⟩ = some (.slice (some ⟨ab, 0, none⟩) n ac) := cell_kept0 ((Kept.refl [] w).alloc _) c2
  have HM3 : Hid (MBox w0 (w2.setCell ⟨ab, tt, none⟩ (.slice (some ⟨gr, 0, none⟩) 1 cap)) F M es ck T (fldV M kv (.slice (some ⟨ab, 0, none⟩) n ac) lv iv (.slice (some ⟨yb, 0, none⟩) n yc)) (fldR n ks (ah.set tt (.slice (some ⟨gr, 0, none⟩) 1 cap)) lf inn wy)) := H2.store (i := 2) rfl rfl tt _
  have HG : Hid (w.heap.size ≤ gr) := hgr
  have HCAP : Hid (1 ≤ cap) := hcap
  have HY3 : Hid (w2.cell? ⟨yb, fr, none⟩ = some (.int .i64 0)) := cell_kept0 hk2 HA.out.2
  have HK2 : Hid (Kept [] w w2) := hk2
  clear hrun hk2 hcur hcur0 hcap H2 hac e1 hgr
  go_cut [1] from 28 to 37 (fun s1 wx => s1 = .int .i64 (fr : Nat) ∧ wx = w2.setCell ⟨ab, tt, none⟩ (.slice (some ⟨gr, 0, none⟩) 1 cap))
  case first =>
    go_region_law (refine bx_append_run rfl _ _ _ rfl _ _ _ _ rfl rfl (HRUN.out _) ?_)
    all_goals go_wp2_with fail
    all_goals go_meet
    all_goals exact ⟨rfl, rfl⟩
  case rest =>
    obtain ⟨rfl, hwx⟩ := hcut
    rename World => W3
    have HW3 : Hid (W3 = w2.setCell ⟨ab, tt, none⟩ (.slice (some ⟨gr, 0, none⟩) 1 cap)) := hwx
    rw [← hwx] at HM3
    clear hwx a0 c2 e2 e3 e4 ca HRUN
    have c5 := (HM3.out.f.cell (i := 5) rfl).1
    obtain ⟨y0, y1⟩ := HM3.out.f.rowAt (i := 5) rfl rfl HYW.out
    have HM4 : Hid (MBox w0 (W3.setCell ⟨yb, fr, none⟩ (.int .i64 1)) F M es ck T (fldV M kv (.slice (some ⟨ab, 0, none⟩) n ac) lv iv (.slice (some ⟨yb, 0, none⟩) n yc)) (fldR n ks (ah.set tt (.slice (some ⟨gr, 0, none⟩) 1 cap)) lf inn (wy.set fr (.int .i64 1)))) := HM3.out.store (i := 5) rfl rfl fr _
    have HC4 : Hid (∃ cur, (W3.setCell ⟨yb, fr, none⟩ (.int .i64 1)).heap[gr]? = some (.cells cur 3 (0, 0)) ∧ cur[0]? = some (.int .i64 (fr : Nat))) := by
      obtain ⟨cur, q1, q2⟩ := HC.out
      have h1 := HLT.out
      have h2 := HG.out
      refine ⟨cur, ?_, q2⟩
      rw [HW3.out]
      exact ((Kept.refl [ab, yb] w2).setCell (p := ⟨ab, tt, none⟩) (.inl (by simp)) _ |>.setCell (p := ⟨yb, fr, none⟩) (.inl (by simp)) _).at q1 (by simp; omega)
    go_wp2_with fail
    go_end0
    refine ⟨rfl, gr, cap, HM4, ⟨HG.out, HCAP.out, HC4.out⟩, fun b o hb hv1 hv2 => ?_⟩
    have n1 : b ≠ ab := fun e => hv1 (by rw [e]; rfl)
    have n2 : b ≠ yb := fun e => hv2 (by rw [e]; rfl)
    rw [HW3.out]
    exact ((Kept.refl [ab, yb] w2).setCell (p := ⟨ab, tt, none⟩) (.inl (by simp)) _ |>.setCell (p := ⟨yb, fr, none⟩) (.inl (by simp)) _).at (HK2.out.at hb (by simp)) (by simp; omega)
end Go.Proofs.YtkkhilgcjaigcaaDoor
