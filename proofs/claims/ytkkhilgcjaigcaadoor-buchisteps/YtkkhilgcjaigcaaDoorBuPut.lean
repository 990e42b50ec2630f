/- package buchi: field.put. -/
import Derived.Test.YtkkhilgcjaigcaaDoorBuNum
import Derived.Deep.RegionWith
namespace Go.Proofs.YtkkhilgcjaigcaaDoor
open Go.RowKit Go.Shelf

theorem bx_append_list {P : Program} {ops : Array Oper} {rest : List Oper} {o : Oper} {a : Act} {w : World} {Q : Exit → Act → World → Prop}
    (hg : o.guard = none) (s x : Operand) (t : TypeId) (hop : o.op = Op.call { callee := Callee.builtin Builtin.append, args := #[s, x], argTypes := #[t, t] })
    (v u v' : Value) (w' : World) (hs : a.eval s = v) (hx : a.eval x = u) (hrun : (Builtin.append_ #[t, t] o.type #[v, u]).run P w = .ok v' w') (hK : wpList P ops Q rest (a.put o.dst v') w') : wpList P ops Q (o :: rest) a w :=
  wpList_plain hg fun K hk => by
    unfold Oper.wp
    simp [execOp, hop, resolve, invoke, builtin, hs, hx, hrun, Result.andThen]
    exact hk _ _ hK
/-- A struct with a map in it. -/
structure MBox (w0 W : World) (F M : Nat) (es : Array MapEntry) (ck : Nat) (T : TypeId) (vs : List Value) (rs : List (Option Rw)) : Prop where
  f : FBox w0 W F T vs rs
  m : W.heap[M]? = some (.map es ck)
  m0 : w0.heap.size ≤ M
theorem MBox.go {w0 W W' : World} {F M : Nat} {es : Array MapEntry} {ck : Nat} {T : TypeId} {vs : List Value} {rs : List (Option Rw)} (h : MBox w0 W F M es ck T vs rs) (k : Kept [] W W') : MBox w0 W' F M es ck T vs rs := ⟨h.f.go k, k.at h.m (by simp), h.m0⟩
/-- One more element in a row. -/
theorem MBox.one {w0 W : World} {F M : Nat} {es : Array MapEntry} {ck : Nat} {T : TypeId} {vs : List Value} {rs : List (Option Rw)} (h : MBox w0 W F M es ck T vs rs) (i : Nat) {e : TypeId} {n : Nat} {xs : List Value} {v : Value} (hr : rs[i]? = some (some ⟨e, 1, n, xs⟩)) (hv : vs[i]? = some v) (x : Value) (hx : x.oneCell' = true)
    (t : TypeId) (inf : TypeInfo) (z : Value) (bytes : Nat) (h1 : Tryd.prog.underlying t = some (.slice e)) (h2 : Tryd.prog.info? e = some inf) (h3 : inf.zero = some z) (h4 : inf.size = 1) (h5 : inf.bytes = bytes) (h6 : z.cells.size = 1) (hb : bytes ≤ 64) (hn : n ≤ 1000000) :
    ∃ gr cap w2, (∀ ty, (Builtin.append_ #[t, t] ty #[v, .slice (some ⟨W.heap.size, 0, none⟩) 1 1]).run Tryd.prog (W.alloc (.cells #[x] e)) = .ok (.slice (some ⟨gr, 0, none⟩) (n + 1) cap) w2) ∧ w2.cell? ⟨F, i, none⟩ = some v ∧ w2.frozen? ⟨F, i, none⟩ = false ∧ Hid (MBox w0 (w2.setCell ⟨F, i, none⟩ (.slice (some ⟨gr, 0, none⟩) (n + 1) cap)) F M es ck T (vs.set i (.slice (some ⟨gr, 0, none⟩) (n + 1) cap)) (rs.set i (some ⟨e, 1, n + 1, xs ++ [x]⟩))) ∧ Hid (∀ b o, W.heap[b]? = some o → b ≠ F → v.ownBlock ≠ some b → (w2.setCell ⟨F, i, none⟩ (.slice (some ⟨gr, 0, none⟩) (n + 1) cap)).heap[b]? = some o) ∧ Hid ((v.ownBlock = some gr ∨ W.heap.size ≤ gr) ∧ W.heap.size ≤ (w2.setCell ⟨F, i, none⟩ (.slice (some ⟨gr, 0, none⟩) (n + 1) cap)).heap.size) := by
  have kQ : Kept [] W (W.alloc (.cells #[x] e)) := (Kept.refl [] W).alloc _
  have hq := h.go kQ
  have hbQ : (W.alloc (.cells #[x] e)).heap[W.heap.size]? = some (.cells #[x] e (0, 0)) := al0 W _
  obtain ⟨gr, cap, w2, g1, g2, g3, g4, g5, g6⟩ := hq.f.app (i := i) (r := ⟨e, 1, n, xs⟩) hr hv t inf z bytes h1 h2 h3 h4 h5 h6 (by show 0 < 1; decide) ⟨W.heap.size, 0, none⟩ 1 1 [x] rfl (fun j u hu => by
      rw [show (Addr.add ⟨W.heap.size, 0, none⟩ j) = ⟨W.heap.size, j, none⟩ from by simp [Addr.add]; exact fun e => e.symm]
      rw [cell_of hbQ]
      simpa using hu) (by intro u hu; simp at hu; subst hu; exact hx) (by decide) (by show n + 1 ≤ maxLen; unfold maxLen; omega) (by
      show (n + 1) * bytes ≤ _
      have := Nat.mul_le_mul (show n + 1 ≤ 1000001 by omega) hb
      omega)
  refine ⟨gr, cap, w2, g1, ?_, free_of g2 i, ⟨g3, g4 M _ hq.m (fun e => by subst e; have := hq.f.box; rw [hq.m] at this; cases this) (fun e' => ?_), h.m0⟩, fun b o hb h1 h2 => g4 b o (kQ.at hb (by simp)) h1 h2, ⟨g5.imp id (fun q => Nat.le_trans kQ.size q), by have := kQ.size; simp [World.setCell]; omega⟩⟩
  · rw [cell_of g2]; simpa using hv
  · rcases (hq.f.own i _ v hr hv).2 with ⟨q1, _⟩ | ⟨g', cap', cur, q1, hb', hw, _⟩
    · rw [q1] at e'; cases e'
    · rw [q1] at e'; cases e'
      have := hq.m
      rw [hw] at this; cases this
/-- The rows of a field. -/
def fldR (n : Nat) (ks ah lf inn wy : List Value) : List (Option Rw) := [none, some ⟨114, 2, n, ks⟩, some ⟨23, 1, n, ah⟩, some ⟨3, 1, n, lf⟩, some ⟨4, 1, n, inn⟩, some ⟨3, 1, n, wy⟩]
def fldV (M : Nat) (kv av lv iv yv : Value) : List Value := [.map (some M), kv, av, lv, iv, yv]
theorem own_slice {W : World} {base : Nat} {e : TypeId} {size : Nat} {v : Value} {n : Nat} {xs : List Value} (h : W.ownsRow base e size v n xs) : ∃ ad c, v = .slice ad n c := by
  rcases h.2 with ⟨rfl, rfl⟩ | ⟨g, cap, cur, rfl, _⟩
  · exact ⟨_, _, rfl⟩
  · exact ⟨_, _, rfl⟩
set_option maxHeartbeats 4000000 in
set_option maxRecDepth 10000 in
theorem put_new (n : Nat) (hn : n ≤ 1000) (es es' : Array MapEntry) (ck F M : Nat) (T : TypeId) (w0 w : World) (kv av lv iv yv : Value) (ks ah lf inn wy : List Value)
    (hL : ∀ W : World, W.heap[M]? = some (.map es ck) → (Instr.lookup 97 (.map (some M)) (spotV n) true).run Tryd.prog W = .ok (.tuple #[.int .i64 0, .bool false]) W)
    (hU : ∀ W : World, W.heap[M]? = some (.map es ck) → (Instr.mapUpdate 97 (.map (some M)) (spotV n) (.int .i64 (n : Nat))).run Tryd.prog W = .ok () (mapSet W M (.map es' (ck + 1))))
    (h : MBox w0 w F M es ck T (fldV M kv av lv iv yv) (fldR n ks ah lf inn wy)) :
    Calls Tryd.prog 82 #[.pointer (some ⟨F, 0, none⟩), spotV n] w fun e w' => e = .returned (.int .i64 (n : Nat)) ∧ ∃ kv' av' lv' iv' yv', Hid (MBox w0 w' F M es' (ck + 1) T (fldV M kv' av' lv' iv' yv') (fldR (n + 1) (ks ++ [.int .i64 0, .int .i64 (n : Nat)]) (ah ++ [.slice none 0 0]) (lf ++ [.int .i64 (n : Nat)]) (inn ++ [.bool true]) (wy ++ [.int .i64 0]))) ∧ Hid (∀ b o, w.heap[b]? = some o → b ≠ F → b ≠ M → (∀ v ∈ [kv, av, lv, iv, yv], v.ownBlock ≠ some b) → w'.heap[b]? = some o) ∧ Hid ((∀ v' ∈ [kv', av', lv', iv', yv'], ∀ g, v'.ownBlock = some g → (∃ v ∈ [kv, av, lv, iv, yv], v.ownBlock = some g) ∨ w.heap.size ≤ g) ∧ w.heap.size ≤ w'.heap.size) := by
  have HNUM : Hid (∀ W, Kept [] w W → Calls Tryd.prog 92 #[.pointer (some ⟨F, 0, none⟩), spotV n] W fun e w' => e = .returned (.int .i64 (n : Nat)) ∧ ∃ kv', Hid (MBox w0 w' F M es' (ck + 1) T (fldV M kv' av lv iv yv) (fldR n (ks ++ [.int .i64 0, .int .i64 (n : Nat)]) ah lf inn wy |>.set 1 (some ⟨114, 2, n + 1, ks ++ [.int .i64 0, .int .i64 (n : Nat)]⟩))) ∧ Hid (∀ b o, w.heap[b]? = some o → b ≠ F → b ≠ M → kv.ownBlock ≠ some b → w'.heap[b]? = some o) ∧ Hid ((∀ g, kv'.ownBlock = some g → kv.ownBlock = some g ∨ w.heap.size ≤ g) ∧ w.heap.size ≤ w'.heap.size)) := fun W k =>
    (number_new n hn es es' ck F M T w0 W kv [av, lv, iv, yv] ks _ hL hU (h.go k).f (h.go k).m h.m0).mono fun e w' ⟨h1, kv', h2, h3, h4, h5⟩ => ⟨h1, kv', ⟨h2.out, h3.out, h.m0⟩, fun b o hb q1 q2 q3 => h4.out b o (k.at hb (by simp)) q1 q2 q3, ⟨fun g e => (h5.out.1 g e).imp id (fun q => Nat.le_trans k.size q), Nat.le_trans k.size h5.out.2⟩⟩
  obtain ⟨ia, ic, rfl⟩ := own_slice (h.f.own 4 _ iv rfl rfl)
  obtain ⟨aa, ac, rfl⟩ := own_slice (h.f.own 2 _ av rfl rfl)
  obtain ⟨la, lc, rfl⟩ := own_slice (h.f.own 3 _ lv rfl rfl)
  obtain ⟨ya, yc, rfl⟩ := own_slice (h.f.own 5 _ yv rfl rfl)
  unfold spotV at HNUM ⊢
  obtain ⟨V, hV⟩ : ∃ V, w.alloc (.cells #[.int .i64 0, .int .i64 (n : Nat)] 114) = V := ⟨_, rfl⟩
  have hkV : Kept [] w V := by rw [← hV]; exact (Kept.refl [] w).alloc _
  have hbV : V.heap[w.heap.size]? = some (.cells #[.int .i64 0, .int .i64 (n : Nat)] 114 (0, 0)) := by rw [← hV]; exact al0 _ _
  have HKV : Hid (Kept [] w V.drew) := keptB hkV (Kept.refl [] V).drew
  have x0 : V.cell? ⟨w.heap.size, 0, none⟩ = some (.int .i64 0) := (cell_of hbV 0).trans rfl
  have x1 : V.cell? ⟨w.heap.size, 1, none⟩ = some (.int .i64 (n : Nat)) := (cell_of hbV 1).trans rfl
  have HV : Hid (w.alloc (.cells #[.int .i64 0, .int .i64 (n : Nat)] 114) = V) := hV
  clear hV hkV hbV hL hU h
  go_enter Tryd.func82, Tryd.ntmps82
  go_upto_region 1 with fail
  rw [HV.out]
  go_cut [5] from 6 to 10 (fun s5 wx => s5 = .int .i64 (n : Nat) ∧ ∃ kv1, Hid (MBox w0 wx F M es' (ck + 1) T (fldV M kv1 (.slice aa n ac) (.slice la n lc) (.slice ia n ic) (.slice ya n yc)) ((fldR n (ks ++ [.int .i64 0, .int .i64 (n : Nat)]) ah lf inn wy).set 1 (some ⟨114, 2, n + 1, ks ++ [.int .i64 0, .int .i64 (n : Nat)]⟩))) ∧ Hid (∀ b o, w.heap[b]? = some o → b ≠ F → b ≠ M → kv.ownBlock ≠ some b → wx.heap[b]? = some o) ∧ Hid ((∀ g, kv1.ownBlock = some g → kv.ownBlock = some g ∨ w.heap.size ≤ g) ∧ w.heap.size ≤ wx.heap.size))
  case first =>
    go_region_with (go_at_call 92; refine (HNUM.out _ HKV.out).mono ?_; rintro e w1 ⟨rfl, kv1, HB1, HO1, HT1⟩)
    all_goals go_wp2_with fail
    all_goals go_meet
    all_goals exact ⟨rfl, _, HB1, HO1, HT1⟩
  case rest =>
    obtain ⟨rfl, kv1, HB0, HO0, HT0⟩ := hcut
    rename World => W0
    clear x0 x1 HV HKV HNUM
    have cin : W0.cell? ⟨F, 4, none⟩ = some (.slice ia n ic) := (HB0.out.f.cell (i := 4) rfl).1
    have c0 : W0.cell? ⟨F, 3, none⟩ = some (.slice la n lc) := (HB0.out.f.cell (i := 3) rfl).1
    obtain ⟨g0, p0, u0, hr0, d0, f0, HN0, HP0, HQ0⟩ := HB0.out.one 3 (e := 3) rfl rfl (.int .i64 (n : Nat)) rfl 23 _ (.int .i64 0) 8 Tryd.underlying23 rfl rfl rfl rfl rfl (by decide) (by omega)
    have HR0 : Hid (∀ ty, (Builtin.append_ #[23, 23] ty #[.slice la n lc, .slice (some ⟨W0.heap.size, 0, none⟩) 1 1]).run Tryd.prog (W0.alloc (.cells #[.int .i64 (n : Nat)] 3)) = .ok (.slice (some ⟨g0, 0, none⟩) (n + 1) p0) u0) := hr0
    clear hr0
    go_upto_region 4 with (refine bx_append_list rfl _ _ _ rfl _ _ _ _ rfl rfl (HR0.out _) ?_)
    obtain ⟨W1, hw0⟩ : ∃ W, u0.setCell ⟨F, 3, none⟩ (.slice (some ⟨g0, 0, none⟩) (n + 1) p0) = W := ⟨_, rfl⟩
    rw [hw0] at HN0 HP0 HQ0 ⊢
    have HB1 := HN0
    clear hw0 HN0 c0 d0 f0 HR0 cin
    have c1 : W1.cell? ⟨F, 4, none⟩ = some (.slice ia n ic) := (HB1.out.f.cell (i := 4) rfl).1
    obtain ⟨g1, p1, u1, hr1, d1, f1, HN1, HP1, HQ1⟩ := HB1.out.one 4 (e := 4) rfl rfl (.bool true) rfl 45 _ (.bool false) 1 Tryd.underlying45 rfl rfl rfl rfl rfl (by decide) (by omega)
    have HR1 : Hid (∀ ty, (Builtin.append_ #[45, 45] ty #[.slice ia n ic, .slice (some ⟨W1.heap.size, 0, none⟩) 1 1]).run Tryd.prog (W1.alloc (.cells #[.bool true] 4)) = .ok (.slice (some ⟨g1, 0, none⟩) (n + 1) p1) u1) := hr1
    clear hr1
    go_upto_region 5 with (refine bx_append_list rfl _ _ _ rfl _ _ _ _ rfl rfl (HR1.out _) ?_)
    obtain ⟨W2, hw1⟩ : ∃ W, u1.setCell ⟨F, 4, none⟩ (.slice (some ⟨g1, 0, none⟩) (n + 1) p1) = W := ⟨_, rfl⟩
    rw [hw1] at HN1 HP1 HQ1 ⊢
    have HB2 := HN1
    clear hw1 HN1 c1 d1 f1 HR1
    have c2 : W2.cell? ⟨F, 2, none⟩ = some (.slice aa n ac) := (HB2.out.f.cell (i := 2) rfl).1
    obtain ⟨g2, p2, u2, hr2, d2, f2, HN2, HP2, HQ2⟩ := HB2.out.one 2 (e := 23) rfl rfl (.slice none 0 0) rfl 29 _ (.slice none 0 0) 24 Tryd.underlying29 rfl rfl rfl rfl rfl (by decide) (by omega)
    have HR2 : Hid (∀ ty, (Builtin.append_ #[29, 29] ty #[.slice aa n ac, .slice (some ⟨W2.heap.size, 0, none⟩) 1 1]).run Tryd.prog (W2.alloc (.cells #[.slice none 0 0] 23)) = .ok (.slice (some ⟨g2, 0, none⟩) (n + 1) p2) u2) := hr2
    clear hr2
    go_upto_region 6 with (refine bx_append_list rfl _ _ _ rfl _ _ _ _ rfl rfl (HR2.out _) ?_)
    obtain ⟨W3, hw2⟩ : ∃ W, u2.setCell ⟨F, 2, none⟩ (.slice (some ⟨g2, 0, none⟩) (n + 1) p2) = W := ⟨_, rfl⟩
    rw [hw2] at HN2 HP2 HQ2 ⊢
    have HB3 := HN2
    clear hw2 HN2 c2 d2 f2 HR2
    have c3 : W3.cell? ⟨F, 5, none⟩ = some (.slice ya n yc) := (HB3.out.f.cell (i := 5) rfl).1
    obtain ⟨g3, p3, u3, hr3, d3, f3, HN3, HP3, HQ3⟩ := HB3.out.one 5 (e := 3) rfl rfl (.int .i64 0) rfl 23 _ (.int .i64 0) 8 Tryd.underlying23 rfl rfl rfl rfl rfl (by decide) (by omega)
    have HR3 : Hid (∀ ty, (Builtin.append_ #[23, 23] ty #[.slice ya n yc, .slice (some ⟨W3.heap.size, 0, none⟩) 1 1]).run Tryd.prog (W3.alloc (.cells #[.int .i64 0] 3)) = .ok (.slice (some ⟨g3, 0, none⟩) (n + 1) p3) u3) := hr3
    clear hr3
    go_upto_region 7 with (refine bx_append_list rfl _ _ _ rfl _ _ _ _ rfl rfl (HR3.out _) ?_)
    obtain ⟨W4, hw3⟩ : ∃ W, u3.setCell ⟨F, 5, none⟩ (.slice (some ⟨g3, 0, none⟩) (n + 1) p3) = W := ⟨_, rfl⟩
    rw [hw3] at HN3 HP3 HQ3 ⊢
    have HB4 := HN3
    clear hw3 HN3 c3 d3 f3 HR3
    go_wp2_with fail
    go_ret
    refine ⟨rfl, _, _, _, _, _, HB4, fun b o hb q1 q2 q3 => ?_, ⟨?_, ?_⟩⟩
    rotate_left
    · have t0 := HT0.out
      have t1 := HQ0.out
      have t2 := HQ1.out
      have t3 := HQ2.out
      have t4 := HQ3.out
      intro v' hv g e
      simp only [List.mem_cons, List.not_mem_nil, or_false] at hv
      rcases hv with rfl | rfl | rfl | rfl | rfl
      · exact (t0.1 g e).imp (fun q => ⟨_, by simp, q⟩) id
      · cases e; exact t3.1.imp (fun q => ⟨_, by simp, q⟩) (fun q => Nat.le_trans (by omega) q)
      · cases e; exact t1.1.imp (fun q => ⟨_, by simp, q⟩) (fun q => Nat.le_trans (by omega) q)
      · cases e; exact t2.1.imp (fun q => ⟨_, by simp, q⟩) (fun q => Nat.le_trans (by omega) q)
      · cases e; exact t4.1.imp (fun q => ⟨_, by simp, q⟩) (fun q => Nat.le_trans (by omega) q)
    · have t0 := HT0.out
      have t1 := HQ0.out
      have t2 := HQ1.out
      have t3 := HQ2.out
      have t4 := HQ3.out
      omega
    exact HP3.out b o (HP2.out b o (HP1.out b o (HP0.out b o (HO0.out b o hb q1 q2 (q3 _ (by simp))) q1 (q3 _ (by simp))) q1 (q3 _ (by simp))) q1 (q3 _ (by simp))) q1 (q3 _ (by simp))
end Go.Proofs.YtkkhilgcjaigcaaDoor
