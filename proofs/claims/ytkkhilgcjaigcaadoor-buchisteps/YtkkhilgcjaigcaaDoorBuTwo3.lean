/- package buchi: dropEnds where the last of two spots is an end. -/
import Derived.Test.YtkkhilgcjaigcaaDoorBuTwo2
namespace Go.Proofs.YtkkhilgcjaigcaaDoor
open Go.RowKit Go.Shelf

set_option maxRecDepth 10000 in
theorem nil_push (W : World) (x : Int) : ∃ g cap w2, (∀ ty, (Builtin.append_ #[23, 23] ty #[.slice none 0 0, .slice (some ⟨W.heap.size, 0, none⟩) 1 1]).run Tryd.prog (W.alloc (.cells #[.int .i64 x] 3)) = .ok (.slice (some ⟨g, 0, none⟩) 1 cap) w2) ∧ Kept [] W w2 ∧ w2.ownsRow W.heap.size 3 1 (.slice (some ⟨g, 0, none⟩) 1 cap) 1 [.int .i64 x] := by
  have kQ : Kept [] W (W.alloc (.cells #[.int .i64 x] 3)) := (Kept.refl [] W).alloc _
  have hbQ : (W.alloc (.cells #[.int .i64 x] 3)).heap[W.heap.size]? = some (.cells #[.int .i64 x] 3 (0, 0)) := al0 W _
  obtain ⟨g, cap, w2, g1, g2, g3, g4, g5⟩ := run_append_lies (P := Tryd.prog) (W.alloc (.cells #[.int .i64 x] 3)) 23 0 W.heap.size 3 _ (.int .i64 0) 1 8 Tryd.underlying23 rfl rfl rfl rfl rfl (by decide) (.slice none 0 0) 0 [] (World.ownsRow_nil _ _ _ _) ⟨W.heap.size, 0, none⟩ 1 1 [.int .i64 x] rfl (fun j u hu => by
      rw [show (Addr.add ⟨W.heap.size, 0, none⟩ j) = ⟨W.heap.size, j, none⟩ from by simp [Addr.add]; exact fun e => e.symm]
      rw [cell_of hbQ]
      simpa using hu) (by intro u hu; simp at hu; subst hu; rfl) (by decide) (by unfold maxLen; omega) (by omega) kQ.size _ rfl
  exact ⟨g, cap, w2, fun ty => g1, kQ.grown g3 (fun k e => by cases e), g2⟩
theorem own_lower {W : World} {base base' : Nat} {e : TypeId} {size : Nat} {v : Value} {n : Nat} {xs : List Value} (h : W.ownsRow base e size v n xs) (hb : base' ≤ base) : W.ownsRow base' e size v n xs := by
  refine ⟨h.1, ?_⟩
  rcases h.2 with h2 | ⟨g, cap, cur, rfl, q1, q2⟩
  · exact .inl h2
  · exact .inr ⟨g, cap, cur, rfl, Nat.le_trans hb q1, q2⟩
set_option maxHeartbeats 2000000 in
set_option maxRecDepth 10000 in
theorem dropEnds_two (F M B bc : Nat) (es : Array MapEntry) (ck : Nat) (T : TypeId) (w0 w : World) (kv av lv iv yv : Value) (ks : List Value) (h : MBox w0 w F M es ck T (fldV M kv av lv iv yv) (fldR 2 ks [.slice none 0 0, .slice (some ⟨B, 0, none⟩) 1 bc] [.int .i64 0, .int .i64 1] [.bool true, .bool true] [.int .i64 1, .int .i64 0]))
    (hB : ∃ cur, w.heap[B]? = some (.cells cur 3 (0, 0)) ∧ cur[0]? = some (.int .i64 0)) (hBn : ∀ v ∈ fldV M kv av lv iv yv, v.ownBlock ≠ some B) :
    Calls Tryd.prog 69 #[.pointer (some ⟨F, 0, none⟩)] w fun e w' => e = .returned (.tuple #[]) ∧ Kept [] w0 w' ∧ ∃ lb lc, w'.cell? ⟨F, 3, none⟩ = some (.slice (some ⟨lb, 0, none⟩) 0 lc) := by
  obtain ⟨g, cap, w2, hrun, hk, ho⟩ := nil_push w 1
  have hgb := (bx_base ho (g := g) rfl).1
  have hlt : ∀ (i : Nat) (r : Rw) (v : Value), (fldR 2 ks [.slice none 0 0, .slice (some ⟨B, 0, none⟩) 1 bc] [.int .i64 0, .int .i64 1] [.bool true, .bool true] [.int .i64 1, .int .i64 0])[i]? = some (some r) → (fldV M kv av lv iv yv)[i]? = some v → v.ownBlock ≠ some g := fun i r v h1 h2 e => by
    have := (bx_base (h.f.own i r v h1 h2) e).2
    omega
  have hen : ∀ v ∈ fldV M kv av lv iv yv, v.ownBlock ≠ some g := by
    intro v hv
    simp only [fldV, List.mem_cons, List.not_mem_nil, or_false] at hv
    rcases hv with rfl | rfl | rfl | rfl | rfl | rfl
    · intro e; cases e
    · exact hlt 1 _ _ rfl rfl
    · exact hlt 2 _ _ rfl rfl
    · exact hlt 3 _ _ rfl rfl
    · exact hlt 4 _ _ rfl rfl
    · exact hlt 5 _ _ rfl rfl
  have hFl := lt_of h.f.box
  have hBl : B < w.heap.size := by obtain ⟨cur, q1, _⟩ := hB; exact lt_of q1
  have HD : Hid (Calls Tryd.prog 84 #[.pointer (some ⟨F, 0, none⟩), .slice (some ⟨g, 0, none⟩) 1 cap] w2 fun e w' => e = .returned (.tuple #[]) ∧ Kept [] w0 w' ∧ ∃ lb lc, w'.cell? ⟨F, 3, none⟩ = some (.slice (some ⟨lb, 0, none⟩) 0 lc)) :=
    drop_two F M B bc g cap es ck T w0 w2 kv av lv iv yv ks (h.go hk) (by obtain ⟨cur, q1, q2⟩ := hB; exact ⟨cur, hk.at q1 (by simp), q2⟩) hBn (by omega) (own_lower ho h.f.kept.size) hen (by omega)
  have HRUN : Hid (∀ ty, (Builtin.append_ #[23, 23] ty #[.slice none 0 0, .slice (some ⟨w.heap.size, 0, none⟩) 1 1]).run Tryd.prog (w.alloc (.cells #[.int .i64 1] 3)) = .ok (.slice (some ⟨g, 0, none⟩) 1 cap) w2) := hrun
  obtain ⟨yb, yc, rfl, hy1, hy2, hyF, _, hyc⟩ := h.f.row (i := 5) (v := yv) rfl rfl (by show 0 < 2; omega)
  dsimp only at hy1 hy2 hyc
  obtain ⟨y0, _⟩ := hyc 0 (.int .i64 1) rfl
  obtain ⟨y1, _⟩ := hyc 1 (.int .i64 0) rfl
  have c5 := (h.f.cell (i := 5) rfl).1
  clear h hyc hyF hB hBn hen hlt hrun hk ho hgb
  go_enter Tryd.func69, Tryd.ntmps69
  go_wp2_with fail
  refine wp_loop_rounds 3 ?_
  rw [rounds_succ]
  go_wp2_with fail
  rw [rounds_succ]
  go_wp2_with (refine bx_append_list rfl _ _ _ rfl _ _ _ _ rfl rfl (HRUN.out _) ?_)
  rw [rounds_succ]
  go_wp2_with (go_at_call 84; refine HD.out.mono ?_; rintro e w3 ⟨rfl, HB⟩)
  go_end0
  exact ⟨rfl, HB⟩
end Go.Proofs.YtkkhilgcjaigcaaDoor
