/- package buchi: dropEnds where there is one spot, which goes on. -/
import Derived.Test.YtkkhilgcjaigcaaDoorBuDrop
namespace Go.Proofs.YtkkhilgcjaigcaaDoor
open Go.RowKit Go.Shelf

theorem out_none : ∀ j (h : j < ([0] : List Int).length), outB [true] ([0] : List Int)[j] = false := by
  intro j hj
  obtain rfl : j = 0 := by simpa using hj
  rfl
set_option maxHeartbeats 2000000 in
set_option maxRecDepth 10000 in
theorem dropEnds_one (F M : Nat) (es : Array MapEntry) (ck : Nat) (T : TypeId) (w0 w : World) (kv av lv iv yv : Value) (ks ah : List Value) (h : MBox w0 w F M es ck T (fldV M kv av lv iv yv) (fldR 1 ks ah [.int .i64 0] [.bool true] [.int .i64 1])) :
    Calls Tryd.prog 69 #[.pointer (some ⟨F, 0, none⟩)] w fun e w' => e = .returned (.tuple #[]) ∧ Hid (MBox w0 w' F M es ck T (fldV M kv av lv iv yv) (fldR 1 ks ah [.int .i64 0] [.bool true] [.int .i64 1])) ∧ Hid (Kept [F] w w') := by
  have HD : Hid (Calls Tryd.prog 84 #[.pointer (some ⟨F, 0, none⟩), .slice none 0 0] w fun e w' => e = .returned (.tuple #[]) ∧ Hid (MBox w0 w' F M es ck T (fldV M kv av lv iv yv) (fldR 1 ks ah [.int .i64 0] [.bool true] [.int .i64 1])) ∧ Hid (Kept [F] w w')) :=
    drop_nil F M es ck T w0 w _ _ lv iv [0] [true] h rfl rfl rfl rfl (by simp) (by simp) (by intro x hx; simp at hx; subst hx; simp) out_none
  obtain ⟨yb, yc, rfl, hy1, hy2, hyF, _, hyc⟩ := h.f.row (i := 5) (v := yv) rfl rfl (by show 0 < 1; omega)
  dsimp only at hy1 hy2 hyc
  obtain ⟨y0, _⟩ := hyc 0 (.int .i64 1) rfl
  have c5 := (h.f.cell (i := 5) rfl).1
  clear h hyc hyF
  go_enter Tryd.func69, Tryd.ntmps69
  go_wp2_with fail
  refine wp_loop_rounds 2 ?_
  rw [rounds_succ]
  go_wp2_with fail
  rw [rounds_succ]
  go_wp2_with (go_at_call 84; refine HD.out.mono ?_; rintro e w1 ⟨rfl, HB, HKF⟩)
  go_end0
  exact ⟨rfl, HB, HKF⟩
set_option maxHeartbeats 2000000 in
set_option maxRecDepth 10000 in
theorem shrinkTo_one (F M S : Nat) (es : Array MapEntry) (ck : Nat) (T : TypeId) (w0 w : World) (kv av lv iv yv : Value) (ks ah : List Value) (h : MBox w0 w F M es ck T (fldV M kv av lv iv yv) (fldR 1 ks ah [.int .i64 0] [.bool true] [.int .i64 1]))
    (hgrow : Calls Tryd.prog 85 #[.pointer (some ⟨F, 0, none⟩), .pointer (some ⟨S, 0, none⟩)] w fun e w' => ∃ G, e = .returned (.slice (some ⟨G, 0, none⟩) 1 1) ∧ Kept [] w w' ∧ w'.cell? ⟨G, 0, none⟩ = some (.bool true)) :
    Calls Tryd.prog 70 #[.pointer (some ⟨F, 0, none⟩), .pointer (some ⟨S, 0, none⟩)] w fun e w' => e = .returned (.bool false) ∧ Hid (MBox w0 w' F M es ck T (fldV M kv av lv iv yv) (fldR 1 ks ah [.int .i64 0] [.bool true] [.int .i64 1])) := by
  have HGR : Hid (Calls Tryd.prog 85 #[.pointer (some ⟨F, 0, none⟩), .pointer (some ⟨S, 0, none⟩)] w fun e w' => ∃ G, e = .returned (.slice (some ⟨G, 0, none⟩) 1 1) ∧ Kept [] w w' ∧ w'.cell? ⟨G, 0, none⟩ = some (.bool true)) := hgrow
  have HD : Hid (∀ W, Kept [] w W → Calls Tryd.prog 84 #[.pointer (some ⟨F, 0, none⟩), .slice none 0 0] W fun e w' => e = .returned (.tuple #[]) ∧ Hid (MBox w0 w' F M es ck T (fldV M kv av lv iv yv) (fldR 1 ks ah [.int .i64 0] [.bool true] [.int .i64 1]))) := fun W k =>
    (drop_nil F M es ck T w0 W _ _ lv iv [0] [true] (h.go k) rfl rfl rfl rfl (by simp) (by simp) (by intro x hx; simp at hx; subst hx; simp) out_none).mono fun e w' ⟨h1, h2, _⟩ => ⟨h1, h2⟩
  obtain ⟨lb, lc, rfl, hl1, hl2, hlF, _, hlc⟩ := h.f.row (i := 3) (v := lv) rfl rfl (by show 0 < 1; omega)
  dsimp only at hl1 hl2 hlc
  obtain ⟨l0, _⟩ := hlc 0 (.int .i64 0) rfl
  have c3 := (h.f.cell (i := 3) rfl).1
  have HC : Hid (w.cell? ⟨lb, 0, none⟩ = some (.int .i64 0) ∧ w.cell? ⟨F, 3, none⟩ = some (.slice (some ⟨lb, 0, none⟩) 1 lc)) := ⟨l0, c3⟩
  clear h hlc hlF l0 c3 hgrow
  go_enter Tryd.func70, Tryd.ntmps70
  go_upto_region 2 with (go_at_call 85; refine HGR.out.mono ?_; rintro e w1 ⟨G, rfl, hk1, g0⟩; have HK : Hid (Kept [] w w1) := hk1; clear hk1)
  have l0 := cell_kept0 HK.out HC.out.1
  have c3 := cell_kept0 HK.out HC.out.2
  go_wp2_with fail
  refine wp_loop_rounds 2 ?_
  rw [rounds_succ]
  go_wp2_with fail
  rw [rounds_succ]
  go_wp2_with (go_at_call 84; refine (HD.out _ HK.out).mono ?_; rintro e w2 ⟨rfl, HB⟩)
  go_ret
  exact ⟨rfl, HB⟩
end Go.Proofs.YtkkhilgcjaigcaaDoor
