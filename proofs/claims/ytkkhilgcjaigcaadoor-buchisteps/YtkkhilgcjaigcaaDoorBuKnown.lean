/- package buchi: Accepts at the laws' example; the laws' known. -/
import Derived.Test.YtkkhilgcjaigcaaDoorBuAcc2
import Derived.Test.YtkkhilgcjaigcaaDoorHW
namespace Go.Proofs.YtkkhilgcjaigcaaDoor
open Go.RowKit Go.Shelf

def exG : Gen := ⟨[⟨#[97]⟩], 1, [0], [⟨0, 0, 1, 0⟩], []⟩
theorem ex_ints {W : World} {b : Nat} (h : W.cell? ⟨b, 0, none⟩ = some (.int .i64 0)) : Ints W (.slice (some ⟨b, 0, none⟩) 1 1) [0] :=
  ⟨by decide, by simp, .inr ⟨b, 0, 1, rfl, by decide, by unfold maxLen; omega, fun i hi => by
    obtain rfl : i = 0 := by simpa using hi
    exact h⟩⟩
theorem Ex.isB {W : World} {PB IB EB FB : Nat} (h : Ex W PB IB EB FB) : IsB W (.slice (some ⟨PB, 0, none⟩) 1 1) (.slice (some ⟨IB, 0, none⟩) 1 1) (.slice (some ⟨EB, 0, none⟩) 1 1) (.slice (some ⟨FB, 0, none⟩) 1 1) exG [0] := by
  refine ⟨⟨by decide, ?_, .inr ⟨PB, 0, 1, rfl, by decide, by unfold maxLen; omega, fun i hi => ?_⟩⟩, ex_ints h.i, ⟨by decide, ?_, .inr ⟨EB, 0, 1, rfl, by decide, by unfold maxLen; omega, fun i hi => ?_⟩⟩, ex_ints h.f, by decide⟩
  · intro x hx
    simp [exG] at hx
    subst hx
    unfold maxLen
    decide
  · obtain rfl : i = 0 := by simpa [exG] using hi
    exact h.p
  · intro e he
    simp [exG] at he
    subst he
    unfold Edg.ok
    decide
  · obtain rfl : i = 0 := by simpa [exG] using hi
    exact h.e
theorem ex_right : rightG (exG.with [0]) = true := by kernel_rfl
theorem ex_err : errG (exG.with [0]) = 0 := by kernel_rfl
set_option maxHeartbeats 2000000 in
set_option maxRecDepth 20000 in
theorem acceptsG_ex (b : Bool) (q : Wd) (PB IB EB FB SB : Nat) (sv lv : Value) (w : World) (h : Ex w PB IB EB FB) (hS : w.heap[SB]? = some (.cells #[.slice (some ⟨FB, 0, none⟩) 1 1] 23 (0, 0))) (hw : IsW w sv lv q) (hc : checkE q ((1 : Nat) : Int) = 0)
    (hacc : ∀ W, Kept [] w W → Calls Tryd.prog 51 #[.agg #[.slice (some ⟨PB, 0, none⟩) 1 1, .int .i64 1, .slice (some ⟨IB, 0, none⟩) 1 1, .slice (some ⟨EB, 0, none⟩) 1 1, .slice (some ⟨SB, 0, none⟩) 1 1], .agg #[sv, lv]] W fun e w' => e = .returned (.bool b) ∧ Kept [] W w') :
    Calls Tryd.prog 36 #[.agg #[.slice (some ⟨PB, 0, none⟩) 1 1, .int .i64 1, .slice (some ⟨IB, 0, none⟩) 1 1, .slice (some ⟨EB, 0, none⟩) 1 1, .slice (some ⟨SB, 0, none⟩) 1 1], .agg #[sv, lv]] w fun e w' => e = .returned (.tuple #[.bool b, .int .i64 0]) ∧ Kept [] w w' := by
  obtain ⟨a1, c1, hs1, _, _⟩ := hw.st.form
  obtain ⟨a2, c2, hs2, _, _⟩ := hw.lp.form
  have HR : Hid (∀ W, Kept [] w W → Calls Tryd.prog 49 #[.agg #[.slice (some ⟨PB, 0, none⟩) 1 1, .int .i64 1, .slice (some ⟨IB, 0, none⟩) 1 1, .slice (some ⟨EB, 0, none⟩) 1 1, .slice (some ⟨SB, 0, none⟩) 1 1]] W fun e w' => e = .returned (.bool true) ∧ Kept [] W w') := fun W k => by
    have := isRight_any _ _ _ _ (exG.with [0]) W ((h.isB.kept k).gen (k.at hS (by simp)))
    rw [ex_right] at this
    exact this
  have HC : Hid (∀ W, Kept [] w W → Calls Tryd.prog 50 #[.agg #[sv, lv], .int .i64 1] W fun e w' => e = .returned (.int .i64 0) ∧ Kept [] W w') := fun W k => by
    have := check_good sv lv q 1 W (hw.kept k) (by omega)
    rw [hc] at this
    exact this
  have HA : Hid (∀ W, Kept [] w W → Calls Tryd.prog 51 #[.agg #[.slice (some ⟨PB, 0, none⟩) 1 1, .int .i64 1, .slice (some ⟨IB, 0, none⟩) 1 1, .slice (some ⟨EB, 0, none⟩) 1 1, .slice (some ⟨SB, 0, none⟩) 1 1], .agg #[sv, lv]] W fun e w' => e = .returned (.bool b) ∧ Kept [] W w') := hacc
  obtain ⟨V, hV⟩ : ∃ V, (w.alloc (.cells #[.slice (some ⟨PB, 0, none⟩) 1 1, .int .i64 1, .slice (some ⟨IB, 0, none⟩) 1 1, .slice (some ⟨EB, 0, none⟩) 1 1, .slice (some ⟨SB, 0, none⟩) 1 1] 31)).alloc (.cells #[sv, lv] 35) = V := ⟨_, rfl⟩
  have kV : Kept [] w V := by rw [← hV]; exact ((Kept.refl [] w).alloc _).alloc _
  have bG : V.heap[w.heap.size]? = some (.cells #[.slice (some ⟨PB, 0, none⟩) 1 1, .int .i64 1, .slice (some ⟨IB, 0, none⟩) 1 1, .slice (some ⟨EB, 0, none⟩) 1 1, .slice (some ⟨SB, 0, none⟩) 1 1] 31 (0, 0)) := by rw [← hV]; exact alUp (al0 _ _) _
  have bW : V.heap[w.heap.size + 1]? = some (.cells #[sv, lv] 35 (0, 0)) := by rw [← hV]; exact al1 _ _ _
  have HGC : Hid (∀ W, Kept [] V W → W.cell? ⟨w.heap.size, 0, none⟩ = some (.slice (some ⟨PB, 0, none⟩) 1 1) ∧ W.cell? ⟨w.heap.size, 1, none⟩ = some (.int .i64 1) ∧ W.cell? ⟨w.heap.size, 2, none⟩ = some (.slice (some ⟨IB, 0, none⟩) 1 1) ∧ W.cell? ⟨w.heap.size, 3, none⟩ = some (.slice (some ⟨EB, 0, none⟩) 1 1) ∧ W.cell? ⟨w.heap.size, 4, none⟩ = some (.slice (some ⟨SB, 0, none⟩) 1 1) ∧ W.cell? ⟨w.heap.size + 1, 0, none⟩ = some sv ∧ W.cell? ⟨w.heap.size + 1, 1, none⟩ = some lv) := fun W k =>
    ⟨cell_kept0 k ((cell_of bG 0).trans rfl), cell_kept0 k ((cell_of bG 1).trans rfl), cell_kept0 k ((cell_of bG 2).trans rfl), cell_kept0 k ((cell_of bG 3).trans rfl), cell_kept0 k ((cell_of bG 4).trans rfl), cell_kept0 k ((cell_of bW 0).trans rfl), cell_kept0 k ((cell_of bW 1).trans rfl)⟩
  have HV : Hid (_ = V) := hV
  have HKV : Hid (Kept [] w V) := kV
  subst hs1 hs2
  clear h hS hw hc hacc hV kV bG bW
  obtain ⟨y0, y1, y2, y3, y4, y5, y6⟩ := HGC.out V (Kept.refl [] V)
  go_enter Tryd.func36, Tryd.ntmps36
  go_upto_region 1 with fail
  rw [HV.out]
  go_upto_region 3 with (go_at_call 49; refine (HR.out V HKV.out).mono ?_; rintro e W1 ⟨rfl, hk1⟩; have HK1 : Hid (Kept [] V W1) := hk1; clear hk1)
  clear y0 y1 y2 y3 y4 y5 y6
  obtain ⟨y0, y1, y2, y3, y4, y5, y6⟩ := HGC.out W1 HK1.out
  go_upto_region 5 with (go_at_call 50; refine (HC.out W1 (keptB HKV.out HK1.out)).mono ?_; rintro e W2 ⟨rfl, hk2⟩; have HK2 : Hid (Kept [] V W2) := keptB HK1.out hk2; clear hk2)
  clear y0 y1 y2 y3 y4 y5 y6
  obtain ⟨y0, y1, y2, y3, y4, y5, y6⟩ := HGC.out W2 HK2.out
  go_wp2_with (go_at_call 51; refine (HA.out W2 (keptB HKV.out HK2.out)).mono ?_; rintro e W3 ⟨rfl, hk3⟩; have HK3 : Hid (Kept [] w W3) := keptB (keptB HKV.out HK2.out) hk3; clear hk3)
  go_ret2
  exact ⟨rfl, HK3.out⟩
set_option maxHeartbeats 2000000 in
set_option maxRecDepth 20000 in
theorem accepts_ex (b : Bool) (q : Wd) (PB IB EB FB : Nat) (sv lv : Value) (w : World) (h : Ex w PB IB EB FB) (hw : IsW w sv lv q) (hc : checkE q ((1 : Nat) : Int) = 0)
    (hacc : ∀ W SB, Kept [] w W → W.heap[SB]? = some (.cells #[.slice (some ⟨FB, 0, none⟩) 1 1] 23 (0, 0)) → Calls Tryd.prog 51 #[.agg #[.slice (some ⟨PB, 0, none⟩) 1 1, .int .i64 1, .slice (some ⟨IB, 0, none⟩) 1 1, .slice (some ⟨EB, 0, none⟩) 1 1, .slice (some ⟨SB, 0, none⟩) 1 1], .agg #[sv, lv]] W fun e w' => e = .returned (.bool b) ∧ Kept [] W w') :
    Calls Tryd.prog 18 #[.agg #[.slice (some ⟨PB, 0, none⟩) 1 1, .int .i64 1, .slice (some ⟨IB, 0, none⟩) 1 1, .slice (some ⟨EB, 0, none⟩) 1 1, .slice (some ⟨FB, 0, none⟩) 1 1], .agg #[sv, lv]] w fun e w' => e = .returned (.tuple #[.bool b, .int .i64 0]) ∧ Kept [] w w' := by
  obtain ⟨a1, c1, hs1, _, _⟩ := hw.st.form
  obtain ⟨a2, c2, hs2, _, _⟩ := hw.lp.form
  have HAG : Hid (∀ W SB, Kept [] w W → W.heap[SB]? = some (.cells #[.slice (some ⟨FB, 0, none⟩) 1 1] 23 (0, 0)) → Calls Tryd.prog 36 #[.agg #[.slice (some ⟨PB, 0, none⟩) 1 1, .int .i64 1, .slice (some ⟨IB, 0, none⟩) 1 1, .slice (some ⟨EB, 0, none⟩) 1 1, .slice (some ⟨SB, 0, none⟩) 1 1], .agg #[sv, lv]] W fun e w' => e = .returned (.tuple #[.bool b, .int .i64 0]) ∧ Kept [] W w') := fun W SB k hS =>
    acceptsG_ex b q PB IB EB FB SB sv lv W (h.kept k) hS (hw.kept k) hc (fun W' k' => hacc W' SB (keptB k k') (k'.at hS (by simp)))
  obtain ⟨V, hV⟩ : ∃ V, (w.alloc (.cells #[.slice (some ⟨PB, 0, none⟩) 1 1, .int .i64 1, .slice (some ⟨IB, 0, none⟩) 1 1, .slice (some ⟨EB, 0, none⟩) 1 1, .slice (some ⟨FB, 0, none⟩) 1 1] 26)).alloc (.cells #[sv, lv] 35) = V := ⟨_, rfl⟩
  have kV : Kept [] w V := by rw [← hV]; exact ((Kept.refl [] w).alloc _).alloc _
  have bG : V.heap[w.heap.size]? = some (.cells #[.slice (some ⟨PB, 0, none⟩) 1 1, .int .i64 1, .slice (some ⟨IB, 0, none⟩) 1 1, .slice (some ⟨EB, 0, none⟩) 1 1, .slice (some ⟨FB, 0, none⟩) 1 1] 26 (0, 0)) := by rw [← hV]; exact alUp (al0 _ _) _
  have bW : V.heap[w.heap.size + 1]? = some (.cells #[sv, lv] 35 (0, 0)) := by rw [← hV]; exact al1 _ _ _
  have HGC : Hid (∀ W, Kept [] V W → W.cell? ⟨w.heap.size, 0, none⟩ = some (.slice (some ⟨PB, 0, none⟩) 1 1) ∧ W.cell? ⟨w.heap.size, 1, none⟩ = some (.int .i64 1) ∧ W.cell? ⟨w.heap.size, 2, none⟩ = some (.slice (some ⟨IB, 0, none⟩) 1 1) ∧ W.cell? ⟨w.heap.size, 3, none⟩ = some (.slice (some ⟨EB, 0, none⟩) 1 1) ∧ W.cell? ⟨w.heap.size, 4, none⟩ = some (.slice (some ⟨FB, 0, none⟩) 1 1) ∧ W.cell? ⟨w.heap.size + 1, 0, none⟩ = some sv ∧ W.cell? ⟨w.heap.size + 1, 1, none⟩ = some lv) := fun W k =>
    ⟨cell_kept0 k ((cell_of bG 0).trans rfl), cell_kept0 k ((cell_of bG 1).trans rfl), cell_kept0 k ((cell_of bG 2).trans rfl), cell_kept0 k ((cell_of bG 3).trans rfl), cell_kept0 k ((cell_of bG 4).trans rfl), cell_kept0 k ((cell_of bW 0).trans rfl), cell_kept0 k ((cell_of bW 1).trans rfl)⟩
  have HV : Hid (_ = V) := hV
  have HKV : Hid (Kept [] w V) := kV
  subst hs1 hs2
  clear h hw hc hacc hV kV bG bW
  obtain ⟨y0, y1, y2, y3, y4, y5, y6⟩ := HGC.out V (Kept.refl [] V)
  go_enter Tryd.func18, Tryd.ntmps18
  go_upto_region 1 with fail
  rw [HV.out]
  go_region_with (first
    | (go_at_call 37; refine (asGeneral_any _ _ _ _ 1 1 1 1 1 1 1 1 1 _).mono ?_; rintro e G ⟨SB, rfl, HSB, HKG0⟩; have HKG : Hid (Kept [] V G) := keptB ((Kept.refl [] V).drew) HKG0.out; obtain ⟨u0, u1, u2, u3, u4, u5, u6⟩ := HGC.out G HKG.out; clear HKG0)
    | (go_at_call 36; refine (HAG.out G SB (keptB HKV.out HKG.out) HSB.out).mono ?_; rintro e H ⟨rfl, hkh⟩; have HKH : Hid (Kept [] w H) := keptB (keptB HKV.out HKG.out) hkh; clear hkh))
  all_goals go_wp2_with fail
  all_goals go_ret2
  all_goals exact ⟨rfl, HKH.out⟩
theorem letsA_lit {W : World} {b : Nat} {xs : List Nat} (h : W.heap[b]? = some (.cells (u16s xs).toArray 27 (0, 0))) (hs : ∀ x ∈ xs, x < 65536) (hl : xs.length ≤ 100) : Lets W (.slice (some ⟨b, 0, none⟩) xs.length xs.length) xs := by
  refine ⟨hs, by omega, .inr ⟨b, 0, xs.length, rfl, Nat.le_refl _, by unfold maxLen; omega, fun i hi => ?_⟩⟩
  rw [Nat.zero_add, cell_of h i]
  simp [u16s, hi]
/-- The blocks that known lays first. -/
def knW (w : World) : World := ((((w.alloc (.cells #[.string ⟨#[97]⟩] 9)).alloc (.cells #[.int .i64 0] 3)).alloc (.cells #[.int .i64 0, .int .i64 0, .int .u16 1, .int .u16 0] 52)).alloc (.cells #[.int .i64 0] 3)).alloc (.cells #[.slice (some ⟨w.heap.size, 0, none⟩) 1 1, .int .i64 1, .slice (some ⟨w.heap.size + 1, 0, none⟩) 1 1, .slice (some ⟨w.heap.size + 1 + 1, 0, none⟩) 1 1, .slice (some ⟨w.heap.size + 1 + 1 + 1, 0, none⟩) 1 1] 26)
theorem kn_ex (w : World) : Ex (knW w) w.heap.size (w.heap.size + 1) (w.heap.size + 1 + 1) (w.heap.size + 1 + 1 + 1) := by
  have e := alUp (alUp (al2 w (.cells #[.string ⟨#[97]⟩] 9) (.cells #[.int .i64 0] 3) (.cells #[.int .i64 0, .int .i64 0, .int .u16 1, .int .u16 0] 52)) (.cells #[.int .i64 0] 3)) (.cells #[.slice (some ⟨w.heap.size, 0, none⟩) 1 1, .int .i64 1, .slice (some ⟨w.heap.size + 1, 0, none⟩) 1 1, .slice (some ⟨w.heap.size + 1 + 1, 0, none⟩) 1 1, .slice (some ⟨w.heap.size + 1 + 1 + 1, 0, none⟩) 1 1] 26)
  exact ⟨(cell_of (alUp (alUp (alUp (alUp (al0 _ _) _) _) _) _) 0).trans rfl, (cell_of (alUp (alUp (alUp (al1 _ _ _) _) _) _) 0).trans rfl, ⟨(cell_of e 0).trans rfl, (cell_of e 1).trans rfl, (cell_of e 2).trans rfl, (cell_of e 3).trans rfl⟩, (cell_of (alUp (al3 _ _ _ _ _) _) 0).trans rfl⟩
set_option maxHeartbeats 2000000 in
set_option maxRecDepth 20000 in
theorem known_any (w : World) (hT : Tab w) : Calls Tryd.prog 6 #[] w fun e w' => e = .returned (.bool true) ∧ Kept [] w w' := by
  have HK0 : Hid (Kept [] w (knW w)) := (((((Kept.refl [] w).alloc _).alloc _).alloc _).alloc _).alloc _
  have HX : Hid (∀ W, Kept [] (knW w) W → Ex W w.heap.size (w.heap.size + 1) (w.heap.size + 1 + 1) (w.heap.size + 1 + 1 + 1)) := fun W k => (kn_ex w).kept k
  have HTB : Hid (∀ W, Kept [] (knW w) W → Tab W) := fun W k => hT.kept (keptB HK0.out k) (by simp)
  have hb : (knW w).heap[w.heap.size + 1 + 1 + 1 + 1]? = some (.cells #[.slice (some ⟨w.heap.size, 0, none⟩) 1 1, .int .i64 1, .slice (some ⟨w.heap.size + 1, 0, none⟩) 1 1, .slice (some ⟨w.heap.size + 1 + 1, 0, none⟩) 1 1, .slice (some ⟨w.heap.size + 1 + 1 + 1, 0, none⟩) 1 1] 26 (0, 0)) := al4 _ _ _ _ _ _
  have HBC : Hid (∀ W, Kept [] (knW w) W → W.cell? ⟨w.heap.size + 1 + 1 + 1 + 1, 0, none⟩ = some (.slice (some ⟨w.heap.size, 0, none⟩) 1 1) ∧ W.cell? ⟨w.heap.size + 1 + 1 + 1 + 1, 1, none⟩ = some (.int .i64 1) ∧ W.cell? ⟨w.heap.size + 1 + 1 + 1 + 1, 2, none⟩ = some (.slice (some ⟨w.heap.size + 1, 0, none⟩) 1 1) ∧ W.cell? ⟨w.heap.size + 1 + 1 + 1 + 1, 3, none⟩ = some (.slice (some ⟨w.heap.size + 1 + 1, 0, none⟩) 1 1) ∧ W.cell? ⟨w.heap.size + 1 + 1 + 1 + 1, 4, none⟩ = some (.slice (some ⟨w.heap.size + 1 + 1 + 1, 0, none⟩) 1 1)) := fun W k =>
    ⟨cell_kept0 k ((cell_of hb 0).trans rfl), cell_kept0 k ((cell_of hb 1).trans rfl), cell_kept0 k ((cell_of hb 2).trans rfl), cell_kept0 k ((cell_of hb 3).trans rfl), cell_kept0 k ((cell_of hb 4).trans rfl)⟩
  have HW : Hid (knW w = knW w) := rfl
  obtain ⟨PB, hPB⟩ : ∃ PB, w.heap.size = PB := ⟨_, rfl⟩
  obtain ⟨IB, hIB⟩ : ∃ IB, PB + 1 = IB := ⟨_, rfl⟩
  obtain ⟨EB, hEB⟩ : ∃ EB, IB + 1 = EB := ⟨_, rfl⟩
  obtain ⟨FB, hFB⟩ : ∃ FB, EB + 1 = FB := ⟨_, rfl⟩
  obtain ⟨AB, hAB⟩ : ∃ AB, FB + 1 = AB := ⟨_, rfl⟩
  rw [hPB, hIB, hEB, hFB] at HX
  rw [hPB, hIB, hEB, hFB, hAB] at HBC
  have HA1 : Hid (∀ W V lb, Kept [] (knW w) W → Kept [] (W.alloc (.cells #[.int .u16 1] 27)) V → W.heap.size = lb → Calls Tryd.prog 18 #[.agg #[.slice (some ⟨PB, 0, none⟩) 1 1, .int .i64 1, .slice (some ⟨IB, 0, none⟩) 1 1, .slice (some ⟨EB, 0, none⟩) 1 1, .slice (some ⟨FB, 0, none⟩) 1 1], .agg #[.slice none 0 0, .slice (some ⟨lb, 0, none⟩) 1 1]] V fun e w' => e = .returned (.tuple #[.bool true, .int .i64 0]) ∧ Kept [] V w') := fun W V lb k kv hl => by
    subst hl
    have kw : Kept [] (knW w) V := keptB (k.alloc _) kv
    have hi : IsW V (.slice none 0 0) (.slice (some ⟨W.heap.size, 0, none⟩) 1 1) ⟨[], [1]⟩ := ⟨(new_zero 0 V).lets1, letsA_lit (xs := [1]) (kv.at (al0 W _) (by simp)) (by decide) (by decide), by decide⟩
    exact accepts_ex true ⟨[], [1]⟩ PB IB EB FB _ _ V (HX.out V kw) hi (by decide) (fun W' SB k' hS => accepts_one PB IB EB FB SB _ _ W' (HX.out W' (keptB kw k')) ((cell_of hS 0).trans rfl) (HTB.out W' (keptB kw k')) (hi.kept k'))
  have HA2 : Hid (∀ W V sb lb, Kept [] (knW w) W → Kept [] ((W.alloc (.cells #[.int .u16 1] 27)).alloc (.cells #[.int .u16 1, .int .u16 0] 27)) V → W.heap.size = sb → W.heap.size + 1 = lb → Calls Tryd.prog 18 #[.agg #[.slice (some ⟨PB, 0, none⟩) 1 1, .int .i64 1, .slice (some ⟨IB, 0, none⟩) 1 1, .slice (some ⟨EB, 0, none⟩) 1 1, .slice (some ⟨FB, 0, none⟩) 1 1], .agg #[.slice (some ⟨sb, 0, none⟩) 1 1, .slice (some ⟨lb, 0, none⟩) 2 2]] V fun e w' => e = .returned (.tuple #[.bool false, .int .i64 0]) ∧ Kept [] V w') := fun W V sb lb k kv hs hl => by
    subst hs hl
    have kw : Kept [] (knW w) V := keptB ((k.alloc _).alloc _) kv
    have hi : IsW V (.slice (some ⟨W.heap.size, 0, none⟩) 1 1) (.slice (some ⟨W.heap.size + 1, 0, none⟩) 2 2) ⟨[1], [1, 0]⟩ := ⟨letsA_lit (xs := [1]) (kv.at (alUp (al0 W _) _) (by simp)) (by decide) (by decide), letsA_lit (xs := [1, 0]) (kv.at (al1 W _ _) (by simp)) (by decide) (by decide), by decide⟩
    exact accepts_ex false ⟨[1], [1, 0]⟩ PB IB EB FB _ _ V (HX.out V kw) hi (by decide) (fun W' SB k' hS => accepts_two PB IB EB FB SB _ _ W' (HX.out W' (keptB kw k')) ((cell_of hS 0).trans rfl) (HTB.out W' (keptB kw k')) (hi.kept k'))
  have HCK : Hid (∀ W, Kept [] (knW w) W → Calls Tryd.prog 19 #[.agg #[.slice (some ⟨PB, 0, none⟩) 1 1, .int .i64 1, .slice (some ⟨IB, 0, none⟩) 1 1, .slice (some ⟨EB, 0, none⟩) 1 1, .slice (some ⟨FB, 0, none⟩) 1 1]] W fun e w' => e = .returned (.int .i64 0) ∧ Kept [] W w') := fun W k => by
    have := check_anyB _ _ _ _ exG [0] W (HX.out W k).isB
    rw [ex_err] at this
    exact this
  have HKW : Hid (((((w.alloc (.cells #[.string ⟨#[97]⟩] 9)).alloc (.cells #[.int .i64 0] 3)).alloc (.cells #[.int .i64 0, .int .i64 0, .int .u16 1, .int .u16 0] 52)).alloc (.cells #[.int .i64 0] 3)).alloc (.cells #[.slice (some ⟨w.heap.size, 0, none⟩) 1 1, .int .i64 1, .slice (some ⟨w.heap.size + 1, 0, none⟩) 1 1, .slice (some ⟨w.heap.size + 1 + 1, 0, none⟩) 1 1, .slice (some ⟨w.heap.size + 1 + 1 + 1, 0, none⟩) 1 1] 26) = knW w) := rfl
  have HEQ : Hid (w.heap.size = PB ∧ PB + 1 = IB ∧ IB + 1 = EB ∧ EB + 1 = FB ∧ FB + 1 = AB) := ⟨hPB, hIB, hEB, hFB, hAB⟩
  clear hb hT HX HTB HW hPB hIB hEB hFB hAB
  go_enter Tryd.func6, Tryd.ntmps6
  go_upto_region 2 with fail
  rw [HKW.out]
  clear HKW
  generalize knW w = V at HK0 HBC HA1 HA2 HCK ⊢
  rw [HEQ.out.1, HEQ.out.2.1, HEQ.out.2.2.1, HEQ.out.2.2.2.1, HEQ.out.2.2.2.2]
  clear HEQ
  obtain ⟨y0, y1, y2, y3, y4⟩ := HBC.out V (Kept.refl [] V)
  go_upto_region 3 with (go_at_call 18; refine (HA1.out V _ _ (Kept.refl [] V) (Kept.refl [] _) rfl).mono ?_; rintro e W1 ⟨rfl, hk1⟩; have HK1 : Hid (Kept [] V W1) := keptB ((Kept.refl [] V).alloc _) hk1; clear hk1)
  clear y0 y1 y2 y3 y4 HA1
  obtain ⟨y0, y1, y2, y3, y4⟩ := HBC.out W1 HK1.out
  go_upto_region 4 with (go_at_call 18; refine (HA2.out W1 _ _ _ HK1.out (Kept.refl [] _) rfl rfl).mono ?_; rintro e W2 ⟨rfl, hk2⟩; have HK2 : Hid (Kept [] V W2) := keptB ((HK1.out.alloc _).alloc _) hk2; clear hk2)
  clear y0 y1 y2 y3 y4 HA2
  obtain ⟨y0, y1, y2, y3, y4⟩ := HBC.out W2 HK2.out
  go_wp2_with (go_at_call 19; refine (HCK.out W2 HK2.out).mono ?_; rintro e W3 ⟨rfl, hk3⟩; have HK3 : Hid (Kept [] w W3) := keptB HK0.out (keptB HK2.out hk3); clear hk3)
  go_ret
  exact ⟨rfl, HK3.out⟩
end Go.Proofs.YtkkhilgcjaigcaaDoor
