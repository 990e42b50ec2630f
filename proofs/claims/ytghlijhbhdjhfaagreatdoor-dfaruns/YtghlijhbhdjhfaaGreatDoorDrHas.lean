/- augurref13.Has at any deterministic automaton. -/
import Derived.Test.YtghlijhbhdjhfaaGreatDoorDrRun
namespace Go.Proofs.YtghlijhbhdjhfaaGreatDoor
open Go.RowKit Go.Shelf

set_option maxHeartbeats 4000000 in
set_option maxRecDepth 10000 in
theorem refHasD_any (pv nv lvv uv : Value) (ps : List ByteArray) (next : List (List Int)) (lv : List Bool) (us : List Nat) (w : World) (hp : Strs w pv ps) (hn : Rowss w nv next) (hl : Bls w lvv lv) (hu : Lets w uv us) :
    Calls Tryz.prog 15 #[.agg #[pv, nv, lvv], uv] w fun e w' => e = .returned (.tuple #[.bool (hasE ps next lv us), .int .i64 (runE ps next lv.length us : Nat)]) ∧ Hid (Kept [] w w') := by
  obtain ⟨la, lc, rfl⟩ := hl.form
  have HR : Hid (∀ W, Kept [] w W → Calls Tryz.prog 14 #[.agg #[pv, nv, .slice la lv.length lc], uv] W fun e w' => e = .returned (.tuple #[.int .i64 (runS ps next lv.length us : Nat), .int .i64 (runE ps next lv.length us : Nat)]) ∧ Hid (Kept [] W w') ∧ Hid (runE ps next lv.length us = 0 → runS ps next lv.length us < next.length ∧ lv.length = next.length)) := fun W k => refRunD_any pv nv uv ps next la lv.length lc us W (hp.kept k) (hn.kept k) (hu.kept k)
  have HL : Hid (∀ W, Kept [] w W → Bls W (.slice la lv.length lc) lv) := fun W k => hl.kept k
  obtain ⟨V, hV⟩ : ∃ V, w.alloc (.cells #[pv, nv, .slice la lv.length lc] 26) = V := ⟨_, rfl⟩
  have kV : Kept [] w V := by rw [← hV]; exact (Kept.refl [] w).alloc _
  have bV : V.heap[w.heap.size]? = some (.cells #[pv, nv, .slice la lv.length lc] 26 (0, 0)) := by rw [← hV]; exact al0 _ _
  have HV : Hid (_ = V) := hV
  have HKV : Hid (Kept [] w V) := kV
  have v0 : V.cell? ⟨w.heap.size, 0, none⟩ = some pv := (cell_of bV 0).trans rfl
  have v1 : V.cell? ⟨w.heap.size, 1, none⟩ = some nv := (cell_of bV 1).trans rfl
  have v2 : V.cell? ⟨w.heap.size, 2, none⟩ = some (.slice la lv.length lc) := (cell_of bV 2).trans rfl
  have HC2 : Hid (V.cell? ⟨w.heap.size, 2, none⟩ = some (.slice la lv.length lc)) := v2
  clear hp hn hu hl hV kV bV
  obtain ⟨S, hS⟩ : ∃ S, runS ps next lv.length us = S := ⟨_, rfl⟩
  unfold hasE
  rw [hS]
  rw [hS] at HR
  clear hS
  by_cases hE : runE ps next lv.length us = 0
  · rw [hE]
    rw [hE] at HR
    clear hE
    obtain ⟨q, hq⟩ : ∃ q, lv.getD S false = q := ⟨_, rfl⟩
    have HQ : Hid (lv.getD S false = q) := hq
    rw [hq, show ((0 : Nat) == 0 && q) = q from rfl]
    clear hq
    go_enter Tryz.func15, Tryz.ntmps15
    go_upto_region 1 with fail
    rw [HV.out]
    go_upto_region 2 with (go_at_call 14; refine (HR.out V HKV.out).mono ?_; rintro e W1 ⟨rfl, HK, HS⟩)
    have HL1 : Hid (Bls W1 (.slice la lv.length lc) lv) := HL.out W1 (keptB HKV.out HK.out)
    have c2 : W1.cell? ⟨w.heap.size, 2, none⟩ = some (.slice la lv.length lc) := cell_kept0 HK.out HC2.out
    have hS : S < lv.length := by have := HS.out (by trivial); omega
    clear v0 v1 v2 HR HL HS
    obtain ⟨b, o, hla, hc⟩ : ∃ b o, la = some ⟨b, o, none⟩ ∧ W1.cell? ⟨b, o + S, none⟩ = some (.bool q) := by
      rcases HL1.out.lie with ⟨_, q⟩ | ⟨b, o, c, q, _, _, hc⟩
      · rw [q] at hS; simp at hS
      · cases q
        exact ⟨b, o, rfl, by rw [hc S hS, HQ.out]⟩
    subst hla
    have z0 : (S : Int) < (lv.length : Int) := by omega
    go_wp2_with fail
    go_ret2
    exact ⟨rfl, keptB HKV.out HK.out⟩
  · obtain ⟨E, hE'⟩ : ∃ E, runE ps next lv.length us = E := ⟨_, rfl⟩
    rw [hE']
    rw [hE'] at HR hE
    clear hE'
    have z : (E : Int) ≠ 0 := by omega
    have z2 : (E == 0) = false := by simp [hE]
    have z3 : ((E : Int) == 0) = false := by rw [beq_eq_false_iff_ne]; omega
    rw [z2]
    clear z2 hE
    go_enter Tryz.func15, Tryz.ntmps15
    go_upto_region 1 with fail
    rw [HV.out]
    go_wp2_with (go_at_call 14; refine (HR.out V HKV.out).mono ?_; rintro e W1 ⟨rfl, HK, HS⟩)
    go_ret2
    exact ⟨rfl, keptB HKV.out HK.out⟩
end Go.Proofs.YtghlijhbhdjhfaaGreatDoor
