/- Which words are normal, and all small ones: plain mathematics; words.isNormal. -/
import Derived.Test.YtamfnefnaelgfaaDoorWdShow
namespace Go.Proofs.YtamfnefnaelgfaaDoor
open Go.RowKit
attribute [local go_sem ↓] Go.wp_at_zero Go.wp_at_succ

/-- Is a word normal? -/
def normB (q : Wd) : Bool := ((List.range q.loop.length).all fun d => decide (d = 0) || !(decide (q.loop.length % d = 0) && repB q.loop d)) && (decide (q.stem.length = 0) || decide (q.stem.getD (q.stem.length - 1) 0 ≠ q.loop.getD (q.loop.length - 1) 0))
theorem least_iff {l : List Nat} (h0 : 0 < l.length) : Least (cyc l) 0 l.length ↔ ∀ d, 0 < d → d < l.length → l.length % d = 0 → ¬ rep l d := by
  constructor
  · intro h d hd hlt hm hr
    obtain ⟨k, hk⟩ := Nat.dvd_of_mod_eq_zero hm
    have := h.2.2 d hd ((rep_iff l d k hk h0).1 hr)
    omega
  · intro h
    obtain ⟨d, hd⟩ := least_some l.length h0 (cyc_per l)
    have hdv := hd.dvd (cyc_per l)
    have hle := Nat.le_of_dvd h0 hdv
    rcases Nat.lt_or_ge d l.length with hlt | hge
    · obtain ⟨k, hk⟩ := hdv
      exact absurd ((rep_iff l d k hk h0).2 hd.2.1) (h d hd.1 hlt (Nat.mod_eq_zero_of_dvd ⟨k, hk⟩))
    · obtain rfl : d = l.length := by omega
      exact hd
theorem normB_iff {q : Wd} (h0 : 0 < q.loop.length) : normB q = true ↔ q.Norm := by
  rw [norm_self h0, least_iff h0]
  unfold normB
  rw [Bool.and_eq_true, List.all_eq_true, Bool.or_eq_true, decide_eq_true_eq, decide_eq_true_eq]
  refine and_congr ?_ Iff.rfl
  constructor
  · intro h d hd hlt hm hr
    have := h d (by simpa using hlt)
    rw [decide_eq_false (by omega), Bool.false_or, decide_eq_true hm, Bool.true_and, (repB_iff q.loop d (by omega)).2 hr] at this
    cases this
  · intro h d hd
    rw [List.mem_range] at hd
    by_cases h1 : d = 0
    · rw [decide_eq_true h1]; rfl
    · by_cases h2 : q.loop.length % d = 0
      · have h3 : repB q.loop d = false := by
          rw [Bool.eq_false_iff]
          intro hr
          exact h d (by omega) hd h2 ((repB_iff q.loop d (by omega)).1 hr)
        rw [h3]; simp
      · rw [decide_eq_false h2]; simp
theorem normB_eq {q : Wd} (h0 : 0 < q.loop.length) {d : Nat} (hd : Least (cyc q.loop) 0 d) : normB q = (decide (d = q.loop.length) && (decide (q.stem.length = 0) || decide (q.stem.getD (q.stem.length - 1) 0 ≠ q.loop.getD (q.loop.length - 1) 0))) := by
  rw [Bool.eq_iff_iff, normB_iff h0, norm_self h0, Bool.and_eq_true, Bool.or_eq_true, decide_eq_true_eq, decide_eq_true_eq, decide_eq_true_eq]
  refine and_congr ?_ Iff.rfl
  constructor
  · intro h
    exact Nat.le_antisymm (hd.2.2 _ h.1 h.2.1) (h.2.2 _ hd.1 hd.2.1)
  · intro e
    rw [← e]; exact hd
set_option maxHeartbeats 1600000 in
theorem isNormal_any (sv lv : Value) (q : Wd) (w : World) (h : IsW w sv lv q) (h0 : 0 < q.loop.length) :
    Calls Tryd.prog 55 #[.agg #[sv, lv]] w fun e w' => e = .returned (.bool (normB q)) ∧ Kept [] w w' := by
  obtain ⟨st, lp⟩ := q
  have hfw := h.few
  simp only at h0 hfw
  obtain ⟨d, hd⟩ := least_some lp.length h0 (cyc_per lp)
  have hdl : d ≤ lp.length := Nat.le_of_dvd h0 (hd.dvd (cyc_per lp))
  have hN := normB_eq (q := ⟨st, lp⟩) h0 hd
  simp only at hN
  obtain ⟨bl, ol, cl, hvl, hlc, hcm, hcl⟩ := h.lp.there h0
  simp only at hvl hlc hcl
  subst hvl
  have HP : Hid (∀ q, Calls Tryd.prog 42 #[.slice (some ⟨bl, ol, none⟩) lp.length cl] ((w.alloc (.cells #[sv, .slice (some ⟨bl, ol, none⟩) lp.length cl] 47)).drewN q) fun e w' => e = .returned (.int .i64 (d : Nat)) ∧ ∃ k, w' = ((w.alloc (.cells #[sv, .slice (some ⟨bl, ol, none⟩) lp.length cl] 47)).drewN q).drewN k) := fun q => period_any bl ol cl d lp _ (h.lp.kept (((Kept.refl [] w).alloc _).drewN q)) h0 hd
  have y2 : w.cell? ⟨bl, ol + (lp.length - 1), none⟩ = some (.int .u16 (lp.getD (lp.length - 1) 0 : Nat)) := hcl _ (by omega)
  have b1 : (0 : Int) < (lp.length : Int) := by omega
  obtain ⟨L1, hL1⟩ : ∃ L1, lp.length = L1 + 1 := ⟨lp.length - 1, by omega⟩
  by_cases hdd : d = lp.length
  · have z0 : ¬ ((d : Int) < (lp.length : Int)) := by omega
    rw [hN, decide_eq_true hdd, Bool.true_and]
    by_cases hs0 : st.length = 0
    · obtain ⟨ast, cs, hvs, _, _⟩ := h.st.form
      simp only at hvs
      rw [hs0] at hvs
      rw [decide_eq_true hs0, Bool.true_or]
      subst hvs
      clear h hN hd hdd hs0 hcl y2 hL1
      go_enter Tryd.func55, Tryd.ntmps55
      go_wp2_with fail
      go_quiet ((go_at_call 42; exact Calls.quiet_of (HP.out _)))
      go_wp2_with fail
      go_quiet (fail)
      go_wp2
      go_ret
      exact ⟨rfl, (((Kept.refl [] w).alloc _).drewN _).drewN _⟩
    · obtain ⟨bs, os, cs, hvs, hsc, _, hcs⟩ := h.st.there (by show 0 < st.length; omega)
      simp only at hvs hcs hsc
      subst hvs
      rw [decide_eq_false hs0, Bool.false_or]
      obtain ⟨S1, hS1⟩ : ∃ S1, st.length = S1 + 1 := ⟨st.length - 1, by omega⟩
      have y1 := hcs S1 (by omega)
      rw [show st.length - 1 = S1 by omega, show lp.length - 1 = L1 by omega] at *
      obtain ⟨x, hx⟩ : ∃ x, st.getD S1 0 = x := ⟨_, rfl⟩
      obtain ⟨y, hy⟩ : ∃ y, lp.getD L1 0 = y := ⟨_, rfl⟩
      rw [hx] at y1
      rw [hy] at y2
      rw [hx, hy]
      have c1 : ∀ o q, ((w.alloc o).drewN q).cell? ⟨bs, os + S1, none⟩ = some (.int .u16 (x : Nat)) := fun o q => cell_kept0 (((Kept.refl [] w).alloc o).drewN q) y1
      have c2 : ∀ o q, ((w.alloc o).drewN q).cell? ⟨bl, ol + L1, none⟩ = some (.int .u16 (y : Nat)) := fun o q => cell_kept0 (((Kept.refl [] w).alloc o).drewN q) y2
      have e1 : (st.length : Int) - 1 = (S1 : Int) := by omega
      have e2 : (lp.length : Int) - 1 = (L1 : Int) := by omega
      have e3 : ((st.length : Int) == 0) = false := by simp; intro e; rw [e] at hS1; simp at hS1
      have e4 : (0 : Int) ≤ (S1 : Int) := by omega
      have e5 : (S1 : Int) < (st.length : Int) := by omega
      have e6 : (0 : Int) ≤ (L1 : Int) := by omega
      have e7 : (L1 : Int) < (lp.length : Int) := by omega
      have e8 : (decide (x ≠ y)) = ((x : Int) != (y : Int)) := by
        by_cases hxy : x = y
        · subst hxy; simp
        · rw [decide_eq_true hxy]; symm; simp; omega
      rw [e8]
      clear h hN hd hdd hs0 hcl hcs y1 y2 hx hy hL1 hS1 e8
      go_enter Tryd.func55, Tryd.ntmps55
      go_wp2_with fail
      go_quiet ((go_at_call 42; exact Calls.quiet_of (HP.out _)))
      go_wp2_with fail
      go_quiet (fail)
      go_wp2
      go_ret
      exact ⟨rfl, (((Kept.refl [] w).alloc _).drewN _).drewN _⟩
  · have z0 : ((d : Int) < (lp.length : Int)) := by omega
    obtain ⟨ast, cs, hvs, _, _⟩ := h.st.form
    simp only at hvs
    subst hvs
    rw [hN, decide_eq_false hdd, Bool.false_and]
    clear h hN hd hdd hcl y2 hL1
    go_enter Tryd.func55, Tryd.ntmps55
    go_wp2_with fail
    go_quiet ((go_at_call 42; exact Calls.quiet_of (HP.out _)))
    go_wp2
    go_ret
    exact ⟨rfl, ((Kept.refl [] w).alloc _).drewN _⟩
end Go.Proofs.YtamfnefnaelgfaaDoor
