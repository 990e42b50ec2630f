/- WordsNormal, whatever the arguments. -/
import Derived.Test.YtnejehlgfckdgaaDoorWdForm
namespace Go.Proofs.YtnejehlgfckdgaaDoor
open Go.RowKit Go.Shelf
attribute [local go_sem ↓] Go.wp_at_zero Go.wp_at_succ

set_option maxHeartbeats 2000000 in
theorem wordsNormal_walk (sv lv : Value) (q : Wd) (zt zm : Int) (w : World) (hs : Lets w sv q.stem) (hl : Lets w lv q.loop) (hzt : -9223372036854775808 ≤ zt ∧ zt ≤ 9223372036854775807) (hzm : -9223372036854775808 ≤ zm ∧ zm ≤ 9223372036854775807) (hT : PowTab w) :
    Calls Tryd.prog 5 #[.agg #[sv, lv], .int .i64 zt, .int .i64 zm] w fun e w' => e = .returned (.bool true) ∧ Kept [] w w' := by
  have fs := hs.few
  have fl := hl.few
  obtain ⟨a1, c1, e1, _⟩ := hs.form
  obtain ⟨a2, c2, e2, _⟩ := hl.form
  subst e1 e2
  by_cases hok : 0 < q.loop.length ∧ q.stem.length + q.loop.length ≤ 3000
  · exact form_main a1 a2 c1 c2 _ _ q zt zm w hs hl rfl rfl hzt hzm hT hok.1 hok.2
  · have HW : Hid (∀ W, Kept [] w W → Calls Tryd.prog 9 #[] W fun e w' => e = .returned (.bool true) ∧ Hid (Kept [] W w')) := fun W k => works_any W (hT.kept k)
    obtain ⟨V, hV⟩ : ∃ V, w.alloc (.cells #[.slice a1 q.stem.length c1, .slice a2 q.loop.length c2] 25) = V := ⟨_, rfl⟩
    have HB : Hid (Wd2 V w.heap.size (.slice a1 q.stem.length c1) (.slice a2 q.loop.length c2)) := by show Wd2 _ _ _ _; rw [← hV]; exact heap_alloc_new w _
    have HKV : Hid (Kept [] w V) := by show Kept [] w V; rw [← hV]; exact (Kept.refl [] w).alloc _
    have HV : Hid _ := hV
    clear hs hl hT hV hzt hzm
    generalize q.stem.length = ns at *
    generalize q.loop.length = nl at *
    by_cases h0 : nl = 0
    · subst h0
      clear hok
      go_enter Tryd.func5, Tryd.ntmps5
      go_wp2_with (go_at_call 9; rw [HV.out]; refine (HW.out _ HKV.out).mono ?_; rintro e w1 ⟨rfl, hk⟩; have HK1 : Hid (Kept [] w w1) := kept_same HKV.out hk.out; obtain ⟨p0, p1, -, -⟩ := (HB.out.kept hk.out).cells; clear hk)
      go_ret
      exact ⟨rfl, HK1.out⟩
    · have hb2 : ((nl : Int) == 0) = false := by rw [beq_eq_false_iff_ne]; omega
      have hb1 : (3000 : Int) < (ns : Int) + (nl : Int) := by omega
      clear hok
      go_enter Tryd.func5, Tryd.ntmps5
      go_wp2_with (go_at_call 9; rw [HV.out]; refine (HW.out _ HKV.out).mono ?_; rintro e w1 ⟨rfl, hk⟩; have HK1 : Hid (Kept [] w w1) := kept_same HKV.out hk.out; obtain ⟨p0, p1, -, -⟩ := (HB.out.kept hk.out).cells; clear hk)
      go_ret
      exact ⟨rfl, HK1.out⟩
end Go.Proofs.YtnejehlgfckdgaaDoor
