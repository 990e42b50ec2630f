/- WordsBack: Read of Show is the word. -/
import Derived.Test.YtnejehlgfckdgaaDoorWdWorks
import Derived.Test.YtnejehlgfckdgaaDoorWdRefs
namespace Go.Proofs.YtnejehlgfckdgaaDoor
open Go.RowKit Go.Shelf Go.Lib
attribute [local go_sem ↓] Go.wp_at_zero Go.wp_at_succ

theorem readF_nil : readF [] = (none, 0) := by kernel_rfl
theorem showB_nil (s : List Nat) : showB ⟨s, []⟩ = [] := by simp [showB]
theorem read_back (q : Wd) (sb : ByteArray) (hsb : sb.data.toList = showB q) (hs : ∀ x ∈ q.stem, x < 65536) (hl : ∀ x ∈ q.loop, x < 65536) (h0 : q.loop ≠ []) (hlen : q.stem.length + q.loop.length ≤ 10000) (W : World) :
    Calls Tryd.prog 27 #[.string sb] W fun e W' => ∃ a1 c1 a2 c2, e = .returned (.tuple #[.agg #[.slice a1 q.stem.length c1, .slice a2 q.loop.length c2], .int .i64 0, .int .i64 0]) ∧ Hid (IsW W' (.slice a1 q.stem.length c1) (.slice a2 q.loop.length c2) q) ∧ Hid (Kept [] W W') := by
  refine (read_any sb W).mono ?_
  rintro e w1 ⟨a1, n1, c1, a2, n2, c2, rfl, hk, hn⟩
  have e1 : readF sb.data.toList = (some q, 0) := by rw [hsb]; exact read_show q hs hl h0 hlen
  rw [e1] at hn ⊢
  obtain ⟨b1, d1, q1⟩ := own_form hn.own1
  obtain ⟨b2, d2, q2⟩ := own_form hn.own2
  cases q1
  cases q2
  exact ⟨_, _, _, _, rfl, ⟨hn.lets1, hn.lets2, by show q.stem.length + q.loop.length ≤ _; omega⟩, hk⟩
theorem read_empty (W : World) :
    Calls Tryd.prog 27 #[.string ⟨#[]⟩] W fun e W' => ∃ a1 n1 c1 a2 n2 c2, e = .returned (.tuple #[.agg #[.slice a1 n1 c1, .slice a2 n2 c2], .int .i64 51, .int .i64 0]) ∧ Hid (Kept [] W W') := by
  refine (read_any ⟨#[]⟩ W).mono ?_
  rintro e w1 ⟨a1, n1, c1, a2, n2, c2, rfl, hk, hn⟩
  have e1 : readF (⟨#[]⟩ : ByteArray).data.toList = (none, 0) := readF_nil
  rw [e1]
  exact ⟨a1, n1, c1, a2, n2, c2, rfl, hk⟩

set_option maxHeartbeats 2000000 in
theorem wordsBack_walk (sv lv : Value) (q : Wd) (w : World) (hs : Lets w sv q.stem) (hl : Lets w lv q.loop) (hT : PowTab w) :
    Calls Tryd.prog 8 #[.agg #[sv, lv]] w fun e w' => e = .returned (.bool true) ∧ Kept [] w w' := by
  have HW : Hid (∀ W, Kept [] w W → Calls Tryd.prog 9 #[] W fun e w' => e = .returned (.bool true) ∧ Hid (Kept [] W w')) := fun W k => works_any W (hT.kept k)
  have fs := hs.few
  have fl := hl.few
  obtain ⟨a1, c1, e1, _⟩ := hs.form
  obtain ⟨a2, c2, e2, _⟩ := hl.form
  subst e1 e2
  obtain ⟨V, hV⟩ : ∃ V, w.alloc (.cells #[.slice a1 q.stem.length c1, .slice a2 q.loop.length c2] 25) = V := ⟨_, rfl⟩
  have kV : Kept [] w V := by rw [← hV]; exact (Kept.refl [] w).alloc _
  have HB : Hid (Wd2 V w.heap.size (.slice a1 q.stem.length c1) (.slice a2 q.loop.length c2)) := by show Wd2 _ _ _ _; rw [← hV]; exact heap_alloc_new w _
  have HKV : Hid (Kept [] w V) := kV
  have HV : Hid _ := hV
  by_cases hbig : q.stem.length + q.loop.length ≤ 10000
  · have hi : IsW w (.slice a1 q.stem.length c1) (.slice a2 q.loop.length c2) q := ⟨hs, hl, by omega⟩
    obtain ⟨sb, hsb⟩ : ∃ sb : ByteArray, ⟨(showB q).toArray⟩ = sb := ⟨_, rfl⟩
    have HSh : Hid (∀ W, Kept [] w W → Calls Tryd.prog 26 #[.agg #[.slice a1 q.stem.length c1, .slice a2 q.loop.length c2]] W fun e W' => e = .returned (.string sb) ∧ Hid (Kept [] W W')) := fun W k => by
      rw [← hsb]
      exact show_any _ _ q W (hi.kept k) (by omega) (hT.kept k)
    have hb1 : ¬ ((10000 : Int) < (q.stem.length : Int) + (q.loop.length : Int)) := by omega
    by_cases h0 : q.loop.length = 0
    · obtain ⟨s, l⟩ := q
      obtain rfl : l = [] := List.length_eq_zero_iff.1 h0
      rw [showB_nil] at hsb
      obtain rfl : sb = ⟨#[]⟩ := hsb.symm
      clear hs hl hi hT hV kV h0 hsb
      simp only [List.length_nil] at *
      go_enter Tryd.func8, Tryd.ntmps8
      go_wp2_with (first
        | (go_at_call 9; rw [HV.out]; refine (HW.out _ HKV.out).mono ?_; rintro e w1 ⟨rfl, hk⟩; have HK1 : Hid (Kept [] w w1) := kept_same HKV.out hk.out; obtain ⟨p0, p1, -, -⟩ := (HB.out.kept hk.out).cells; have HB1 : Hid (Wd2 w1 w.heap.size _ _) := HB.out.kept hk.out; clear hk)
        | (go_at_call 26; refine (HSh.out _ HK1.out).mono ?_; rintro e w2 ⟨rfl, hk⟩; have HK2 : Hid (Kept [] w w2) := kept_same HK1.out hk.out; have HB2 : Hid (Wd2 w2 w.heap.size _ _) := HB1.out.kept hk.out; clear hk)
        | (go_at_call 27; refine (read_empty _).mono ?_; rintro e w3 ⟨b1, n1, d1, b2, n2, d2, rfl, hk⟩; have HK3 : Hid (Kept [] w w3) := kept_same HK2.out hk.out; obtain ⟨r0, r1, -, -⟩ := (HB2.out.kept (kept_same hk.out ((Kept.refl [] w3).alloc (.cells #[.slice b1 n1 d1, .slice b2 n2 d2] 25)))).cells; clear hk))
      go_ret
      exact ⟨rfl, HK3.out.alloc _⟩
    · have hb2 : ((q.loop.length : Int) == 0) = false := by rw [beq_eq_false_iff_ne]; omega
      have hb3 : ¬ ((q.loop.length : Int) = 0) := by omega
      have HRd : Hid (∀ W, Calls Tryd.prog 27 #[.string sb] W fun e W' => ∃ a1 c1 a2 c2, e = .returned (.tuple #[.agg #[.slice a1 q.stem.length c1, .slice a2 q.loop.length c2], .int .i64 0, .int .i64 0]) ∧ Hid (IsW W' (.slice a1 q.stem.length c1) (.slice a2 q.loop.length c2) q) ∧ Hid (Kept [] W W')) := fun W => read_back q sb (by rw [← hsb]) hs.small hl.small (fun e => h0 (by rw [e]; rfl)) hbig W
      have HSW : Hid (∀ b1 d1 b2 d2 W W', IsW W (.slice b1 q.stem.length d1) (.slice b2 q.loop.length d2) q → Kept [] w W → Kept [] W W' → Calls Tryd.prog 17 #[.agg #[.slice b1 q.stem.length d1, .slice b2 q.loop.length d2], .agg #[.slice a1 q.stem.length c1, .slice a2 q.loop.length c2]] W' fun e w1 => e = .returned (.bool true) ∧ Hid (Kept [] W' w1)) := fun b1 d1 b2 d2 W W' h k k' => by
        have := sameWord_any _ _ _ _ q q W' (h.kept k').st (h.kept k').lp (hs.kept (kept_same k k')) (hl.kept (kept_same k k'))
        rw [eqW_iff.2 rfl] at this
        exact this
      generalize q.stem.length = ns at *
      generalize q.loop.length = nl at *
      clear hs hl hi hT hV kV h0 hsb hbig
      go_enter Tryd.func8, Tryd.ntmps8
      go_wp2_with (first
        | (go_at_call 9; rw [HV.out]; refine (HW.out _ HKV.out).mono ?_; rintro e w1 ⟨rfl, hk⟩; have HK1 : Hid (Kept [] w w1) := kept_same HKV.out hk.out; obtain ⟨p0, p1, -, -⟩ := (HB.out.kept hk.out).cells; have HB1 : Hid (Wd2 w1 w.heap.size _ _) := HB.out.kept hk.out; clear hk)
        | (go_at_call 26; refine (HSh.out _ HK1.out).mono ?_; rintro e w2 ⟨rfl, hk⟩; have HK2 : Hid (Kept [] w w2) := kept_same HK1.out hk.out; have HB2 : Hid (Wd2 w2 w.heap.size _ _) := HB1.out.kept hk.out; clear hk)
        | (go_at_call 27; refine (HRd.out _).mono ?_; rintro e w3 ⟨b1, d1, b2, d2, rfl, HI3, hk⟩; have HK3 : Hid (Kept [] w w3) := kept_same HK2.out hk.out; obtain ⟨r0, r1, -, -⟩ := (HB2.out.kept (kept_same hk.out ((Kept.refl [] w3).alloc (.cells #[.slice b1 ns d1, .slice b2 nl d2] 25)))).cells; clear hk)
        | (go_at_call 17; refine (HSW.out _ _ _ _ _ _ HI3.out HK3.out ((Kept.refl [] _).alloc _)).mono ?_; rintro e w4 ⟨rfl, hk⟩; have HK4 : Hid (Kept [] w w4) := kept_same (HK3.out.alloc _) hk.out; clear hk))
      go_ret
      exact ⟨rfl, HK4.out⟩
  · have hb1 : (10000 : Int) < (q.stem.length : Int) + (q.loop.length : Int) := by omega
    clear hs hl hT hV kV hbig
    go_enter Tryd.func8, Tryd.ntmps8
    go_wp2_with (go_at_call 9; rw [HV.out]; refine (HW.out _ HKV.out).mono ?_; rintro e w1 ⟨rfl, hk⟩; have HK1 : Hid (Kept [] w w1) := kept_same HKV.out hk.out; obtain ⟨p0, p1, -, -⟩ := (HB.out.kept hk.out).cells; clear hk)
    go_ret
    exact ⟨rfl, HK1.out⟩
end Go.Proofs.YtnejehlgfckdgaaDoor
