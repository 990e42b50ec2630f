/- words.turned; words.Normal. -/
import Derived.Test.YtepooofiadlceaaDoorWdCat
namespace Go.Proofs.YtepooofiadlceaaDoor
open Go.RowKit
attribute [local go_sem ↓] Go.wp_at_zero Go.wp_at_succ

theorem lets_form {W : World} {b o n c : Nat} {xs : List Nat} (h : Lets W (.slice (some ⟨b, o, none⟩) n c) xs) : n = xs.length ∧ xs.length ≤ c ∧ c ≤ 9223372036854775807 := by
  obtain ⟨_, _, e, h1, h2⟩ := h.form
  cases e
  unfold maxLen at h2
  exact ⟨rfl, h1, by omega⟩
set_option maxHeartbeats 1000000 in
theorem turned_any (b o c n : Nat) (xs : List Nat) (w : World) (hx : Lets w (.slice (some ⟨b, o, none⟩) xs.length c) xs) (hn : n ≤ xs.length) :
    Calls Tryd.prog 44 #[.slice (some ⟨b, o, none⟩) xs.length c, .int .i64 n] w fun e w' => ∃ v', e = .returned v' ∧ w'.ownsRow (w.heap.size + 1) 23 1 v' (rot xs n).length (u16s (rot xs n)) ∧ Kept [] w w' := by
  have hf := hx.few
  obtain ⟨_, hc1, hc2⟩ := lets_form hx
  have b1 : (0 : Int) ≤ (n : Int) := by omega
  have b2 : (n : Int) ≤ (xs.length : Int) := by omega
  have b3 : (xs.length : Int) ≤ (c : Int) := by omega
  have b4 : (n : Int) ≤ (c : Int) := by omega
  obtain ⟨ad, had⟩ : ∃ ad : Option Addr, (if c = n then some ⟨b, o, none⟩ else some ⟨b, o + n, none⟩) = ad := ⟨_, rfl⟩
  have HC : Hid (Calls Tryd.prog 57 #[.slice (some ⟨w.heap.size, 0, none⟩) 2 2] (w.alloc (.cells #[.slice ad (xs.length - n) (c - n), .slice (some ⟨b, o, none⟩) n c] 24)).drew fun e w' => ∃ v', e = .returned v' ∧ w'.ownsRow (w.heap.size + 1) 23 1 v' (rot xs n).length (u16s (rot xs n)) ∧ Kept [] w w') := by
    have kq := ((Kept.refl [] w).alloc (.cells #[.slice ad (xs.length - n) (c - n), .slice (some ⟨b, o, none⟩) n c] 24)).drew
    have hq := hx.kept kq
    have h1 := hq.dropI n hn
    have h2 := hq.take n hn
    rw [had] at h1
    have hg : Two (w.alloc (.cells #[.slice ad (xs.length - n) (c - n), .slice (some ⟨b, o, none⟩) n c] 24)).drew w.heap.size (.slice ad (xs.length - n) (c - n)) (.slice (some ⟨b, o, none⟩) n c) := heap_alloc_new w _
    have e : (w.alloc (.cells #[.slice ad (xs.length - n) (c - n), .slice (some ⟨b, o, none⟩) n c] 24)).drew.heap.size = w.heap.size + 1 := World.size_alloc _ _
    refine (concat_any w.heap.size _ _ _ _ _ hg h1 h2 (by rw [List.length_drop, List.length_take]; omega)).mono ?_
    rintro e w' ⟨v', rfl, ho, hk⟩
    refine ⟨v', rfl, ?_, kq.trans hk (by simp) (by simp)⟩
    rw [e] at ho
    exact ho
  clear hx hf
  go_enter Tryd.func44, Tryd.ntmps44
  go_wp2_with fail
  go_region_with (go_at_call 57; refine HC.out.mono ?_; rintro e w1 ⟨v', rfl, ho, hk⟩)
  go_wp2
  go_ret
  exact ⟨v', rfl, ho, hk⟩
end Go.Proofs.YtepooofiadlceaaDoor
