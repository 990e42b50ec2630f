/- The law's own function 'known': the chapter's examples. -/
import Derived.Test.YtjfhfdpbdjeedaaDoorOf
import Derived.Test.YtjfhfdpbdjeedaaDoorPush
import Derived.Test.YtjfhfdpbdjeedaaDoorIntern
namespace Go.Proofs.YtjfhfdpbdjeedaaDoor
open Go.RowKit

theorem ofW_known : ofW 10 [3, 7, 3, 12] = [136] := by decide +kernel
theorem good_known : Good 10 [136] := by rw [← ofW_known]; exact Good.ofW (by omega) _
theorem lenW_known : lenW [136] = 2 := by decide +kernel
theorem keyW_known : keyW 10 [136] = [136, 0] := by decide +kernel
theorem least_unique {ws : List Nat} {i : Nat} {r r' : Int} (h : Least ws i r) (h' : Least ws i r') : r = r' := by
  rcases h with ⟨rfl, h⟩ | ⟨j, rfl, h1, h2, h3⟩ <;> rcases h' with ⟨rfl, h'⟩ | ⟨j', rfl, h1', h2', h3'⟩
  · rfl
  · rw [h j' h1'] at h2'; cases h2'
  · rw [h' j h1] at h2; cases h2
  · rcases Nat.lt_trichotomy j j' with hl | hl | hl
    · rw [h3' j h1 hl] at h2; cases h2
    · rw [hl]
    · rw [h3 j' h1' hl] at h2'; cases h2'
theorem least_known : Least [136] (afterAt 3) 7 := by
  refine Or.inr ⟨7, rfl, by decide, by decide, fun k h1 h2 => ?_⟩
  have h1' : 4 ≤ k := h1
  have : k = 4 ∨ k = 5 ∨ k = 6 := by omega
  rcases this with rfl | rfl | rfl <;> decide

set_option maxHeartbeats 3200000 in
theorem known_any (w : World) (hT : Tab w) :
    Calls Tryd.prog 7 #[] w fun e w' => e = .returned (.bool true) ∧ Kept [] w w' := by
  have hp0 := hT.1
  have HT : Hid (Tab w) := hT
  clear hT
  go_enter Tryd.func7, Tryd.ntmps7
  go_wp2_with fail
  refine (of_in 10 w.heap.size 0 4 [3, 7, 3, 12] _ (by omega) (by decide) (by simp) (fun i h => by
    rw [cell_of (heap_alloc_new w _)]
    have : i = 0 ∨ i = 1 ∨ i = 2 ∨ i = 3 := by simp at h; omega
    rcases this with rfl | rfl | rfl | rfl <;> rfl)).mono ?_
  rintro e w2 ⟨b, g, c, rfl, hs, hb, hg, hk⟩
  rw [ofW_known] at hs
  have k2 : Kept [] w w2 := ((Kept.refl [] w).alloc _).trans (F := []) (G := []) (H := []) hk (by simp) (by simp)
  have HS : Hid (IsSet w2 b g c 10 [136]) := hs
  have lb : w.heap.size < b := by simp at hb; omega
  have lg : w.heap.size < g := by simp at hg; omega
  clear hk hs hb hg
  go_wp2_with fail
  refine (newTable_any 10 _ (by omega)).mono ?_
  rintro e w3 ⟨tb, mb, rfl, ht, ltb, lmb, hk⟩
  have HTb : Hid (IsTable w3 w2.heap.size tb mb 10 (.slice none 0 0) []) := ht
  have HS3 : Hid (IsSet w3 b g c 10 [136]) := HS.out.kept hk (by simp) (by simp)
  have k3 : Kept [] w w3 := k2.trans (F := []) (G := []) (H := []) hk (by simp) (by simp)
  have z2 := k2.size
  have blt := HS.out.ltb
  have glt := HS.out.ltg
  clear ht hk HS
  go_wp2_with fail
  refine (newWork_in 3 _ (by omega)).mono ?_
  rintro e w4 ⟨wb, sb, sg, sc, r, rfl, hw, lwb, lsb, lsg, lr, hk⟩
  have HW : Hid (IsWork w4 wb sb sg sc r 3 [0] [0, 0, 0] 0 0) := hw
  have HTb4 : Hid (IsTable w4 w2.heap.size tb mb 10 (.slice none 0 0) []) := HTb.out.quiet hk
  have HS4 : Hid (IsSet w4 b g c 10 [136]) := HS3.out.kept hk (by simp) (by simp)
  have k4 : Kept [] w w4 := k3.trans (F := []) (G := []) (H := []) hk (by simp) (by simp)
  have tblt : tb < w3.heap.size := lt_of HTb.out.head
  have mblt : mb < w3.heap.size := by obtain ⟨a, d, h⟩ := HTb.out.map.map; exact lt_of h
  clear hw hk HTb HS3 k2 k3
  go_wp2_with fail
  refine (len_any b g c 10 [136] _ HS4.out good_known).mono ?_
  rintro e w' ⟨rfl, rfl⟩
  rw [lenW_known]
  go_wp2_with fail
  refine (after_any b g c 10 [136] 3 _ HS4.out good_known (HT.out.kept k4 (by simp))).mono ?_
  rintro e w5 ⟨rr, rfl, hl, hq⟩
  obtain rfl := least_unique hl least_known
  have HW5 : Hid (IsWork w5 wb sb sg sc r 3 [0] [0, 0, 0] 0 0) := HW.out.quiet hq.kept
  have HTb5 : Hid (IsTable w5 w2.heap.size tb mb 10 (.slice none 0 0) []) := HTb4.out.quiet hq.kept
  have HS5 : Hid (IsSet w5 b g c 10 [136]) := HS4.out.kept hq.kept (by simp) (by simp)
  have k5 : Kept [] w w5 := k4.trans (F := []) (G := []) (H := []) hq.kept (by simp) (by simp)
  have z45 := hq.kept.size
  clear hl hq HTb4 HS4 HW k4
  go_wp2_with fail
  refine (key_any b g c 10 [136] _ HS5.out good_known).mono ?_
  rintro e w6 ⟨rfl, hk⟩
  rw [keyW_known]
  have HW6 : Hid (IsWork w6 wb sb sg sc r 3 [0] [0, 0, 0] 0 0) := HW5.out.quiet hk
  have HTb6 : Hid (IsTable w6 w2.heap.size tb mb 10 (.slice none 0 0) []) := HTb5.out.quiet hk
  have HS6 : Hid (IsSet w6 b g c 10 [136]) := HS5.out.kept hk (by simp) (by simp)
  have k6 : Kept [] w w6 := k5.trans (F := []) (G := []) (H := []) hk (by simp) (by simp)
  have z56 := hk.size
  clear hk HTb5 HS5 HW5 k5
  go_wp2_with fail
  refine (intern_new w2.heap.size tb mb 10 b g c (.slice none 0 0) [] [136] _ HTb6.out HS6.out good_known (by simp) (by simp)).mono ?_
  rintro e w7 ⟨rfl, v', en, hen, ht, _, _, _, hk⟩
  have hF : ∀ x, x ∈ tabF tb mb (.slice none 0 0) → x = tb ∨ x = mb := fun x hx => by simpa [tabF, Value.ownBlock] using hx
  have HW7 : Hid (IsWork w7 wb sb sg sc r 3 [0] [0, 0, 0] 0 0) := HW6.out.kept hk (fun h => by have := hF _ h; omega) (fun h => by have := hF _ h; omega) (fun h => by have := hF _ h; omega) (fun h => by have := hF _ h; omega)
  have HTb7 : Hid (IsTable w7 w2.heap.size tb mb 10 v' [en]) := ht
  have HS7 : Hid (IsSet w7 b g c 10 [136]) := HS6.out.kept hk (fun h => by have := hF _ h; omega) (fun h => by have := hF _ h; omega)
  have k7 : Kept [] w w7 := k6.trans (F := []) (H := []) hk (by simp) (fun x hx => by right; have := hF _ hx; omega)
  have HEN : Hid (en.ws = [136]) := hen
  clear hk hF ht hen HTb6 HS6 HW6 k6
  go_wp2_with fail
  refine (intern_old w2.heap.size tb mb 10 b g c v' [en] [136] _ HTb7.out HS7.out good_known (by simp [HEN.out])).mono ?_
  rintro e w8 ⟨rfl, hk⟩
  have hix : (List.map (fun e => keyW 10 e.ws) [en]).idxOf (keyW 10 [136]) = 0 := by simp [HEN.out]
  rw [hix]
  have HW8 : Hid (IsWork w8 wb sb sg sc r 3 [0] [0, 0, 0] 0 0) := HW7.out.quiet hk
  have k8 : Kept [] w w8 := k7.trans (F := []) (G := []) (H := []) hk (by simp) (by simp)
  clear hk hix HTb7 HS7 HW7 k7 HEN
  go_wp2_with fail
  refine (push_new wb sb sg sc r 3 [0] [0, 0, 0] 0 0 2 _ HW8.out (Good.zero (n := 3) (by omega)) (by omega) (by decide) (by omega) (by omega)).mono ?_
  rintro e w9 ⟨rfl, hw, hk⟩
  have HW9 : Hid (IsWork w9 wb sb sg sc r 3 [4] [2, 0, 0] 0 1) := hw
  have hzz : w.heap.size ≤ w3.heap.size := by omega
  have k9 : Kept [] w w9 := k8.trans (F := []) (H := []) hk (by simp) (fun x hx => by right; simp at hx; omega)
  clear hw hk HW8 k8
  go_wp2_with fail
  refine (push_new wb sb sg sc r 3 [4] [2, 0, 0] 0 1 0 _ HW9.out ((Good.zero (n := 3) (by omega)).putW (i := 2) (by omega)) (by omega) (by decide) (by omega) (by omega)).mono ?_
  rintro e w10 ⟨rfl, hw, hk⟩
  have HW10 : Hid (IsWork w10 wb sb sg sc r 3 [5] [2, 0, 0] 0 2) := hw
  have k10 : Kept [] w w10 := k9.trans (F := []) (H := []) hk (by simp) (fun x hx => by right; simp at hx; omega)
  clear hw hk HW9 k9
  go_wp2_with fail
  refine (push_old wb sb sg sc r 3 [5] [2, 0, 0] 0 2 2 _ HW10.out (((Good.zero (n := 3) (by omega)).putW (i := 2) (by omega)).putW (i := 0) (by omega)) (by omega) (by decide)).mono ?_
  rintro e w11 ⟨rfl, hq⟩
  have HW11 : Hid (IsWork w11 wb sb sg sc r 3 [5] [2, 0, 0] 0 2) := HW10.out.quiet hq.kept
  have k11 : Kept [] w w11 := k10.trans (F := []) (G := []) (H := []) hq.kept (by simp) (by simp)
  clear hq HW10 k10
  go_wp2_with fail
  refine (workLen_any wb sb sg sc r 3 [5] [2, 0, 0] 0 2 _ HW11.out).mono ?_
  rintro e w12 ⟨rfl, rfl⟩
  go_wp2
  go_ret
  exact ⟨rfl, k11⟩
end Go.Proofs.YtjfhfdpbdjeedaaDoor
