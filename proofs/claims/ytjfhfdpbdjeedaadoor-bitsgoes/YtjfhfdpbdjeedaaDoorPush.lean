/- Work.Push, Len. -/
import Derived.Test.YtjfhfdpbdjeedaaDoorWork
import Derived.Test.YtjfhfdpbdjeedaaDoorReads
import Derived.Test.YtjfhfdpbdjeedaaDoorTabBase
namespace Go.Proofs.YtjfhfdpbdjeedaaDoor
open Go.RowKit
attribute [local go_sem ↓] Go.wp_at_zero Go.wp_at_succ

theorem IsWork.kept {w w' : World} {F : List Nat} {b sb sg sc r n : Nat} {ws : List Nat} {ring : List Int} {hd ct : Nat} (h : IsWork w b sb sg sc r n ws ring hd ct) (k : Kept F w w')
    (h1 : b ∉ F) (h2 : sb ∉ F) (h3 : sg ∉ F) (h4 : r ∉ F) : IsWork w' b sb sg sc r n ws ring hd ct :=
  ⟨k.at h.head h1, h.set.kept k h2 h3, k.at h.row h4, h.len⟩
theorem IsWork.quiet {w w' : World} {b sb sg sc r n : Nat} {ws : List Nat} {ring : List Int} {hd ct : Nat} (h : IsWork w b sb sg sc r n ws ring hd ct) (k : Kept [] w w') : IsWork w' b sb sg sc r n ws ring hd ct :=
  h.kept k (by simp) (by simp) (by simp) (by simp)
theorem IsWork.c0 {w : World} {b sb sg sc r n : Nat} {ws : List Nat} {ring : List Int} {hd ct : Nat} (h : IsWork w b sb sg sc r n ws ring hd ct) : w.cell? ⟨b, 0, none⟩ = some (.pointer (some ⟨sb, 0, none⟩)) := by rw [cell_of h.head]; rfl
theorem IsWork.c1 {w : World} {b sb sg sc r n : Nat} {ws : List Nat} {ring : List Int} {hd ct : Nat} (h : IsWork w b sb sg sc r n ws ring hd ct) : w.cell? ⟨b, 1, none⟩ = some (.slice (some ⟨r, 0, none⟩) n n) := by rw [cell_of h.head]; rfl
theorem IsWork.c2 {w : World} {b sb sg sc r n : Nat} {ws : List Nat} {ring : List Int} {hd ct : Nat} (h : IsWork w b sb sg sc r n ws ring hd ct) : w.cell? ⟨b, 2, none⟩ = some (.int .i64 hd) := by rw [cell_of h.head]; rfl
theorem IsWork.c3 {w : World} {b sb sg sc r n : Nat} {ws : List Nat} {ring : List Int} {hd ct : Nat} (h : IsWork w b sb sg sc r n ws ring hd ct) : w.cell? ⟨b, 3, none⟩ = some (.int .i64 ct) := by rw [cell_of h.head]; rfl

set_option maxHeartbeats 400000 in
theorem workLen_any (b sb sg sc r n : Nat) (ws : List Nat) (ring : List Int) (hd ct : Nat) (w : World) (h : IsWork w b sb sg sc r n ws ring hd ct) :
    Calls Tryd.prog 31 #[.pointer (some ⟨b, 0, none⟩)] w fun e w' => e = .returned (.int .i64 ct) ∧ w' = w := by
  have c3 := h.c3
  clear h
  go_enter Tryd.func31, Tryd.ntmps31
  go_wp2
  go_ret
  exact ⟨rfl, rfl⟩

set_option maxHeartbeats 800000 in
theorem push_out (b sb sg sc r n : Nat) (ws : List Nat) (ring : List Int) (hd ct : Nat) (i : Int) (w : World) (h : IsWork w b sb sg sc r n ws ring hd ct) (hi : i < 0 ∨ (n : Int) ≤ i) :
    Calls Tryd.prog 30 #[.pointer (some ⟨b, 0, none⟩), .int .i64 i] w fun e w' => e = .returned (.bool false) ∧ Quiet w w' := by
  have c0 := h.c0
  go_enter Tryd.func30, Tryd.ntmps30
  go_wp2_with fail
  refine (inside_no sb sg sc n ws i _ h.set hi).mono ?_
  rintro e w' ⟨rfl, rfl⟩
  go_wp2
  go_ret
  exact ⟨rfl, Quiet.refl _⟩

set_option maxHeartbeats 800000 in
theorem push_old (b sb sg sc r n : Nat) (ws : List Nat) (ring : List Int) (hd ct : Nat) (i : Nat) (w : World) (h : IsWork w b sb sg sc r n ws ring hd ct) (hG : Good n ws) (hi : i < n) (hm : mem ws i = true) :
    Calls Tryd.prog 30 #[.pointer (some ⟨b, 0, none⟩), .int .i64 i] w fun e w' => e = .returned (.bool false) ∧ Quiet w w' := by
  have c0 := h.c0
  have HM : Hid (mem ws i = true) := hm
  clear hm
  go_enter Tryd.func30, Tryd.ntmps30
  go_wp2_with fail
  refine (inside_yes sb sg sc n ws i _ h.set hi).mono ?_
  rintro e w' ⟨rfl, rfl⟩
  go_wp2_with fail
  refine (has_in sb sg sc n ws i _ h.set hG hi).mono ?_
  rintro e w1 ⟨rfl, hq⟩
  rw [HM.out]
  go_wp2
  go_ret
  exact ⟨rfl, hq⟩

theorem IsWork.ne {w : World} {b sb sg sc r n : Nat} {ws : List Nat} {ring : List Int} {hd ct : Nat} (h : IsWork w b sb sg sc r n ws ring hd ct) : b ≠ sb ∧ b ≠ sg ∧ b ≠ r ∧ sb ≠ sg ∧ sb ≠ r ∧ sg ≠ r := by
  obtain ⟨cur, hc, _⟩ := h.set.row
  exact ⟨ne_of_obj h.head h.set.head (by simp), ne_of_obj h.head hc (by simp), ne_of_obj h.head h.row (by simp), ne_of_obj h.set.head hc (by simp), ne_of_obj h.set.head h.row (by simp), ne_of_obj hc h.row (by simp)⟩

theorem push_rem (hd ct n : Nat) (hn : 0 < n) (ha : hd ≤ 100000) (hb : ct ≤ 100000) : ∃ k : Nat, k = (hd + ct) % n ∧ k < n ∧ ((hd : Int) + (ct : Int)).tmod (n : Int) = (k : Int) ∧ ((hd : Int) + (ct : Int)) % (n : Int) = (k : Int) ∧ IntKind.i64.wrap (k : Int) = (k : Int) ∧ IntKind.i64.wrap ((hd : Int) + (ct : Int)) = (hd : Int) + (ct : Int) := by
  have hk : (hd + ct) % n ≤ hd + ct := Nat.mod_le _ n
  have e : ((hd : Int) + (ct : Int)) % (n : Int) = (((hd + ct) % n : Nat) : Int) := by simp
  refine ⟨(hd + ct) % n, rfl, Nat.mod_lt _ hn, ?_, e, ?_, ?_⟩
  · rw [Int.tmod_eq_emod_of_nonneg (by omega)]; exact e
  · generalize (hd + ct) % n = k at hk
    simp only [IntKind.wrap, IntKind.bits, IntKind.signed]; simp; omega
  · simp only [IntKind.wrap, IntKind.bits, IntKind.signed]; simp; omega

theorem cell_far {w : World} {b r k j : Nat} {u v : Value} (hne : b ≠ r) (h : w.cell? ⟨b, j, none⟩ = some v) : (w.setCell ⟨r, k, none⟩ u).cell? ⟨b, j, none⟩ = some v := by
  rw [World.cell?_of_block (w := w) (a := ⟨b, j, none⟩) (Below.heap_setCell w ⟨r, k, none⟩ u b hne)]; exact h

/-- Numbers that wait, behind a push: outside the walk. -/
theorem push_end {w2 : World} {b sb sg sc r n : Nat} {ws : List Nat} {ring : List Int} {hd ct k : Nat} {i : Int}
    (hh : w2.heap[b]? = some (.cells #[.pointer (some ⟨sb, 0, none⟩), .slice (some ⟨r, 0, none⟩) n n, .int .i64 hd, .int .i64 ct] 74 (0, 0)))
    (hr : w2.heap[r]? = some (.cells (ring.map (Value.int .i64)).toArray 3 (0, 0))) (hl : ring.length = n) (hs : IsSet w2 sb sg sc n ws) (hne : b ≠ r ∧ b ≠ sb ∧ b ≠ sg ∧ sb ≠ r ∧ sg ≠ r) (ct' : Nat) :
    IsWork ((w2.setCell ⟨r, k, none⟩ (.int .i64 i)).setCell ⟨b, 3, none⟩ (.int .i64 (ct' : Nat))) b sb sg sc r n ws (ring.set k i) hd ct' ∧
      Kept [b, r] w2 ((w2.setCell ⟨r, k, none⟩ (.int .i64 i)).setCell ⟨b, 3, none⟩ (.int .i64 (ct' : Nat))) := by
  obtain ⟨n1, n2, n3, n4, n5⟩ := hne
  have k0 : Kept [b, r] w2 ((w2.setCell ⟨r, k, none⟩ (.int .i64 i)).setCell ⟨b, 3, none⟩ (.int .i64 (ct' : Nat))) := ((Kept.refl _ w2).setCell (by simp) _).setCell (by simp) _
  refine ⟨⟨?_, hs.kept k0 (by simp; exact ⟨n2.symm, n4⟩) (by simp; exact ⟨n3.symm, n5⟩), ?_, by simpa using hl⟩, k0⟩
  · rw [World.setCell, Array.getElem?_modify]
    simp only [if_true]
    rw [Below.heap_setCell _ _ _ _ (by simpa using n1), hh]
    simp
  · rw [Below.heap_setCell _ _ _ _ (by simpa using n1.symm)]
    rw [World.setCell, Array.getElem?_modify]
    simp only [if_true]
    rw [hr]
    simp [List.map_set]

set_option maxHeartbeats 1600000 in
theorem push_new (b sb sg sc r n : Nat) (ws : List Nat) (ring : List Int) (hd ct : Nat) (i : Nat) (w : World) (h : IsWork w b sb sg sc r n ws ring hd ct) (hG : Good n ws) (hi : i < n) (hm : mem ws i = false) (hb1 : hd ≤ 100000) (hb2 : ct ≤ 100000) :
    Calls Tryd.prog 30 #[.pointer (some ⟨b, 0, none⟩), .int .i64 i] w fun e w' => e = .returned (.bool true) ∧ IsWork w' b sb sg sc r n (putW ws i) (ring.set ((hd + ct) % n) i) hd (ct + 1) ∧ Kept [b, sg, r] w w' := by
  have c0 := h.c0
  have HM : Hid (mem ws i = false) := hm
  clear hm
  have hn := hG.top
  obtain ⟨n1, n2, n3, n4, n5, n6⟩ := h.ne
  go_enter Tryd.func30, Tryd.ntmps30
  go_wp2_with fail
  refine (inside_yes sb sg sc n ws i _ h.set hi).mono ?_
  rintro e w' ⟨rfl, rfl⟩
  go_wp2_with fail
  refine (has_in sb sg sc n ws i _ h.set hG hi).mono ?_
  rintro e w1 ⟨rfl, hq⟩
  rw [HM.out]
  have h1 := h.quiet hq.kept
  have c0' := h1.c0
  have HQ : Hid (Kept [] w' w1) := hq.kept
  clear hq c0 h
  go_wp2_with fail
  refine (put_in sb sg sc n ws i _ h1.set hG hi).mono ?_
  rintro e w2 ⟨rfl, hs2, hk2⟩
  have hh2 := hk2.at h1.head (by simpa using n2)
  have hr2 := hk2.at h1.row (by simpa using n6.symm)
  have d1 : w2.cell? ⟨b, 1, none⟩ = some (.slice (some ⟨r, 0, none⟩) n n) := by rw [cell_of hh2]; rfl
  have d2 : w2.cell? ⟨b, 2, none⟩ = some (.int .i64 hd) := by rw [cell_of hh2]; rfl
  have d3 : w2.cell? ⟨b, 3, none⟩ = some (.int .i64 ct) := by rw [cell_of hh2]; rfl
  have e3 : w2.frozen? ⟨b, 3, none⟩ = false := free_of hh2 3
  obtain ⟨k, hk, hkn, p1, p2, p3, p4⟩ := push_rem hd ct n (by omega) hb1 hb2
  have er : w2.frozen? ⟨r, k, none⟩ = false := free_of hr2 k
  have dr : ∃ u, w2.cell? ⟨r, k, none⟩ = some (.int .i64 u) := by
    have hl := h1.len
    rw [cell_of hr2]
    refine ⟨ring[k]'(by omega), ?_⟩
    simp
  obtain ⟨u, dr⟩ := dr
  have HK : Hid (k = (hd + ct) % n) := hk
  have HE := @push_end w2 b sb sg sc r n (putW ws i) ring hd ct k i hh2 hr2 h1.len hs2 ⟨n3, n1, n2, n5, n6⟩ (ct + 1)
  have HE' : Hid _ := HE
  have HK2 : Hid (Kept [sg] w1 w2) := hk2
  have nz : ¬ n = 0 := by omega
  have b0 : (0 : Int) ≤ (k : Int) := by omega
  have b1 : (k : Int) < (n : Int) := by omega
  have s1 : ∀ v, (w2.setCell ⟨r, k, none⟩ v).cell? ⟨b, 1, none⟩ = some (.slice (some ⟨r, 0, none⟩) n n) := fun v => cell_far n3 d1
  have s2 : ∀ v, (w2.setCell ⟨r, k, none⟩ v).cell? ⟨b, 2, none⟩ = some (.int .i64 hd) := fun v => cell_far n3 d2
  have s3 : ∀ v, (w2.setCell ⟨r, k, none⟩ v).cell? ⟨b, 3, none⟩ = some (.int .i64 ct) := fun v => cell_far n3 d3
  have s4 : ∀ v, (w2.setCell ⟨r, k, none⟩ v).frozen? ⟨b, 3, none⟩ = false := fun v => by rw [World.frozen?_of_block (w := w2) (a := ⟨b, 3, none⟩) (Below.heap_setCell w2 ⟨r, k, none⟩ v b n3)]; exact e3
  clear HE hk hk2 hs2 hh2 hr2 h1 c0' hG HM
  go_wp2_with fail
  go_region_held3 (fun w' => w'.cell? ⟨b, 1, none⟩ = some (.slice (some ⟨r, 0, none⟩) n n) ∧ w'.cell? ⟨b, 2, none⟩ = some (.int .i64 hd) ∧ w'.cell? ⟨b, 3, none⟩ = some (.int .i64 ct)) (go_keep) (fail)
  go_wp2
  go_ret
  obtain ⟨E1, E2⟩ := HE'.out
  rw [← HK.out]
  exact ⟨rfl, E1.quiet (Kept.refl [] _).drew, ((HQ.out.trans (H := [b, sg, r]) HK2.out (by simp) (fun x hx => by left; simp at hx; simp [hx])).trans (H := [b, sg, r]) E2 (fun x hx => hx) (fun x hx => by left; simp at hx; rcases hx with h | h <;> simp [h])).drew⟩
end Go.Proofs.YtjfhfdpbdjeedaaDoor
