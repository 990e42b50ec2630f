/- slices.Clone at []uint64, and Set.Copy. -/
import Derived.Test.YtkkhilgcjaigcaaDoorMakeK
import Derived.WalkLawsBesides
namespace Go.Proofs.YtkkhilgcjaigcaaDoor
open Go.RowKit
attribute [local go_sem ↓] Go.wp_at_zero Go.wp_at_succ

/-- The words ws begin block g, of capacity c. -/
def RowAt (w : World) (g c : Nat) (ws : List Nat) : Prop :=
  (∃ cur, w.heap[g]? = some (.cells cur 70 (0, 0)) ∧ cur.size = c ∧ cur.toList.take ws.length = ws.map (fun x => .int .u64 (x : Nat))) ∧ ws.length ≤ c ∧ c ≤ maxLen
theorem IsSet.rowAt {w : World} {b g c n : Nat} {ws : List Nat} (h : IsSet w b g c n ws) : RowAt w g c ws := ⟨h.row, h.lec, h.maxc⟩

theorem rowAt_of_owns {w : World} {base n : Nat} {v : Value} {ws : List Nat} (h : w.ownsRow base 70 1 v n (ws.map fun x => .int .u64 (x : Nat))) (hv : v ≠ .slice none 0 0) :
    ∃ g c, v = .slice (some ⟨g, 0, none⟩) ws.length c ∧ RowAt w g c ws ∧ base ≤ g := by
  obtain ⟨h1, h2 | ⟨g, cap, cur, h2, h3, h4, h5, h6, h7, h8⟩⟩ := h
  · exact absurd h2.1 hv
  · simp at h1
    subst h1
    refine ⟨g, cap, h2, ⟨⟨cur, h4, by simpa using h7, ?_⟩, h5, h6⟩, h3⟩
    simpa using h8

theorem owns_empty (w : World) : (w.alloc (.cells #[] 70)).ownsRow w.heap.size 70 1 (.slice (some ⟨w.heap.size, 0, none⟩) 0 0) 0 [] :=
  ⟨rfl, Or.inr ⟨w.heap.size, 0, #[], rfl, Nat.le_refl _, heap_alloc_new _ _, Nat.le_refl _, by unfold maxLen; omega, rfl, rfl⟩⟩
theorem IsSet.news {w : World} {b g c n : Nat} {ws : List Nat} (hs : IsSet w b g c n ws) : ∀ j u, (ws.map fun x => Value.int .u64 (x : Nat))[j]? = some u → w.cell? ((⟨g, 0, none⟩ : Addr).add j) = some u := by
  intro j u hj
  have hj' : j < ws.length := by
    rcases Nat.lt_or_ge j ws.length with h | h
    · exact h
    · rw [List.getElem?_eq_none (by simpa using h)] at hj; cases hj
  have e : (⟨g, 0, none⟩ : Addr).add j = ⟨g, j, none⟩ := by simp [Addr.add]; exact fun h => h.symm
  rw [e, hs.cw j hj', ← hj]
  simp [hj']
theorem u64_oneCell (ws : List Nat) : ∀ u, u ∈ (ws.map fun x => Value.int .u64 (x : Nat)) → u.oneCell' = true := by
  intro u hu
  obtain ⟨x, _, rfl⟩ := List.mem_map.1 hu
  rfl

set_option maxHeartbeats 800000 in
theorem clone_any (b g c n : Nat) (ws : List Nat) (w : World) (hs : IsSet w b g c n ws) (hG : Good n ws) :
    Calls Tryd.prog 71 #[.slice (some ⟨g, 0, none⟩) ws.length c] w fun e w' => ∃ g' c', e = .returned (.slice (some ⟨g', 0, none⟩) ws.length c') ∧ RowAt w' g' c' ws ∧ w.heap.size ≤ g' ∧ Kept [] w w' := by
  obtain ⟨i0, hi, hz0, hz1, hz2⟩ := info_parts Tryd.infoU64
  have hl : ws.length ≤ 1024 := by have := hG.len; have := hG.top; omega
  have heq : ∀ w, (binOp .eql 66 (.slice (some ⟨g, 0, none⟩) ws.length c) (.slice none 0 0)).run Tryd.prog w = .ok (.bool false) w := fun w => (Lib.run_eql_slice_nil (P := Tryd.prog) w 66 70 (some ⟨g, 0, none⟩) ws.length c 0 0 (by kernel_rfl))
  clear hG
  go_enter Tryd.func71, Tryd.ntmps71
  go_wp2_with (at_builtin; refine wpList_append_own _ rfl (.tmp 5) (.tmp 6) 66 rfl w.heap.size 70 i0 _ 1 8 (by kernel_rfl) hi hz0 hz1 hz2 rfl (by decide) (.slice (some ⟨w.heap.size, 0, none⟩) 0 0) 0 [] rfl (owns_empty w) ⟨g, 0, none⟩ ws.length c (ws.map fun x => .int .u64 (x : Nat)) rfl (by simp) (hs.alloc _).news (u64_oneCell ws) (by unfold maxLen; omega) (by omega) (by simp) ?_; intro v' w1 hown hgrow hnil)
  have hne : v' ≠ .slice none 0 0 := fun h => by rw [hnil] at h; exact absurd h.1 (by simp)
  obtain ⟨g', c', rfl, hrow, hg'⟩ := rowAt_of_owns (by simpa using hown) hne
  have hk : Kept [] w w1 := ((Kept.refl [] w).alloc _).grown hgrow (fun k hk => by simp [Value.ownBlock] at hk; right; omega)
  go_ret
  exact ⟨g', c', rfl, hrow, hg', hk⟩

theorem RowAt.kept {w w' : World} {g c : Nat} {ws F : List Nat} (h : RowAt w g c ws) (k : Kept F w w') (hg : g ∉ F) : RowAt w' g c ws := by
  obtain ⟨⟨cur, h2, h3⟩, h4, h5⟩ := h
  exact ⟨⟨cur, k.at h2 hg, h3⟩, h4, h5⟩
theorem RowAt.lt {w : World} {g c : Nat} {ws : List Nat} (h : RowAt w g c ws) : g < w.heap.size := by obtain ⟨⟨cur, h2, _⟩, _⟩ := h; exact lt_of h2

/-- A struct laid behind words makes a set. -/
theorem box_set {w : World} {g c n : Nat} {ws : List Nat} (h : RowAt w g c ws) : IsSet (w.alloc (.cells #[.int .i64 n, .slice (some ⟨g, 0, none⟩) ws.length c] 68)) w.heap.size g c n ws := by
  have hlt := h.lt
  obtain ⟨h1, h2, h3⟩ := h.kept ((Kept.refl [] w).alloc (.cells #[.int .i64 n, .slice (some ⟨g, 0, none⟩) ws.length c] 68)) (by simp)
  exact ⟨heap_alloc_new _ _, h1, h2, h3, by omega⟩

set_option maxHeartbeats 1600000 in
theorem copy_any (b g c n : Nat) (ws : List Nat) (w : World) (hs : IsSet w b g c n ws) (hG : Good n ws) :
    Calls Tryd.prog 53 #[.pointer (some ⟨b, 0, none⟩)] w (Makes w n ws) := by
  have h0 := hs.c0
  have h1 := hs.c1
  go_enter Tryd.func53, Tryd.ntmps53
  go_wp2_with fail
  go_region_held3 (fun w' => w'.cell? ⟨b, 0, none⟩ = some (.int .i64 n) ∧ w'.cell? ⟨b, 1, none⟩ = some (.slice (some ⟨g, 0, none⟩) ws.length c)) (go_keep)
    (first | (go_at_call 71; refine (clone_any b g c n ws _ hs.drew hG).mono ?_; rintro e w1 ⟨g', c', rfl, hrow, hg', hk⟩; have k0 := (hs.kept (F := []) (Kept.trans (F := []) (G := []) (H := []) (Kept.refl [] w).drew hk (by simp) (by simp)) (by simp) (by simp)).c0; have k1 := (hs.kept (F := []) (Kept.trans (F := []) (G := []) (H := []) (Kept.refl [] w).drew hk (by simp) (by simp)) (by simp) (by simp)).c1))
  go_wp2
  go_ret
  have hz : w.heap.size ≤ w1.heap.size := hk.size
  exact ⟨_, g', c', rfl, box_set hrow, hz, hg', (Kept.trans (F := []) (G := []) (H := []) (Kept.refl [] w).drew hk (by simp) (by simp)).alloc _⟩
end Go.Proofs.YtkkhilgcjaigcaaDoor
