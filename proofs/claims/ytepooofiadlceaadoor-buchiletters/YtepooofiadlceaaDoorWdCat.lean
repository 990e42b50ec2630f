/- append of letters; words.copied; slices.Grow, slices.Concat of two; words.turned. -/
import Derived.Test.YtepooofiadlceaaDoorWdPer
import Derived.Lib.AppendZeros
namespace Go.Proofs.YtepooofiadlceaaDoor
open Go.RowKit
attribute [local go_sem ↓] Go.wp_at_zero Go.wp_at_succ

theorem run_append_lets (w : World) (base : Nat) (v u : Value) (xs ys : List Nat) (hown : w.ownsRow base 23 1 v xs.length (u16s xs)) (hu : Lets w u ys) (hl : xs.length + ys.length ≤ 70368744177664) (hbase : base ≤ w.heap.size) :
    ∃ v' w', (∀ ty, (Builtin.append_ #[24, 24] ty #[v, u]).run Tryd.prog w = .ok v' w') ∧ w'.ownsRow base 23 1 v' (xs ++ ys).length (u16s (xs ++ ys)) ∧ w.grownBy w' v.ownBlock ∧ (v' = .slice none 0 0 ↔ v = .slice none 0 0 ∧ ys = []) ∧ (v'.ownBlock = v.ownBlock ∨ v'.ownBlock = some w.heap.size) := by
  obtain ⟨i0, hi, hz0, hz1, hz2⟩ := info_parts Tryd.infoU16
  rcases hu.lie with ⟨rfl, rfl⟩ | ⟨b, o, c, rfl, h2, h3, h4⟩
  · refine ⟨v, w, fun ty => run_append_owned_none (P := Tryd.prog) (w := w) base 24 ty 23 i0 1 Tryd.underlying24 hi v _ _ hown, by simpa using hown, ⟨rfl, rfl, rfl, Nat.le_refl _, fun _ _ _ => rfl⟩, by simp, .inl rfl⟩
  · obtain ⟨v', w', h5, h6, h7, h8, h9⟩ := run_append_own_at (P := Tryd.prog) w base 24 0 23 i0 _ 1 2 Tryd.underlying24 hi hz0 hz1 hz2 rfl (by decide) v _ _ hown ⟨b, o, none⟩ ys.length c (u16s ys) (by simp [u16s_len]) (lets_news h4) (u16s_one ys) (by unfold maxLen; omega) (by omega) hbase
    exact ⟨v', w', fun _ => h5, by rw [List.length_append, u16s_app]; exact h6, h7, by rw [h8, List.length_eq_zero_iff], h9⟩
theorem own_nil (w : World) (base : Nat) : w.ownsRow base 23 1 (.slice none 0 0) ([] : List Nat).length (u16s []) := ⟨rfl, .inl ⟨rfl, rfl⟩⟩

set_option maxHeartbeats 400000 in
theorem copied_any (v : Value) (xs : List Nat) (w : World) (hx : Lets w v xs) :
    Calls Tryd.prog 43 #[v] w fun e w' => ∃ v', e = .returned v' ∧ w'.ownsRow w.heap.size 23 1 v' xs.length (u16s xs) ∧ Kept [] w w' ∧ (xs = [] → v' = .slice none 0 0) := by
  obtain ⟨v', w', hr, h1, h2, h3, h4⟩ := run_append_lets w w.heap.size (.slice none 0 0) v [] xs (own_nil _ _) hx (by simpa using hx.few) (Nat.le_refl _)
  have hk : Kept [] w w' := (Kept.refl [] w).grown h2 (fun k e => by cases e)
  have HR : Hid _ := hr
  rw [List.nil_append] at h1
  have H3 : Hid (xs = [] → v' = .slice none 0 0) := fun e => h3.2 ⟨rfl, e⟩
  clear hr h3
  go_enter Tryd.func43, Tryd.ntmps43
  go_wp2_with (at_builtin; refine Lib.wpList_append_run _ rfl _ _ _ _ rfl _ _ rfl rfl _ _ (HR.out _) ?_)
  go_ret
  exact ⟨v', rfl, h1, hk, H3.out⟩

theorem zeroCells_size (n : Nat) : (Builtin.zeroCells #[Value.int .u16 0] n).size = n := by simp [Builtin.zeroCells]
set_option maxHeartbeats 400000 in
set_option maxRecDepth 20000 in
theorem grow_any (n : Nat) (w : World) (hn : n ≤ 70368744177664) :
    Calls Tryd.prog 73 #[.slice none 0 0, .int .i64 n] w fun e w' => ∃ v', e = .returned v' ∧ w'.ownsRow w.heap.size 23 1 v' ([] : List Nat).length (u16s []) ∧ Kept [] w w' ∧ (v' = .slice none 0 0 ↔ n = 0) := by
  obtain ⟨i0, hi, hz0, hz1, hz2⟩ := info_parts Tryd.infoU16
  have b0 : ¬ ((n : Int) < 0) := by omega
  by_cases h0 : n = 0
  · subst h0
    go_enter Tryd.func73, Tryd.ntmps73
    go_wp2
    go_ret
    exact ⟨_, rfl, own_nil _ _, Kept.refl [] w, by simp⟩
  · have hr : ∀ ty, (Builtin.append_ #[24, 3] ty #[.slice none 0 0, .int .i64 n]).run Tryd.prog w = _ := fun ty => Lib.run_append_nil_zeros w 24 3 ty 23 i0 _ .i64 .i64 Tryd.underlying24 Tryd.underlying3 hi hz0 n (by omega) (by rw [hz1]; decide) (by omega) (by rw [hz2]; omega)
    have hg := grownCap_ge w n 0 23
    have hg2 := grownCap_le_maxLen w n 0 23 (by unfold maxLen; omega)
    have HR : Hid _ := hr
    obtain ⟨G, hG⟩ : ∃ G, grownCap w n 0 23 = G := ⟨_, rfl⟩
    rw [hG] at hg hg2 HR
    have HG2 : Hid (G ≤ maxLen) := hg2
    unfold maxLen at hg2
    clear hr hG
    have hn0 : (0 : Int) < (n : Int) := by omega
    go_enter Tryd.func73, Tryd.ntmps73
    go_wp2_with (at_builtin; refine Lib.wpList_append_run _ rfl _ _ _ _ rfl _ _ rfl rfl _ _ (HR.out _) ?_)
    go_ret
    refine ⟨_, rfl, ⟨rfl, .inr ⟨w.heap.size, G, _, rfl, Nat.le_refl _, heap_alloc_new _ _, by simp, HG2.out, ?_, by simp [u16s]⟩⟩, (Kept.refl [] w).drew.alloc _, by simp⟩
    rw [Array.size_append, zeroCells_size, zeroCells_size]
    omega

/-- The two slices that Concat is handed. -/
def Two (W : World) (g : Nat) (v u : Value) : Prop := W.heap[g]? = some (.cells #[v, u] 24 (0, 0))
theorem own_base {W : World} {base : Nat} {e : TypeId} {size : Nat} {v : Value} {n g : Nat} {xs : List Value} (h : W.ownsRow base e size v n xs) (hg : v.ownBlock = some g) : base ≤ g := by
  rcases h.2 with ⟨rfl, _⟩ | ⟨g', cap, cur, rfl, hb, hc, _⟩
  · cases hg
  · cases hg; exact hb
theorem val_int {k : IntKind} {a b : Int} (h : a = b) : Value.int k a = .int k b := by rw [h]
/-- An append to letters of one's own, and what it keeps. -/
theorem append_step {w wr : World} {v u : Value} {xs ys : List Nat} (hk : Kept [] w wr) (hown : wr.ownsRow w.heap.size 23 1 v xs.length (u16s xs)) (hu : Lets wr u ys) (hl : xs.length + ys.length ≤ 70368744177664) :
    ∃ v' w', (∀ ty, (Builtin.append_ #[24, 24] ty #[v, u]).run Tryd.prog wr = .ok v' w') ∧ w'.ownsRow w.heap.size 23 1 v' (xs ++ ys).length (u16s (xs ++ ys)) ∧ Kept [] w w' := by
  obtain ⟨v', w', h1, h2, h3, _, _⟩ := run_append_lets wr w.heap.size v u xs ys hown hu hl hk.size
  exact ⟨v', w', h1, h2, hk.grown h3 (fun k e => .inr (own_base hown e))⟩
def pre2 (xs ys : List Nat) (k : Nat) : List Nat := if k = 0 then [] else if k = 1 then xs else xs ++ ys
set_option maxHeartbeats 2000000 in
theorem concat_any (g : Nat) (v u : Value) (xs ys : List Nat) (w : World) (hg : Two w g v u) (hx : Lets w v xs) (hy : Lets w u ys) (hl : xs.length + ys.length ≤ 70368744177664) :
    Calls Tryd.prog 57 #[.slice (some ⟨g, 0, none⟩) 2 2] w fun e w' => ∃ v', e = .returned v' ∧ w'.ownsRow w.heap.size 23 1 v' (xs ++ ys).length (u16s (xs ++ ys)) ∧ Kept [] w w' := by
  have HX : Hid (Lets w v xs) := hx
  have HY : Hid (Lets w u ys) := hy
  have c0 : w.cell? ⟨g, 0, none⟩ = some v := (cell_of hg 0).trans rfl
  have c1 : w.cell? ⟨g, 1, none⟩ = some u := (cell_of hg 1).trans rfl
  have C0 : Hid (w.cell? ⟨g, 0, none⟩ = some v) := c0
  have C1 : Hid (w.cell? ⟨g, 1, none⟩ = some u) := c1
  obtain ⟨ax, cx, hvx, _, _⟩ := hx.form
  obtain ⟨ay, cy, hvy, _, _⟩ := hy.form
  subst hvx hvy
  obtain ⟨N, hN⟩ : ∃ N, N = xs.length + ys.length := ⟨_, rfl⟩
  have HN : Hid (N = xs.length + ys.length) := hN
  have bN : N ≤ 70368744177664 := by omega
  clear hx hy hg hN
  go_enter Tryd.func57, Tryd.ntmps57
  go_wp2_with fail
  go_loopw [3, 5, 11] (fun s _ i wr => ∃ k : Nat, k ≤ 2 ∧ i = .int .i64 k ∧ s = .int .i64 (if k = 0 then 0 else if k = 1 then (xs.length : Int) else (N : Int)) ∧ wr = w) (fun _ _ i _ => 2 - (intOf i).toNat)
  case atStart => exact ⟨0, by omega, rfl, rfl, rfl⟩
  case round =>
    obtain ⟨k, hk, rfl, rfl, rfl⟩ := hrel
    have h3 : k = 0 ∨ k = 1 ∨ k = 2 := by omega
    rcases h3 with rfl | rfl | rfl
    · have n0 : ¬ ((xs.length : Int) < 0) := by omega
      go_wp2
      go_roundw
      case rel => exact ⟨1, by omega, rfl, rfl, trivial⟩
      case measure => simp [intOf]
    · have n0 : ¬ ((xs.length : Int) + (ys.length : Int) < 0) := by omega
      go_wp2
      go_roundw
      case rel => exact ⟨2, by omega, rfl, val_int (by have := HN.out; simp; omega), trivial⟩
      case measure => simp [intOf]
    · clear c0 c1
      rename World => w0
      go_wp2_with (go_at_call 73; refine (grow_any N _ bN).mono ?_; rintro e w1 ⟨v', rfl, ho, hk1, _⟩; have HO : Hid _ := ho; have HK : Hid (Kept [] w0 w1) := hk1; clear ho hk1)
      go_loopw [6, 8, 27] (fun s _ i w2 => ∃ k : Nat, k ≤ 2 ∧ i = .int .i64 k ∧ Hid (w2.ownsRow w0.heap.size 23 1 s (pre2 xs ys k).length (u16s (pre2 xs ys k))) ∧ Hid (Kept [] w0 w2)) (fun _ _ i _ => 2 - (intOf i).toNat)
      case atStart => exact ⟨0, by omega, rfl, HO.out, HK.out⟩
      case round =>
        obtain ⟨k, hk, rfl, HO2, HK2⟩ := hrel
        have d0 := cell_kept0 HK2.out C0.out
        have d1 := cell_kept0 HK2.out C1.out
        have h3 : k = 0 ∨ k = 1 ∨ k = 2 := by omega
        rcases h3 with rfl | rfl | rfl
        · obtain ⟨v2, w2, hr, ho2, hk2⟩ := append_step (xs := []) HK2.out HO2.out (HX.out.kept HK2.out) (by simp; omega)
          have HR : Hid _ := hr
          have HO3 : Hid (w2.ownsRow w0.heap.size 23 1 v2 xs.length (u16s xs)) := ho2
          have HK3 : Hid (Kept [] w0 w2) := hk2
          clear hr ho2 hk2
          go_wp2_with (at_builtin; refine Lib.wpList_append_run _ rfl _ _ _ _ rfl _ _ rfl rfl _ _ (HR.out _) ?_)
          go_roundw
          case rel => exact ⟨1, by omega, rfl, HO3.out, HK3.out⟩
          case measure => simp [intOf]
        · obtain ⟨v2, w2, hr, ho2, hk2⟩ := append_step (xs := xs) HK2.out HO2.out (HY.out.kept HK2.out) hl
          have HR : Hid _ := hr
          have HO3 : Hid (w2.ownsRow w0.heap.size 23 1 v2 (xs ++ ys).length (u16s (xs ++ ys))) := ho2
          have HK3 : Hid (Kept [] w0 w2) := hk2
          clear hr ho2 hk2
          go_wp2_with (at_builtin; refine Lib.wpList_append_run _ rfl _ _ _ _ rfl _ _ rfl rfl _ _ (HR.out _) ?_)
          go_roundw
          case rel => exact ⟨2, by omega, rfl, HO3.out, HK3.out⟩
          case measure => simp [intOf]
        · go_wp2
          go_ret
          exact ⟨_, rfl, HO2.out, HK2.out⟩
end Go.Proofs.YtepooofiadlceaaDoor
