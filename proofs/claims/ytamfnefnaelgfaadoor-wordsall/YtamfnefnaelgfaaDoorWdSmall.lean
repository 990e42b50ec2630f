/- words.Places, Behind, At. -/
import Derived.Test.YtamfnefnaelgfaaDoorWdNormal
namespace Go.Proofs.YtamfnefnaelgfaaDoor
open Go.RowKit
attribute [local go_sem ↓] Go.wp_at_zero Go.wp_at_succ

/-- A word that is handed in. -/
structure IsW (W : World) (sv lv : Value) (q : Wd) : Prop where
  st : Lets W sv q.stem
  lp : Lets W lv q.loop
  few : q.stem.length + q.loop.length ≤ 70368744177664
theorem IsW.kept {W W' : World} {sv lv : Value} {q : Wd} (h : IsW W sv lv q) (k : Kept [] W W') : IsW W' sv lv q := ⟨h.st.kept k, h.lp.kept k, h.few⟩
def placesN (q : Wd) : Nat := if q.loop.length = 0 then 0 else q.stem.length + q.loop.length
theorem one_new (w : World) (a : Obj) : (w.alloc a).heap[w.heap.size]? = some a := heap_alloc_new w a

set_option maxHeartbeats 800000 in
theorem places_any (sv lv : Value) (q : Wd) (w : World) (h : IsW w sv lv q) :
    Calls Tryd.prog 17 #[.agg #[sv, lv]] w fun e w' => e = .returned (.int .i64 (placesN q : Nat)) ∧ Kept [] w w' := by
  obtain ⟨st, lp⟩ := q
  have hf := h.few
  obtain ⟨ast, cs, rfl, _, _⟩ := h.st.form
  obtain ⟨al, cl, rfl, _, _⟩ := h.lp.form
  simp only at hf ⊢
  have HN : Hid (Wd2 (w.alloc (.cells #[.slice ast st.length cs, .slice al lp.length cl] 47)) w.heap.size (.slice ast st.length cs) (.slice al lp.length cl)) := heap_alloc_new w _
  clear h
  by_cases h0 : 0 < lp.length
  · have b4 : decide (0 < lp.length) = true := by simpa using h0
    have HP : Hid (placesN ⟨st, lp⟩ = st.length + lp.length) := by show placesN _ = _; unfold placesN; rw [if_neg (by show ¬ lp.length = 0; omega)]
    go_enter Tryd.func17, Tryd.ntmps17
    go_wp2_with (go_at_call 41; refine (endless_any _ _ _ _ _).mono ?_; rintro e w1 ⟨rfl, hk⟩; rw [b4]; obtain ⟨c0, c1, _, _⟩ := (HN.out.kept hk).cells; have HK : Hid (Kept [] w w1) := Kept.trans (F := []) (G := []) (H := []) ((Kept.refl [] w).alloc _) hk (by simp) (by simp); clear hk)
    go_ret
    exact ⟨ret_int (by rw [HP.out]; omega), HK.out⟩
  · have b4 : decide (0 < lp.length) = false := by simpa using h0
    have HP : Hid (placesN ⟨st, lp⟩ = 0) := by show placesN _ = _; unfold placesN; rw [if_pos (by show lp.length = 0; omega)]
    go_enter Tryd.func17, Tryd.ntmps17
    go_wp2_with (go_at_call 41; refine (endless_any _ _ _ _ _).mono ?_; rintro e w1 ⟨rfl, hk⟩; rw [b4]; have HK : Hid (Kept [] w w1) := Kept.trans (F := []) (G := []) (H := []) ((Kept.refl [] w).alloc _) hk (by simp) (by simp); clear hk)
    go_ret
    exact ⟨ret_int (by rw [HP.out]; rfl), HK.out⟩

def behindI (q : Wd) (i : Int) : Int := if i < 0 ∨ (placesN q : Int) ≤ i then -1 else if i = (placesN q : Int) - 1 then q.stem.length else i + 1
set_option maxHeartbeats 800000 in
theorem behind_any (sv lv : Value) (q : Wd) (i : Int) (w : World) (h : IsW w sv lv q) :
    Calls Tryd.prog 15 #[.agg #[sv, lv], .int .i64 i] w fun e w' => e = .returned (.int .i64 (behindI q i)) ∧ Kept [] w w' := by
  have HP : Hid (∀ W, Kept [] w W → Calls Tryd.prog 17 #[.agg #[sv, lv]] W fun e w' => e = .returned (.int .i64 (placesN q : Nat)) ∧ Kept [] W w') := fun W k => places_any sv lv q W (h.kept k)
  obtain ⟨st, lp⟩ := q
  have hf := h.few
  obtain ⟨ast, cs, rfl, _, _⟩ := h.st.form
  obtain ⟨al, cl, rfl, _, _⟩ := h.lp.form
  simp only at hf HP ⊢
  have HN : Hid (Wd2 (w.alloc (.cells #[.slice ast st.length cs, .slice al lp.length cl] 47)) w.heap.size (.slice ast st.length cs) (.slice al lp.length cl)) := heap_alloc_new w _
  have hp : placesN ⟨st, lp⟩ ≤ 70368744177664 := by unfold placesN; split <;> simp only at * <;> omega
  unfold behindI
  generalize placesN ⟨st, lp⟩ = p at HP hp
  clear h
  by_cases h1 : i < 0
  · rw [if_pos (.inl h1)]
    go_enter Tryd.func15, Tryd.ntmps15
    go_wp2_with (go_at_call 17; refine (HP.out _ ((Kept.refl [] w).alloc _)).mono ?_; rintro e w1 ⟨rfl, hk⟩; have HK : Hid (Kept [] w w1) := Kept.trans (F := []) (G := []) (H := []) ((Kept.refl [] w).alloc _) hk (by simp) (by simp); clear hk)
    go_ret
    exact ⟨rfl, HK.out⟩
  · by_cases h2 : (p : Int) ≤ i
    · rw [if_pos (.inr h2)]
      go_enter Tryd.func15, Tryd.ntmps15
      go_wp2_with (go_at_call 17; refine (HP.out _ ((Kept.refl [] w).alloc _)).mono ?_; rintro e w1 ⟨rfl, hk⟩; have HK : Hid (Kept [] w w1) := Kept.trans (F := []) (G := []) (H := []) ((Kept.refl [] w).alloc _) hk (by simp) (by simp); clear hk)
      go_ret
      exact ⟨rfl, HK.out⟩
    · rw [if_neg (by omega)]
      have h3 : i < (p : Int) := by omega
      have h4 : 0 ≤ i := by omega
      by_cases h5 : i = (p : Int) - 1
      · rw [if_pos h5]
        have h6 : (i == (p : Int) - 1) = true := by simpa using h5
        clear h5
        go_enter Tryd.func15, Tryd.ntmps15
        go_wp2_with (go_at_call 17; refine (HP.out _ ((Kept.refl [] w).alloc _)).mono ?_; rintro e w1 ⟨rfl, hk⟩; obtain ⟨c0, c1, _, _⟩ := (HN.out.kept hk).cells; have HK : Hid (Kept [] w w1) := Kept.trans (F := []) (G := []) (H := []) ((Kept.refl [] w).alloc _) hk (by simp) (by simp); clear hk)
        go_ret
        exact ⟨rfl, HK.out⟩
      · rw [if_neg h5]
        have h6 : (i == (p : Int) - 1) = false := by simpa using h5
        clear h5
        go_enter Tryd.func15, Tryd.ntmps15
        go_wp2_with (go_at_call 17; refine (HP.out _ ((Kept.refl [] w).alloc _)).mono ?_; rintro e w1 ⟨rfl, hk⟩; have HK : Hid (Kept [] w w1) := Kept.trans (F := []) (G := []) (H := []) ((Kept.refl [] w).alloc _) hk (by simp) (by simp); clear hk)
        go_ret
        exact ⟨rfl, HK.out⟩

def atI (q : Wd) (i : Int) : Nat := if i < 0 ∨ q.loop.length = 0 then 0 else q.at i.toNat
set_option maxHeartbeats 800000 in
theorem at_out (sv lv : Value) (q : Wd) (i : Int) (w : World) (h : IsW w sv lv q) (ho : i < 0 ∨ q.loop.length = 0) :
    Calls Tryd.prog 18 #[.agg #[sv, lv], .int .i64 i] w fun e w' => e = .returned (.int .u16 0) ∧ Kept [] w w' := by
  obtain ⟨st, lp⟩ := q
  obtain ⟨ast, cs, rfl, _, _⟩ := h.st.form
  obtain ⟨al, cl, rfl, _, _⟩ := h.lp.form
  simp only at ho ⊢
  clear h
  by_cases h1 : i < 0
  · clear ho
    go_enter Tryd.func18, Tryd.ntmps18
    go_wp2
    go_ret
    exact ⟨rfl, (Kept.refl [] w).alloc _⟩
  · have b4 : decide (0 < lp.length) = false := decide_eq_false (by omega)
    clear ho
    go_enter Tryd.func18, Tryd.ntmps18
    go_wp2_with (go_at_call 41; refine (endless_any _ _ _ _ _).mono ?_; rintro e w1 ⟨rfl, hk⟩; rw [b4]; have HK : Hid (Kept [] w w1) := Kept.trans (F := []) (G := []) (H := []) ((Kept.refl [] w).alloc _) hk (by simp) (by simp); clear hk)
    go_ret
    exact ⟨rfl, HK.out⟩
set_option maxHeartbeats 800000 in
theorem at_lo (sv lv : Value) (q : Wd) (i : Nat) (w : World) (h : IsW w sv lv q) (h0 : 0 < q.loop.length) (hi : i < q.stem.length) :
    Calls Tryd.prog 18 #[.agg #[sv, lv], .int .i64 i] w fun e w' => e = .returned (.int .u16 (q.stem.getD i 0 : Nat)) ∧ Kept [] w w' := by
  obtain ⟨st, lp⟩ := q
  have hf := h.few
  simp only at h0 hi hf ⊢
  obtain ⟨b, o, cs, rfl, _, _, hc⟩ := h.st.there (by show 0 < st.length; omega)
  obtain ⟨al, cl, rfl, _, _⟩ := h.lp.form
  have HN : Hid (Wd2 (w.alloc (.cells #[.slice (some ⟨b, o, none⟩) st.length cs, .slice al lp.length cl] 47)) w.heap.size (.slice (some ⟨b, o, none⟩) st.length cs) (.slice al lp.length cl)) := heap_alloc_new w _
  have HC : Hid (w.cell? ⟨b, o + i, none⟩ = some (.int .u16 (st.getD i 0 : Nat))) := hc i hi
  have b4 : decide (0 < lp.length) = true := by simpa using h0
  have b1 : ¬ ((i : Int) < 0) := by omega
  have b2 : (i : Int) < (st.length : Int) := by omega
  have b3 : (0 : Int) ≤ (i : Int) := by omega
  clear h hc
  generalize st.getD i 0 = x at HC
  go_enter Tryd.func18, Tryd.ntmps18
  go_wp2_with (go_at_call 41; refine (endless_any _ _ _ _ _).mono ?_; rintro e w1 ⟨rfl, hk⟩; rw [b4]; obtain ⟨c0, c1, _, _⟩ := (HN.out.kept hk).cells; have HK : Hid (Kept [] w w1) := Kept.trans (F := []) (G := []) (H := []) ((Kept.refl [] w).alloc _) hk (by simp) (by simp); have c2 := cell_kept0 HK.out HC.out; clear hk)
  go_ret
  exact ⟨rfl, HK.out⟩
set_option maxHeartbeats 800000 in
theorem at_hi (sv lv : Value) (q : Wd) (i : Nat) (w : World) (h : IsW w sv lv q) (h0 : 0 < q.loop.length) (hi : q.stem.length ≤ i) (hb : i ≤ 9223372036854775807) :
    Calls Tryd.prog 18 #[.agg #[sv, lv], .int .i64 i] w fun e w' => e = .returned (.int .u16 (cyc q.loop (i - q.stem.length) : Nat)) ∧ Kept [] w w' := by
  obtain ⟨st, lp⟩ := q
  have hf := h.few
  simp only at h0 hi hf ⊢
  obtain ⟨b, o, cl, rfl, _, _, hc⟩ := h.lp.there h0
  obtain ⟨ast, cs, rfl, _, _⟩ := h.st.form
  have HN : Hid (Wd2 (w.alloc (.cells #[.slice ast st.length cs, .slice (some ⟨b, o, none⟩) lp.length cl] 47)) w.heap.size (.slice ast st.length cs) (.slice (some ⟨b, o, none⟩) lp.length cl)) := heap_alloc_new w _
  obtain ⟨r, hr⟩ : ∃ r, (i - st.length) % lp.length = r := ⟨_, rfl⟩
  have hrl : r < lp.length := by rw [← hr]; exact Nat.mod_lt _ h0
  have HC : Hid (w.cell? ⟨b, o + r, none⟩ = some (.int .u16 (cyc lp (i - st.length) : Nat))) := by
    have := hc r hrl
    unfold cyc
    simp only at this
    rw [hr]
    exact this
  have x1 : ((i : Int) - (st.length : Int)).tmod (lp.length : Int) = (r : Int) := by
    rw [Int.tmod_eq_emod_of_nonneg (by omega), ← hr, show (i : Int) - (st.length : Int) = ((i - st.length : Nat) : Int) by omega]; rfl
  have x2 : ((i : Int) - (st.length : Int)) % (lp.length : Int) = (r : Int) := by
    rw [← hr, show (i : Int) - (st.length : Int) = ((i - st.length : Nat) : Int) by omega]; rfl
  have b4 : decide (0 < lp.length) = true := by simpa using h0
  have b1 : ¬ ((i : Int) < 0) := by omega
  have b2 : ¬ ((i : Int) < (st.length : Int)) := by omega
  have b3 : (0 : Int) ≤ (r : Int) := by omega
  have b5 : (r : Int) < (lp.length : Int) := by omega
  have b6 : ¬ ((lp.length : Int) = 0) := by omega
  have b7 : ¬ (lp.length = 0) := by omega
  have b8 : ¬ (lp = []) := fun e => by rw [e] at h0; simp at h0
  have b9 : IntKind.i64.wrap ((i : Int) - (st.length : Int)) = (i : Int) - (st.length : Int) := by rw [IntKind.wrap_i64]; omega
  clear h hc hr
  generalize cyc lp (i - st.length) = x at HC
  go_enter Tryd.func18, Tryd.ntmps18
  go_wp2_with (go_at_call 41; refine (endless_any _ _ _ _ _).mono ?_; rintro e w1 ⟨rfl, hk⟩; rw [b4]; obtain ⟨c0, c1, _, _⟩ := (HN.out.kept hk).cells; have HK : Hid (Kept [] w w1) := Kept.trans (F := []) (G := []) (H := []) ((Kept.refl [] w).alloc _) hk (by simp) (by simp); have c2 := cell_kept0 HK.out HC.out; clear hk)
  go_quiet (fail)
  go_wp2
  go_ret
  exact ⟨rfl, HK.out.drewN _⟩
/-- words.At, of whatever word and number. -/
theorem at_any (sv lv : Value) (q : Wd) (i : Int) (w : World) (h : IsW w sv lv q) (hb : i ≤ 9223372036854775807) :
    Calls Tryd.prog 18 #[.agg #[sv, lv], .int .i64 i] w fun e w' => e = .returned (.int .u16 (atI q i : Nat)) ∧ Kept [] w w' := by
  unfold atI
  by_cases ho : i < 0 ∨ q.loop.length = 0
  · rw [if_pos ho]; exact at_out sv lv q i w h ho
  · rw [if_neg ho]
    obtain ⟨k, rfl⟩ : ∃ k : Nat, i = (k : Int) := ⟨i.toNat, by omega⟩
    rw [Int.toNat_natCast]
    rcases Nat.lt_or_ge k q.stem.length with hk | hk
    · rw [Wd.at_lo hk]; exact at_lo sv lv q k w h (by omega) hk
    · rw [Wd.at_hi hk]; exact at_hi sv lv q k w h (by omega) hk (by omega)
end Go.Proofs.YtamfnefnaelgfaaDoor
