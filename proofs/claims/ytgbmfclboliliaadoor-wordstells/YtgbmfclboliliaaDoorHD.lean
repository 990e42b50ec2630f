/- The document's Places, Behind, At. -/
import Derived.Test.YtgbmfclboliliaaDoorWdSmall
import Derived.Test.YtgbmfclboliliaaDoorWdCheck
import Derived.Test.YtgbmfclboliliaaDoorWdPre
namespace Go.Proofs.YtgbmfclboliliaaDoor
open Go.RowKit
attribute [local go_sem ↓] Go.wp_at_zero Go.wp_at_succ

set_option maxHeartbeats 800000 in
theorem refPlaces_any (sv lv : Value) (q : Wd) (w : World) (h : IsW w sv lv q) :
    Calls Tryd.prog 23 #[.agg #[sv, lv]] w fun e w' => e = .returned (.int .i64 (placesN q : Nat)) ∧ Kept [] w w' := by
  obtain ⟨st, lp⟩ := q
  have hf := h.few
  obtain ⟨ast, cs, rfl, _, _⟩ := h.st.form
  obtain ⟨al, cl, rfl, _, _⟩ := h.lp.form
  simp only at hf ⊢
  clear h
  by_cases h0 : 0 < lp.length
  · have b4 : ((lp.length : Int) == 0) = false := by rw [beq_eq_false_iff_ne]; omega
    have HP : Hid (placesN ⟨st, lp⟩ = st.length + lp.length) := by show placesN _ = _; unfold placesN; rw [if_neg (by show ¬ lp.length = 0; omega)]
    go_enter Tryd.func23, Tryd.ntmps23
    go_wp2
    go_ret
    exact ⟨ret_int (by rw [HP.out]; omega), (Kept.refl [] w).alloc _⟩
  · have b4 : ((lp.length : Int) == 0) = true := by rw [beq_iff_eq]; omega
    have HP : Hid (placesN ⟨st, lp⟩ = 0) := by show placesN _ = _; unfold placesN; rw [if_pos (by show lp.length = 0; omega)]
    go_enter Tryd.func23, Tryd.ntmps23
    go_wp2
    go_ret
    exact ⟨ret_int (by rw [HP.out]; rfl), (Kept.refl [] w).alloc _⟩

set_option maxHeartbeats 800000 in
theorem refBehind_any (sv lv : Value) (q : Wd) (i : Int) (w : World) (h : IsW w sv lv q) :
    Calls Tryd.prog 25 #[.agg #[sv, lv], .int .i64 i] w fun e w' => e = .returned (.int .i64 (behindI q i)) ∧ Kept [] w w' := by
  have HP : Hid (∀ W, Kept [] w W → Calls Tryd.prog 23 #[.agg #[sv, lv]] W fun e w' => e = .returned (.int .i64 (placesN q : Nat)) ∧ Kept [] W w') := fun W k => refPlaces_any sv lv q W (h.kept k)
  obtain ⟨st, lp⟩ := q
  have hf := h.few
  obtain ⟨ast, cs, rfl, _, _⟩ := h.st.form
  obtain ⟨al, cl, rfl, _, _⟩ := h.lp.form
  simp only at hf HP ⊢
  have HN : Hid (Wd2 (w.alloc (.cells #[.slice ast st.length cs, .slice al lp.length cl] 24)) w.heap.size (.slice ast st.length cs) (.slice al lp.length cl)) := heap_alloc_new w _
  have hp : placesN ⟨st, lp⟩ ≤ 70368744177664 := by unfold placesN; split <;> simp only at * <;> omega
  unfold behindI
  generalize placesN ⟨st, lp⟩ = p at HP hp
  clear h
  by_cases h1 : i < 0
  · rw [if_pos (.inl h1)]
    go_enter Tryd.func25, Tryd.ntmps25
    go_wp2_with (go_at_call 23; refine (HP.out _ ((Kept.refl [] w).alloc _)).mono ?_; rintro e w1 ⟨rfl, hk⟩; have HK : Hid (Kept [] w w1) := Kept.trans (F := []) (G := []) (H := []) ((Kept.refl [] w).alloc _) hk (by simp) (by simp); clear hk)
    go_ret
    exact ⟨rfl, HK.out⟩
  · by_cases h2 : (p : Int) ≤ i
    · rw [if_pos (.inr h2)]
      go_enter Tryd.func25, Tryd.ntmps25
      go_wp2_with (go_at_call 23; refine (HP.out _ ((Kept.refl [] w).alloc _)).mono ?_; rintro e w1 ⟨rfl, hk⟩; have HK : Hid (Kept [] w w1) := Kept.trans (F := []) (G := []) (H := []) ((Kept.refl [] w).alloc _) hk (by simp) (by simp); clear hk)
      go_ret
      exact ⟨rfl, HK.out⟩
    · rw [if_neg (by omega)]
      have h4 : 0 ≤ i := by omega
      have h7 : IntKind.i64.wrap (i + 1) = i + 1 := by rw [IntKind.wrap_i64]; omega
      by_cases h5 : i = (p : Int) - 1
      · rw [if_pos h5]
        have h6 : ¬ i + 1 < (p : Int) := by omega
        clear h5
        go_enter Tryd.func25, Tryd.ntmps25
        go_wp2_with (go_at_call 23; refine (HP.out _ ((Kept.refl [] w).alloc _)).mono ?_; rintro e w1 ⟨rfl, hk⟩; obtain ⟨c0, c1, _, _⟩ := (HN.out.kept hk).cells; have HK : Hid (Kept [] w w1) := Kept.trans (F := []) (G := []) (H := []) ((Kept.refl [] w).alloc _) hk (by simp) (by simp); clear hk)
        go_ret
        exact ⟨rfl, HK.out⟩
      · rw [if_neg h5]
        have h6 : i + 1 < (p : Int) := by omega
        clear h5
        go_enter Tryd.func25, Tryd.ntmps25
        go_wp2_with (go_at_call 23; refine (HP.out _ ((Kept.refl [] w).alloc _)).mono ?_; rintro e w1 ⟨rfl, hk⟩; have HK : Hid (Kept [] w w1) := Kept.trans (F := []) (G := []) (H := []) ((Kept.refl [] w).alloc _) hk (by simp) (by simp); clear hk)
        go_ret
        exact ⟨rfl, HK.out⟩

set_option maxHeartbeats 800000 in
theorem refAt_out (sv lv : Value) (q : Wd) (i : Int) (w : World) (h : IsW w sv lv q) (ho : i < 0 ∨ q.loop.length = 0) :
    Calls Tryd.prog 27 #[.agg #[sv, lv], .int .i64 i] w fun e w' => e = .returned (.int .u16 0) ∧ Kept [] w w' := by
  obtain ⟨st, lp⟩ := q
  obtain ⟨ast, cs, rfl, _, _⟩ := h.st.form
  obtain ⟨al, cl, rfl, _, _⟩ := h.lp.form
  simp only at ho ⊢
  clear h
  by_cases h1 : lp.length = 0
  · have b4 : ((lp.length : Int) == 0) = true := by rw [beq_iff_eq]; omega
    clear ho h1
    go_enter Tryd.func27, Tryd.ntmps27
    go_wp2
    go_ret
    exact ⟨rfl, (Kept.refl [] w).alloc _⟩
  · have b4 : ((lp.length : Int) == 0) = false := by rw [beq_eq_false_iff_ne]; omega
    have b5 : i < 0 := ho.resolve_right h1
    clear ho h1
    go_enter Tryd.func27, Tryd.ntmps27
    go_wp2
    go_ret
    exact ⟨rfl, (Kept.refl [] w).alloc _⟩
set_option maxHeartbeats 800000 in
theorem refAt_lo (sv lv : Value) (q : Wd) (i : Nat) (w : World) (h : IsW w sv lv q) (h0 : 0 < q.loop.length) (hi : i < q.stem.length) :
    Calls Tryd.prog 27 #[.agg #[sv, lv], .int .i64 i] w fun e w' => e = .returned (.int .u16 (q.stem.getD i 0 : Nat)) ∧ Kept [] w w' := by
  obtain ⟨st, lp⟩ := q
  have hf := h.few
  simp only at h0 hi hf ⊢
  obtain ⟨b, o, cs, rfl, _, _, hc⟩ := h.st.there (by show 0 < st.length; omega)
  obtain ⟨al, cl, rfl, _, _⟩ := h.lp.form
  have HC : Hid (w.cell? ⟨b, o + i, none⟩ = some (.int .u16 (st.getD i 0 : Nat))) := hc i hi
  have b4 : ((lp.length : Int) == 0) = false := by rw [beq_eq_false_iff_ne]; omega
  have b1 : ¬ ((i : Int) < 0) := by omega
  have b2 : (i : Int) < (st.length : Int) := by omega
  have b3 : (0 : Int) ≤ (i : Int) := by omega
  clear h hc
  generalize st.getD i 0 = x at HC
  have c2 : ∀ ob, (w.alloc ob).cell? ⟨b, o + i, none⟩ = some (.int .u16 (x : Nat)) := fun ob => cell_kept0 ((Kept.refl [] w).alloc ob) HC.out
  go_enter Tryd.func27, Tryd.ntmps27
  go_wp2
  go_ret
  exact ⟨rfl, (Kept.refl [] w).alloc _⟩
set_option maxHeartbeats 800000 in
theorem refAt_hi (sv lv : Value) (q : Wd) (i : Nat) (w : World) (h : IsW w sv lv q) (h0 : 0 < q.loop.length) (hi : q.stem.length ≤ i) (hb : i ≤ 9223372036854775807) :
    Calls Tryd.prog 27 #[.agg #[sv, lv], .int .i64 i] w fun e w' => e = .returned (.int .u16 (cyc q.loop (i - q.stem.length) : Nat)) ∧ Kept [] w w' := by
  obtain ⟨st, lp⟩ := q
  have hf := h.few
  simp only at h0 hi hf ⊢
  obtain ⟨b, o, cl, rfl, _, _, hc⟩ := h.lp.there h0
  obtain ⟨ast, cs, rfl, _, _⟩ := h.st.form
  obtain ⟨V, hV⟩ : ∃ V, w.alloc (.cells #[.slice ast st.length cs, .slice (some ⟨b, o, none⟩) lp.length cl] 24) = V := ⟨_, rfl⟩
  have hN : Wd2 V w.heap.size (.slice ast st.length cs) (.slice (some ⟨b, o, none⟩) lp.length cl) := by rw [← hV]; exact heap_alloc_new w _
  have kV : Kept [] w V := by rw [← hV]; exact (Kept.refl [] w).alloc _
  obtain ⟨r, hr⟩ : ∃ r, (i - st.length) % lp.length = r := ⟨_, rfl⟩
  have hrl : r < lp.length := by rw [← hr]; exact Nat.mod_lt _ h0
  have hC : w.cell? ⟨b, o + r, none⟩ = some (.int .u16 (cyc lp (i - st.length) : Nat)) := by
    have := hc r hrl
    unfold cyc
    simp only at this
    rw [hr]
    exact this
  have x1 : ((i : Int) - (st.length : Int)).tmod (lp.length : Int) = (r : Int) := by
    rw [Int.tmod_eq_emod_of_nonneg (by omega), ← hr, show (i : Int) - (st.length : Int) = ((i - st.length : Nat) : Int) by omega]; rfl
  have x2 : ((i : Int) - (st.length : Int)) % (lp.length : Int) = (r : Int) := by
    rw [← hr, show (i : Int) - (st.length : Int) = ((i - st.length : Nat) : Int) by omega]; rfl
  have b4 : ((lp.length : Int) == 0) = false := by rw [beq_eq_false_iff_ne]; omega
  have b1 : ¬ ((i : Int) < 0) := by omega
  have b2 : ¬ ((i : Int) < (st.length : Int)) := by omega
  have b3 : (0 : Int) ≤ (r : Int) := by omega
  have b5 : (r : Int) < (lp.length : Int) := by omega
  have b6 : ¬ ((lp.length : Int) = 0) := by omega
  have b7 : ¬ (lp.length = 0) := by omega
  have b8 : ¬ (lp = []) := fun e => by rw [e] at h0; simp at h0
  have b9 : IntKind.i64.wrap ((i : Int) - (st.length : Int)) = (i : Int) - (st.length : Int) := by rw [IntKind.wrap_i64]; omega
  have c2 : V.cell? ⟨b, o + r, none⟩ = some (.int .u16 (cyc lp (i - st.length) : Nat)) := cell_kept0 kV hC
  obtain ⟨c0, c1, _, _⟩ := hN.cells
  have HV : Hid (_ = V) := hV
  have HKV : Hid (Kept [] w V) := kV
  clear h hc hr hC hN kV hV
  generalize cyc lp (i - st.length) = x at c2
  go_enter Tryd.func27, Tryd.ntmps27
  go_wp2_with fail
  rw [HV.out]
  go_quiet (fail)
  go_wp2
  go_ret
  exact ⟨rfl, HKV.out.drewN _⟩
/-- The document's At, of whatever word and number. -/
theorem refAt_any (sv lv : Value) (q : Wd) (i : Int) (w : World) (h : IsW w sv lv q) (hb : i ≤ 9223372036854775807) :
    Calls Tryd.prog 27 #[.agg #[sv, lv], .int .i64 i] w fun e w' => e = .returned (.int .u16 (atI q i : Nat)) ∧ Kept [] w w' := by
  unfold atI
  by_cases ho : i < 0 ∨ q.loop.length = 0
  · rw [if_pos ho]; exact refAt_out sv lv q i w h ho
  · rw [if_neg ho]
    obtain ⟨k, rfl⟩ : ∃ k : Nat, i = (k : Int) := ⟨i.toNat, by omega⟩
    rw [Int.toNat_natCast]
    rcases Nat.lt_or_ge k q.stem.length with hk | hk
    · rw [Wd.at_lo hk]; exact refAt_lo sv lv q k w h (by omega) hk
    · rw [Wd.at_hi hk]; exact refAt_hi sv lv q k w h (by omega) hk (by omega)
end Go.Proofs.YtgbmfclboliliaaDoor

/- The document's Check and Prefix; words.Prefix of whatever number. -/
namespace Go.Proofs.YtgbmfclboliliaaDoor
open Go.RowKit
attribute [local go_sem ↓] Go.wp_at_zero Go.wp_at_succ

theorem anyGreat_at {p : Nat} {xs : List Nat} {k : Nat} (hk : k < xs.length) (h : 2 ^ p ≤ xs.getD k 0) : anyGreat p xs = true := by
  unfold anyGreat
  rw [List.any_eq_true]
  refine ⟨xs.getD k 0, ?_, by simpa using h⟩
  rw [List.getD_eq_getElem?_getD, List.getElem?_eq_getElem hk]
  exact List.getElem_mem _
theorem check_out {q : Wd} {n : Int} (h : ¬ (0 ≤ n ∧ n ≤ 8)) : checkE q n = 1 := by unfold checkE; rw [if_pos h]
theorem check_in {q : Wd} {p : Nat} (h : p ≤ 8) : checkE q (p : Int) = if q.loop.length = 0 ∨ anyGreat p q.stem = true ∨ anyGreat p q.loop = true then 50 else 0 := by
  unfold checkE; rw [if_neg (by omega)]; simp
set_option maxHeartbeats 800000 in
theorem refCheck_bad (sv lv : Value) (q : Wd) (n : Int) (w : World) (h : IsW w sv lv q) (hn : ¬ (0 ≤ n ∧ n ≤ 8)) :
    Calls Tryd.prog 21 #[.agg #[sv, lv], .int .i64 n] w fun e w' => e = .returned (.int .i64 1) ∧ Kept [] w w' := by
  obtain ⟨st, lp⟩ := q
  obtain ⟨ast, cs, rfl, _, _⟩ := h.st.form
  obtain ⟨al, cl, rfl, _, _⟩ := h.lp.form
  clear h
  by_cases h1 : n < 0
  · clear hn
    go_enter Tryd.func21, Tryd.ntmps21
    go_wp2
    go_ret
    exact ⟨rfl, (Kept.refl [] w).alloc _⟩
  · have h2 : 8 < n := by omega
    clear hn
    go_enter Tryd.func21, Tryd.ntmps21
    go_wp2
    go_ret
    exact ⟨rfl, (Kept.refl [] w).alloc _⟩
set_option maxHeartbeats 1600000 in
theorem refCheck_none (sv : Value) (ad : Option Addr) (c : Nat) (st : List Nat) (p : Nat) (w : World) (h : Lets w sv st) (hp : p ≤ 8) :
    Calls Tryd.prog 21 #[.agg #[sv, .slice ad 0 c], .int .i64 (p : Nat)] w fun e w' => e = .returned (.int .i64 50) ∧ Kept [] w w' := by
  obtain ⟨ast, cs, rfl, _, _⟩ := h.form
  clear h
  have g1 : ¬ ((p : Int) < 0) := by omega
  have g2 : ¬ (8 < (p : Int)) := by omega
  go_enter Tryd.func21, Tryd.ntmps21
  go_wp2
  go_ret
  exact ⟨rfl, (Kept.refl [] w).alloc _⟩
set_option maxHeartbeats 4000000 in
theorem refCheck_some (sv : Value) (b o c : Nat) (st lp : List Nat) (p : Nat) (w : World) (h : Lets w sv st) (hl : Lets w (.slice (some ⟨b, o, none⟩) lp.length c) lp) (h0 : 0 < lp.length) (hp : p ≤ 8) (R : Nat) (hR : R = if anyGreat p st = true ∨ anyGreat p lp = true then 50 else 0) :
    Calls Tryd.prog 21 #[.agg #[sv, .slice (some ⟨b, o, none⟩) lp.length c], .int .i64 (p : Nat)] w fun e w' => e = .returned (.int .i64 (R : Nat)) ∧ Kept [] w w' := by
  have fs := h.few
  have fl := hl.few
  obtain ⟨ast, cs, rfl, _, _⟩ := h.form
  have g1 : ¬ ((p : Int) < 0) := by omega
  have g2 : ¬ (8 < (p : Int)) := by omega
  have b4 : ((lp.length : Int) == 0) = false := by rw [beq_eq_false_iff_ne]; omega
  obtain ⟨M, hM⟩ : ∃ M : Nat, 2 ^ p = M := ⟨_, rfl⟩
  have hM8 : M ≤ 256 := by rw [← hM]; exact Nat.le_trans (Nat.pow_le_pow_right (by omega) hp) (by decide)
  have hM2 : wrap64 ((2 : Int) ^ p) = (M : Int) := by
    have e : ((2 : Int) ^ p) = (M : Int) := by rw [← hM]; simp
    rw [e]
    unfold wrap64; omega
  obtain ⟨V, hV⟩ : ∃ V, w.alloc (.cells #[.slice ast st.length cs, .slice (some ⟨b, o, none⟩) lp.length c] 24) = V := ⟨_, rfl⟩
  have kV : Kept [] w V := by rw [← hV]; exact (Kept.refl [] w).alloc _
  have HN : Hid (Wd2 V w.heap.size (.slice ast st.length cs) (.slice (some ⟨b, o, none⟩) lp.length c)) := by show Wd2 _ _ _ _; rw [← hV]; exact heap_alloc_new w _
  have HS : Hid (Lets V (.slice ast st.length cs) st) := h.kept kV
  have HL : Hid (Lets V (.slice (some ⟨b, o, none⟩) lp.length c) lp) := hl.kept kV
  have HR : Hid (R = if anyGreat p st = true ∨ anyGreat p lp = true then 50 else 0) := hR
  have HM : Hid (2 ^ p = M) := hM
  have HK : Hid (Kept [] w V) := kV
  have HV : Hid (_ = V) := hV
  clear h hl hR kV hV hM
  obtain ⟨c0, c1, _, _⟩ := HN.out.cells
  go_enter Tryd.func21, Tryd.ntmps21
  go_wp2_with fail
  rw [HV.out]
  clear hM2 HV g1 g2
  go_loopw [6] (fun v wr => ∃ k : Nat, v = .int .i64 (k : Nat) ∧ k ≤ st.length ∧ Hid (wr = V) ∧ Hid (anyGreat p (st.take k) = false)) (fun v _ => st.length - (intOf v).toNat)
  case atStart => exact ⟨0, rfl, Nat.zero_le _, by first | exact rfl | exact trivial, rfl⟩
  case round =>
    obtain ⟨k, rfl, hk, HW, HA⟩ := hrel
    obtain rfl : wr = V := HW.out
    clear HW
    by_cases hlt : k < st.length
    · obtain ⟨bs, os, cs', e, _, _, hcells⟩ := HS.out.there (by omega)
      simp only [Value.slice.injEq] at e
      obtain ⟨e1, _, e2⟩ := e
      subst e1 e2
      obtain ⟨x, hx⟩ : ∃ x, st.getD k 0 = x := ⟨_, rfl⟩
      have y1 := hcells k hlt
      rw [hx] at y1
      have hxs : x < 65536 := by rw [← hx]; exact getD_small HS.out.small k
      have z1 : (0 : Int) ≤ (k : Int) := by omega
      have z2 : (k : Int) < (st.length : Int) := by omega
      have z3 : IntKind.i64.wrap (x : Int) = (x : Int) := by rw [IntKind.wrap_i64]; omega
      by_cases hg : M ≤ x
      · have z4 : (M : Int) ≤ (x : Int) := by omega
        have HE : Hid ((50 : Int) = (R : Int)) := by show (50 : Int) = R; rw [HR.out, if_pos (.inl (anyGreat_at hlt (by rw [HM.out, hx]; exact hg)))]; rfl
        clear hcells hx hg
        go_wp2
        go_ret
        exact ⟨ret_int HE.out, HK.out⟩
      · have z4 : ¬ ((M : Int) ≤ (x : Int)) := by omega
        have HA2 : Hid (anyGreat p (st.take (k + 1)) = false) := by show _ = _; rw [anyGreat_take hlt, HA.out, hx, HM.out]; simp; omega
        clear hcells hx hg
        go_wp2
        go_roundw
        case rel => exact ⟨k + 1, by go_num, by omega, by first | exact rfl | exact trivial, HA2.out⟩
        case measure => simp [intOf]; omega
    · obtain rfl : k = st.length := by omega
      have z2 : ¬ ((st.length : Int) < (st.length : Int)) := by omega
      rw [List.take_length] at HA
      clear hlt hk
      go_wp2_with fail
      go_loopw [7] (fun v w2 => ∃ k : Nat, v = .int .i64 (k : Nat) ∧ k ≤ lp.length ∧ Hid (w2 = wr) ∧ Hid (anyGreat p (lp.take k) = false)) (fun v _ => lp.length - (intOf v).toNat)
      case atStart => exact ⟨0, rfl, Nat.zero_le _, by first | exact rfl | exact trivial, rfl⟩
      case round =>
        rename World => w5
        obtain ⟨k, rfl, hk, HW, HB⟩ := hrel
        obtain rfl : w5 = wr := HW.out
        clear HW
        by_cases hlt : k < lp.length
        · obtain ⟨_, _, _, e, _, _, hcells⟩ := HL.out.there h0
          cases e
          obtain ⟨x, hx⟩ : ∃ x, lp.getD k 0 = x := ⟨_, rfl⟩
          have y1 := hcells k hlt
          rw [hx] at y1
          have hxs : x < 65536 := by rw [← hx]; exact getD_small HL.out.small k
          have z1 : (0 : Int) ≤ (k : Int) := by omega
          have z5 : (k : Int) < (lp.length : Int) := by omega
          have z3 : IntKind.i64.wrap (x : Int) = (x : Int) := by rw [IntKind.wrap_i64]; omega
          by_cases hg : M ≤ x
          · have z4 : (M : Int) ≤ (x : Int) := by omega
            have HE : Hid ((50 : Int) = (R : Int)) := by show (50 : Int) = R; rw [HR.out, if_pos (.inr (anyGreat_at hlt (by rw [HM.out, hx]; exact hg)))]; rfl
            clear hcells hx hg
            go_wp2
            go_ret
            exact ⟨ret_int HE.out, HK.out⟩
          · have z4 : ¬ ((M : Int) ≤ (x : Int)) := by omega
            have HB2 : Hid (anyGreat p (lp.take (k + 1)) = false) := by show _ = _; rw [anyGreat_take hlt, HB.out, hx, HM.out]; simp; omega
            clear hcells hx hg
            go_wp2
            go_roundw
            case rel => exact ⟨k + 1, by go_num, by omega, by first | exact rfl | exact trivial, HB2.out⟩
            case measure => simp [intOf]; omega
        · obtain rfl : k = lp.length := by omega
          have z5 : ¬ ((lp.length : Int) < (lp.length : Int)) := by omega
          rw [List.take_length] at HB
          have HE : Hid ((0 : Int) = (R : Int)) := by show (0 : Int) = R; rw [HR.out, HA.out, HB.out]; simp
          clear hlt hk
          go_wp2
          go_ret
          exact ⟨ret_int HE.out, HK.out⟩
theorem refCheck_any (sv lv : Value) (q : Wd) (n : Int) (w : World) (h : IsW w sv lv q) :
    Calls Tryd.prog 21 #[.agg #[sv, lv], .int .i64 n] w fun e w' => e = .returned (.int .i64 (checkE q n : Nat)) ∧ Kept [] w w' := by
  obtain ⟨st, lp⟩ := q
  by_cases hn : 0 ≤ n ∧ n ≤ 8
  · obtain ⟨p, rfl⟩ : ∃ p : Nat, n = (p : Int) := ⟨n.toNat, by omega⟩
    have hp : p ≤ 8 := by omega
    by_cases h0 : 0 < lp.length
    · obtain ⟨b, o, c, rfl, _⟩ := h.lp.there h0
      refine refCheck_some sv b o c st lp p w h.st h.lp h0 hp _ ?_
      rw [check_in hp]
      simp only [show ¬ (lp.length = 0) by omega, false_or]
    · obtain rfl : lp = [] := List.length_eq_zero_iff.1 (by omega)
      obtain ⟨ad, c, rfl, _, _⟩ := h.lp.form
      have := refCheck_none sv ad c st p w h.st hp
      rw [check_in hp, if_pos (.inl rfl)]
      exact this
  · rw [check_out hn]
    exact refCheck_bad sv lv ⟨st, lp⟩ n w h hn
theorem check_any (sv lv : Value) (q : Wd) (n : Int) (w : World) (h : IsW w sv lv q) :
    Calls Tryd.prog 20 #[.agg #[sv, lv], .int .i64 n] w fun e w' => e = .returned (.int .i64 (checkE q n : Nat)) ∧ Kept [] w w' := by
  by_cases hn : 0 ≤ n ∧ n ≤ 8
  · obtain ⟨p, rfl⟩ : ∃ p : Nat, n = (p : Int) := ⟨n.toNat, by omega⟩
    exact check_good sv lv q p w h (by omega)
  · rw [check_out hn]
    exact check_bad sv lv q n w h hn
theorem append_letP {w W : World} {v : Value} {xs : List Nat} {x : Nat} (hk : Kept [] w W) (hown : W.ownsRow w.heap.size 54 1 v xs.length (u16s xs)) (hx : x < 65536) (hl : xs.length + 1 ≤ 70368744177664) :
    ∃ ad c w', (∀ ty, (Builtin.append_ #[22, 22] ty #[v, .slice (some ⟨W.heap.size, 0, none⟩) 1 1]).run Tryd.prog (W.alloc (.cells #[.int .u16 (x : Nat)] 54)) = .ok (.slice ad (xs ++ [x]).length c) w') ∧ w'.ownsRow w.heap.size 54 1 (.slice ad (xs ++ [x]).length c) (xs ++ [x]).length (u16s (xs ++ [x])) ∧ Kept [] w w' := by
  have hz := hk.size
  have ka : Kept [] W (W.alloc (.cells #[.int .u16 (x : Nat)] 54)) := (Kept.refl [] W).alloc _
  have ho : (W.alloc (.cells #[.int .u16 (x : Nat)] 54)).ownsRow w.heap.size 54 1 v xs.length (u16s xs) := owns_keptF hown ka (by simp)
  have hu : Lets (W.alloc (.cells #[.int .u16 (x : Nat)] 54)) (.slice (some ⟨W.heap.size, 0, none⟩) 1 1) [x] := by
    refine ⟨by simpa using hx, by simp, .inr ⟨W.heap.size, 0, 1, rfl, by simp, by unfold maxLen; omega, fun i hi => ?_⟩⟩
    obtain rfl : i = 0 := by simpa using hi
    exact (cell_of (heap_alloc_new W _) 0).trans rfl
  obtain ⟨v', w', h1, h2, h3, _, _⟩ := run_append_lets _ w.heap.size v _ xs [x] ho hu (by simpa using hl) (by rw [World.size_alloc]; omega)
  obtain ⟨ad, c, rfl⟩ := own_form h2
  exact ⟨ad, c, w', h1, h2, (hk.alloc _).grown h3 (fun g e => .inr (own_base ho e))⟩
def prefL (q : Wd) (n : Int) : List Nat := if q.loop.length = 0 then [] else prefN q (min n.toNat 65536)
theorem prefL_none {q : Wd} {n : Int} (h : q.loop.length = 0) : prefL q n = [] := by unfold prefL; rw [if_pos h]
theorem prefL_some {q : Wd} {n : Int} (h : 0 < q.loop.length) : prefL q n = prefN q (min n.toNat 65536) := by unfold prefL; rw [if_neg (by omega)]
theorem prefN_succ (q : Wd) (i : Nat) : prefN q (i + 1) = prefN q i ++ [q.at i] := by unfold prefN; rw [List.range_succ, List.map_append]; rfl
theorem prefL_len (q : Wd) (n : Int) : (prefL q n).length ≤ 65536 := by
  by_cases h : q.loop.length = 0
  · rw [prefL_none h]; simp
  · rw [prefL_some (by omega), prefN_len]; omega
theorem prefN_small {q : Wd} (h1 : ∀ x ∈ q.stem, x < 65536) (h2 : ∀ x ∈ q.loop, x < 65536) (m : Nat) : ∀ x ∈ prefN q m, x < 65536 := by
  intro x hx
  obtain ⟨i, _, rfl⟩ := List.mem_map.1 hx
  exact at_small h1 h2 i
theorem prefL_small {q : Wd} (h1 : ∀ x ∈ q.stem, x < 65536) (h2 : ∀ x ∈ q.loop, x < 65536) (n : Int) : ∀ x ∈ prefL q n, x < 65536 := by
  by_cases h : q.loop.length = 0
  · rw [prefL_none h]; simp
  · rw [prefL_some (by omega)]; exact prefN_small h1 h2 _
/-- What Prefix answers: letters of its own. -/
def PrefEnds (w : World) (xs : List Nat) (e : Ending) (w' : World) : Prop := ∃ ad c, e = .returned (.slice ad xs.length c) ∧ Hid (w'.ownsRow w.heap.size 54 1 (.slice ad xs.length c) xs.length (u16s xs)) ∧ Hid (Kept [] w w')
set_option maxHeartbeats 4000000 in
set_option maxRecDepth 10000 in
theorem refPrefix_any (sv lv : Value) (q : Wd) (n : Int) (w : World) (h : IsW w sv lv q) :
    Calls Tryd.prog 19 #[.agg #[sv, lv], .int .i64 n] w (PrefEnds w (prefL q n)) := by
  have hsm := h.st.small
  have hlm := h.lp.small
  have hA : ∀ W (j : Nat), Kept [] w W → j < 65536 → 0 < q.loop.length → Calls Tryd.prog 27 #[.agg #[sv, lv], .int .i64 j] W fun e w' => e = .returned (.int .u16 (q.at j : Nat)) ∧ Kept [] W w' := fun W j k hj h0 => by
    have := refAt_any sv lv q j W (h.kept k) (by omega)
    unfold atI at this
    rw [if_neg (by omega), Int.toNat_natCast] at this
    exact this
  obtain ⟨ast, cs, rfl, _, _⟩ := h.st.form
  obtain ⟨al, cl, rfl, _, _⟩ := h.lp.form
  have HAt : Hid (∀ W (j : Nat), Kept [] w W → j < 65536 → 0 < q.loop.length → Calls Tryd.prog 27 #[.agg #[.slice ast q.stem.length cs, .slice al q.loop.length cl], .int .i64 j] W fun e w' => e = .returned (.int .u16 (q.at j : Nat)) ∧ Kept [] W w') := hA
  obtain ⟨V, hV⟩ : ∃ V, w.alloc (.cells #[.slice ast q.stem.length cs, .slice al q.loop.length cl] 24) = V := ⟨_, rfl⟩
  have HN : Hid (Wd2 V w.heap.size (.slice ast q.stem.length cs) (.slice al q.loop.length cl)) := by show Wd2 _ _ _ _; rw [← hV]; exact heap_alloc_new w _
  have HK : Hid (Kept [] w V) := by show Kept [] w V; rw [← hV]; exact (Kept.refl [] w).alloc _
  have HV : Hid (_ = V) := hV
  obtain ⟨m, hm⟩ : ∃ m, (prefL q n).length = m := ⟨_, rfl⟩
  have hm6 : m ≤ 65536 := by rw [← hm]; exact prefL_len q n
  have hin : ∀ i : Nat, i < m → (i : Int) < n ∧ 0 < q.loop.length := fun i hi => by
    by_cases h0 : q.loop.length = 0
    · rw [prefL_none h0] at hm; simp at hm; omega
    · rw [prefL_some (by omega), prefN_len] at hm; omega
  have hout : (m : Int) < n → (m : Int) < 65536 → q.loop.length = 0 := fun h1 h2 => by
    rcases Nat.eq_zero_or_pos q.loop.length with h0 | h0
    · exact h0
    · rw [prefL_some h0, prefN_len] at hm; omega
  have HP : Hid (prefN q m = prefL q n) := by
    show _ = _
    by_cases h0 : q.loop.length = 0
    · rw [prefL_none h0] at hm ⊢; simp at hm; subst hm; rfl
    · rw [prefL_some (by omega), prefN_len] at hm; rw [prefL_some (by omega), hm]
  have HIN : Hid (∀ i : Nat, i < m → (i : Int) < n ∧ 0 < q.loop.length) := hin
  have HOUT : Hid ((m : Int) < n → (m : Int) < 65536 → q.loop.length = 0) := hout
  have HSM : Hid (∀ i, q.at i < 65536) := fun i => at_small hsm hlm i
  clear h hV hsm hlm hin hout hm hA
  obtain ⟨nl, hnl⟩ : ∃ nl, q.loop.length = nl := ⟨_, rfl⟩
  rw [hnl] at HN HAt HIN HOUT
  clear hnl
  go_enter Tryd.func19, Tryd.ntmps19
  go_wp2_with fail
  first | rw [HV.out] | skip
  clear HV
  go_loopw [5, 6] (fun v5 v6 wr => ∃ (i : Nat) (a5 : Option Addr) (c5 : Nat), v5 = .slice a5 i c5 ∧ v6 = .int .i64 (i : Nat) ∧ i ≤ m ∧ Hid (wr.ownsRow V.heap.size 54 1 (.slice a5 i c5) (prefN q i).length (u16s (prefN q i))) ∧ Hid (Kept [] V wr)) (fun _ v6 _ => m - (intOf v6).toNat)
  case atStart => exact ⟨0, none, 0, rfl, rfl, Nat.zero_le _, own_nil _ _, Kept.refl [] V⟩
  case round =>
    obtain ⟨i, a5, c5, rfl, rfl, hi, HO, HK2⟩ := hrel
    obtain ⟨c0, c1, _, _⟩ := (HN.out.kept HK2.out).cells
    have HL : Hid ((prefN q i).length = i) := prefN_len q i
    by_cases hlt : i < m
    · obtain ⟨hin, h0⟩ := HIN.out i hlt
      have z0 : decide ((i : Int) < n) = true := decide_eq_true hin
      have z1 : decide ((i : Int) < 65536) = true := decide_eq_true (by omega)
      have z2 : decide ((0 : Int) < (nl : Int)) = true := decide_eq_true (by omega)
      have z3 : decide (0 < nl) = true := decide_eq_true (by omega)
      obtain ⟨x, hx⟩ : ∃ x, q.at i = x := ⟨_, rfl⟩
      have HX : Hid (prefN q (i + 1) = prefN q i ++ [x] ∧ x < 65536) := ⟨by rw [prefN_succ, hx], by rw [← hx]; exact HSM.out i⟩
      have HAI : Hid (Calls Tryd.prog 27 #[.agg #[.slice ast q.stem.length cs, .slice al nl cl], .int .i64 i] wr fun e w2 => e = .returned (.int .u16 (x : Nat)) ∧ Hid (Kept [] wr w2)) := by
        have := HAt.out wr i (HK.out.trans HK2.out (by simp) (by simp)) (by omega) h0
        rw [hx] at this
        exact this
      have HLT : Hid (i < m) := hlt
      have HI6 : Hid (i < 65536) := by show i < 65536; omega
      have hb9 : i < 70368744177664 := by omega
      clear hx hlt h0 hin hi hm6
      go_wp2_with (first
        | (go_at_call 27; refine HAI.out.mono ?_; rintro e w2 ⟨rfl, HK3⟩)
        | (at_builtin; obtain ⟨a7, c7, w5, hrun, hown, hkept⟩ := append_letP (HK2.out.trans HK3.out (by simp) (by simp)) (owns_keptF HO.out HK3.out (by simp)) HX.out.2 (by rw [HL.out]; have := HI6.out; omega); refine Lib.wpList_append_run _ rfl _ _ _ _ rfl _ _ rfl rfl _ _ (hrun _) ?_; have HO5 : Hid (w5.ownsRow V.heap.size 54 1 (.slice a7 (prefN q i ++ [x]).length c7) (prefN q i ++ [x]).length (u16s (prefN q i ++ [x]))) := hown; have HK5 : Hid (Kept [] V w5) := hkept; clear hrun hown hkept))
      go_roundw
      case rel => exact ⟨i + 1, a7, c7, by rw [HL.out], by go_num, HLT.out, by rw [HX.out.1]; have := HO5.out; rw [show (Value.slice a7 (prefN q i ++ [x]).length c7) = .slice a7 (i + 1) c7 by rw [List.length_append, HL.out]; rfl] at this; exact this, HK5.out⟩
      case measure =>
        have h1 := HLT.out
        simp [intOf]
        omega
    · obtain rfl : i = m := by omega
      have HEK : Hid (Kept [] w wr) := HK.out.trans HK2.out (by simp) (by simp)
      have HEO : Hid (wr.ownsRow w.heap.size 54 1 (.slice a5 i c5) (prefN q i).length (u16s (prefN q i))) := owns_low HO.out HK.out.size
      rw [HL.out] at HEO
      clear hlt hi HIN HAt
      by_cases n1 : (i : Int) < n
      · have z0 : decide ((i : Int) < n) = true := decide_eq_true n1
        by_cases n2 : (i : Int) < 65536
        · have h0 := HOUT.out n1 n2
          have z1 : decide ((i : Int) < 65536) = true := decide_eq_true n2
          subst h0
          clear n1 n2 hm6
          go_wp2
          go_ret
          exact ⟨a5, c5, by rw [← HP.out, HL.out]; rfl, by rw [← HP.out, HL.out]; exact HEO.out, HEK.out⟩
        · have z1 : decide ((i : Int) < 65536) = false := decide_eq_false n2
          clear n1 n2 hm6
          go_wp2
          go_ret
          exact ⟨a5, c5, by rw [← HP.out, HL.out]; rfl, by rw [← HP.out, HL.out]; exact HEO.out, HEK.out⟩
      · have z0 : decide ((i : Int) < n) = false := decide_eq_false n1
        clear n1 hm6
        go_wp2
        go_ret
        exact ⟨a5, c5, by rw [← HP.out, HL.out]; rfl, by rw [← HP.out, HL.out]; exact HEO.out, HEK.out⟩
end Go.Proofs.YtgbmfclboliliaaDoor

/- words.Prefix, of whatever number. -/
namespace Go.Proofs.YtgbmfclboliliaaDoor
open Go.RowKit
attribute [local go_sem ↓] Go.wp_at_zero Go.wp_at_succ

set_option maxHeartbeats 2000000 in
theorem prefix_neg (sv lv : Value) (q : Wd) (n : Int) (m : Nat) (w : World) (h : IsW w sv lv q) (h0 : 0 < q.loop.length) (hm : m ≤ 65536) (hn : n < 0) (h00 : m = 0) :
    Calls Tryd.prog 13 #[.agg #[sv, lv], .int .i64 n] w fun e w' => ∃ g, e = .returned (.slice (some ⟨g, 0, none⟩) m m) ∧ w'.ownsRow w.heap.size 54 1 (.slice (some ⟨g, 0, none⟩) m m) (prefN q m).length (u16s (prefN q m)) ∧ Kept [] w w' := by
  have HAt : Hid (∀ W (j : Nat), Kept [] w W → j < 65536 → Calls Tryd.prog 26 #[.agg #[sv, lv], .int .i64 j] W fun e w' => e = .returned (.int .u16 (q.at j : Nat)) ∧ Kept [] W w') := fun W j k hj => by
    have := at_any sv lv q j W (h.kept k) (by omega)
    unfold atI at this
    rw [if_neg (by omega), Int.toNat_natCast] at this
    exact this
  obtain ⟨ast, cs, rfl, _, _⟩ := h.st.form
  obtain ⟨al, cl, rfl, _, _⟩ := h.lp.form
  have b4 : decide (0 < q.loop.length) = true := by simpa using h0
  have HN : Hid (Wd2 (w.alloc (.cells #[.slice ast q.stem.length cs, .slice al q.loop.length cl] 24)) w.heap.size (.slice ast q.stem.length cs) (.slice al q.loop.length cl)) := heap_alloc_new w _
  clear h
  have hmk : ∀ W : World, Sem.run Tryd.prog (Instr.makeSlice 22 (.int .i64 0) (.int .i64 0)) W = .ok (.slice (some ⟨W.heap.size, 0, none⟩) m m) (W.alloc (.cells (Array.replicate m (.int .u16 0)) 54)) := fun W => by
    have := make_u16 W m hm
    rw [show ((m : Nat) : Int) = 0 by omega] at this
    exact this
  clear h00
  go_enter Tryd.func13, Tryd.ntmps13
  go_wp2_with (go_at_call 43; refine (endless_any _ _ _ _ _).mono ?_; rintro e w1 ⟨rfl, hk⟩; rw [b4]; have HC : Hid (Wd2 w1 w.heap.size (.slice ast q.stem.length cs) (.slice al q.loop.length cl)) := HN.out.kept hk; have HK : Hid (Kept [] w w1) := Kept.trans (F := []) (G := []) (H := []) ((Kept.refl [] w).alloc _) hk (by simp) (by simp); clear hk)
  clear hmk
  go_loopw [6, 16] (fun _ v wr => ∃ i : Nat, v = .int .i64 i ∧ i ≤ m ∧ Hid (Fill wr w1.heap.size m i q) ∧ Hid (Kept [] w wr) ∧ Hid (Wd2 wr w.heap.size (.slice ast q.stem.length cs) (.slice al q.loop.length cl))) (fun _ v _ => m - (intOf v).toNat)
  case atStart => exact ⟨0, rfl, Nat.zero_le _, ⟨_, heap_alloc_new w1 _, by simp, fun j hj => by omega⟩, HK.out.alloc _, HC.out.kept ((Kept.refl [] w1).alloc _)⟩
  case round =>
    obtain ⟨i, rfl, hi, HF, HK2, HC2⟩ := hrel
    by_cases hlt : i < m
    · have hli : (i : Int) < (m : Int) := by omega
      have hi0 : (0 : Int) ≤ (i : Int) := by omega
      obtain ⟨c0, c1, _, _⟩ := HC2.out.cells
      have HW1 : Hid (w.heap.size < w1.heap.size) := lt_of HC.out
      obtain ⟨x, hx⟩ : ∃ x, q.at i = x := ⟨_, rfl⟩
      have HX : Hid (q.at i = x) := hx
      have HAI : Hid (Calls Tryd.prog 26 #[.agg #[.slice ast q.stem.length cs, .slice al q.loop.length cl], .int .i64 i] wr fun e w2 => e = .returned (.int .u16 (x : Nat)) ∧ Hid (Kept [] wr w2) ∧ Hid (Fill w2 w1.heap.size m i q) ∧ ∃ v0, w2.cell? ⟨w1.heap.size, i, none⟩ = some v0 ∧ w2.frozen? ⟨w1.heap.size, i, none⟩ = false) := by
        have := HAt.out wr i HK2.out (by omega)
        rw [hx] at this
        refine this.mono ?_
        rintro e w2 ⟨rfl, hk⟩
        obtain ⟨arr, h1, h2, h3⟩ := HF.out
        have h1' := hk.at h1 (by simp)
        exact ⟨rfl, hk, ⟨arr, h1', h2, h3⟩, _, (cell_of h1' i).trans (Array.getElem?_eq_getElem (by omega)), free_of h1' i⟩
      clear hx
      go_wp2_with (go_at_call 26; refine HAI.out.mono ?_; rintro e w2 ⟨rfl, HK3, HF2, v0, d0, f0⟩)
      go_roundw
      case rel =>
        have k3 : Kept [] w w2 := HK2.out.trans HK3.out (by simp) (by simp)
        refine ⟨i + 1, by go_num, by omega, ?_, k3.setCell (.inr (Nat.le_of_lt HW1.out)) _, ?_⟩
        · have := HF2.out.step hlt
          rw [HX.out] at this
          exact this
        · exact (HC2.out.kept HK3.out).keptF (F := [w1.heap.size]) ((Kept.refl _ w2).setCell (.inl (by simp)) _) (by simp; have := HW1.out; omega)
      case measure => simp [intOf]; omega
    · obtain rfl : i = m := by omega
      have hli : ¬ ((i : Int) < (i : Int)) := by omega
      have HW1 : Hid (w.heap.size < w1.heap.size) := lt_of HC.out
      go_wp2
      go_ret
      exact ⟨_, rfl, HF.out.own (Nat.le_of_lt HW1.out) hm, HK2.out⟩
set_option maxHeartbeats 2000000 in
theorem prefix_big (sv lv : Value) (q : Wd) (n : Int) (m : Nat) (w : World) (h : IsW w sv lv q) (h0 : 0 < q.loop.length) (hm : m ≤ 65536) (hn : 65536 < n) (h00 : m = 65536) :
    Calls Tryd.prog 13 #[.agg #[sv, lv], .int .i64 n] w fun e w' => ∃ g, e = .returned (.slice (some ⟨g, 0, none⟩) m m) ∧ w'.ownsRow w.heap.size 54 1 (.slice (some ⟨g, 0, none⟩) m m) (prefN q m).length (u16s (prefN q m)) ∧ Kept [] w w' := by
  have HAt : Hid (∀ W (j : Nat), Kept [] w W → j < 65536 → Calls Tryd.prog 26 #[.agg #[sv, lv], .int .i64 j] W fun e w' => e = .returned (.int .u16 (q.at j : Nat)) ∧ Kept [] W w') := fun W j k hj => by
    have := at_any sv lv q j W (h.kept k) (by omega)
    unfold atI at this
    rw [if_neg (by omega), Int.toNat_natCast] at this
    exact this
  obtain ⟨ast, cs, rfl, _, _⟩ := h.st.form
  obtain ⟨al, cl, rfl, _, _⟩ := h.lp.form
  have b4 : decide (0 < q.loop.length) = true := by simpa using h0
  have HN : Hid (Wd2 (w.alloc (.cells #[.slice ast q.stem.length cs, .slice al q.loop.length cl] 24)) w.heap.size (.slice ast q.stem.length cs) (.slice al q.loop.length cl)) := heap_alloc_new w _
  clear h
  have hmk : ∀ W : World, Sem.run Tryd.prog (Instr.makeSlice 22 (.int .i64 65536) (.int .i64 65536)) W = .ok (.slice (some ⟨W.heap.size, 0, none⟩) m m) (W.alloc (.cells (Array.replicate m (.int .u16 0)) 54)) := fun W => by
    have := make_u16 W m hm
    rw [show ((m : Nat) : Int) = 65536 by omega] at this
    exact this
  clear h00
  have b1 : (0 : Int) ≤ n := by omega
  have b3 : ¬ (n < 0) := by omega
  have b2 : ¬ (n ≤ 65536) := by omega
  go_enter Tryd.func13, Tryd.ntmps13
  go_wp2_with (go_at_call 43; refine (endless_any _ _ _ _ _).mono ?_; rintro e w1 ⟨rfl, hk⟩; rw [b4]; have HC : Hid (Wd2 w1 w.heap.size (.slice ast q.stem.length cs) (.slice al q.loop.length cl)) := HN.out.kept hk; have HK : Hid (Kept [] w w1) := Kept.trans (F := []) (G := []) (H := []) ((Kept.refl [] w).alloc _) hk (by simp) (by simp); clear hk)
  clear hmk
  go_loopw [6, 16] (fun _ v wr => ∃ i : Nat, v = .int .i64 i ∧ i ≤ m ∧ Hid (Fill wr w1.heap.size m i q) ∧ Hid (Kept [] w wr) ∧ Hid (Wd2 wr w.heap.size (.slice ast q.stem.length cs) (.slice al q.loop.length cl))) (fun _ v _ => m - (intOf v).toNat)
  case atStart => exact ⟨0, rfl, Nat.zero_le _, ⟨_, heap_alloc_new w1 _, by simp, fun j hj => by omega⟩, HK.out.alloc _, HC.out.kept ((Kept.refl [] w1).alloc _)⟩
  case round =>
    obtain ⟨i, rfl, hi, HF, HK2, HC2⟩ := hrel
    by_cases hlt : i < m
    · have hli : (i : Int) < (m : Int) := by omega
      have hi0 : (0 : Int) ≤ (i : Int) := by omega
      obtain ⟨c0, c1, _, _⟩ := HC2.out.cells
      have HW1 : Hid (w.heap.size < w1.heap.size) := lt_of HC.out
      obtain ⟨x, hx⟩ : ∃ x, q.at i = x := ⟨_, rfl⟩
      have HX : Hid (q.at i = x) := hx
      have HAI : Hid (Calls Tryd.prog 26 #[.agg #[.slice ast q.stem.length cs, .slice al q.loop.length cl], .int .i64 i] wr fun e w2 => e = .returned (.int .u16 (x : Nat)) ∧ Hid (Kept [] wr w2) ∧ Hid (Fill w2 w1.heap.size m i q) ∧ ∃ v0, w2.cell? ⟨w1.heap.size, i, none⟩ = some v0 ∧ w2.frozen? ⟨w1.heap.size, i, none⟩ = false) := by
        have := HAt.out wr i HK2.out (by omega)
        rw [hx] at this
        refine this.mono ?_
        rintro e w2 ⟨rfl, hk⟩
        obtain ⟨arr, h1, h2, h3⟩ := HF.out
        have h1' := hk.at h1 (by simp)
        exact ⟨rfl, hk, ⟨arr, h1', h2, h3⟩, _, (cell_of h1' i).trans (Array.getElem?_eq_getElem (by omega)), free_of h1' i⟩
      clear hx
      go_wp2_with (go_at_call 26; refine HAI.out.mono ?_; rintro e w2 ⟨rfl, HK3, HF2, v0, d0, f0⟩)
      go_roundw
      case rel =>
        have k3 : Kept [] w w2 := HK2.out.trans HK3.out (by simp) (by simp)
        refine ⟨i + 1, by go_num, by omega, ?_, k3.setCell (.inr (Nat.le_of_lt HW1.out)) _, ?_⟩
        · have := HF2.out.step hlt
          rw [HX.out] at this
          exact this
        · exact (HC2.out.kept HK3.out).keptF (F := [w1.heap.size]) ((Kept.refl _ w2).setCell (.inl (by simp)) _) (by simp; have := HW1.out; omega)
      case measure => simp [intOf]; omega
    · obtain rfl : i = m := by omega
      have hli : ¬ ((i : Int) < (i : Int)) := by omega
      have HW1 : Hid (w.heap.size < w1.heap.size) := lt_of HC.out
      go_wp2
      go_ret
      exact ⟨_, rfl, HF.out.own (Nat.le_of_lt HW1.out) hm, HK2.out⟩
theorem prefix_any (sv lv : Value) (q : Wd) (n : Int) (w : World) (h : IsW w sv lv q) :
    Calls Tryd.prog 13 #[.agg #[sv, lv], .int .i64 n] w (PrefEnds w (prefL q n)) := by
  by_cases h0 : q.loop.length = 0
  · obtain ⟨st, lp⟩ := q
    obtain rfl : lp = [] := List.length_eq_zero_iff.1 h0
    obtain ⟨ad, c, rfl, _, _⟩ := h.lp.form
    refine (prefix_none sv ad c st n w h.st).mono ?_
    rintro e w' ⟨rfl, k⟩
    rw [prefL_none h0]
    exact ⟨none, 0, rfl, own_nil _ _, k⟩
  · rw [prefL_some (by omega)]
    obtain ⟨m, hm⟩ : ∃ m, min n.toNat 65536 = m := ⟨_, rfl⟩
    rw [hm]
    have hl := prefN_len q m
    have key : (Calls Tryd.prog 13 #[.agg #[sv, lv], .int .i64 n] w fun e w' => ∃ g, e = .returned (.slice (some ⟨g, 0, none⟩) m m) ∧ w'.ownsRow w.heap.size 54 1 (.slice (some ⟨g, 0, none⟩) m m) (prefN q m).length (u16s (prefN q m)) ∧ Kept [] w w') := by
      by_cases h1 : n < 0
      · exact prefix_neg sv lv q n m w h (by omega) (by omega) h1 (by omega)
      · by_cases h2 : 65536 < n
        · exact prefix_big sv lv q n m w h (by omega) (by omega) h2 (by omega)
        · obtain rfl : n = (m : Int) := by omega
          exact prefix_some sv lv q m w h (by omega) (by omega)
    refine key.mono ?_
    rintro e w' ⟨g, rfl, ho, k⟩
    refine ⟨some ⟨g, 0, none⟩, m, by rw [hl], ?_, k⟩
    have : w'.ownsRow w.heap.size 54 1 (.slice (some ⟨g, 0, none⟩) m m) (prefN q m).length (u16s (prefN q m)) := ho
    rw [hl] at this ⊢
    exact this
end Go.Proofs.YtgbmfclboliliaaDoor
