/- words.Prefix; words.Same. -/
import Derived.Test.YtamfnefnaelgfaaDoorWdSuf
namespace Go.Proofs.YtamfnefnaelgfaaDoor
open Go.RowKit
attribute [local go_sem ↓] Go.wp_at_zero Go.wp_at_succ

theorem make_u16 (w : World) (k : Nat) (hk : k ≤ 65536) : Sem.run Tryd.prog (Instr.makeSlice 45 (.int .i64 k) (.int .i64 k)) w = .ok (.slice (some ⟨w.heap.size, 0, none⟩) k k) (w.alloc (.cells (Array.replicate k (.int .u16 0)) 51)) := by
  obtain ⟨i0, hi, hz0, hz1, hz2⟩ := info_parts Tryd.infoU16
  have H := run_make (P := Tryd.prog) w 45 51 i0 _ Tryd.underlying45 hi hz0 .i64 .i64 k k (by omega) (by omega) (by rw [hz2]; omega) (by omega)
  rw [H, hz1]
  have e : madeCells (Value.cells (.int .u16 0)) (k * 1) = Array.replicate k (Value.int .u16 0) := by
    apply Array.toList_inj.1
    rw [show Value.cells (.int .u16 0) = #[Value.int .u16 0] from rfl, toList_madeCells_one]; simp
  simp only [Int.toNat_natCast]
  rw [e]
/-- The first m letters. -/
def prefN (q : Wd) (m : Nat) : List Nat := (List.range m).map q.at
theorem prefN_len (q : Wd) (m : Nat) : (prefN q m).length = m := by simp [prefN]
theorem at_small {q : Wd} (h1 : ∀ x ∈ q.stem, x < 65536) (h2 : ∀ x ∈ q.loop, x < 65536) (i : Nat) : q.at i < 65536 := by
  have key : ∀ (l : List Nat) (j : Nat), (∀ x ∈ l, x < 65536) → l.getD j 0 < 65536 := fun l j h => by
    rw [List.getD_eq_getElem?_getD]
    rcases Nat.lt_or_ge j l.length with hn | hn
    · rw [List.getElem?_eq_getElem hn]; exact h _ (List.getElem_mem _)
    · rw [List.getElem?_eq_none hn]; decide
  unfold Wd.at
  split
  · exact key _ _ h1
  · exact key _ _ h2
/-- A row that is being filled. -/
def Fill (W : World) (g m i : Nat) (q : Wd) : Prop := ∃ arr, W.heap[g]? = some (.cells arr 51 (0, 0)) ∧ arr.size = m ∧ ∀ j, j < i → arr[j]? = some (.int .u16 (q.at j : Nat))
theorem Fill.step {W : World} {g m i : Nat} {q : Wd} (h : Fill W g m i q) (hi : i < m) : Fill (W.setCell ⟨g, i, none⟩ (.int .u16 (q.at i : Nat))) g m (i + 1) q := by
  obtain ⟨arr, h1, h2, h3⟩ := h
  refine ⟨arr.setIfInBounds i (.int .u16 (q.at i : Nat)), row_set h1 _, by simpa using h2, fun j hj => ?_⟩
  rw [Array.getElem?_setIfInBounds]
  split
  · rename_i e; subst e; rw [if_pos (by omega)]
  · exact h3 j (by omega)
theorem Fill.own {W : World} {g m n₀ : Nat} {q : Wd} (h : Fill W g m m q) (hg : n₀ ≤ g) (hm : m ≤ 65536) : W.ownsRow n₀ 51 1 (.slice (some ⟨g, 0, none⟩) m m) (prefN q m).length (u16s (prefN q m)) := by
  obtain ⟨arr, h1, h2, h3⟩ := h
  rw [prefN_len]
  refine ⟨by simp [u16s, prefN], .inr ⟨g, m, arr, rfl, hg, h1, Nat.le_refl _, by unfold maxLen; omega, by simpa using h2, ?_⟩⟩
  apply List.ext_getElem?
  intro j
  rw [List.getElem?_take, Nat.mul_one]
  rcases Nat.lt_or_ge j m with hj | hj
  · rw [if_pos hj, Array.getElem?_toList, h3 j hj]
    simp [u16s, prefN, hj]
  · rw [if_neg (by omega)]
    rw [List.getElem?_eq_none (by rw [u16s_len, prefN_len]; omega)]
set_option maxHeartbeats 800000 in
theorem prefix_none (sv : Value) (ad : Option Addr) (c : Nat) (st : List Nat) (n : Int) (w : World) (hs : Lets w sv st) :
    Calls Tryd.prog 21 #[.agg #[sv, .slice ad 0 c], .int .i64 n] w fun e w' => e = .returned (.slice none 0 0) ∧ Kept [] w w' := by
  obtain ⟨ads, cs, rfl, _, _⟩ := hs.form
  clear hs
  go_enter Tryd.func21, Tryd.ntmps21
  go_wp2_with (go_at_call 41; refine (endless_any _ _ _ _ _).mono ?_; rintro e w1 ⟨rfl, hk⟩; have HK : Hid (Kept [] w w1) := Kept.trans (F := []) (G := []) (H := []) ((Kept.refl [] w).alloc _) hk (by simp) (by simp); clear hk)
  go_ret
  exact ⟨rfl, HK.out⟩

set_option maxHeartbeats 2000000 in
theorem prefix_some (sv lv : Value) (q : Wd) (m : Nat) (w : World) (h : IsW w sv lv q) (h0 : 0 < q.loop.length) (hm : m ≤ 65536) :
    Calls Tryd.prog 21 #[.agg #[sv, lv], .int .i64 m] w fun e w' => ∃ g, e = .returned (.slice (some ⟨g, 0, none⟩) m m) ∧ w'.ownsRow w.heap.size 51 1 (.slice (some ⟨g, 0, none⟩) m m) (prefN q m).length (u16s (prefN q m)) ∧ Kept [] w w' := by
  have HAt : Hid (∀ W (j : Nat), Kept [] w W → j < 65536 → Calls Tryd.prog 18 #[.agg #[sv, lv], .int .i64 j] W fun e w' => e = .returned (.int .u16 (q.at j : Nat)) ∧ Kept [] W w') := fun W j k hj => by
    have := at_any sv lv q j W (h.kept k) (by omega)
    unfold atI at this
    rw [if_neg (by omega), Int.toNat_natCast] at this
    exact this
  obtain ⟨ast, cs, rfl, _, _⟩ := h.st.form
  obtain ⟨al, cl, rfl, _, _⟩ := h.lp.form
  have b4 : decide (0 < q.loop.length) = true := by simpa using h0
  have HN : Hid (Wd2 (w.alloc (.cells #[.slice ast q.stem.length cs, .slice al q.loop.length cl] 47)) w.heap.size (.slice ast q.stem.length cs) (.slice al q.loop.length cl)) := heap_alloc_new w _
  clear h
  have hmk := fun W : World => make_u16 W m hm
  have b1 : (0 : Int) ≤ (m : Int) := by omega
  have b2 : (m : Int) ≤ 65536 := by omega
  go_enter Tryd.func21, Tryd.ntmps21
  go_wp2_with (go_at_call 41; refine (endless_any _ _ _ _ _).mono ?_; rintro e w1 ⟨rfl, hk⟩; rw [b4]; have HC : Hid (Wd2 w1 w.heap.size (.slice ast q.stem.length cs) (.slice al q.loop.length cl)) := HN.out.kept hk; have HK : Hid (Kept [] w w1) := Kept.trans (F := []) (G := []) (H := []) ((Kept.refl [] w).alloc _) hk (by simp) (by simp); clear hk)
  clear hmk
  go_loopw [6, 16] (fun _ v wr => ∃ i : Nat, v = .int .i64 i ∧ i ≤ m ∧ Hid (Fill wr w1.heap.size m i q) ∧ Hid (Kept [] w wr) ∧ Hid (Wd2 wr w.heap.size (.slice ast q.stem.length cs) (.slice al q.loop.length cl))) (fun _ v _ => m - (intOf v).toNat)
  case atStart => exact ⟨0, rfl, Nat.zero_le _, ⟨_, heap_alloc_new w1 _, by simp, fun j hj => by omega⟩, HK.out.alloc _, HC.out.kept ((Kept.refl [] w1).alloc _)⟩
  case round =>
    obtain ⟨i, rfl, hi, HF, HK2, HC2⟩ := hrel
    by_cases hlt : i < m
    · have hli : (i : Int) < (m : Int) := by omega
      have hi0 : (0 : Int) ≤ (i : Int) := by omega
      obtain ⟨c0, c1, _, _⟩ := HC2.out.cells
      have HW1 : Hid (w.heap.size < w1.heap.size) := lt_of HC.out
      obtain ⟨x, hx⟩ : ∃ x, q.at i = x := ⟨_, rfl⟩
      have HX : Hid (q.at i = x) := hx
      have HAI : Hid (Calls Tryd.prog 18 #[.agg #[.slice ast q.stem.length cs, .slice al q.loop.length cl], .int .i64 i] wr fun e w2 => e = .returned (.int .u16 (x : Nat)) ∧ Hid (Kept [] wr w2) ∧ Hid (Fill w2 w1.heap.size m i q) ∧ ∃ v0, w2.cell? ⟨w1.heap.size, i, none⟩ = some v0 ∧ w2.frozen? ⟨w1.heap.size, i, none⟩ = false) := by
        have := HAt.out wr i HK2.out (by omega)
        rw [hx] at this
        refine this.mono ?_
        rintro e w2 ⟨rfl, hk⟩
        obtain ⟨arr, h1, h2, h3⟩ := HF.out
        have h1' := hk.at h1 (by simp)
        exact ⟨rfl, hk, ⟨arr, h1', h2, h3⟩, _, (cell_of h1' i).trans (Array.getElem?_eq_getElem (by omega)), free_of h1' i⟩
      clear hx
      go_wp2_with (go_at_call 18; refine HAI.out.mono ?_; rintro e w2 ⟨rfl, HK3, HF2, v0, d0, f0⟩)
      go_roundw
      case rel =>
        have k3 : Kept [] w w2 := HK2.out.trans HK3.out (by simp) (by simp)
        refine ⟨i + 1, by go_num, by omega, ?_, k3.setCell (.inr (Nat.le_of_lt HW1.out)) _, ?_⟩
        · have := HF2.out.step hlt
          rw [HX.out] at this
          exact this
        · exact (HC2.out.kept HK3.out).keptF (F := [w1.heap.size]) ((Kept.refl _ w2).setCell (.inl (by simp)) _) (by simp; have := HW1.out; omega)
      case measure => simp [intOf]; omega
    · obtain rfl : i = m := by omega
      have hli : ¬ ((i : Int) < (i : Int)) := by omega
      have HW1 : Hid (w.heap.size < w1.heap.size) := lt_of HC.out
      go_wp2
      go_ret
      exact ⟨_, rfl, HF.out.own (Nat.le_of_lt HW1.out) hm, HK2.out⟩
end Go.Proofs.YtamfnefnaelgfaaDoor
