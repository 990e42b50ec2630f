/- words.Prefix; words.Same. -/
import Derived.Test.YtddgciilcghbaaaDoorWdSuf
namespace Go.Proofs.YtddgciilcghbaaaDoor
open Go.RowKit
attribute [local go_sem ↓] Go.wp_at_zero Go.wp_at_succ

theorem make_u16 (w : World) (k : Nat) (hk : k ≤ 65536) : Sem.run Tryd.prog (Instr.makeSlice 27 (.int .i64 k) (.int .i64 k)) w = .ok (.slice (some ⟨w.heap.size, 0, none⟩) k k) (w.alloc (.cells (Array.replicate k (.int .u16 0)) 52)) := by
  obtain ⟨i0, hi, hz0, hz1, hz2⟩ := info_parts Tryd.infoU16
  have H := run_make (P := Tryd.prog) w 27 52 i0 _ Tryd.underlying27 hi hz0 .i64 .i64 k k (by omega) (by omega) (by rw [hz2]; omega) (by omega)
  rw [H, hz1]
  have e : madeCells (Value.cells (.int .u16 0)) (k * 1) = Array.replicate k (Value.int .u16 0) := by
    apply Array.toList_inj.1
    rw [show Value.cells (.int .u16 0) = #[Value.int .u16 0] from rfl, toList_madeCells_one]; simp
  simp only [Int.toNat_natCast]
  rw [e]
/-- The first m letters. -/
def prefN (q : Wd) (m : Nat) : List Nat := (List.range m).map q.at
theorem prefN_len (q : Wd) (m : Nat) : (prefN q m).length = m := by simp [prefN]
theorem at_small {q : Wd} (h1 : ∀ x ∈ q.stem, x < 65536) (h2 : ∀ x ∈ q.loop, x < 65536) (i : Nat) : q.at i < 65536 := by
  have key : ∀ (l : List Nat) (j : Nat), (∀ x ∈ l, x < 65536) → l.getD j 0 < 65536 := fun l j h => by
    rw [List.getD_eq_getElem?_getD]
    rcases Nat.lt_or_ge j l.length with hn | hn
    · rw [List.getElem?_eq_getElem hn]; exact h _ (List.getElem_mem _)
    · rw [List.getElem?_eq_none hn]; decide
  unfold Wd.at
  split
  · exact key _ _ h1
  · exact key _ _ h2
/-- A row that is being filled. -/
def Fill (W : World) (g m i : Nat) (q : Wd) : Prop := ∃ arr, W.heap[g]? = some (.cells arr 52 (0, 0)) ∧ arr.size = m ∧ ∀ j, j < i → arr[j]? = some (.int .u16 (q.at j : Nat))
theorem Fill.step {W : World} {g m i : Nat} {q : Wd} (h : Fill W g m i q) (hi : i < m) : Fill (W.setCell ⟨g, i, none⟩ (.int .u16 (q.at i : Nat))) g m (i + 1) q := by
  obtain ⟨arr, h1, h2, h3⟩ := h
  refine ⟨arr.setIfInBounds i (.int .u16 (q.at i : Nat)), row_set h1 _, by simpa using h2, fun j hj => ?_⟩
  rw [Array.getElem?_setIfInBounds]
  split
  · rename_i e; subst e; rw [if_pos (by omega)]
  · exact h3 j (by omega)
theorem Fill.own {W : World} {g m n₀ : Nat} {q : Wd} (h : Fill W g m m q) (hg : n₀ ≤ g) (hm : m ≤ 65536) : W.ownsRow n₀ 52 1 (.slice (some ⟨g, 0, none⟩) m m) (prefN q m).length (u16s (prefN q m)) := by
  obtain ⟨arr, h1, h2, h3⟩ := h
  rw [prefN_len]
  refine ⟨by simp [u16s, prefN], .inr ⟨g, m, arr, rfl, hg, h1, Nat.le_refl _, by unfold maxLen; omega, by simpa using h2, ?_⟩⟩
  apply List.ext_getElem?
  intro j
  rw [List.getElem?_take, Nat.mul_one]
  rcases Nat.lt_or_ge j m with hj | hj
  · rw [if_pos hj, Array.getElem?_toList, h3 j hj]
    simp [u16s, prefN, hj]
  · rw [if_neg (by omega)]
    rw [List.getElem?_eq_none (by rw [u16s_len, prefN_len]; omega)]
end Go.Proofs.YtddgciilcghbaaaDoor
