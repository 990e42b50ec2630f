/- math/bits.Mul of 1; slices.Repeat of one 'true'. -/
import Derived.Test.YtbbfajbnklgncaaHA
import Derived.Shelf.Bits.Mul64
import Derived.Lib.SlBuf
namespace Go.Proofs.Ytbbfajbnklgncaa
open Go.RowKit Go.Shelf

theorem mul64_one (n : Nat) (hn : n < 4294967296) (w : World) :
    Calls Try.prog 82 #[.int .u64 1, .int .u64 (n : Nat)] w fun e w' => e = .returned (.tuple #[.int .u64 0, .int .u64 (n : Nat)]) ∧ w' = w := by
  have e1 : bits .and .u64 (1 : Int) 4294967295 = 1 := by decide +kernel
  have e2 : bits .and .u64 (n : Int) 4294967295 = (n : Int) := by rw [Mul64.maskN n (by omega)]; omega
  have e3 : (n : Int) / 4294967296 = 0 := by omega
  have e4 : IntKind.u64.wrap (n : Int) = (n : Int) := Mul64.wrapN n (by omega)
  have e5 : bits .and .u64 (0 : Int) 4294967295 = 0 := by decide +kernel
  go_enter Try.func82, Try.ntmps82
  go_wp2
  go_ret2
  exact ⟨rfl, rfl⟩
theorem mul_one_any (n : Nat) (hn : n < 4294967296) (w : World) :
    Calls Try.prog 77 #[.int .u64 1, .int .u64 (n : Nat)] w fun e w' => e = .returned (.tuple #[.int .u64 0, .int .u64 (n : Nat)]) ∧ w' = w := by
  go_enter Try.func77, Try.ntmps77
  go_wp2_with (go_at_call 82; refine (mul64_one n hn _).mono ?_; rintro e w1 ⟨rfl, hw1⟩; rw [hw1]; clear hw1)
  go_ret2
  exact ⟨rfl, rfl⟩

theorem bl_step (n k : Nat) (hk : k < n) : ((List.replicate k true ++ List.replicate (n - k) false).map Value.bool).toArray.setIfInBounds k (.bool true) = ((List.replicate (k + 1) true ++ List.replicate (n - (k + 1)) false).map Value.bool).toArray := by
  apply Array.ext'
  rw [Array.toList_setIfInBounds, ← List.map_set]
  congr 1
  rw [List.set_append_right _ _ (by simp), List.length_replicate, Nat.sub_self, show n - k = (n - (k + 1)) + 1 from by omega, List.replicate_succ, List.set_cons_zero, List.replicate_succ' , List.append_assoc]
  rfl
/-- The block of n bools of which the first k are true. -/
def Trus (W : World) (B n k : Nat) : Prop := W.heap[B]? = some (.cells ((List.replicate k true ++ List.replicate (n - k) false).map Value.bool).toArray 4 (0, 0))
theorem Trus.cells {W : World} {B n k : Nat} (h : Trus W B n k) (hk : k ≤ n) (j : Nat) (hj : j < n) : W.cell? ⟨B, j, none⟩ = some (.bool (decide (j < k))) ∧ W.frozen? ⟨B, j, none⟩ = false := by
  refine ⟨?_, free_of h j⟩
  rw [cell_of h]
  simp only [List.getElem?_toArray, List.getElem?_map, List.getElem?_append, List.length_replicate]
  by_cases hjk : j < k
  · simp [hjk]
  · have : j - k < n - k := by omega
    simp [hjk, this]
theorem Trus.set (n : Nat) (B : Nat) : ∀ (m k : Nat) (W : World), k + m ≤ n → Trus W B n k → Trus (W.setCells B k (List.replicate m (.bool true))) B n (k + m)
  | 0, _, _, _, h => h
  | m + 1, k, _, hkm, h => by
    rw [List.replicate_succ, World.setCells]
    have h1 := row_set (i := k) h (.bool true)
    rw [bl_step n k (by omega)] at h1
    have := Trus.set n B m (k + 1) _ (by omega) h1
    rwa [show k + 1 + m = k + (m + 1) from by omega] at this
theorem kept_setCells (B : Nat) : ∀ (vs : List Value) (k : Nat) (w W : World), (Kept [] w W ∧ w.heap.size ≤ B) → Kept [] w (W.setCells B k vs)
  | [], _, _, _, h => h.1
  | v :: r, k, w, _, h => kept_setCells B r (k + 1) w _ ⟨h.1.setCell (.inr h.2) v, h.2⟩
theorem Try.infoBoR : (Try.prog.info? 4).map (fun i => (i.zero, i.size, i.bytes)) = some (some (.bool false), 1, 1) := by kernel_rfl
theorem make_boolsR (w : World) (k : Nat) (hk : k ≤ 1000000) : Sem.run Try.prog (Instr.makeSlice 90 (.int .i64 (k : Nat)) (.int .i64 (k : Nat))) w = .ok (.slice (some ⟨w.heap.size, 0, none⟩) k k) (w.alloc (.cells ((List.replicate k false).map Value.bool).toArray 4)) := by
  obtain ⟨i, hi, hz, hs, hb⟩ := info_parts Try.infoBoR
  have h := run_make (P := Try.prog) w 90 4 i _ Try.underlying90 hi hz .i64 .i64 (k : Int) (k : Int) (by omega) (by omega) (by rw [hb]; omega) (by omega)
  have e : madeCells (Value.cells (.bool false)) (k * 1) = ((List.replicate k false).map Value.bool).toArray := by
    rw [Nat.mul_one]
    apply Array.ext'
    simp only [madeCells, Value.cells, List.size_toArray, List.length_cons, List.length_nil, Array.toList_map, Array.toList_range]
    apply List.ext_getElem
    · simp
    · intro i h1 h2
      simp [Nat.mod_one]
  rw [h, hs, Int.toNat_natCast, e]
/-- copy(l[k:], l[:k]). -/
theorem copy_trues (W : World) (B A n k m : Nat) (ty : TypeId) (c sc sc2 : Nat) (h : Trus W B n k) (hk : k ≤ n) (hA : ∀ j, j < m → W.cell? ⟨A, j, none⟩ = some (.bool true)) (hm : m = Nat.min sc (n - k)) :
    (Builtin.copy_ #[90, 90] ty #[.slice (some ⟨B, k, none⟩) (n - k) c, .slice (some ⟨A, 0, none⟩) sc sc2]).run Try.prog W = .ok (.int .i64 (m : Nat)) (W.setCells B k (List.replicate m (.bool true))) := by
  obtain ⟨i, hi, hz, hs, hb⟩ := info_parts Try.infoBoR
  have hle : k + m ≤ n := by rw [hm]; exact (by have h2 : Nat.min sc (n - k) ≤ n - k := Nat.min_le_right sc (n - k); omega)
  have := run_copy_cells (P := Try.prog) W 90 90 ty 4 B k (n - k) c ⟨A, 0, none⟩ sc sc2 (List.replicate m (.bool true)) Try.underlying90 (by rw [hi]; simp [hs]) (by rw [List.length_replicate]; exact hm) (fun j v hj => by
    rw [List.getElem?_replicate] at hj
    split at hj
    · cases hj
      have h9 := hA j (by assumption)
      have e9 : Addr.add ⟨A, 0, none⟩ j = ⟨A, j, none⟩ := by simp [Addr.add]; intro e; exact e.symm
      rw [e9]; exact h9
    · cases hj) (fun j hj => by rw [List.length_replicate] at hj; rw [(h.cells hk (k + j) (by omega)).1]; rfl) (fun j hj => by rw [List.length_replicate] at hj; exact (h.cells hk (k + j) (by omega)).2) (fun v hv => by rw [List.eq_of_mem_replicate hv]; rfl)
  rw [List.length_replicate] at this
  exact this
set_option maxHeartbeats 1600000 in
set_option maxRecDepth 10000 in
theorem repeat_any (A n : Nat) (w : World) (hA : w.cell? ⟨A, 0, none⟩ = some (.bool true)) (hn : n ≤ 1000000) :
    Calls Try.prog 65 #[.slice (some ⟨A, 0, none⟩) 1 1, .int .i64 (n : Nat)] w fun e w' => e = .returned (.slice (some ⟨w.heap.size, 0, none⟩) n n) ∧ Trus w' w.heap.size n n ∧ Kept [] w w' := by
  have hmk := make_boolsR w n hn
  obtain ⟨V, hV⟩ : ∃ V, w.alloc (.cells ((List.replicate n false).map Value.bool).toArray 4) = V := ⟨_, rfl⟩
  have HB0 : Hid (Trus V w.heap.size n 0) := by
    show Trus V _ n 0
    rw [← hV]; unfold Trus
    simpa using al0 w (.cells ((List.replicate n false).map Value.bool).toArray 4)
  have HK0 : Hid (Kept [] w V) := by show Kept [] w V; rw [← hV]; exact (Kept.refl [] w).alloc _
  rw [hV] at hmk
  have z0 : (0 : Int) ≤ (n : Int) := by omega
  have z1 : ¬ ((n : Int) < 0) := by omega
  have e4 : IntKind.u64.wrap (n : Int) = (n : Int) := Mul64.wrapN n (by omega)
  have e5 : IntKind.i64.wrap (n : Int) = (n : Int) := by rw [IntKind.wrap_i64]; omega
  have z2 : ¬ ((9223372036854775807 : Int) < (n : Int)) := by omega
  obtain ⟨m0, hm0⟩ : ∃ m0, m0 = Nat.min 1 n := ⟨_, rfl⟩
  have HCP : Hid (∀ ty, (Builtin.copy_ #[90, 90] ty #[.slice (some ⟨w.heap.size, 0, none⟩) n n, .slice (some ⟨A, 0, none⟩) 1 1]).run Try.prog V = .ok (.int .i64 (m0 : Nat)) (V.setCells w.heap.size 0 (List.replicate m0 (.bool true)))) := fun ty => copy_trues V w.heap.size A n 0 m0 ty n 1 1 HB0.out (by omega) (fun j hj => by
    have : m0 ≤ 1 := by rw [hm0]; exact Nat.min_le_left _ _
    obtain rfl : j = 0 := by omega
    exact cell_kept0 HK0.out hA) hm0
  obtain ⟨U, hU⟩ : ∃ U, V.setCells w.heap.size 0 (List.replicate m0 (.bool true)) = U := ⟨_, rfl⟩
  have hm1 : m0 ≤ n := by rw [hm0]; exact Nat.min_le_right _ _
  have HB1 : Hid (Trus U w.heap.size n m0) := by show Trus U _ _ _; rw [← hU]; have := Trus.set n w.heap.size m0 0 V (by omega) HB0.out; rwa [Nat.zero_add] at this
  have HK1 : Hid (Kept [] w U) := by show Kept [] w U; rw [← hU]; exact kept_setCells _ _ _ _ _ ⟨HK0.out, Nat.le_refl _⟩
  rw [hU] at HCP
  have HM0 : Hid (0 < n → 0 < m0) := by show 0 < n → 0 < m0; rw [hm0]; intro h; exact Nat.lt_min.2 ⟨by omega, h⟩
  obtain ⟨B, hB⟩ : ∃ B, w.heap.size = B := ⟨_, rfl⟩
  rw [hB] at hmk HCP HB0 HB1 ⊢
  have HW : Hid (w.heap.size = B) := hB
  clear hU hm0 hV HB0 HK0 hA hB
  go_enter Try.func65, Try.ntmps65
  go_wp2_with (first
    | (go_at_call 77; refine (mul_one_any n (by omega) _).mono ?_; rintro e w1 ⟨rfl, hw1⟩; rw [hw1]; clear hw1)
    | fail)
  rw [HCP.out]
  go_wp2
  go_loopw [8] (fun v wr => ∃ k : Nat, v = .int .i64 (k : Nat) ∧ k ≤ n ∧ (0 < n → 0 < k) ∧ Hid (Trus wr B n k) ∧ Hid (Kept [] w wr)) (fun v _ => n - (intOf v).toNat)
  case atStart => exact ⟨m0, rfl, hm1, HM0.out, HB1.out, HK1.out⟩
  case round =>
    obtain ⟨k, rfl, hk, hk0, HB, HK⟩ := hrel
    by_cases hlt : k < n
    · have q0 : (k : Int) < (n : Int) := by omega
      have q1 : (0 : Int) ≤ (k : Int) := by omega
      have q2 : (k : Int) ≤ (n : Int) := by omega
      have q3 : ¬ n = k := by omega
      obtain ⟨m, hm⟩ : ∃ m, m = Nat.min k (n - k) := ⟨_, rfl⟩
      have m1 : m ≤ k := by rw [hm]; exact Nat.min_le_left _ _
      have m2 : m ≤ n - k := by rw [hm]; exact Nat.min_le_right _ _
      have m3 : 0 < m := by rw [hm]; exact Nat.lt_min.2 ⟨hk0 (by omega), by omega⟩
      have hck := copy_trues wr.drew B B n k m 3 (n - k) k n HB.out hk (fun j hj => by
        refine ((HB.out.cells hk j (by omega)).1).trans ?_; simp; omega) hm
      obtain ⟨U2, hU2⟩ : ∃ U2, wr.drew.setCells B k (List.replicate m (.bool true)) = U2 := ⟨_, rfl⟩
      have HB2 : Hid (Trus U2 B n (k + m)) := by show Trus U2 _ _ _; rw [← hU2]; exact Trus.set n B m k wr.drew (by omega) HB.out
      have HK2 : Hid (Kept [] w U2) := by show Kept [] w U2; rw [← hU2]; exact kept_setCells _ _ _ _ _ ⟨HK.out.drew, Nat.le_of_eq HW.out⟩
      rw [hU2] at hck
      clear hU2 hm HCP hmk
      have e6 : IntKind.i64.wrap ((k : Int) + (m : Int)) = ((k + m : Nat) : Int) := by rw [IntKind.wrap_i64]; omega
      have m4 : k + m ≤ n := by omega
      have m5 : n - (k + m) < n - k := by omega
      go_wp2
      go_region
      all_goals go_wp2
      go_roundw
      case rel => exact ⟨k + m, by go_num, m4, fun _ => by omega, HB2.out, HK2.out⟩
      case measure => simp [intOf]; omega
    · obtain rfl : k = n := by omega
      have q0 : ¬ ((k : Int) < (k : Int)) := by omega
      go_wp2
      go_ret
      exact ⟨rfl, HB.out, HK.out⟩
end Go.Proofs.Ytbbfajbnklgncaa
