/- slices.Grow, slices.Concat of lists of numbers. -/
import Derived.Test.YtcojlcbljhnbgaaRuFinW
import Derived.Lib.AppendZeros
namespace Go.Proofs.Ytcojlcbljhnbgaa
open Go.RowKit Go.Shelf

def numsI (xs : List Int) : List Value := xs.map (Value.int .i64)
theorem numsI_len (xs : List Int) : (numsI xs).length = xs.length := by simp [numsI]
theorem numsI_app (xs ys : List Int) : numsI (xs ++ ys) = numsI xs ++ numsI ys := by simp [numsI]
theorem own_nilI (w : World) (base : Nat) : w.ownsRow base 3 1 (.slice none 0 0) ([] : List Int).length (numsI []) := ⟨rfl, .inl ⟨rfl, rfl⟩⟩
theorem zeroCells_sizeI (n : Nat) : (Builtin.zeroCells #[Value.int .i64 0] n).size = n := by simp [Builtin.zeroCells]
set_option maxHeartbeats 400000 in
set_option maxRecDepth 20000 in
theorem growI_any (n : Nat) (w : World) (hn : n ≤ 1000000000000) :
    Calls Try.prog 38 #[.slice none 0 0, .int .i64 n] w fun e w' => ∃ v', e = .returned v' ∧ Hid (w'.ownsRow w.heap.size 3 1 v' ([] : List Int).length (numsI [])) ∧ Hid (Kept [] w w') := by
  obtain ⟨i0, hi, hz0, hz1, hz2⟩ := info_parts Try.infoInR
  have b0 : ¬ ((n : Int) < 0) := by omega
  by_cases h0 : n = 0
  · subst h0
    have HO : Hid (w.ownsRow w.heap.size 3 1 (.slice none 0 0) ([] : List Int).length (numsI [])) := own_nilI _ _
    have HK : Hid (Kept [] w w) := Kept.refl [] w
    go_enter Try.func38, Try.ntmps38
    go_wp2
    go_ret
    exact ⟨_, rfl, HO, HK⟩
  · have hr : ∀ ty, (Builtin.append_ #[60, 3] ty #[.slice none 0 0, .int .i64 n]).run Try.prog w = _ := fun ty => Lib.run_append_nil_zeros w 60 3 ty 3 i0 _ .i64 .i64 Try.underlying60 Try.underlying3 hi hz0 n (by omega) (by rw [hz1]; decide) (by omega) (by rw [hz2]; omega)
    have hg := grownCap_ge w n 0 3
    have hg2 := grownCap_le_maxLen w n 0 3 (by unfold maxLen; omega)
    have HR : Hid _ := hr
    obtain ⟨G, hG⟩ : ∃ G, grownCap w n 0 3 = G := ⟨_, rfl⟩
    rw [hG] at hg hg2 HR
    have HG2 : Hid (G ≤ maxLen) := hg2
    unfold maxLen at hg2
    clear hr hG
    have hn0 : (0 : Int) < (n : Int) := by omega
    go_enter Try.func38, Try.ntmps38
    go_wp2_with (at_builtin; refine Lib.wpList_append_run _ rfl _ _ _ _ rfl _ _ rfl rfl _ _ (HR.out _) ?_)
    go_ret
    refine ⟨_, rfl, (⟨rfl, .inr ⟨w.heap.size, G, _, rfl, Nat.le_refl _, heap_alloc_new _ _, by simp, HG2.out, ?_, by simp [numsI]⟩⟩ : World.ownsRow _ w.heap.size 3 1 (.slice (some ⟨w.heap.size, 0, none⟩) 0 G) ([] : List Int).length (numsI [])), (Kept.refl [] w).drew.alloc _⟩
    rw [Array.size_append, zeroCells_sizeI, zeroCells_sizeI]
    omega
/-- An append to numbers of one's own, and what it keeps. -/
theorem appendI_step {w wr : World} {v : Value} {xs ys : List Int} {ub uo uc : Nat} (hk : Kept [] w wr) (hown : wr.ownsRow w.heap.size 3 1 v xs.length (numsI xs)) (hu : ∀ i (h : i < ys.length), wr.cell? ⟨ub, uo + i, none⟩ = some (.int .i64 ys[i])) (h0 : 0 < ys.length) (hl : xs.length + ys.length ≤ 1000000000000) :
    ∃ v' w', (∀ ty, (Builtin.append_ #[60, 60] ty #[v, .slice (some ⟨ub, uo, none⟩) ys.length uc]).run Try.prog wr = .ok v' w') ∧ Hid (w'.ownsRow w.heap.size 3 1 v' (xs ++ ys).length (numsI (xs ++ ys))) ∧ Hid (Kept [] w w') := by
  obtain ⟨i0, hi, hz0, hz1, hz2⟩ := info_parts Try.infoInR
  obtain ⟨gr, cap, w2, g1, g2, g3, g4, g5⟩ := run_append_lies (P := Try.prog) wr 60 0 w.heap.size 3 i0 (.int .i64 0) 1 8 Try.underlying60 hi hz0 hz1 hz2 rfl (by decide) v xs.length (numsI xs) hown ⟨ub, uo, none⟩ ys.length uc (numsI ys) (by rw [numsI_len]; omega) (fun j u hj => by
    have hjl : j < ys.length := by have := (List.getElem?_eq_some_iff.1 hj).1; rwa [numsI_len] at this
    have : (numsI ys)[j]? = some (.int .i64 ys[j]) := by simp [numsI, hjl]
    rw [this] at hj
    cases hj
    have h9 := hu j hjl
    have e9 : Addr.add ⟨ub, uo, none⟩ j = ⟨ub, uo + j, none⟩ := by unfold Addr.add; split <;> simp_all
    rw [e9]; exact h9) (by intro u hu'; obtain ⟨x, _, rfl⟩ := List.mem_map.1 hu'; rfl) h0 (by unfold maxLen; omega) (by omega) hk.size _ rfl
  exact ⟨_, w2, fun ty => g1, by rw [List.length_append, numsI_app]; exact g2, hk.grown g3 (fun q e => .inr (by have := (bx_base hown e).1; omega))⟩
/-- The first k rows in one. -/
def flatT (next : List (List Int)) (k : Nat) : List Int := (next.take k).flatten
theorem flatT_succ {next : List (List Int)} {k : Nat} {row : List Int} (h : next[k]? = some row) : flatT next (k + 1) = flatT next k ++ row := by
  unfold flatT
  rw [List.take_add_one, h]
  simp
theorem flatT_len {next : List (List Int)} (hr : RightR next) : ∀ k, k ≤ next.length → (flatT next k).length ≤ k * 256
  | 0, _ => by simp [flatT]
  | k + 1, hk => by
    have h1 := flatT_len hr k (by omega)
    have h2 : next[k]? = some next[k] := List.getElem?_eq_getElem (by omega)
    rw [flatT_succ h2, List.length_append]
    have := (hr.row _ (List.getElem_mem (show k < next.length by omega))).2.1
    omega
set_option maxHeartbeats 4000000 in
set_option maxRecDepth 10000 in
theorem concatI_any (nv : Value) (next : List (List Int)) (fl : List Int) (w : World) (hn : Rowss w nv next) (hr : RightR next) (hfl : next.flatten = fl) :
    Calls Try.prog 30 #[nv] w fun e w' => ∃ v', e = .returned v' ∧ Hid (w'.ownsRow w.heap.size 3 1 v' fl.length (numsI fl)) ∧ Hid (Kept [] w w') := by
  obtain ⟨n, hln⟩ : ∃ n, next.length = n := ⟨_, rfl⟩
  have hfew : n ≤ 1000000 := by rw [← hln]; exact hr.few
  rcases hn.lie with ⟨hnv, he⟩ | ⟨nb, no, nc, hnv, hc1, hc2, hce⟩
  · have := hr.pos
    rw [he] at this
    simp at this
  subst hnv
  have HCE : Hid (∀ i (h : i < next.length), ∃ u, w.cell? ⟨nb, no + i, none⟩ = some u ∧ Ints w u next[i]) := hce
  have HRR : Hid (RightR next) := hr
  have HLN : Hid (next.length = n) := hln
  have HFT : Hid (flatT next n = fl) := by show flatT next n = _; unfold flatT; rw [List.take_of_length_le (by omega), hfl]
  have HK0 : Hid (Kept [] w w) := Kept.refl [] w
  have HFL : Hid (∀ k, k ≤ n → (flatT next k).length ≤ k * 256) := fun k hk => flatT_len hr k (by omega)
  rw [hln] at hc1 ⊢
  clear hn hr hce hln hfl
  go_enter Try.func30, Try.ntmps30
  go_wp2_with fail
  go_loopw [3, 5, 11] (fun s _ i wr => ∃ k : Nat, k ≤ n ∧ i = .int .i64 (k : Nat) ∧ ∃ z : Nat, s = .int .i64 (z : Nat) ∧ Hid (z = (flatT next k).length) ∧ wr = w) (fun _ _ i _ => n - (intOf i).toNat)
  case atStart => exact ⟨0, by omega, rfl, 0, rfl, (by simp [flatT] : 0 = (flatT next 0).length), rfl⟩
  case round =>
    obtain ⟨k, hk, rfl, z, rfl, HZ, rfl⟩ := hrel
    by_cases hlt : k < n
    · have q0 : (k : Int) < (n : Int) := by omega
      have q1 : (0 : Int) ≤ (k : Int) := by omega
      obtain ⟨u, hu, hI⟩ := HCE.out k (by rw [HLN.out]; exact hlt)
      obtain ⟨row, hrow⟩ : ∃ row, next[k]'(by rw [HLN.out]; exact hlt) = row := ⟨_, rfl⟩
      rw [hrow] at hI
      have hr? : next[k]? = some row := by rw [List.getElem?_eq_getElem (by rw [HLN.out]; exact hlt), hrow]
      obtain ⟨r0, r1, _⟩ := HRR.out.row row (by rw [← hrow]; exact List.getElem_mem _)
      obtain ⟨ub, uo, uc, rfl, hu1, hu2, _⟩ := hI.there r0
      have hz := HFL.out k hk
      rw [← HZ.out] at hz
      obtain ⟨rl, hrl⟩ : ∃ rl, row.length = rl := ⟨_, rfl⟩
      have HZ2 : Hid (z + rl = (flatT next (k + 1)).length) := by show z + rl = _; rw [flatT_succ hr?, List.length_append, ← HZ.out, hrl]
      rw [hrl] at hu r0 r1 hu1
      have p0 : ¬ ((z : Int) + (rl : Int) < 0) := by omega
      have p1 : IntKind.i64.wrap ((z : Int) + (rl : Int)) = ((z + rl : Nat) : Int) := by rw [IntKind.wrap_i64]; omega
      clear hI hrow hr? hrl
      go_wp2
      go_roundw
      case rel => exact ⟨k + 1, by omega, by go_num, z + rl, by go_num, HZ2, trivial⟩
      case measure => simp [intOf]; omega
    · obtain rfl : k = n := by omega
      have q0 : ¬ ((k : Int) < (k : Int)) := by omega
      rename World => w0
      have hz : z ≤ 1000000000000 := by have := HFL.out k hk; rw [← HZ.out] at this; omega
      go_wp2_with (go_at_call 38; refine (growI_any z _ hz).mono ?_; rintro e w1 ⟨v', rfl, HO, HK⟩)
      go_loopw [6, 8, 27] (fun s _ i w2 => ∃ j : Nat, j ≤ k ∧ i = .int .i64 (j : Nat) ∧ Hid (w2.ownsRow w0.heap.size 3 1 s (flatT next j).length (numsI (flatT next j))) ∧ Hid (Kept [] w0 w2)) (fun _ _ i _ => k - (intOf i).toNat)
      case atStart => exact ⟨0, by omega, rfl, HO, HK⟩
      case round =>
        rename World => w2
        obtain ⟨j, hj, rfl, HO2, HK2⟩ := hrel
        by_cases hjl : j < k
        · have p0 : (j : Int) < (k : Int) := by omega
          have p1 : (0 : Int) ≤ (j : Int) := by omega
          obtain ⟨u, hu, hI⟩ := HCE.out j (by rw [HLN.out]; exact hjl)
          obtain ⟨row, hrow⟩ : ∃ row, next[j]'(by rw [HLN.out]; exact hjl) = row := ⟨_, rfl⟩
          rw [hrow] at hI
          have hr? : next[j]? = some row := by rw [List.getElem?_eq_getElem (by rw [HLN.out]; exact hjl), hrow]
          obtain ⟨r0, r1, _⟩ := HRR.out.row row (by rw [← hrow]; exact List.getElem_mem _)
          obtain ⟨ub, uo, uc, rfl, hu1, hu2, hu3⟩ := hI.there r0
          have hz2 := HFL.out j hj
          obtain ⟨v2, w3, hrun, HO3, HK3⟩ := appendI_step (uc := uc) HK2.out HO2.out (fun i hi => cell_kept0 HK2.out (hu3 i hi)) r0 (by omega)
          rw [← flatT_succ hr?] at HO3
          have HRUN : Hid (∀ ty, (Builtin.append_ #[60, 60] ty #[u6, .slice (some ⟨ub, uo, none⟩) row.length uc]).run Try.prog w2 = .ok v2 w3) := hrun
          have d0 := cell_kept0 HK2.out hu
          clear hu hI hrow hr? hu3 hrun hz2
          go_wp2_with (at_builtin; refine Lib.wpList_append_run _ rfl _ _ _ _ rfl _ _ rfl rfl _ _ (HRUN.out _) ?_)
          go_roundw
          case rel => exact ⟨j + 1, by omega, by go_num, HO3, HK3⟩
          case measure => simp [intOf]; omega
        · obtain rfl : j = k := by omega
          have p0 : ¬ ((j : Int) < (j : Int)) := by omega
          rw [HFT.out] at HO2
          go_wp2
          go_ret
          exact ⟨_, rfl, HO2, HK2⟩
end Go.Proofs.Ytcojlcbljhnbgaa
