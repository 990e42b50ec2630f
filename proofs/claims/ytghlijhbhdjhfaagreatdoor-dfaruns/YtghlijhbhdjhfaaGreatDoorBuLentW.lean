/- Lists of bools that are lent: LentBools, SameBools, WholeBools, SpoilBools. -/
import Derived.Test.YtghlijhbhdjhfaaGreatDoorBuLn
namespace Go.Proofs.YtghlijhbhdjhfaaGreatDoor
open Go.RowKit Go.Shelf

theorem Tryz.infoWL : (Tryz.prog.info? 4).map (fun i => (i.zero, i.size, i.bytes)) = some (some (.bool false), 1, 1) := by kernel_rfl
def marksW : List Value := [.bool true, .bool false]
def spoilW : Value := .bool true
theorem make_roomW (w : World) (k : Nat) (hk : k ≤ 20000000000000) : Sem.run Tryz.prog (Instr.makeSlice 24 (.int .i64 0) (.int .i64 ((k : Int) + 2))) w = .ok (.slice (some ⟨w.heap.size, 0, none⟩) 0 (k + 2)) (w.alloc (.cells (madeCells (Value.cells (.bool false)) ((k + 2) * 1)) 4)) := by
  obtain ⟨i, hi, hz, hs, hb⟩ := info_parts Tryz.infoWL
  have h := run_make (P := Tryz.prog) w 24 4 i _ Tryz.underlying24 hi hz .i64 .i64 0 ((k : Int) + 2) (by omega) (by omega) (by rw [hb]; omega) (by omega)
  rw [h, hs, show ((k : Int) + 2).toNat = k + 2 from by omega]
  rfl
theorem append_noneW (w : World) (g c : Nat) (ty : TypeId) : (Builtin.append_ #[24, 24] ty #[.slice (some ⟨g, 0, none⟩) 0 c, .slice none 0 0]).run Tryz.prog w = .ok (.slice (some ⟨g, 0, none⟩) 0 c) w := by
  go_simp
set_option maxHeartbeats 1600000 in
set_option maxRecDepth 10000 in
theorem lentBools_any (v : Value) (n : Nat) (cs : List Value) (w : World) (h : Src 1 w v n cs) (hn : n ≤ 17592186044416) :
    Calls Tryz.prog 21 #[v] w fun e w' => ∃ b, e = .returned (.slice (some ⟨b, 0, none⟩) n (n + 2)) ∧ LentG 4 1 w' b n cs marksW ∧ w.heap.size ≤ b ∧ Kept [] w w' := by
  have hmk := make_roomW w n (by omega)
  obtain ⟨inf, hi1, hi2, hi3, hi4⟩ := info_parts Tryz.infoWL
  have HINF : Hid (Tryz.prog.info? 4 = some inf ∧ inf.size = 1) := ⟨hi1, hi3⟩
  have HSM : Hid (cs.length = n * 1 ∧ ∀ u ∈ cs, u.oneCell' = true) := ⟨h.len, h.one⟩
  have hw : IntKind.i64.wrap ((n : Int) + 2) = (n : Int) + 2 := by rw [IntKind.wrap_i64]; omega
  have k0 : (0 : Int) ≤ (n : Int) := by omega
  have k1 : (n : Int) ≤ (n : Int) + 2 := by omega
  obtain ⟨W0, hW0⟩ : ∃ W0, w.alloc (.cells (madeCells (Value.cells (.bool false)) ((n + 2) * 1)) 4) = W0 := ⟨_, rfl⟩
  have HW0 : Hid (Kept [] w W0) := by show Kept [] w W0; rw [← hW0]; exact (Kept.refl [] w).alloc _
  have HR0 : Hid (W0.ownsRow w.heap.size 4 1 (.slice (some ⟨w.heap.size, 0, none⟩) 0 (n + 2)) 0 []) := by
    show World.ownsRow _ _ _ _ _ _ _
    rw [← hW0]
    exact ⟨rfl, .inr ⟨_, _, _, rfl, Nat.le_refl _, heap_alloc_new _ _, Nat.zero_le _, by unfold maxLen; omega, size_madeCells _ _, by simp⟩⟩
  rw [hW0] at hmk
  clear hW0 hi1 hi2 hi3 hi4
  rcases h.lie with ⟨rfl, rfl⟩ | ⟨ad, c, rfl, hc1, hc2, hC1, hC2, hC⟩
  · obtain rfl : cs = [] := List.length_eq_zero_iff.1 (by have := HSM.out.1; omega)
    clear h
    simp only [Int.natCast_zero, Int.zero_add, Nat.zero_add] at hmk HR0
    clear hw k0 k1
    have hp : ∀ j u, (marksW)[j]? = some u → (W0.alloc (.cells #[.bool true, .bool false] 4)).cell? ((⟨W0.heap.size, 0, none⟩ : Addr).add j) = some u := World.news_of_block (cs := #[.bool true, .bool false]) (t := 4) (fr := (0, 0)) (heap_alloc_new W0 _)
    obtain ⟨W7, hrun, hr7, hg7⟩ := run_append_fits (P := Tryz.prog) (W0.alloc (.cells #[.bool true, .bool false] 4)) w.heap.size 24 24 4 inf 1 Tryz.underlying24 HINF.out.1 HINF.out.2 w.heap.size 0 2 [] (bx_keptL HR0.out ((Kept.refl [] _).alloc _) (by simp)) ⟨W0.heap.size, 0, none⟩ 2 2 marksW rfl hp (by simp [marksW, Value.oneCell']) (by omega)
    have HRUN : Hid ((Builtin.append_ #[24, 24] 24 #[.slice (some ⟨w.heap.size, 0, none⟩) 0 2, .slice (some ⟨W0.heap.size, 0, none⟩) 2 2]).run Tryz.prog (W0.alloc (.cells #[.bool true, .bool false] 4)) = .ok (.slice (some ⟨w.heap.size, 0, none⟩) 2 2) W7) := hrun
    have HR7 : Hid (W7.ownsRow w.heap.size 4 1 (.slice (some ⟨w.heap.size, 0, none⟩) 2 2) 2 ([] ++ marksW)) := hr7
    have HG7 : Hid (Kept [] w W7) := (HW0.out.alloc _).grown hg7 (fun k hk => by simp at hk; right; omega)
    clear hrun hr7 hg7 hp
    have T1 : Hid True := trivial
    go_enter Tryz.func21, Tryz.ntmps21
    go_wp2_with (first
      | (clear T1; at_builtin; refine Lib.wpList_append_run _ rfl _ _ _ _ rfl _ _ rfl rfl _ _ (append_noneW W0 w.heap.size 2 _) ?_)
      | (at_builtin; refine Lib.wpList_append_run _ rfl _ _ _ _ rfl _ _ rfl rfl _ _ HRUN.out ?_))
    refine bodyPost_ret (results_tmp rfl _ _ _) (by rfl) ?_
    exact ⟨w.heap.size, rfl, lentG_of (n := 0) HR7.out rfl rfl rfl (by omega), Nat.le_refl _, HG7.out⟩
  · have HN : Hid (∀ W, Kept [] w W → ∀ j u, cs[j]? = some u → W.cell? (ad.add j) = some u) := fun W k => (h.kept k).cellsAt
    have T1 : Hid True := trivial
    clear h hC1 hC2 hC
    go_enter Tryz.func21, Tryz.ntmps21
    go_wp2_with (first
      | (clear T1; at_builtin; refine wpList_append_fits _ rfl _ _ 24 rfl w.heap.size 4 inf 1 Tryz.underlying24 HINF.out.1 HINF.out.2 w.heap.size 0 (n + 2) [] rfl HR0.out ad n c cs rfl HSM.out.1 (HN.out _ HW0.out) HSM.out.2 (by omega) ?_; intro W6 hr6 hg6; have HR6 : Hid (W6.ownsRow w.heap.size 4 1 (.slice (some ⟨w.heap.size, 0, none⟩) n (n + 2)) n cs) := own_zeroG hr6; have HG6 : Hid (Kept [] w W6) := HW0.out.grown hg6 (fun k hk => by simp at hk; right; omega); clear hr6 hg6)
      | (at_builtin; obtain ⟨W7, hrun, hr7, hg7⟩ := run_append_fits (P := Tryz.prog) (W6.alloc (.cells #[.bool true, .bool false] 4)) w.heap.size 24 24 4 inf 1 Tryz.underlying24 HINF.out.1 HINF.out.2 w.heap.size n (n + 2) cs (bx_keptL HR6.out ((Kept.refl [] _).alloc _) (by simp)) ⟨W6.heap.size, 0, none⟩ 2 2 marksW rfl (World.news_of_block (cs := #[.bool true, .bool false]) (t := 4) (fr := (0, 0)) (heap_alloc_new W6 _)) (by simp [marksW, Value.oneCell']) (by omega); refine Lib.wpList_append_run _ rfl _ _ _ _ rfl _ _ rfl rfl _ _ hrun ?_; have HR7 : Hid (W7.ownsRow w.heap.size 4 1 (.slice (some ⟨w.heap.size, 0, none⟩) (n + 2) (n + 2)) (n + 2) (cs ++ marksW)) := hr7; have HG7 : Hid (Kept [] w W7) := (HG6.out.alloc _).grown hg7 (fun k hk => by simp at hk; right; omega); clear hrun hr7 hg7))
    go_ret
    exact ⟨w.heap.size, rfl, lentG_of HR7.out HSM.out.1 rfl rfl (by omega), Nat.le_refl _, HG7.out⟩
def cellsW (xs : List Bool) : List Value := xs.map fun x => Value.bool x
theorem cellsW_at {xs : List Bool} {k : Nat} (h : k < xs.length) : (cellsW xs)[k]? = some ((fun x => Value.bool x) xs[k]) := by simp [cellsW, h]
theorem cellsW_one (xs : List Bool) : ∀ u ∈ cellsW xs, u.oneCell' = true := by
  intro u hu
  obtain ⟨x, _, rfl⟩ := List.mem_map.1 hu
  rfl
set_option maxHeartbeats 1600000 in
set_option maxRecDepth 10000 in
theorem sameBools_eq (v u : Value) (xs : List Bool) (w : World) (hx : Src 1 w v xs.length (cellsW xs)) (hy : Src 1 w u xs.length (cellsW xs)) (hf : xs.length ≤ 20000000000000) :
    Calls Tryz.prog 45 #[v, u] w fun e w' => e = .returned (.bool true) ∧ Kept [] w w' := by
  by_cases h0 : 0 < xs.length
  · obtain ⟨b, o, c, rfl, HC⟩ := hx.there h0
    obtain ⟨b2, o2, c2, rfl, HC2⟩ := hy.there h0
    have HCC : Hid (∀ k (h : k < xs.length), w.cell? ⟨b, o + k, none⟩ = some ((fun x => Value.bool x) xs[k]) ∧ w.cell? ⟨b2, o2 + k, none⟩ = some ((fun x => Value.bool x) xs[k])) := fun k h => ⟨HC k _ (cellsW_at h), HC2 k _ (cellsW_at h)⟩
    have hnl : ((xs.length : Int) != (xs.length : Int)) = false := by simp
    clear hx hy HC HC2
    go_enter Tryz.func45, Tryz.ntmps45
    go_wp2_with fail
    go_loopw [5] (fun i wr => ∃ k : Nat, k ≤ xs.length ∧ i = .int .i64 (k : Nat) ∧ Kept [] w wr) (fun i _ => xs.length - (intOf i).toNat)
    case atStart => exact ⟨0, Nat.zero_le _, rfl, Kept.refl [] w⟩
    case round =>
      obtain ⟨k, hk, rfl, hkw⟩ := hrel
      by_cases hlt : k < xs.length
      · have hlt' : (k : Int) < (xs.length : Int) := by omega
        obtain ⟨d1, d2⟩ := HCC.out k hlt
        have d1 := cell_kept0 hkw d1
        have d2 := cell_kept0 hkw d2
        have b0 : (0 : Int) ≤ (k : Int) := by omega
        have HKW : Hid (Kept [] w wr) := hkw
        generalize xs[k] = x at d1 d2
        have hne : (x != x) = false := by simp
        clear hkw
        go_wp2_with fail
        go_quiet (fail)
        go_wp2
        go_roundw
        case rel => exact ⟨k + 1, by omega, by go_num, HKW.out.drewN _⟩
        case measure => simp [intOf]; omega
      · have hlt' : ¬ (k : Int) < (xs.length : Int) := by omega
        go_wp2
        go_ret
        exact ⟨rfl, hkw⟩
  · obtain ⟨ad, c, rfl⟩ := hx.form
    obtain ⟨ad2, c2, rfl⟩ := hy.form
    obtain ⟨n, hn⟩ : ∃ n, xs.length = n := ⟨_, rfl⟩
    rw [hn]
    obtain rfl : n = 0 := by omega
    clear hx hy hn h0 hf
    go_enter Tryz.func45, Tryz.ntmps45
    go_wp2_with fail
    refine wp_loop_rounds 1 ?_
    rw [rounds_succ]
    go_wp2_with fail
    go_ret
    exact ⟨rfl, Kept.refl [] w⟩
set_option maxHeartbeats 1600000 in
set_option maxRecDepth 10000 in
theorem wholeBools_any (b : Nat) (u : Value) (xs : List Bool) (w : World) (h : LentG 4 1 w b xs.length (cellsW xs) marksW) (hu : Src 1 w u xs.length (cellsW xs)) :
    Calls Tryz.prog 28 #[.slice (some ⟨b, 0, none⟩) xs.length (xs.length + 2), u] w fun e w' => e = .returned (.bool true) ∧ Kept [] w w' := by
  have hf := h.few
  have m0 : w.cell? ⟨b, xs.length, none⟩ = some (.bool true) := by have := h.mark (j := 0) rfl; rwa [Nat.mul_one, Nat.add_zero] at this
  have m1 : w.cell? ⟨b, xs.length + 1, none⟩ = some (.bool false) := by have := h.mark (j := 1) rfl; rwa [Nat.mul_one] at this
  have HC : Hid (∀ W, Kept [] w W → Calls Tryz.prog 45 #[.slice (some ⟨b, 0, none⟩) xs.length (xs.length + 2), u] W fun e w1 => e = .returned (.bool true) ∧ Kept [] W w1) := fun W k => sameBools_eq _ _ xs W ((h.src (cellsW_one xs)).kept k) (hu.kept k) hf
  obtain ⟨ad, c, rfl⟩ := hu.form
  clear h hu
  generalize xs.length = n at *
  have b1 : ¬ ((n : Int) + 2 < (n : Int) + 2) := by omega
  go_enter Tryz.func28, Tryz.ntmps28
  go_wp2_with (go_at_call 45; refine (HC.out _ (Kept.refl [] _)).mono ?_; rintro e w1 ⟨rfl, hk1⟩; have HK1 : Hid (Kept [] w w1) := hk1; clear hk1)
  go_ret
  exact ⟨rfl, HK1.out⟩
end Go.Proofs.YtghlijhbhdjhfaaGreatDoor
