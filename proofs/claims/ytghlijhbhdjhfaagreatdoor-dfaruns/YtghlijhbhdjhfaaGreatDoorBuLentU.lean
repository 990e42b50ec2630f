/- Lists of letters that are lent: LentLetters, SameLetters, WholeLetters, SpoilLetters. -/
import Derived.Test.YtghlijhbhdjhfaaGreatDoorBuLn
namespace Go.Proofs.YtghlijhbhdjhfaaGreatDoor
open Go.RowKit Go.Shelf

theorem Tryz.infoUL : (Tryz.prog.info? 45).map (fun i => (i.zero, i.size, i.bytes)) = some (some (.int .u16 0), 1, 2) := by kernel_rfl
def marksU : List Value := [.int .u16 60001, .int .u16 60002]
def spoilU : Value := .int .u16 60003
theorem make_roomU (w : World) (k : Nat) (hk : k ≤ 20000000000000) : Sem.run Tryz.prog (Instr.makeSlice 27 (.int .i64 0) (.int .i64 ((k : Int) + 2))) w = .ok (.slice (some ⟨w.heap.size, 0, none⟩) 0 (k + 2)) (w.alloc (.cells (madeCells (Value.cells (.int .u16 0)) ((k + 2) * 1)) 45)) := by
  obtain ⟨i, hi, hz, hs, hb⟩ := info_parts Tryz.infoUL
  have h := run_make (P := Tryz.prog) w 27 45 i _ Tryz.underlying27 hi hz .i64 .i64 0 ((k : Int) + 2) (by omega) (by omega) (by rw [hb]; omega) (by omega)
  rw [h, hs, show ((k : Int) + 2).toNat = k + 2 from by omega]
  rfl
theorem append_noneU (w : World) (g c : Nat) (ty : TypeId) : (Builtin.append_ #[27, 27] ty #[.slice (some ⟨g, 0, none⟩) 0 c, .slice none 0 0]).run Tryz.prog w = .ok (.slice (some ⟨g, 0, none⟩) 0 c) w := by
  go_simp
set_option maxHeartbeats 1600000 in
set_option maxRecDepth 10000 in
theorem lentLetters_any (v : Value) (n : Nat) (cs : List Value) (w : World) (h : Src 1 w v n cs) (hn : n ≤ 17592186044416) :
    Calls Tryz.prog 8 #[v] w fun e w' => ∃ b, e = .returned (.slice (some ⟨b, 0, none⟩) n (n + 2)) ∧ LentG 45 1 w' b n cs marksU ∧ w.heap.size ≤ b ∧ Kept [] w w' := by
  have hmk := make_roomU w n (by omega)
  obtain ⟨inf, hi1, hi2, hi3, hi4⟩ := info_parts Tryz.infoUL
  have HINF : Hid (Tryz.prog.info? 45 = some inf ∧ inf.size = 1) := ⟨hi1, hi3⟩
  have HSM : Hid (cs.length = n * 1 ∧ ∀ u ∈ cs, u.oneCell' = true) := ⟨h.len, h.one⟩
  have hw : IntKind.i64.wrap ((n : Int) + 2) = (n : Int) + 2 := by rw [IntKind.wrap_i64]; omega
  have k0 : (0 : Int) ≤ (n : Int) := by omega
  have k1 : (n : Int) ≤ (n : Int) + 2 := by omega
  obtain ⟨W0, hW0⟩ : ∃ W0, w.alloc (.cells (madeCells (Value.cells (.int .u16 0)) ((n + 2) * 1)) 45) = W0 := ⟨_, rfl⟩
  have HW0 : Hid (Kept [] w W0) := by show Kept [] w W0; rw [← hW0]; exact (Kept.refl [] w).alloc _
  have HR0 : Hid (W0.ownsRow w.heap.size 45 1 (.slice (some ⟨w.heap.size, 0, none⟩) 0 (n + 2)) 0 []) := by
    show World.ownsRow _ _ _ _ _ _ _
    rw [← hW0]
    exact ⟨rfl, .inr ⟨_, _, _, rfl, Nat.le_refl _, heap_alloc_new _ _, Nat.zero_le _, by unfold maxLen; omega, size_madeCells _ _, by simp⟩⟩
  rw [hW0] at hmk
  clear hW0 hi1 hi2 hi3 hi4
  rcases h.lie with ⟨rfl, rfl⟩ | ⟨ad, c, rfl, hc1, hc2, hC1, hC2, hC⟩
  · obtain rfl : cs = [] := List.length_eq_zero_iff.1 (by have := HSM.out.1; omega)
    clear h
    simp only [Int.natCast_zero, Int.zero_add, Nat.zero_add] at hmk HR0
    clear hw k0 k1
    have hp : ∀ j u, (marksU)[j]? = some u → (W0.alloc (.cells #[.int .u16 60001, .int .u16 60002] 45)).cell? ((⟨W0.heap.size, 0, none⟩ : Addr).add j) = some u := World.news_of_block (cs := #[.int .u16 60001, .int .u16 60002]) (t := 45) (fr := (0, 0)) (heap_alloc_new W0 _)
    obtain ⟨W7, hrun, hr7, hg7⟩ := run_append_fits (P := Tryz.prog) (W0.alloc (.cells #[.int .u16 60001, .int .u16 60002] 45)) w.heap.size 27 27 45 inf 1 Tryz.underlying27 HINF.out.1 HINF.out.2 w.heap.size 0 2 [] (bx_keptL HR0.out ((Kept.refl [] _).alloc _) (by simp)) ⟨W0.heap.size, 0, none⟩ 2 2 marksU rfl hp (by simp [marksU, Value.oneCell']) (by omega)
    have HRUN : Hid ((Builtin.append_ #[27, 27] 27 #[.slice (some ⟨w.heap.size, 0, none⟩) 0 2, .slice (some ⟨W0.heap.size, 0, none⟩) 2 2]).run Tryz.prog (W0.alloc (.cells #[.int .u16 60001, .int .u16 60002] 45)) = .ok (.slice (some ⟨w.heap.size, 0, none⟩) 2 2) W7) := hrun
    have HR7 : Hid (W7.ownsRow w.heap.size 45 1 (.slice (some ⟨w.heap.size, 0, none⟩) 2 2) 2 ([] ++ marksU)) := hr7
    have HG7 : Hid (Kept [] w W7) := (HW0.out.alloc _).grown hg7 (fun k hk => by simp at hk; right; omega)
    clear hrun hr7 hg7 hp
    have T1 : Hid True := trivial
    go_enter Tryz.func8, Tryz.ntmps8
    go_wp2_with (first
      | (clear T1; at_builtin; refine Lib.wpList_append_run _ rfl _ _ _ _ rfl _ _ rfl rfl _ _ (append_noneU W0 w.heap.size 2 _) ?_)
      | (at_builtin; refine Lib.wpList_append_run _ rfl _ _ _ _ rfl _ _ rfl rfl _ _ HRUN.out ?_))
    refine bodyPost_ret (results_tmp rfl _ _ _) (by rfl) ?_
    exact ⟨w.heap.size, rfl, lentG_of (n := 0) HR7.out rfl rfl rfl (by omega), Nat.le_refl _, HG7.out⟩
  · have HN : Hid (∀ W, Kept [] w W → ∀ j u, cs[j]? = some u → W.cell? (ad.add j) = some u) := fun W k => (h.kept k).cellsAt
    have T1 : Hid True := trivial
    clear h hC1 hC2 hC
    go_enter Tryz.func8, Tryz.ntmps8
    go_wp2_with (first
      | (clear T1; at_builtin; refine wpList_append_fits _ rfl _ _ 27 rfl w.heap.size 45 inf 1 Tryz.underlying27 HINF.out.1 HINF.out.2 w.heap.size 0 (n + 2) [] rfl HR0.out ad n c cs rfl HSM.out.1 (HN.out _ HW0.out) HSM.out.2 (by omega) ?_; intro W6 hr6 hg6; have HR6 : Hid (W6.ownsRow w.heap.size 45 1 (.slice (some ⟨w.heap.size, 0, none⟩) n (n + 2)) n cs) := own_zeroG hr6; have HG6 : Hid (Kept [] w W6) := HW0.out.grown hg6 (fun k hk => by simp at hk; right; omega); clear hr6 hg6)
      | (at_builtin; obtain ⟨W7, hrun, hr7, hg7⟩ := run_append_fits (P := Tryz.prog) (W6.alloc (.cells #[.int .u16 60001, .int .u16 60002] 45)) w.heap.size 27 27 45 inf 1 Tryz.underlying27 HINF.out.1 HINF.out.2 w.heap.size n (n + 2) cs (bx_keptL HR6.out ((Kept.refl [] _).alloc _) (by simp)) ⟨W6.heap.size, 0, none⟩ 2 2 marksU rfl (World.news_of_block (cs := #[.int .u16 60001, .int .u16 60002]) (t := 45) (fr := (0, 0)) (heap_alloc_new W6 _)) (by simp [marksU, Value.oneCell']) (by omega); refine Lib.wpList_append_run _ rfl _ _ _ _ rfl _ _ rfl rfl _ _ hrun ?_; have HR7 : Hid (W7.ownsRow w.heap.size 45 1 (.slice (some ⟨w.heap.size, 0, none⟩) (n + 2) (n + 2)) (n + 2) (cs ++ marksU)) := hr7; have HG7 : Hid (Kept [] w W7) := (HG6.out.alloc _).grown hg7 (fun k hk => by simp at hk; right; omega); clear hrun hr7 hg7))
    go_ret
    exact ⟨w.heap.size, rfl, lentG_of HR7.out HSM.out.1 rfl rfl (by omega), Nat.le_refl _, HG7.out⟩
def cellsU (xs : List Nat) : List Value := xs.map fun x => Value.int .u16 (x : Nat)
theorem cellsU_at {xs : List Nat} {k : Nat} (h : k < xs.length) : (cellsU xs)[k]? = some ((fun x => Value.int .u16 (x : Nat)) xs[k]) := by simp [cellsU, h]
theorem cellsU_one (xs : List Nat) : ∀ u ∈ cellsU xs, u.oneCell' = true := by
  intro u hu
  obtain ⟨x, _, rfl⟩ := List.mem_map.1 hu
  rfl
set_option maxHeartbeats 1600000 in
set_option maxRecDepth 10000 in
theorem sameLetters_eq (v u : Value) (xs : List Nat) (w : World) (hx : Src 1 w v xs.length (cellsU xs)) (hy : Src 1 w u xs.length (cellsU xs)) (hf : xs.length ≤ 20000000000000) :
    Calls Tryz.prog 29 #[v, u] w fun e w' => e = .returned (.bool true) ∧ Kept [] w w' := by
  by_cases h0 : 0 < xs.length
  · obtain ⟨b, o, c, rfl, HC⟩ := hx.there h0
    obtain ⟨b2, o2, c2, rfl, HC2⟩ := hy.there h0
    have HCC : Hid (∀ k (h : k < xs.length), w.cell? ⟨b, o + k, none⟩ = some ((fun x => Value.int .u16 (x : Nat)) xs[k]) ∧ w.cell? ⟨b2, o2 + k, none⟩ = some ((fun x => Value.int .u16 (x : Nat)) xs[k])) := fun k h => ⟨HC k _ (cellsU_at h), HC2 k _ (cellsU_at h)⟩
    have hnl : ((xs.length : Int) != (xs.length : Int)) = false := by simp
    clear hx hy HC HC2
    go_enter Tryz.func29, Tryz.ntmps29
    go_wp2_with fail
    go_loopw [5] (fun i wr => ∃ k : Nat, k ≤ xs.length ∧ i = .int .i64 (k : Nat) ∧ Kept [] w wr) (fun i _ => xs.length - (intOf i).toNat)
    case atStart => exact ⟨0, Nat.zero_le _, rfl, Kept.refl [] w⟩
    case round =>
      obtain ⟨k, hk, rfl, hkw⟩ := hrel
      by_cases hlt : k < xs.length
      · have hlt' : (k : Int) < (xs.length : Int) := by omega
        obtain ⟨d1, d2⟩ := HCC.out k hlt
        have d1 := cell_kept0 hkw d1
        have d2 := cell_kept0 hkw d2
        have b0 : (0 : Int) ≤ (k : Int) := by omega
        have HKW : Hid (Kept [] w wr) := hkw
        generalize xs[k] = x at d1 d2
        have hne : ((x : Int) != (x : Int)) = false := by simp
        clear hkw
        go_wp2_with fail
        go_quiet (fail)
        go_wp2
        go_roundw
        case rel => exact ⟨k + 1, by omega, by go_num, HKW.out.drewN _⟩
        case measure => simp [intOf]; omega
      · have hlt' : ¬ (k : Int) < (xs.length : Int) := by omega
        go_wp2
        go_ret
        exact ⟨rfl, hkw⟩
  · obtain ⟨ad, c, rfl⟩ := hx.form
    obtain ⟨ad2, c2, rfl⟩ := hy.form
    obtain ⟨n, hn⟩ : ∃ n, xs.length = n := ⟨_, rfl⟩
    rw [hn]
    obtain rfl : n = 0 := by omega
    clear hx hy hn h0 hf
    go_enter Tryz.func29, Tryz.ntmps29
    go_wp2_with fail
    refine wp_loop_rounds 1 ?_
    rw [rounds_succ]
    go_wp2_with fail
    go_ret
    exact ⟨rfl, Kept.refl [] w⟩
set_option maxHeartbeats 1600000 in
set_option maxRecDepth 10000 in
theorem wholeLetters_any (b : Nat) (u : Value) (xs : List Nat) (w : World) (h : LentG 45 1 w b xs.length (cellsU xs) marksU) (hu : Src 1 w u xs.length (cellsU xs)) :
    Calls Tryz.prog 13 #[.slice (some ⟨b, 0, none⟩) xs.length (xs.length + 2), u] w fun e w' => e = .returned (.bool true) ∧ Kept [] w w' := by
  have hf := h.few
  have m0 : w.cell? ⟨b, xs.length, none⟩ = some (.int .u16 60001) := by have := h.mark (j := 0) rfl; rwa [Nat.mul_one, Nat.add_zero] at this
  have m1 : w.cell? ⟨b, xs.length + 1, none⟩ = some (.int .u16 60002) := by have := h.mark (j := 1) rfl; rwa [Nat.mul_one] at this
  have HC : Hid (∀ W, Kept [] w W → Calls Tryz.prog 29 #[.slice (some ⟨b, 0, none⟩) xs.length (xs.length + 2), u] W fun e w1 => e = .returned (.bool true) ∧ Kept [] W w1) := fun W k => sameLetters_eq _ _ xs W ((h.src (cellsU_one xs)).kept k) (hu.kept k) hf
  obtain ⟨ad, c, rfl⟩ := hu.form
  clear h hu
  generalize xs.length = n at *
  have b1 : ¬ ((n : Int) + 2 < (n : Int) + 2) := by omega
  go_enter Tryz.func13, Tryz.ntmps13
  go_wp2_with (go_at_call 29; refine (HC.out _ (Kept.refl [] _)).mono ?_; rintro e w1 ⟨rfl, hk1⟩; have HK1 : Hid (Kept [] w w1) := hk1; clear hk1)
  go_ret
  exact ⟨rfl, HK1.out⟩
end Go.Proofs.YtghlijhbhdjhfaaGreatDoor
