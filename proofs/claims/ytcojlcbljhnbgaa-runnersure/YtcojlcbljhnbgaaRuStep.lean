/- A runner in memory: Verdict, Step. (The draw of Step's region is written by a program, one move a line.) -/
import Derived.Test.YtcojlcbljhnbgaaRuRun
import Derived.Test.YtcojlcbljhnbgaaHeldP
namespace Go.Proofs.Ytcojlcbljhnbgaa
open Go.RowKit Go.Shelf Go.Maps

set_option maxHeartbeats 2000000 in
set_option maxRecDepth 10000 in
theorem verdict_any (lo N R : Nat) (ps : List ByteArray) (next : List (List Int)) (out : List Nat) (fin : List Bool) (s : Nat) (w : World) (h : RunS w lo N R ps next out fin s) (hm : MachR ps next out) :
    Calls Try.prog 16 #[.pointer (some ⟨R, 0, none⟩)] w fun e w' => e = .returned (.int .u8 (out.getD s 0 : Nat)) ∧ Hid (Kept [] w w') := by
  obtain ⟨T, MB, FR, nxv, outv, D, fl, h1, h2, _⟩ := h.ex
  have hs : s < out.length := by rw [hm.len]; exact h.lt
  obtain ⟨g, c, rfl, hcl⟩ := own_thereR h2.outs (by omega)
  have c0 : w.cell? ⟨R, 0, none⟩ = some (.pointer (some ⟨T, 0, none⟩)) := (cell_of h1 0).trans rfl
  have c1 : w.cell? ⟨R, 1, none⟩ = some (.int .i64 (s : Nat)) := (cell_of h1 1).trans rfl
  have c2 : w.cell? ⟨T, 3, none⟩ = some (.slice (some ⟨g, 0, none⟩) out.length c) := (cell_of h2.box 3).trans rfl
  obtain ⟨v, hv⟩ : ∃ v, out.getD s 0 = v := ⟨_, rfl⟩
  have c3 : w.cell? ⟨g, s, none⟩ = some (.int .u8 (v : Nat)) := hcl s _ (by rw [vdC_at hs, ← hv, List.getD_eq_getElem?_getD, List.getElem?_eq_getElem hs]; rfl)
  rw [hv]
  have z0 : (0 : Int) ≤ (s : Int) := by omega
  have z1 : (s : Int) < (out.length : Int) := by omega
  obtain ⟨n, hn⟩ : ∃ n, out.length = n := ⟨_, rfl⟩
  rw [hn] at c2 z1
  clear h hm h1 h2 hs hcl hv hn
  go_enter Try.func16, Try.ntmps16
  go_wp2_with fail
  go_region
  all_goals go_wp2
  go_ret
  exact ⟨rfl, (Kept.refl [] w).drew⟩
/-- The state behind a letter. -/
def stepN (ps : List ByteArray) (next : List (List Int)) (s l : Nat) : Nat := ((next.getD s []).getD (l % 2 ^ ps.length) 0).toNat
theorem stepN_is {ps : List ByteArray} {next : List (List Int)} {out : List Nat} (hm : MachR ps next out) {s : Nat} (hs : s < next.length) (l : Nat) : (next.getD s []).getD (l % 2 ^ ps.length) 0 = ((stepN ps next s l : Nat) : Int) ∧ stepN ps next s l < next.length := by
  have hr : next.getD s [] ∈ next := by rw [List.getD_eq_getElem?_getD, List.getElem?_eq_getElem hs]; exact List.getElem_mem _
  have hlt : l % 2 ^ ps.length < (next.getD s []).length := by rw [hm.each _ hr]; exact Nat.mod_lt _ (Nat.two_pow_pos _)
  have hin : (next.getD s []).getD (l % 2 ^ ps.length) 0 ∈ next.getD s [] := by
    generalize next.getD s [] = row at hlt ⊢
    rw [List.getD_eq_getElem?_getD, List.getElem?_eq_getElem hlt]
    exact List.getElem_mem _
  have hx := (hm.rows.row _ hr).2.2 _ hin
  unfold stepN
  generalize (next.getD s []).getD (l % 2 ^ ps.length) 0 = x at hx ⊢
  omega
set_option maxHeartbeats 2000000 in
set_option maxRecDepth 10000 in
theorem step_any (lo N R : Nat) (ps : List ByteArray) (next : List (List Int)) (out : List Nat) (fin : List Bool) (s l : Nat) (w : World) (h : RunS w lo N R ps next out fin s) (hm : MachR ps next out) (hl : l < 65536) :
    Calls Try.prog 12 #[.pointer (some ⟨R, 0, none⟩), .int .u16 (l : Nat)] w fun e w' => e = .returned (.int .u8 (out.getD (stepN ps next s l) 0 : Nat)) ∧ Hid (RunS w' lo N R ps next out fin (stepN ps next s l)) ∧ Hid (Kept [R] w w') := by
  obtain ⟨T, MB, FR, nxv, outv, D, fl, h1, h2, h3⟩ := h.ex
  obtain ⟨hv, hvl⟩ := stepN_is hm h.lt l
  obtain ⟨s', hs'⟩ : ∃ s', stepN ps next s l = s' := ⟨_, rfl⟩
  rw [hs'] at hv hvl ⊢
  have kd : Kept [] w w.drew := (Kept.refl [] w).drew
  have HBH : Hid (Calls Try.prog 24 #[.pointer (some ⟨T, 0, none⟩), .int .i64 (s : Nat), .int .u16 (l : Nat)] w.drew fun e w' => e = .returned (.int .i64 (s' : Nat)) ∧ Hid (Kept [] w.drew w')) := by
    have := behind_any T MB FR ps.length lo N nxv outv D ps next fl out fin s l w.drew (h2.kept kd) hm h3 h.lt hl
    rw [hv] at this
    exact this
  have HVD : Hid (∀ W, RunS W lo N R ps next out fin s' → Calls Try.prog 16 #[.pointer (some ⟨R, 0, none⟩)] W fun e w' => e = .returned (.int .u8 (out.getD s' 0 : Nat)) ∧ Hid (Kept [] W w')) := fun W hW => verdict_any lo N R ps next out fin s' W hW hm
  have HRB : Hid (w.drew.heap[R]? = some (.cells #[.pointer (some ⟨T, 0, none⟩), .int .i64 (s : Nat)] 57 (0, 0))) := h1
  have HS0 : Hid (w.drew.cell? ⟨R, 0, none⟩ = some (.pointer (some ⟨T, 0, none⟩))) := (cell_of HRB.out 0).trans rfl
  have HS1 : Hid (w.drew.cell? ⟨R, 1, none⟩ = some (.int .i64 (s : Nat))) := (cell_of HRB.out 1).trans rfl
  have HNX : Hid (∀ W, Kept [R] w W → W.heap[R]? = some (.cells #[.pointer (some ⟨T, 0, none⟩), .int .i64 (s' : Nat)] 57 (0, 0)) → RunS W lo N R ps next out fin s') := fun W k hb => ⟨⟨T, MB, FR, nxv, outv, D, fl, hb, h2.keptF k (fun x hx => by have := h.high; simp at hx; omega), h3⟩, h.fin, h.high, hvl⟩
  clear h hm hl h1 h2 h3 hv hvl kd hs'
  go_enter Try.func12, Try.ntmps12
  go_upto_region 1 with fail
  refine wp_regionHp (fun Y => Y.cell? ⟨R, 0, none⟩ = some (.pointer (some ⟨T, 0, none⟩))) (by kernel_rfl) ?_
  refine heldTakeHp 0 (some 5) (.pointer (some ⟨R, 0, none⟩)) rfl rfl rfl (by kernel_rfl) (by kernel_rfl) (by kernel_rfl) (fun Y hY => ?_) HS0.out ?_
  · go_simp
  simp only [Act.put, List.setIfInBounds_toArray, List.set_cons_zero, List.set_cons_succ]
  refine heldTakeHp 1 (some 6) (.pointer (some ⟨R, 0, none⟩)) rfl rfl rfl (by kernel_rfl) (by kernel_rfl) (by kernel_rfl) (fun Y hY => ?_) HS0.out ?_
  · go_simp
  simp only [Act.put, List.setIfInBounds_toArray, List.set_cons_zero, List.set_cons_succ]
  refine heldTakeHp 2 (some 7) (.pointer (some ⟨R, 0, none⟩)) rfl rfl rfl (by kernel_rfl) (by kernel_rfl) (by kernel_rfl) (fun Y hY => ?_) HS0.out ?_
  · go_simp
  simp only [Act.put, List.setIfInBounds_toArray, List.set_cons_zero, List.set_cons_succ]
  refine heldTakeHp 3 (some 8) (.pointer (some ⟨R, 0, none⟩)) rfl rfl rfl (by kernel_rfl) (by kernel_rfl) (by kernel_rfl) (fun Y hY => ?_) HS0.out ?_
  · go_simp
  simp only [Act.put, List.setIfInBounds_toArray, List.set_cons_zero, List.set_cons_succ]
  refine heldTakeHp 4 (some 9) (.pointer (some ⟨T, 0, none⟩)) rfl rfl rfl (by kernel_rfl) (by kernel_rfl) (by kernel_rfl) (fun Y hY => ?_) HS0.out ?_
  · go_simp
  simp only [Act.put, List.setIfInBounds_toArray, List.set_cons_zero, List.set_cons_succ]
  refine heldTakeHp 5 (some 10) (.pointer (some ⟨R, 0, none⟩)) rfl rfl rfl (by kernel_rfl) (by kernel_rfl) (by kernel_rfl) (fun Y hY => ?_) HS0.out ?_
  · go_simp
  simp only [Act.put, List.setIfInBounds_toArray, List.set_cons_zero, List.set_cons_succ]
  refine heldTakeHp 6 (some 11) (.pointer (some ⟨R, 0, none⟩)) rfl rfl rfl (by kernel_rfl) (by kernel_rfl) (by kernel_rfl) (fun Y hY => ?_) HS0.out ?_
  · go_simp
  simp only [Act.put, List.setIfInBounds_toArray, List.set_cons_zero, List.set_cons_succ]
  refine heldTakeHp 7 (some 12) (.pointer (some ⟨R, 1, none⟩)) rfl rfl rfl (by kernel_rfl) (by kernel_rfl) (by kernel_rfl) (fun Y hY => ?_) HS0.out ?_
  · go_simp
  simp only [Act.put, List.setIfInBounds_toArray, List.set_cons_zero, List.set_cons_succ]
  refine heldTakeHp 9 (some 14) (.int .u16 (l : Nat)) rfl rfl rfl (by kernel_rfl) (by kernel_rfl) (by kernel_rfl) (fun Y hY => ?_) HS0.out ?_
  · go_simp
  simp only [Act.put, List.setIfInBounds_toArray, List.set_cons_zero, List.set_cons_succ]
  refine heldOneHp 8 (by kernel_rfl) ?_
  refine opValueHp (some 13) (.int .i64 (s : Nat)) w.drew rfl rfl rfl ?_ ⟨HS0.out, ?_⟩
  · have y0 := HS1.out
    go_simp
  simp only [Act.put, List.setIfInBounds_toArray, List.set_cons_zero, List.set_cons_succ]
  refine heldOneHp 10 (by kernel_rfl) ?_
  refine opCallHp (some 15) 24 #[.pointer (some ⟨T, 0, none⟩), .int .i64 (s : Nat), .int .u16 (l : Nat)] rfl rfl rfl ?_ ?_
  · go_simp
  refine HBH.out.mono ?_
  rintro e W1 ⟨rfl, HK1⟩
  have HS2 : Hid (W1.cell? ⟨R, 0, none⟩ = some (.pointer (some ⟨T, 0, none⟩))) := cell_kept0 HK1.out HS0.out
  have HS3 : Hid (W1.heap[R]? = some (.cells #[.pointer (some ⟨T, 0, none⟩), .int .i64 (s : Nat)] 57 (0, 0))) := HK1.out.at HRB.out (by simp)
  refine ⟨_, rfl, HS2.out, ?_⟩
  simp only [Act.put, List.setIfInBounds_toArray, List.set_cons_zero, List.set_cons_succ]
  refine heldTakeHp 11 (some 16) (.pointer (some ⟨R, 0, none⟩)) rfl rfl rfl (by kernel_rfl) (by kernel_rfl) (by kernel_rfl) (fun Y hY => ?_) HS2.out ?_
  · go_simp
  simp only [Act.put, List.setIfInBounds_toArray, List.set_cons_zero, List.set_cons_succ]
  refine heldTakeHp 12 (some 17) (.pointer (some ⟨R, 1, none⟩)) rfl rfl rfl (by kernel_rfl) (by kernel_rfl) (by kernel_rfl) (fun Y hY => ?_) HS2.out ?_
  · go_simp
  simp only [Act.put, List.setIfInBounds_toArray, List.set_cons_zero, List.set_cons_succ]
  obtain ⟨W2, hW2⟩ : ∃ W2, W1.setCell ⟨R, 1, none⟩ (.int .i64 (s' : Nat)) = W2 := ⟨_, rfl⟩
  have HW2 : Hid (W1.setCell ⟨R, 1, none⟩ (.int .i64 (s' : Nat)) = W2) := hW2
  have HK2 : Hid (Kept [R] w W2) := by
    show Kept [R] w W2
    rw [← hW2]
    exact (Kept.mono (keptB (Kept.refl [] w).drew HK1.out) (by simp)).setCell (.inl (by simp)) _
  have HB2 : Hid (W2.heap[R]? = some (.cells #[.pointer (some ⟨T, 0, none⟩), .int .i64 (s' : Nat)] 57 (0, 0))) := by
    show W2.heap[R]? = _
    rw [← hW2, bx_set HS3.out]; rfl
  clear hW2
  refine heldOneHp 13 (by kernel_rfl) ?_
  refine opSkipHp W2 rfl rfl rfl ?_ ⟨(cell_of HB2.out 0).trans rfl, ?_⟩
  · have y0 : W1.cell? ⟨R, 1, none⟩ = some (.int .i64 (s : Nat)) := (cell_of HS3.out 1).trans rfl
    have y1 : W1.frozen? ⟨R, 1, none⟩ = false := free_of HS3.out 1
    rw [← HW2.out]
    go_simp
  refine wpAnyH_done (by kernel_rfl) ?_ _
  simp only [Q1Hp]
  have HRS : Hid (RunS W2 lo N R ps next out fin s') := HNX.out W2 HK2.out HB2.out
  go_wp2_with (go_at_call 16; refine (HVD.out W2 HRS.out).mono ?_; rintro e W3 ⟨rfl, HK3⟩)
  go_ret
  exact ⟨rfl, HRS.out.kept HK3.out, HK2.out.trans HK3.out (fun _ q => q) (by simp)⟩
end Go.Proofs.Ytcojlcbljhnbgaa
