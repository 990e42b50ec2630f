/- The document's runner, whatever else is written: Step, Letter, Goto, Final; Reset and Goto of the program's. -/
import Derived.Test.YtbbfajbnklgncaaRuDocR
import Derived.Test.YtbbfajbnklgncaaRuEnds
namespace Go.Proofs.Ytbbfajbnklgncaa
open Go.RowKit Go.Shelf Go.Maps

set_option maxHeartbeats 4000000 in
set_option maxRecDepth 10000 in
theorem refStepW_any (hi Q s l : Nat) (pv nv ov : Value) (ps : List ByteArray) (next : List (List Int)) (out : List Nat) (w : World) (h : DocW w hi Q pv nv ov ps next out s) (hm : MachR ps next out) (hl : l < 65536) :
    Calls Try.prog 17 #[.pointer (some ⟨Q, 0, none⟩), .int .u16 (l : Nat)] w fun e w' => e = .returned (.int .u8 (out.getD (stepN ps next s l) 0 : Nat)) ∧ Hid (DocW w' hi Q pv nv ov ps next out (stepN ps next s l)) ∧ Hid (Kept [Q] w w') := by
  have h1 := h.box
  have h2 : ∀ W', Kept [Q] w W' → Strs W' pv ps ∧ Rowss W' nv next ∧ Vds W' ov out := fun W' k => h.rest [Q] W' k (fun x hx => by simp at hx; omega)
  obtain ⟨hps, hnx, hov⟩ := h2 w (Kept.refl _ w)
  obtain ⟨hv, hvl⟩ := stepN_is hm h.lt l
  obtain ⟨q, hq⟩ : ∃ q, 2 ^ ps.length = q := ⟨_, rfl⟩
  have hsf := shl_facts ps.length l q hm.few hq
  have h8 := hm.few
  have hnf := hm.rows.few
  obtain ⟨pa, pc, rfl, _, _⟩ := hps.form
  have hlt := h.lt
  obtain ⟨row, hrow⟩ : ∃ row, next.getD s [] = row := ⟨_, rfl⟩
  have hr? : next[s]'hlt = row := by rw [← hrow, List.getD_eq_getElem?_getD, List.getElem?_eq_getElem hlt]; rfl
  have hrl : row.length = q := by rw [← hr?, hm.each _ (List.getElem_mem hlt), hq]
  rcases hnx.lie with ⟨_, he⟩ | ⟨nb, no, nc, rfl, _, _, hce⟩
  · rw [he] at hlt; simp at hlt
  obtain ⟨u, hu, hI⟩ := hce s hlt
  rw [hr?] at hI
  obtain ⟨s', hs'⟩ : ∃ s', stepN ps next s l = s' := ⟨_, rfl⟩
  rw [hs', hrow, hq] at hv
  rw [hs'] at hvl ⊢
  have hri : l % q < row.length := by rw [hrl]; exact Nat.mod_lt _ (by omega)
  obtain ⟨ub, uo, uc, rfl, hu1, hu2, hu3⟩ := hI.there (by omega)
  have hel : w.cell? ⟨ub, uo + l % q, none⟩ = some (.int .i64 (s' : Nat)) := by
    rw [hu3 _ hri, ← hv, List.getD_eq_getElem?_getD, List.getElem?_eq_getElem hri]; rfl
  have hol : s' < out.length := by rw [hm.len]; exact hvl
  rcases hov.lie with ⟨_, he⟩ | ⟨ob, oo, oc, rfl, _, _, hoc⟩
  · rw [he] at hol; simp at hol
  have hoe := hoc s' hol
  obtain ⟨v, hvv⟩ : ∃ v, out.getD s' 0 = v := ⟨_, rfl⟩
  have hoe2 : w.cell? ⟨ob, oo + s', none⟩ = some (.int .u8 (v : Nat)) := by
    rw [hoe, ← hvv]
  rw [hvv]
  have h2q : ∀ W', Kept [Q] w W' → Rowss W' (.slice (some ⟨nb, no, none⟩) next.length nc) next := fun W' k => (h2 W' k).2.1
  have hpos : 0 < (next[s]'hlt).length := by rw [hr?]; omega
  have hnq : nb ≠ Q := rowss_off h1 h2q hlt hpos
  have huq : ub ≠ Q := ints_off h1 h2q hlt hpos (by rw [hr?]; exact hu) (j := l % q) (by rw [hr?]; exact hri)
  have HN : Hid (∀ W', Kept [Q] w W' → W'.cell? ⟨nb, no + s, none⟩ = some (.slice (some ⟨ub, uo, none⟩) row.length uc) ∧ W'.cell? ⟨ub, uo + l % q, none⟩ = some (.int .i64 (s' : Nat)) ∧ W'.cell? ⟨ob, oo + s', none⟩ = some (.int .u8 (v : Nat))) := fun W' k => by
    refine ⟨cell_keptN k (by simpa using hnq) hu, cell_keptN k (by simpa using huq) hel, ?_⟩
    rcases (h2 W' k).2.2.lie with ⟨he, _⟩ | ⟨b, o, c, he, _, _, hc⟩
    · cases he
    · cases he
      rw [hc s' hol, hvv]
  have HB : Hid (w.drew.heap[Q]? = some (.cells #[.slice pa ps.length pc, .slice (some ⟨nb, no, none⟩) next.length nc, .slice (some ⟨ob, oo, none⟩) out.length oc, .int .i64 (s : Nat)] 51 (0, 0))) := h1
  obtain ⟨W2, hW2⟩ : ∃ W2, w.drew.setCell ⟨Q, 3, none⟩ (.int .i64 (s' : Nat)) = W2 := ⟨_, rfl⟩
  have HK2 : Hid (Kept [Q] w W2) := by show Kept [Q] w W2; rw [← hW2]; exact (Kept.mono ((Kept.refl [] w).drew) (by simp)).setCell (.inl (by simp)) _
  have HB2 : Hid (W2.heap[Q]? = some (.cells #[.slice pa ps.length pc, .slice (some ⟨nb, no, none⟩) next.length nc, .slice (some ⟨ob, oo, none⟩) out.length oc, .int .i64 (s' : Nat)] 51 (0, 0))) := by
    show W2.heap[Q]? = _
    rw [← hW2, bx_set HB.out]; rfl
  have HD2 : Hid (DocW W2 hi Q (.slice pa ps.length pc) (.slice (some ⟨nb, no, none⟩) next.length nc) (.slice (some ⟨ob, oo, none⟩) out.length oc) ps next out s') := h.to HK2.out HB2.out hvl
  have HKd : Hid (Kept [Q] w w.drew) := Kept.mono ((Kept.refl [] w).drew) (by simp)
  obtain ⟨p, hp⟩ : ∃ p, ps.length = p := ⟨_, rfl⟩
  rw [hp] at hsf h8
  obtain ⟨e1, e2, e3, e4, hq1, hq0⟩ := hsf
  obtain ⟨n, hn⟩ : ∃ n, next.length = n := ⟨_, rfl⟩
  obtain ⟨on, hon⟩ : ∃ n, out.length = n := ⟨_, rfl⟩
  rw [hn] at hlt hnf
  rw [hon] at hol
  rw [hp, hn, hon] at HB HB2
  obtain ⟨rl, hrl2⟩ : ∃ n, row.length = n := ⟨_, rfl⟩
  rw [hrl2] at hri HN
  obtain ⟨r, hr⟩ : ∃ r, l % q = r := ⟨_, rfl⟩
  rw [hr] at hri HN e4
  have c0 : w.drew.cell? ⟨Q, 0, none⟩ = some (.slice pa p pc) := (cell_of HB.out 0).trans rfl
  have c1 : w.drew.cell? ⟨Q, 1, none⟩ = some (.slice (some ⟨nb, no, none⟩) n nc) := (cell_of HB.out 1).trans rfl
  have c2 : w.drew.cell? ⟨Q, 3, none⟩ = some (.int .i64 (s : Nat)) := (cell_of HB.out 3).trans rfl
  have c3 : w.drew.frozen? ⟨Q, 3, none⟩ = false := free_of HB.out 3
  have d0 : W2.cell? ⟨Q, 0, none⟩ = some (.slice pa p pc) := (cell_of HB2.out 0).trans rfl
  have d1 : W2.cell? ⟨Q, 1, none⟩ = some (.slice (some ⟨nb, no, none⟩) n nc) := (cell_of HB2.out 1).trans rfl
  have d2 : W2.cell? ⟨Q, 2, none⟩ = some (.slice (some ⟨ob, oo, none⟩) on oc) := (cell_of HB2.out 2).trans rfl
  have d3 : W2.cell? ⟨Q, 3, none⟩ = some (.int .i64 (s' : Nat)) := (cell_of HB2.out 3).trans rfl
  obtain ⟨f0, f1, _⟩ := HN.out w.drew HKd.out
  obtain ⟨g0, g1, g2⟩ := HN.out W2 HK2.out
  have z0 : (0 : Int) ≤ (s : Int) := by omega
  have z1 : (s : Int) < (n : Int) := by omega
  have z2 : (0 : Int) ≤ (r : Int) := by omega
  have z3 : (r : Int) < (rl : Int) := by omega
  have z4 : (0 : Int) ≤ (p : Int) := by omega
  have z5 : (0 : Int) ≤ (s' : Int) := by omega
  have z6 : (s' : Int) < (on : Int) := by omega
  have HW2 : Hid (w.drew.setCell ⟨Q, 3, none⟩ (.int .i64 (s' : Nat)) = W2) := hW2
  have HDR : Hid (Kept [] W2 W2.drew) := (Kept.refl [] W2).drew
  clear h hm h1 h2 h2q hps hnx hov hv hvl hq hr? hrl hI hs' hu1 hu2 hu3 hel hce hoc hoe hvv hoe2 hpos hnq huq hp hn hon hrl2 hr hW2 hrow hu
  go_enter Try.func17, Try.ntmps17
  go_upto_region 1 with fail
  refine wp_regionHp (fun Y => Y.cell? ⟨Q, 0, none⟩ = some (.slice pa p pc) ∧ Y.cell? ⟨Q, 1, none⟩ = some (.slice (some ⟨nb, no, none⟩) n nc) ∧ Y.cell? ⟨nb, no + s, none⟩ = some (.slice (some ⟨ub, uo, none⟩) rl uc) ∧ Y.cell? ⟨ub, uo + r, none⟩ = some (.int .i64 (s' : Nat))) (by kernel_rfl) ?_
  refine heldTakeHp 0 (some 5) (.pointer (some ⟨Q, 0, none⟩)) rfl rfl rfl (by kernel_rfl) (by kernel_rfl) (by kernel_rfl) (fun Y hY => ?_) ⟨c0, c1, f0, f1⟩ ?_
  · obtain ⟨y0, y1, y2, y3⟩ := hY
    go_simp
  simp only [Act.put, List.setIfInBounds_toArray, List.set_cons_zero, List.set_cons_succ]
  refine heldTakeHp 1 (some 6) (.pointer (some ⟨Q, 0, none⟩)) rfl rfl rfl (by kernel_rfl) (by kernel_rfl) (by kernel_rfl) (fun Y hY => ?_) ⟨c0, c1, f0, f1⟩ ?_
  · obtain ⟨y0, y1, y2, y3⟩ := hY
    go_simp
  simp only [Act.put, List.setIfInBounds_toArray, List.set_cons_zero, List.set_cons_succ]
  refine heldTakeHp 2 (some 7) (.pointer (some ⟨Q, 0, none⟩)) rfl rfl rfl (by kernel_rfl) (by kernel_rfl) (by kernel_rfl) (fun Y hY => ?_) ⟨c0, c1, f0, f1⟩ ?_
  · obtain ⟨y0, y1, y2, y3⟩ := hY
    go_simp
  simp only [Act.put, List.setIfInBounds_toArray, List.set_cons_zero, List.set_cons_succ]
  refine heldTakeHp 3 (some 8) (.pointer (some ⟨Q, 0, none⟩)) rfl rfl rfl (by kernel_rfl) (by kernel_rfl) (by kernel_rfl) (fun Y hY => ?_) ⟨c0, c1, f0, f1⟩ ?_
  · obtain ⟨y0, y1, y2, y3⟩ := hY
    go_simp
  simp only [Act.put, List.setIfInBounds_toArray, List.set_cons_zero, List.set_cons_succ]
  refine heldTakeHp 4 (some 9) (.pointer (some ⟨Q, 1, none⟩)) rfl rfl rfl (by kernel_rfl) (by kernel_rfl) (by kernel_rfl) (fun Y hY => ?_) ⟨c0, c1, f0, f1⟩ ?_
  · obtain ⟨y0, y1, y2, y3⟩ := hY
    go_simp
  simp only [Act.put, List.setIfInBounds_toArray, List.set_cons_zero, List.set_cons_succ]
  refine heldTakeHp 5 (some 10) (.slice (some ⟨nb, no, none⟩) n nc) rfl rfl rfl (by kernel_rfl) (by kernel_rfl) (by kernel_rfl) (fun Y hY => ?_) ⟨c0, c1, f0, f1⟩ ?_
  · obtain ⟨y0, y1, y2, y3⟩ := hY
    go_simp
  simp only [Act.put, List.setIfInBounds_toArray, List.set_cons_zero, List.set_cons_succ]
  refine heldTakeHp 6 (some 11) (.pointer (some ⟨Q, 0, none⟩)) rfl rfl rfl (by kernel_rfl) (by kernel_rfl) (by kernel_rfl) (fun Y hY => ?_) ⟨c0, c1, f0, f1⟩ ?_
  · obtain ⟨y0, y1, y2, y3⟩ := hY
    go_simp
  simp only [Act.put, List.setIfInBounds_toArray, List.set_cons_zero, List.set_cons_succ]
  refine heldTakeHp 7 (some 12) (.pointer (some ⟨Q, 0, none⟩)) rfl rfl rfl (by kernel_rfl) (by kernel_rfl) (by kernel_rfl) (fun Y hY => ?_) ⟨c0, c1, f0, f1⟩ ?_
  · obtain ⟨y0, y1, y2, y3⟩ := hY
    go_simp
  simp only [Act.put, List.setIfInBounds_toArray, List.set_cons_zero, List.set_cons_succ]
  refine heldTakeHp 8 (some 13) (.pointer (some ⟨Q, 3, none⟩)) rfl rfl rfl (by kernel_rfl) (by kernel_rfl) (by kernel_rfl) (fun Y hY => ?_) ⟨c0, c1, f0, f1⟩ ?_
  · obtain ⟨y0, y1, y2, y3⟩ := hY
    go_simp
  simp only [Act.put, List.setIfInBounds_toArray, List.set_cons_zero, List.set_cons_succ]
  refine heldTakeHp 12 (some 17) (.int .u16 (l : Nat)) rfl rfl rfl (by kernel_rfl) (by kernel_rfl) (by kernel_rfl) (fun Y hY => ?_) ⟨c0, c1, f0, f1⟩ ?_
  · obtain ⟨y0, y1, y2, y3⟩ := hY
    go_simp
  simp only [Act.put, List.setIfInBounds_toArray, List.set_cons_zero, List.set_cons_succ]
  refine heldTakeHp 13 (some 18) (.int .i64 (l : Nat)) rfl rfl rfl (by kernel_rfl) (by kernel_rfl) (by kernel_rfl) (fun Y hY => ?_) ⟨c0, c1, f0, f1⟩ ?_
  · obtain ⟨y0, y1, y2, y3⟩ := hY
    go_simp
    exact wrap_l64 l hl
  simp only [Act.put, List.setIfInBounds_toArray, List.set_cons_zero, List.set_cons_succ]
  refine heldTakeHp 14 (some 19) (.pointer (some ⟨Q, 0, none⟩)) rfl rfl rfl (by kernel_rfl) (by kernel_rfl) (by kernel_rfl) (fun Y hY => ?_) ⟨c0, c1, f0, f1⟩ ?_
  · obtain ⟨y0, y1, y2, y3⟩ := hY
    go_simp
  simp only [Act.put, List.setIfInBounds_toArray, List.set_cons_zero, List.set_cons_succ]
  refine heldTakeHp 15 (some 20) (.pointer (some ⟨Q, 0, none⟩)) rfl rfl rfl (by kernel_rfl) (by kernel_rfl) (by kernel_rfl) (fun Y hY => ?_) ⟨c0, c1, f0, f1⟩ ?_
  · obtain ⟨y0, y1, y2, y3⟩ := hY
    go_simp
  simp only [Act.put, List.setIfInBounds_toArray, List.set_cons_zero, List.set_cons_succ]
  refine heldTakeHp 16 (some 21) (.pointer (some ⟨Q, 0, none⟩)) rfl rfl rfl (by kernel_rfl) (by kernel_rfl) (by kernel_rfl) (fun Y hY => ?_) ⟨c0, c1, f0, f1⟩ ?_
  · obtain ⟨y0, y1, y2, y3⟩ := hY
    go_simp
  simp only [Act.put, List.setIfInBounds_toArray, List.set_cons_zero, List.set_cons_succ]
  refine heldTakeHp 17 (some 22) (.pointer (some ⟨Q, 0, none⟩)) rfl rfl rfl (by kernel_rfl) (by kernel_rfl) (by kernel_rfl) (fun Y hY => ?_) ⟨c0, c1, f0, f1⟩ ?_
  · obtain ⟨y0, y1, y2, y3⟩ := hY
    go_simp
  simp only [Act.put, List.setIfInBounds_toArray, List.set_cons_zero, List.set_cons_succ]
  refine heldTakeHp 18 (some 23) (.slice pa p pc) rfl rfl rfl (by kernel_rfl) (by kernel_rfl) (by kernel_rfl) (fun Y hY => ?_) ⟨c0, c1, f0, f1⟩ ?_
  · obtain ⟨y0, y1, y2, y3⟩ := hY
    go_simp
  simp only [Act.put, List.setIfInBounds_toArray, List.set_cons_zero, List.set_cons_succ]
  refine heldTakeHp 19 (some 24) (.int .i64 (p : Nat)) rfl rfl rfl (by kernel_rfl) (by kernel_rfl) (by kernel_rfl) (fun Y hY => ?_) ⟨c0, c1, f0, f1⟩ ?_
  · obtain ⟨y0, y1, y2, y3⟩ := hY
    go_simp
  simp only [Act.put, List.setIfInBounds_toArray, List.set_cons_zero, List.set_cons_succ]
  refine heldTakeHp 20 (some 25) (.int .i64 (q : Nat)) rfl rfl rfl (by kernel_rfl) (by kernel_rfl) (by kernel_rfl) (fun Y hY => ?_) ⟨c0, c1, f0, f1⟩ ?_
  · obtain ⟨y0, y1, y2, y3⟩ := hY
    go_simp
  simp only [Act.put, List.setIfInBounds_toArray, List.set_cons_zero, List.set_cons_succ]
  refine heldTakeHp 21 (some 26) (.int .i64 (r : Nat)) rfl rfl rfl (by kernel_rfl) (by kernel_rfl) (by kernel_rfl) (fun Y hY => ?_) ⟨c0, c1, f0, f1⟩ ?_
  · obtain ⟨y0, y1, y2, y3⟩ := hY
    have hq9 : ¬ q = 0 := Nat.ne_of_gt hq0
    go_simp
  simp only [Act.put, List.setIfInBounds_toArray, List.set_cons_zero, List.set_cons_succ]
  refine heldOneHp 9 (by kernel_rfl) ?_
  refine opValueHp (some 14) (.int .i64 (s : Nat)) w.drew rfl rfl rfl ?_ ⟨⟨c0, c1, f0, f1⟩, ?_⟩
  · have y0 := c2
    go_simp
  simp only [Act.put, List.setIfInBounds_toArray, List.set_cons_zero, List.set_cons_succ]
  refine heldTakeHp 10 (some 15) (.pointer (some ⟨nb, no + s, none⟩)) rfl rfl rfl (by kernel_rfl) (by kernel_rfl) (by kernel_rfl) (fun Y hY => ?_) ⟨c0, c1, f0, f1⟩ ?_
  · obtain ⟨y0, y1, y2, y3⟩ := hY
    go_simp
  simp only [Act.put, List.setIfInBounds_toArray, List.set_cons_zero, List.set_cons_succ]
  refine heldTakeHp 11 (some 16) (.slice (some ⟨ub, uo, none⟩) rl uc) rfl rfl rfl (by kernel_rfl) (by kernel_rfl) (by kernel_rfl) (fun Y hY => ?_) ⟨c0, c1, f0, f1⟩ ?_
  · obtain ⟨y0, y1, y2, y3⟩ := hY
    go_simp
  simp only [Act.put, List.setIfInBounds_toArray, List.set_cons_zero, List.set_cons_succ]
  refine heldTakeHp 22 (some 27) (.pointer (some ⟨ub, uo + r, none⟩)) rfl rfl rfl (by kernel_rfl) (by kernel_rfl) (by kernel_rfl) (fun Y hY => ?_) ⟨c0, c1, f0, f1⟩ ?_
  · obtain ⟨y0, y1, y2, y3⟩ := hY
    go_simp
  simp only [Act.put, List.setIfInBounds_toArray, List.set_cons_zero, List.set_cons_succ]
  refine heldTakeHp 23 (some 28) (.int .i64 (s' : Nat)) rfl rfl rfl (by kernel_rfl) (by kernel_rfl) (by kernel_rfl) (fun Y hY => ?_) ⟨c0, c1, f0, f1⟩ ?_
  · obtain ⟨y0, y1, y2, y3⟩ := hY
    go_simp
  simp only [Act.put, List.setIfInBounds_toArray, List.set_cons_zero, List.set_cons_succ]
  refine heldTakeHp 24 (some 29) (.pointer (some ⟨Q, 0, none⟩)) rfl rfl rfl (by kernel_rfl) (by kernel_rfl) (by kernel_rfl) (fun Y hY => ?_) ⟨c0, c1, f0, f1⟩ ?_
  · obtain ⟨y0, y1, y2, y3⟩ := hY
    go_simp
  simp only [Act.put, List.setIfInBounds_toArray, List.set_cons_zero, List.set_cons_succ]
  refine heldTakeHp 25 (some 30) (.pointer (some ⟨Q, 3, none⟩)) rfl rfl rfl (by kernel_rfl) (by kernel_rfl) (by kernel_rfl) (fun Y hY => ?_) ⟨c0, c1, f0, f1⟩ ?_
  · obtain ⟨y0, y1, y2, y3⟩ := hY
    go_simp
  simp only [Act.put, List.setIfInBounds_toArray, List.set_cons_zero, List.set_cons_succ]
  refine heldOneHp 26 (by kernel_rfl) ?_
  refine opSkipHp W2 rfl rfl rfl ?_ ⟨⟨d0, d1, g0, g1⟩, ?_⟩
  · have y0 := c2
    have y1 := c3
    rw [← HW2.out]
    go_simp
  refine wpAnyH_done (by kernel_rfl) ?_ _
  simp only [Q1Hp]
  clear c0 c1 c2 c3 f0 f1
  go_wp2_with fail
  go_region
  all_goals go_wp2
  go_ret
  exact ⟨rfl, HD2.out.keptF HDR.out (by simp), HK2.out.drew⟩
def goS (n s : Nat) (k : Int) : Nat := if 0 ≤ k ∧ k < (n : Int) then k.toNat else s
def goE (n : Nat) (k : Int) : Int := if 0 ≤ k ∧ k < (n : Int) then 0 else 171
theorem goS_lt {n s : Nat} (h : s < n) (k : Int) : goS n s k < n := by
  unfold goS
  split <;> omega
set_option maxHeartbeats 2000000 in
set_option maxRecDepth 10000 in
theorem refGotoW_any (hi Q s : Nat) (k : Int) (pv nv ov : Value) (ps : List ByteArray) (next : List (List Int)) (out : List Nat) (w : World) (h : DocW w hi Q pv nv ov ps next out s) :
    Calls Try.prog 41 #[.pointer (some ⟨Q, 0, none⟩), .int .i64 k] w fun e w' => e = .returned (.int .i64 (goE next.length k)) ∧ Hid (DocW w' hi Q pv nv ov ps next out (goS next.length s k)) ∧ Hid (Kept [Q] w w') := by
  obtain ⟨_, hn, _⟩ := h.rest [] w (Kept.refl [] w) (by simp)
  obtain ⟨na, nc, rfl, _, _⟩ := hn.form13
  have hb := h.box
  have c1 : w.cell? ⟨Q, 1, none⟩ = some (.slice na next.length nc) := (cell_of hb 1).trans rfl
  have c3 : w.cell? ⟨Q, 3, none⟩ = some (.int .i64 (s : Nat)) := (cell_of hb 3).trans rfl
  have f3 : w.frozen? ⟨Q, 3, none⟩ = false := free_of hb 3
  have HW : Hid (DocW w hi Q pv (.slice na next.length nc) ov ps next out s) := h
  by_cases h0 : k < 0
  · have e1 : goE next.length k = 171 := by unfold goE; rw [if_neg (by omega)]
    have e2 : goS next.length s k = s := by unfold goS; rw [if_neg (by omega)]
    rw [e1, e2]
    have z2 : decide (k < 0) = true := decide_eq_true h0
    clear h hn hb e1 e2
    go_enter Try.func41, Try.ntmps41
    go_wp2
    go_ret
    exact ⟨rfl, HW.out, (Kept.refl [] w).mono (by simp)⟩
  · have z2 : decide (k < 0) = false := decide_eq_false h0
    by_cases h1 : k < (next.length : Int)
    · have e1 : goE next.length k = 0 := by unfold goE; rw [if_pos (by omega)]
      have e2 : goS next.length s k = k.toNat := by unfold goS; rw [if_pos (by omega)]
      obtain ⟨n, rfl⟩ : ∃ n : Nat, k = (n : Int) := ⟨k.toNat, by omega⟩
      rw [e1, e2]
      have z1 : ¬ ((next.length : Int) ≤ (n : Int)) := by omega
      have HK2 : Hid (Kept [Q] w (w.setCell ⟨Q, 3, none⟩ (.int .i64 (n : Nat)))) := (Kept.refl [Q] w).setCell (.inl (by simp)) _
      have HR2 : Hid (DocW (w.setCell ⟨Q, 3, none⟩ (.int .i64 (n : Nat))) hi Q pv (.slice na next.length nc) ov ps next out (Int.toNat (n : Int))) := HW.out.to HK2.out ((bx_set hb _).trans rfl) (by simp; omega)
      clear h hn hb e1 e2
      go_enter Try.func41, Try.ntmps41
      go_wp2
      go_ret
      exact ⟨rfl, HR2, HK2⟩
    · have e1 : goE next.length k = 171 := by unfold goE; rw [if_neg (by omega)]
      have e2 : goS next.length s k = s := by unfold goS; rw [if_neg (by omega)]
      rw [e1, e2]
      have z1 : (next.length : Int) ≤ k := by omega
      clear h hn hb e1 e2
      go_enter Try.func41, Try.ntmps41
      go_wp2
      go_ret
      exact ⟨rfl, HW.out, (Kept.refl [] w).mono (by simp)⟩
set_option maxHeartbeats 2000000 in
set_option maxRecDepth 10000 in
theorem gotoI_any (lo N R s : Nat) (k : Int) (ps : List ByteArray) (next : List (List Int)) (out : List Nat) (fin : List Bool) (w : World) (h : RunS w lo N R ps next out fin s) (hm : MachR ps next out) :
    Calls Try.prog 24 #[.pointer (some ⟨R, 0, none⟩), .int .i64 k] w fun e w' => e = .returned (.int .i64 (goE next.length k)) ∧ Hid (RunS w' lo N R ps next out fin (goS next.length s k)) ∧ Hid (Kept [R] w w') := by
  by_cases hin : 0 ≤ k ∧ k < (next.length : Int)
  · have e1 : goE next.length k = 0 := by unfold goE; rw [if_pos hin]
    have e2 : goS next.length s k = k.toNat := by unfold goS; rw [if_pos hin]
    obtain ⟨n, rfl⟩ : ∃ n : Nat, k = (n : Int) := ⟨k.toNat, by omega⟩
    rw [e1, e2]
    exact goto_any lo N R ps next out fin s n w h hm (by omega)
  · have e1 : goE next.length k = 171 := by unfold goE; rw [if_neg hin]
    have e2 : goS next.length s k = s := by unfold goS; rw [if_neg hin]
    rw [e1, e2]
    have HR : Hid (RunS w lo N R ps next out fin s) := h
    obtain ⟨T, MB, FR, nxv, outv, D, fl, h1, h2, h3⟩ := h.ex
    obtain ⟨ad, c, rfl⟩ := own_formR h2.outs
    have c0 : w.cell? ⟨R, 0, none⟩ = some (.pointer (some ⟨T, 0, none⟩)) := (cell_of h1 0).trans rfl
    have c2 : w.cell? ⟨T, 3, none⟩ = some (.slice ad out.length c) := (cell_of h2.box 3).trans rfl
    by_cases h0 : k < 0
    · have z2 : decide (k < 0) = true := decide_eq_true h0
      clear h h1 h2 h3 hm e1 e2 hin
      go_enter Try.func24, Try.ntmps24
      go_wp2
      go_ret
      exact ⟨rfl, HR.out, (Kept.refl [] w).mono (by simp)⟩
    · have z2 : decide (k < 0) = false := decide_eq_false h0
      have z1 : (out.length : Int) ≤ k := by rw [hm.len]; omega
      clear h h1 h2 h3 hm e1 e2 hin
      go_enter Try.func24, Try.ntmps24
      go_wp2
      go_ret
      exact ⟨rfl, HR.out, (Kept.refl [] w).mono (by simp)⟩
set_option maxHeartbeats 2000000 in
set_option maxRecDepth 10000 in
theorem resetR_any (lo N R s : Nat) (ps : List ByteArray) (next : List (List Int)) (out : List Nat) (fin : List Bool) (w : World) (h : RunS w lo N R ps next out fin s) (hm : MachR ps next out) :
    Calls Try.prog 40 #[.pointer (some ⟨R, 0, none⟩)] w fun e w' => (∃ v, e = .returned v) ∧ Hid (RunS w' lo N R ps next out fin 0) ∧ Hid (Kept [R] w w') := by
  obtain ⟨T, MB, FR, nxv, outv, D, fl, h1, h2, h3⟩ := h.ex
  have c1 : w.cell? ⟨R, 1, none⟩ = some (.int .i64 (s : Nat)) := (cell_of h1 1).trans rfl
  have f1 : w.frozen? ⟨R, 1, none⟩ = false := free_of h1 1
  have HK2 : Hid (Kept [R] w (w.setCell ⟨R, 1, none⟩ (.int .i64 (0 : Nat)))) := (Kept.refl [R] w).setCell (.inl (by simp)) _
  have HR2 : Hid (RunS (w.setCell ⟨R, 1, none⟩ (.int .i64 (0 : Nat))) lo N R ps next out fin 0) := ⟨⟨T, MB, FR, nxv, _, D, fl, (bx_set h1 _).trans rfl, h2.keptF HK2.out (fun x hx => by have := h.high; simp at hx; omega), h3⟩, h.fin, h.high, hm.rows.pos⟩
  clear h h1 h2 h3 hm
  go_enter Try.func40, Try.ntmps40
  go_wp2
  first | go_end0 | refine bodyPost_ret (results_none rfl _ _ _) rfl ?_
  exact ⟨⟨_, rfl⟩, HR2, HK2⟩
set_option maxHeartbeats 8000000 in
set_option maxRecDepth 20000 in
theorem refFinalW_any (hi Q s : Nat) (pv nv ov : Value) (ps : List ByteArray) (next : List (List Int)) (out : List Nat) (w : World) (h : DocW w hi Q pv nv ov ps next out s) (hm : MachR ps next out) (fb : Bool) (hfb : fb = true ↔ ¬ NotFin next out s) :
    Calls Try.prog 43 #[.pointer (some ⟨Q, 0, none⟩)] w fun e w' => e = .returned (.bool fb) ∧ Hid (Kept [] w w') := by
  have hr : RightR next := hm.rows
  have hlo := hm.len
  have hs := h.lt
  have hbox := h.box
  obtain ⟨_, hn, ho⟩ := h.rest [] w (Kept.refl [] w) (by simp)
  have HFB : Hid (fb = true ↔ ¬ NotFin next out s) := hfb
  obtain ⟨n, hln⟩ : ∃ n, next.length = n := ⟨_, rfl⟩
  have hfew : n ≤ 1000000 := by rw [← hln]; exact hr.few
  have hsn : s < n := by omega
  obtain ⟨ob, oo, oc, rfl, hout⟩ := ho.there (by rw [hlo]; omega)
  rcases hn.lie with ⟨hnv, he⟩ | ⟨nb, no, nc, hnv, hc1, hc2, hce⟩
  · have := hr.pos
    rw [he] at this
    simp at this
  subst hnv
  have HO : Hid (∀ W, Kept [] w W → OutAt W ob oo out) := fun W k => hout.kept k
  have HCE : Hid (∀ i (h : i < next.length), ∃ u, w.cell? ⟨nb, no + i, none⟩ = some u ∧ Ints w u next[i]) := hce
  have HRR : Hid (RightR next) := hr
  have HLN : Hid (next.length = n ∧ out.length = n) := ⟨hln, by rw [hlo, hln]⟩
  rw [hln] at hc1
  rw [hln, hlo, hln] at hbox
  have HC : Hid (∀ W, Kept [] w W → W.cell? ⟨Q, 3, none⟩ = some (.int .i64 (s : Nat)) ∧ W.cell? ⟨Q, 1, none⟩ = some (.slice (some ⟨nb, no, none⟩) n nc) ∧ W.cell? ⟨Q, 2, none⟩ = some (.slice (some ⟨ob, oo, none⟩) n oc)) := fun W k => by
    have hb := k.at hbox (by simp)
    exact ⟨(cell_of hb 3).trans rfl, (cell_of hb 1).trans rfl, (cell_of hb 2).trans rfl⟩
  have hmk := make_boolsR w n hfew
  obtain ⟨U, hU⟩ : ∃ U, w.alloc (.cells ((List.replicate n false).map Value.bool).toArray 4) = U := ⟨_, rfl⟩
  have kU : Kept [] w U := by rw [← hU]; exact (Kept.refl [] w).alloc _
  obtain ⟨SB, hSB⟩ : ∃ SB, w.heap.size = SB := ⟨_, rfl⟩
  have hsb : U.heap[SB]? = some (.cells ((List.replicate n false).map Value.bool).toArray 4 (0, 0)) := by rw [← hU, ← hSB]; exact al0 _ _
  obtain ⟨Y, hY⟩ : ∃ Y, U.alloc (.cells #[.int .i64 (s : Nat)] 3) = Y := ⟨_, rfl⟩
  have kY : Kept [] U Y := by rw [← hY]; exact (Kept.refl [] U).alloc _
  obtain ⟨RB, hRB⟩ : ∃ RB, U.heap.size = RB := ⟨_, rfl⟩
  have hrb : Y.heap[RB]? = some (.cells #[.int .i64 (s : Nat)] 3 (0, 0)) := by rw [← hY, ← hRB]; exact al0 _ _
  have hsy := kY.at hsb (by simp)
  have e1 : Y.cell? ⟨SB, s, none⟩ = some (.bool false) := by
    rw [cell_of hsy]
    simp [hsn]
  have e2 : Y.frozen? ⟨SB, s, none⟩ = false := free_of hsy s
  obtain ⟨Z, hZ⟩ : ∃ Z, Y.setCell ⟨SB, s, none⟩ (.bool true) = Z := ⟨_, rfl⟩
  have hne : SB ≠ RB := by have := lt_of hsb; omega
  have HS0 : Hid (SeenS Z w.heap.size SB n (.slice (some ⟨RB, 0, none⟩) 1 1) ((List.replicate n false).set s true) [s]) := by
    have h9 := bx_set (i := s) hsy (.bool true)
    rw [hZ] at h9
    have e9 : ((List.replicate n false).map Value.bool).toArray.setIfInBounds s (.bool true) = (((List.replicate n false).set s true).map Value.bool).toArray := by
      rw [List.map_set]
      apply Array.ext'
      rw [Array.toList_setIfInBounds]
    rw [e9] at h9
    have hrz : Z.heap[RB]? = some (.cells #[.int .i64 (s : Nat)] 3 (0, 0)) := by
      have kz : Kept [SB] Y Z := by rw [← hZ]; exact (Kept.refl [SB] Y).setCell (.inl (by simp)) _
      exact kz.at hrb (by simp; omega)
    refine ⟨h9, Nat.le_of_eq hSB, by simp, ⟨rfl, .inr ⟨RB, 1, _, rfl, by have := kU.size; omega, hrz, Nat.le_refl _, by unfold maxLen; omega, rfl, rfl⟩⟩, fun t ht => ?_, fun t ht => by rw [List.mem_singleton.1 ht]; exact hsn, ?_, hfew⟩
    · rw [List.getD_eq_getElem?_getD]
      by_cases e : s = t
      · subst e
        rw [List.getElem?_set_self (by simpa using hsn)]
        simp
      · rw [List.getElem?_set_ne e, List.getElem?_replicate, if_pos ht]
        have : t ≠ s := fun q => e q.symm
        simp [this]
    · have h1 := List.countP_set (p := id) (l := List.replicate n false) (a := true) (by simpa using hsn)
      simp at h1
      have h3 : (List.countP id ((List.replicate n false).set s true)) = List.countP (fun a => a) ((List.replicate n false).set s true) := rfl
      have h5 : List.countP (fun a => a) (List.replicate n false) = 0 := List.countP_eq_zero.2 (fun a ha => by rw [List.eq_of_mem_replicate ha]; decide)
      rw [List.length_singleton]
      omega
  have HKZ : Hid (Kept [] w Z) := by show Kept [] w Z; rw [← hZ]; exact (keptB kU kY).setCell (.inr (Nat.le_of_eq hSB)) _
  have HM0 : Hid (Met next out s 0 [s]) := Met.first next out s
  have HKV : Hid (Kept [] w w) := Kept.refl [] w
  have HU : Hid (w.alloc (.cells ((List.replicate n false).map Value.bool).toArray 4) = U) := hU
  rw [hU, hSB] at hmk
  rw [hSB] at HS0
  have HSBV : Hid (w.heap.size = SB) := hSB
  obtain ⟨c0, c1, c2⟩ := HC.out w (Kept.refl [] w)
  have c3 := (HC.out U kU).1
  have c4 := (HC.out Y (keptB kU kY)).1
  have z0 : (0 : Int) ≤ (n : Int) := by omega
  have z1 : (0 : Int) ≤ (s : Int) := by omega
  have z2 : (s : Int) < (n : Int) := by omega
  clear hn ho hr hlo hs hfb hln hce hout kU kY hrb hsy hsb hne hU hbox h hm
  go_enter Try.func43, Try.ntmps43
  go_upto_region 4 with fail
  clear hmk c0 c1 c2 c3 c4 e1 e2 hY hZ hRB
  go_wp2_with fail
  go_loopw [4, 5] (fun r v wr => ∃ (i : Nat) (L : List Nat) (sn : List Bool), v = .int .i64 (i : Nat) ∧ i ≤ L.length ∧ Hid (SeenS wr SB SB n r sn L) ∧ Hid (Met next out s i L) ∧ Hid (Kept [] w wr)) (fun _ v _ => n - (intOf v).toNat)
  case atStart => exact ⟨0, [s], _, rfl, Nat.zero_le _, HS0, HM0, HKZ⟩
  case round =>
    obtain ⟨i, L, sn, rfl, hi, HS, HM, HK⟩ := hrel
    obtain ⟨ad, c, hrv, hcells⟩ := HS.out.form
    subst hrv
    have hLn := HS.out.few_len
    obtain ⟨ln, hlnn⟩ : ∃ ln, L.length = ln := ⟨_, rfl⟩
    have HLL : Hid (L.length = ln) := hlnn
    rw [hlnn] at HS hcells hi hLn ⊢
    by_cases hil : i < ln
    · obtain ⟨g, rfl, hc⟩ := hcells i hil
      have hx? : L[i]? = some (L.getD i 0) := by rw [List.getD_eq_getElem?_getD, List.getElem?_eq_getElem (by omega)]; rfl
      obtain ⟨x, hx⟩ : ∃ x, L.getD i 0 = x := ⟨_, rfl⟩
      rw [hx] at hc hx?
      have hxn : x < n := HS.out.lt x (List.mem_of_getElem? hx?)
      have HX : Hid (L[i]? = some x) := hx?
      obtain ⟨m0, m1, m2⟩ := HC.out wr HK.out
      have HKw : Hid (Kept [] w wr) := keptB HKV.out HK.out
      have o1 := HO.out wr HKw.out x (by rw [HLN.out.2]; exact hxn)
      have o2 := HO.out wr HKw.out s (by rw [HLN.out.2]; exact hsn)
      obtain ⟨a, ha⟩ : ∃ a, out.getD x 0 = a := ⟨_, rfl⟩
      obtain ⟨b, hb⟩ : ∃ b, out.getD s 0 = b := ⟨_, rfl⟩
      rw [ha] at o1
      rw [hb] at o2
      have p0 : (0 : Int) ≤ (i : Int) := by omega
      have p1 : (i : Int) < (ln : Int) := by omega
      have p2 : (0 : Int) ≤ (x : Int) := by omega
      have p3 : (x : Int) < (n : Int) := by omega
      by_cases hab : a = b
      · have HAB : Hid (out.getD x 0 = out.getD s 0) := by show _ = _; rw [ha, hb]; exact hab
        subst hab
        obtain ⟨u, hu, hI⟩ := HCE.out x (by rw [HLN.out.1]; exact hxn)
        obtain ⟨row, hrow⟩ : ∃ row, next[x]'(by rw [HLN.out.1]; exact hxn) = row := ⟨_, rfl⟩
        rw [hrow] at hI
        have HRK : Hid (next.getD x [] = row) := by show next.getD x [] = row; rw [List.getD_eq_getElem?_getD, List.getElem?_eq_getElem (by rw [HLN.out.1]; exact hxn), hrow]; rfl
        obtain ⟨r0, r1, r2⟩ := HRR.out.row row (by rw [← hrow]; exact List.getElem_mem _)
        obtain ⟨ub, uo, uc, rfl, hu1, hu2, hu3⟩ := hI.there r0
        obtain ⟨rl, hrl⟩ : ∃ rl, row.length = rl := ⟨_, rfl⟩
        have HRL : Hid (row.length = rl) := hrl
        have HUC : Hid (∀ i (h : i < row.length), w.cell? ⟨ub, uo + i, none⟩ = some (.int .i64 row[i])) := hu3
        have HR2 : Hid (∀ x ∈ row, 0 ≤ x ∧ x < (n : Int)) := by show ∀ x ∈ row, _; rw [← HLN.out.1]; exact r2
        have HU1 : Hid (w.cell? ⟨nb, no + x, none⟩ = some (.slice (some ⟨ub, uo, none⟩) rl uc)) := by show _ = _; rw [← hrl]; exact hu
        rw [hrl] at r1 hu1
        clear hI hrow hu hu3 r2 hx? hx ha hb hcells hrl hlnn
        go_wp2_with fail
        go_region_held3 (fun w' => w'.cell? ⟨Q, 2, none⟩ = some (.slice (some ⟨ob, oo, none⟩) n oc) ∧ w'.cell? ⟨g, i, none⟩ = some (.int .i64 (x : Nat)) ∧ w'.cell? ⟨ob, oo + x, none⟩ = some (.int .u8 (a : Nat)) ∧ w'.cell? ⟨ob, oo + s, none⟩ = some (.int .u8 (a : Nat)) ∧ w'.cell? ⟨Q, 3, none⟩ = some (.int .i64 (s : Nat))) (exact ⟨m2, hc, o1, o2, m0⟩) (fail)
        all_goals go_wp2_with fail
        have HSd : Hid (SeenS wr.drew SB SB n (.slice (some ⟨g, 0, none⟩) ln c) sn L) := HS.out.kept (Kept.refl [] wr).drew
        have HKd : Hid (Kept [] w wr.drew) := HK.out.drew
        obtain ⟨W0, hW0⟩ : ∃ W0, wr.drew = W0 := ⟨_, rfl⟩
        rw [hW0] at HSd HKd ⊢
        clear hW0 m0 m1 m2 o1 o2 hc HS HK HKw
        go_loopw [4, 6] (fun r v w3 => ∃ (q : Nat) (L3 : List Nat) (sn3 : List Bool), v = .int .i64 (q : Nat) ∧ q ≤ rl ∧ Hid (SeenS w3 SB SB n r sn3 L3) ∧ Hid (L3[i]? = some x) ∧ Hid (Met next out s i L3) ∧ Hid (∀ f : Nat, (f : Int) ∈ row.take q → f ∈ L3) ∧ Hid (Kept [] w w3)) (fun _ v _ => rl - (intOf v).toNat)
        case atStart => exact ⟨0, L, sn, rfl, Nat.zero_le _, HSd, HX, HM, (fun f hf => by simp at hf : ∀ f : Nat, (f : Int) ∈ row.take 0 → f ∈ L), HKd⟩
        case round =>
          rename World => w3
          obtain ⟨q, L3, sn3, rfl, hq, HS3, HX3, HM3, HQ3, HK3⟩ := hrel
          obtain ⟨ad3, c3, hrv3, hcells3⟩ := HS3.out.form
          subst hrv3
          have hi3 : i < L3.length := (List.getElem?_eq_some_iff.1 HX3.out).1
          obtain ⟨g3, rfl, hc3⟩ := hcells3 i hi3
          have hxx : L3.getD i 0 = x := by rw [List.getD_eq_getElem?_getD, HX3.out]; rfl
          rw [hxx] at hc3
          have h3n := HS3.out.few_len
          obtain ⟨l3, hl3⟩ : ∃ l3, L3.length = l3 := ⟨_, rfl⟩
          have HL3 : Hid (L3.length = l3) := hl3
          rw [hl3] at HS3 hi3 h3n ⊢
          have p4 : (i : Int) < (l3 : Int) := by omega
          have n1 := (HC.out w3 HK3.out).2.1
          have n2 := cell_kept0 (keptB HKV.out HK3.out) HU1.out
          have HIN : Hid (i + 1 ≤ l3) := hi3
          have HMS : Hid (i < n) := by show i < n; omega
          clear hcells3 hxx hl3 hi3 h3n
          by_cases hql : q < rl
          · have p5 : (q : Int) < (rl : Int) := by omega
            have p6 : (0 : Int) ≤ (q : Int) := by omega
            have hqr : q < row.length := by rw [HRL.out]; exact hql
            obtain ⟨y0, hy0⟩ : ∃ y0, row[q]'hqr = y0 := ⟨_, rfl⟩
            obtain ⟨y1, y2⟩ := HR2.out y0 (by rw [← hy0]; exact List.getElem_mem _)
            obtain ⟨y, rfl⟩ : ∃ y : Nat, y0 = (y : Int) := ⟨y0.toNat, by omega⟩
            have HYC : Hid (w.cell? ⟨ub, uo + q, none⟩ = some (.int .i64 (y : Nat))) := by show _ = _; rw [← hy0]; exact HUC.out q hqr
            have HYX : Hid ((y : Int) ∈ next.getD x []) := by show _ ∈ _; rw [HRK.out, ← hy0]; exact List.getElem_mem _
            have HYT : Hid (∀ (L4 : List Nat), (∀ f ∈ L3, f ∈ L4) → y ∈ L4 → ∀ f : Nat, (f : Int) ∈ row.take (q + 1) → f ∈ L4) := by
              show ∀ (L4 : List Nat), _
              intro L4 h1 h2 f hf
              rw [List.take_add_one, List.getElem?_eq_getElem hqr, hy0] at hf
              rcases List.mem_append.1 hf with hf | hf
              · exact h1 f (HQ3.out f hf)
              · have : f = y := by simp at hf; omega
                rw [this]; exact h2
            have hyn : y < n := by omega
            clear hy0 hqr y1 y2
            go_wp2_with fail
            go_region_held3 (fun w' => w'.cell? ⟨Q, 1, none⟩ = some (.slice (some ⟨nb, no, none⟩) n nc) ∧ w'.cell? ⟨g3, i, none⟩ = some (.int .i64 (x : Nat)) ∧ w'.cell? ⟨nb, no + x, none⟩ = some (.slice (some ⟨ub, uo, none⟩) rl uc)) (exact ⟨n1, hc3, n2⟩) (fail)
            all_goals go_wp2_with fail
            have HS4 : Hid (SeenS w3.drew SB SB n (.slice (some ⟨g3, 0, none⟩) l3 c3) sn3 L3) := HS3.out.kept (Kept.refl [] w3).drew
            have HK4 : Hid (Kept [] w w3.drew) := HK3.out.drew
            have n1 := (HC.out w3.drew HK4.out).2.1
            have n2 := cell_kept0 (keptB HKV.out HK4.out) HU1.out
            have n3 := cell_kept0 (keptB HKV.out HK4.out) HYC.out
            have hc3 := cell_kept0 ((Kept.refl [] w3).drew) hc3
            obtain ⟨w4, hw4⟩ : ∃ w4, w3.drew = w4 := ⟨_, rfl⟩
            rw [hw4] at HS4 HK4 n1 n2 n3 hc3 ⊢
            clear hw4 HS3 HK3
            go_region_held3 (fun w' => w'.cell? ⟨Q, 1, none⟩ = some (.slice (some ⟨nb, no, none⟩) n nc) ∧ w'.cell? ⟨g3, i, none⟩ = some (.int .i64 (x : Nat)) ∧ w'.cell? ⟨nb, no + x, none⟩ = some (.slice (some ⟨ub, uo, none⟩) rl uc) ∧ w'.cell? ⟨ub, uo + q, none⟩ = some (.int .i64 (y : Nat))) (exact ⟨n1, hc3, n2, n3⟩) (fail)
            all_goals go_upto_region 13 with fail
            have HS5 : Hid (SeenS w4.drew SB SB n (.slice (some ⟨g3, 0, none⟩) l3 c3) sn3 L3) := HS4.out.kept (Kept.refl [] w4).drew
            have HK5 : Hid (Kept [] w w4.drew) := HK4.out.drew
            obtain ⟨w5, hw5⟩ : ∃ w5, w4.drew = w5 := ⟨_, rfl⟩
            rw [hw5] at HS5 HK5 ⊢
            obtain ⟨s1, s2⟩ := HS5.out.cell hyn
            have p7 : (0 : Int) ≤ (y : Int) := by omega
            have p8 : (y : Int) < (n : Int) := by omega
            clear hw5 HS4 HK4 n1 n2 n3 hc3
            by_cases hyL : y ∈ L3
            · rw [decide_eq_true hyL] at s1
              have HQ5 : Hid (∀ f : Nat, (f : Int) ∈ row.take (q + 1) → f ∈ L3) := HYT.out L3 (fun f hf => hf) hyL
              go_wp2
              go_roundw
              case rel => exact ⟨q + 1, L3, sn3, by go_num, by omega, HS5, HX3, HM3, HQ5, HK5⟩
              case measure => simp [intOf]; omega
            · rw [decide_eq_false hyL] at s1
              obtain ⟨gr, cap, w6, hrun, hS6, hk6⟩ := HS5.out.push hyn hyL
              rw [HL3.out] at hrun hS6
              have HRUN : Hid (∀ ty, (Builtin.append_ #[83, 83] ty #[.slice (some ⟨g3, 0, none⟩) l3 c3, .slice (some ⟨w5.heap.size, 0, none⟩) 1 1]).run Try.prog ((w5.setCell ⟨SB, y, none⟩ (.bool true)).alloc (.cells #[.int .i64 (y : Nat)] 3)) = .ok (.slice (some ⟨gr, 0, none⟩) (l3 + 1) cap) w6) := hrun
              have HS6 : Hid (SeenS w6 SB SB n (.slice (some ⟨gr, 0, none⟩) (l3 + 1) cap) (sn3.set y true) (L3 ++ [y])) := hS6
              have HK6 : Hid (Kept [] w w6) := hk6 w HK5.out (Nat.le_of_eq HSBV.out)
              have HX6 : Hid ((L3 ++ [y])[i]? = some x) := by show _ = _; rw [List.getElem?_append_left (by have := HIN.out; have := HL3.out; omega)]; exact HX3.out
              have HM6 : Hid (Met next out s i (L3 ++ [y])) := HM3.out.push HX3.out HYX.out
              have HQ6 : Hid (∀ f : Nat, (f : Int) ∈ row.take (q + 1) → f ∈ L3 ++ [y]) := HYT.out (L3 ++ [y]) (fun f hf => List.mem_append_left _ hf) (List.mem_append_right _ (by simp))
              clear hrun hS6 hk6
              go_wp2_with (at_builtin; refine Lib.wpList_append_run _ rfl _ _ _ _ rfl _ _ rfl rfl _ _ (HRUN.out _) ?_)
              go_roundw
              case rel => exact ⟨q + 1, L3 ++ [y], _, by go_num, by omega, HS6, HX6, HM6, HQ6, HK6⟩
              case measure => simp [intOf]; omega
          · obtain rfl : q = rl := by omega
            have p5 : ¬ ((q : Int) < (q : Int)) := by omega
            have HNX : Hid (Met next out s (i + 1) L3) := HM3.out.next HX3.out HAB.out (by rw [HRK.out]; have := HQ3.out; rwa [List.take_of_length_le (Nat.le_of_eq HRL.out)] at this)
            have HSd3 : Hid (SeenS w3.drew SB SB n (.slice (some ⟨g3, 0, none⟩) l3 c3) sn3 L3) := HS3.out.kept (Kept.refl [] w3).drew
            go_wp2_with fail
            go_region_held3 (fun w' => w'.cell? ⟨Q, 1, none⟩ = some (.slice (some ⟨nb, no, none⟩) n nc) ∧ w'.cell? ⟨g3, i, none⟩ = some (.int .i64 (x : Nat)) ∧ w'.cell? ⟨nb, no + x, none⟩ = some (.slice (some ⟨ub, uo, none⟩) q uc)) (exact ⟨n1, hc3, n2⟩) (fail)
            all_goals go_wp2
            exact ⟨⟨i + 1, L3, sn3, by go_num, by rw [HL3.out]; exact HIN.out, HSd3, HNX, HK3.out.drew⟩, by have := HMS.out; simp [intOf]; omega⟩
      · have hne : ((a : Int) != (b : Int)) = true := by simp; omega
        have HNF : Hid (NotFin next out s) := notFin_of_reach (HM.out.from_ x (List.mem_of_getElem? hx?)) (by rw [ha, hb]; exact hab)
        clear hx? hx ha hb hcells hlnn
        go_wp2_with fail
        go_region_held3 (fun w' => w'.cell? ⟨Q, 2, none⟩ = some (.slice (some ⟨ob, oo, none⟩) n oc) ∧ w'.cell? ⟨g, i, none⟩ = some (.int .i64 (x : Nat)) ∧ w'.cell? ⟨ob, oo + x, none⟩ = some (.int .u8 (a : Nat)) ∧ w'.cell? ⟨ob, oo + s, none⟩ = some (.int .u8 (b : Nat)) ∧ w'.cell? ⟨Q, 3, none⟩ = some (.int .i64 (s : Nat))) (exact ⟨m2, hc, o1, o2, m0⟩) (fail)
        all_goals go_wp2
        go_ret
        have hff : fb = false := by
          cases hq : fb with
          | false => rfl
          | true => exact absurd HNF.out (HFB.out.1 hq)
        exact ⟨by rw [hff]; rfl, HKw.out.drew⟩
    · obtain rfl : i = ln := by omega
      have p1 : ¬ ((i : Int) < (i : Int)) := by omega
      have HND : Hid (¬ NotFin next out s) := (by have := HM.out; rw [← hlnn] at this; exact this : Met next out s L.length L).done HRR.out (by rw [HLN.out.1]; exact hsn)
      go_wp2
      go_ret
      have hff : fb = true := HFB.out.2 HND.out
      exact ⟨by rw [hff]; rfl, keptB HKV.out HK.out⟩
end Go.Proofs.Ytbbfajbnklgncaa
