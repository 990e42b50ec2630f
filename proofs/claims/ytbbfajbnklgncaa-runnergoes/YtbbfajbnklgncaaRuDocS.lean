/- The document's runner (augurref17): Step. -/
import Derived.Test.YtbbfajbnklgncaaRuDoc
namespace Go.Proofs.Ytbbfajbnklgncaa
open Go.RowKit Go.Shelf Go.Maps

theorem shl_facts (p l q : Nat) (hp : p ≤ 8) (hq : 2 ^ p = q) : IntKind.i64.wrap ((2 : Int) ^ p) = (q : Int) ∧ wrap64 ((2 : Int) ^ p) = (q : Int) ∧ (q : Int) ≠ 0 ∧ ((l : Int).tmod (q : Int)) = ((l % q : Nat) : Int) ∧ q ≤ 256 ∧ 0 < q := by
  have h1 : 2 ^ p ≤ 256 := Nat.pow_le_pow_right (n := 2) (i := p) (j := 8) (by omega) hp
  have h0 : 0 < 2 ^ p := Nat.two_pow_pos p
  have e : ((2 : Int) ^ p) = (q : Int) := by rw [← hq]; norm_cast
  rw [hq] at h0 h1
  clear hq
  refine ⟨?_, ?_, by omega, rfl, h1, h0⟩
  · rw [e, IntKind.wrap_i64]; omega
  · rw [e]; unfold wrap64; omega
theorem wrap_l64 (l : Nat) (h : l < 65536) : IntKind.i64.wrap (l : Int) = (l : Int) := by rw [IntKind.wrap_i64]; omega
theorem offQ {w : World} {Q i : Nat} {x y z t v : Value} {T : TypeId} {fz : Nat × Nat} (hb : w.heap[Q]? = some (.cells #[x, y, z, t] T fz)) (hc : w.cell? ⟨Q, i, none⟩ = some v) (u : Value) : (w.setCell ⟨Q, i, none⟩ u).cell? ⟨Q, i, none⟩ = some u := by
  rw [cell_of hb] at hc
  have hi : i < 4 := by
    have := (Array.getElem?_eq_some_iff.1 hc).1
    simpa using this
  rw [cell_of (bx_set hb u)]
  simp [hi]
theorem rowss_off {w : World} {Q nb no nc s : Nat} {x y z t : Value} {T : TypeId} {fz : Nat × Nat} {next : List (List Int)} (hb : w.heap[Q]? = some (.cells #[x, y, z, t] T fz)) (h2 : ∀ W', Kept [Q] w W' → Rowss W' (.slice (some ⟨nb, no, none⟩) next.length nc) next) (hs : s < next.length) (hr : 0 < (next[s]'hs).length) : nb ≠ Q := by
  rintro rfl
  rcases (h2 w (Kept.refl _ w)).lie with ⟨he, _⟩ | ⟨b, o, c, he, _, _, hc⟩
  · cases he
  · cases he
    obtain ⟨u, hu, _⟩ := hc s hs
    have h9 := offQ hb hu (.int .i64 0)
    rcases (h2 _ ((Kept.refl [nb] w).setCell (p := ⟨nb, no + s, none⟩) (.inl (by simp)) (.int .i64 0))).lie with ⟨he, _⟩ | ⟨b, o, c, he, _, _, hc⟩
    · cases he
    · cases he
      obtain ⟨u', hu', hI⟩ := hc s hs
      rw [h9] at hu'
      cases hu'
      obtain ⟨b, o, c, e, _⟩ := hI.there hr
      cases e
theorem ints_off {w : World} {Q nb no nc s ub uo uc : Nat} {x y z t : Value} {T : TypeId} {fz : Nat × Nat} {next : List (List Int)} (hb : w.heap[Q]? = some (.cells #[x, y, z, t] T fz)) (h2 : ∀ W', Kept [Q] w W' → Rowss W' (.slice (some ⟨nb, no, none⟩) next.length nc) next) (hs : s < next.length) (hr : 0 < (next[s]'hs).length) (hu : w.cell? ⟨nb, no + s, none⟩ = some (.slice (some ⟨ub, uo, none⟩) (next[s]'hs).length uc)) {j : Nat} (hj : j < (next[s]'hs).length) : ub ≠ Q := by
  have hnq := rowss_off hb h2 hs hr
  have hI : ∀ W', Kept [Q] w W' → W'.cell? ⟨ub, uo + j, none⟩ = some (.int .i64 ((next[s]'hs)[j]'hj)) := fun W' k => by
    rcases (h2 W' k).lie with ⟨he, _⟩ | ⟨b, o, c, he, _, _, hc⟩
    · cases he
    · cases he
      obtain ⟨u', hu', hI⟩ := hc s hs
      rw [cell_keptN k (by simpa using hnq) hu] at hu'
      cases hu'
      obtain ⟨b, o, c, e, _, _, h3⟩ := hI.there hr
      cases e
      exact h3 j hj
  rintro rfl
  have h9 := offQ hb (hI w (Kept.refl _ w)) (.bool true)
  rw [hI _ ((Kept.refl [ub] w).setCell (p := ⟨ub, uo + j, none⟩) (.inl (by simp)) (.bool true))] at h9
  cases h9
set_option maxHeartbeats 4000000 in
set_option maxRecDepth 10000 in
theorem refStep_any (Wb : World) (Q s l : Nat) (ps : List ByteArray) (next : List (List Int)) (out : List Nat) (w : World) (h : DocS Wb w Q ps next out s) (hm : MachR ps next out) (hl : l < 65536) :
    Calls Try.prog 17 #[.pointer (some ⟨Q, 0, none⟩), .int .u16 (l : Nat)] w fun e w' => e = .returned (.int .u8 (out.getD (stepN ps next s l) 0 : Nat)) ∧ Hid (DocS Wb w' Q ps next out (stepN ps next s l)) ∧ Hid (Kept [Q] w w') := by
  obtain ⟨pv, nv, ov, h1, h2⟩ := h.ex
  obtain ⟨hps, hnx, hov⟩ := h2 w h.kept
  obtain ⟨hv, hvl⟩ := stepN_is hm h.lt l
  obtain ⟨q, hq⟩ : ∃ q, 2 ^ ps.length = q := ⟨_, rfl⟩
  have hsf := shl_facts ps.length l q hm.few hq
  have h8 := hm.few
  have hnf := hm.rows.few
  obtain ⟨pa, pc, rfl, _, _⟩ := hps.form
  have hlt := h.lt
  obtain ⟨row, hrow⟩ : ∃ row, next.getD s [] = row := ⟨_, rfl⟩
  have hr? : next[s]'hlt = row := by rw [← hrow, List.getD_eq_getElem?_getD, List.getElem?_eq_getElem hlt]; rfl
  have hrl : row.length = q := by rw [← hr?, hm.each _ (List.getElem_mem hlt), hq]
  rcases hnx.lie with ⟨_, he⟩ | ⟨nb, no, nc, rfl, _, _, hce⟩
  · rw [he] at hlt; simp at hlt
  obtain ⟨u, hu, hI⟩ := hce s hlt
  rw [hr?] at hI
  obtain ⟨s', hs'⟩ : ∃ s', stepN ps next s l = s' := ⟨_, rfl⟩
  rw [hs', hrow, hq] at hv
  rw [hs'] at hvl ⊢
  have hri : l % q < row.length := by rw [hrl]; exact Nat.mod_lt _ (by omega)
  obtain ⟨ub, uo, uc, rfl, hu1, hu2, hu3⟩ := hI.there (by omega)
  have hel : w.cell? ⟨ub, uo + l % q, none⟩ = some (.int .i64 (s' : Nat)) := by
    rw [hu3 _ hri, ← hv, List.getD_eq_getElem?_getD, List.getElem?_eq_getElem hri]; rfl
  have hol : s' < out.length := by rw [hm.len]; exact hvl
  rcases hov.lie with ⟨_, he⟩ | ⟨ob, oo, oc, rfl, _, _, hoc⟩
  · rw [he] at hol; simp at hol
  have hoe := hoc s' hol
  obtain ⟨v, hvv⟩ : ∃ v, out.getD s' 0 = v := ⟨_, rfl⟩
  have hoe2 : w.cell? ⟨ob, oo + s', none⟩ = some (.int .u8 (v : Nat)) := by
    rw [hoe, ← hvv]
  rw [hvv]
  have h2q : ∀ W', Kept [Q] w W' → Rowss W' (.slice (some ⟨nb, no, none⟩) next.length nc) next := fun W' k => (h2 W' (h.kept.trans k (fun _ q => q) (by simp))).2.1
  have hpos : 0 < (next[s]'hlt).length := by rw [hr?]; omega
  have hnq : nb ≠ Q := rowss_off h1 h2q hlt hpos
  have huq : ub ≠ Q := ints_off h1 h2q hlt hpos (by rw [hr?]; exact hu) (j := l % q) (by rw [hr?]; exact hri)
  have HN : Hid (∀ W', Kept [Q] w W' → W'.cell? ⟨nb, no + s, none⟩ = some (.slice (some ⟨ub, uo, none⟩) row.length uc) ∧ W'.cell? ⟨ub, uo + l % q, none⟩ = some (.int .i64 (s' : Nat)) ∧ W'.cell? ⟨ob, oo + s', none⟩ = some (.int .u8 (v : Nat))) := fun W' k => by
    refine ⟨cell_keptN k (by simpa using hnq) hu, cell_keptN k (by simpa using huq) hel, ?_⟩
    rcases (h2 W' (h.kept.trans k (fun _ q => q) (by simp))).2.2.lie with ⟨he, _⟩ | ⟨b, o, c, he, _, _, hc⟩
    · cases he
    · cases he
      rw [hc s' hol, hvv]
  have HB : Hid (w.drew.heap[Q]? = some (.cells #[.slice pa ps.length pc, .slice (some ⟨nb, no, none⟩) next.length nc, .slice (some ⟨ob, oo, none⟩) out.length oc, .int .i64 (s : Nat)] 51 (0, 0))) := h1
  obtain ⟨W2, hW2⟩ : ∃ W2, w.drew.setCell ⟨Q, 3, none⟩ (.int .i64 (s' : Nat)) = W2 := ⟨_, rfl⟩
  have HK2 : Hid (Kept [Q] w W2) := by show Kept [Q] w W2; rw [← hW2]; exact (Kept.mono ((Kept.refl [] w).drew) (by simp)).setCell (.inl (by simp)) _
  have HB2 : Hid (W2.heap[Q]? = some (.cells #[.slice pa ps.length pc, .slice (some ⟨nb, no, none⟩) next.length nc, .slice (some ⟨ob, oo, none⟩) out.length oc, .int .i64 (s' : Nat)] 51 (0, 0))) := by
    show W2.heap[Q]? = _
    rw [← hW2, bx_set HB.out]; rfl
  have HD2 : Hid (DocS Wb W2 Q ps next out s') := ⟨⟨_, _, _, HB2.out, h2⟩, h.kept.trans HK2.out (fun _ q => q) (by simp), hvl⟩
  have HKd : Hid (Kept [Q] w w.drew) := Kept.mono ((Kept.refl [] w).drew) (by simp)
  obtain ⟨p, hp⟩ : ∃ p, ps.length = p := ⟨_, rfl⟩
  rw [hp] at hsf h8
  obtain ⟨e1, e2, e3, e4, hq1, hq0⟩ := hsf
  obtain ⟨n, hn⟩ : ∃ n, next.length = n := ⟨_, rfl⟩
  obtain ⟨on, hon⟩ : ∃ n, out.length = n := ⟨_, rfl⟩
  rw [hn] at hlt hnf
  rw [hon] at hol
  rw [hp, hn, hon] at HB HB2
  obtain ⟨rl, hrl2⟩ : ∃ n, row.length = n := ⟨_, rfl⟩
  rw [hrl2] at hri HN
  obtain ⟨r, hr⟩ : ∃ r, l % q = r := ⟨_, rfl⟩
  rw [hr] at hri HN e4
  have c0 : w.drew.cell? ⟨Q, 0, none⟩ = some (.slice pa p pc) := (cell_of HB.out 0).trans rfl
  have c1 : w.drew.cell? ⟨Q, 1, none⟩ = some (.slice (some ⟨nb, no, none⟩) n nc) := (cell_of HB.out 1).trans rfl
  have c2 : w.drew.cell? ⟨Q, 3, none⟩ = some (.int .i64 (s : Nat)) := (cell_of HB.out 3).trans rfl
  have c3 : w.drew.frozen? ⟨Q, 3, none⟩ = false := free_of HB.out 3
  have d0 : W2.cell? ⟨Q, 0, none⟩ = some (.slice pa p pc) := (cell_of HB2.out 0).trans rfl
  have d1 : W2.cell? ⟨Q, 1, none⟩ = some (.slice (some ⟨nb, no, none⟩) n nc) := (cell_of HB2.out 1).trans rfl
  have d2 : W2.cell? ⟨Q, 2, none⟩ = some (.slice (some ⟨ob, oo, none⟩) on oc) := (cell_of HB2.out 2).trans rfl
  have d3 : W2.cell? ⟨Q, 3, none⟩ = some (.int .i64 (s' : Nat)) := (cell_of HB2.out 3).trans rfl
  obtain ⟨f0, f1, _⟩ := HN.out w.drew HKd.out
  obtain ⟨g0, g1, g2⟩ := HN.out W2 HK2.out
  have z0 : (0 : Int) ≤ (s : Int) := by omega
  have z1 : (s : Int) < (n : Int) := by omega
  have z2 : (0 : Int) ≤ (r : Int) := by omega
  have z3 : (r : Int) < (rl : Int) := by omega
  have z4 : (0 : Int) ≤ (p : Int) := by omega
  have z5 : (0 : Int) ≤ (s' : Int) := by omega
  have z6 : (s' : Int) < (on : Int) := by omega
  have HW2 : Hid (w.drew.setCell ⟨Q, 3, none⟩ (.int .i64 (s' : Nat)) = W2) := hW2
  have HDR : Hid (Kept [] W2 W2.drew) := (Kept.refl [] W2).drew
  clear h hm h1 h2 h2q hps hnx hov hv hvl hq hr? hrl hI hs' hu1 hu2 hu3 hel hce hoc hoe hvv hoe2 hpos hnq huq hp hn hon hrl2 hr hW2 hrow hu
  go_enter Try.func17, Try.ntmps17
  go_upto_region 1 with fail
  refine wp_regionHp (fun Y => Y.cell? ⟨Q, 0, none⟩ = some (.slice pa p pc) ∧ Y.cell? ⟨Q, 1, none⟩ = some (.slice (some ⟨nb, no, none⟩) n nc) ∧ Y.cell? ⟨nb, no + s, none⟩ = some (.slice (some ⟨ub, uo, none⟩) rl uc) ∧ Y.cell? ⟨ub, uo + r, none⟩ = some (.int .i64 (s' : Nat))) (by kernel_rfl) ?_
  refine heldTakeHp 0 (some 5) (.pointer (some ⟨Q, 0, none⟩)) rfl rfl rfl (by kernel_rfl) (by kernel_rfl) (by kernel_rfl) (fun Y hY => ?_) ⟨c0, c1, f0, f1⟩ ?_
  · obtain ⟨y0, y1, y2, y3⟩ := hY
    go_simp
  simp only [Act.put, List.setIfInBounds_toArray, List.set_cons_zero, List.set_cons_succ]
  refine heldTakeHp 1 (some 6) (.pointer (some ⟨Q, 0, none⟩)) rfl rfl rfl (by kernel_rfl) (by kernel_rfl) (by kernel_rfl) (fun Y hY => ?_) ⟨c0, c1, f0, f1⟩ ?_
  · obtain ⟨y0, y1, y2, y3⟩ := hY
    go_simp
  simp only [Act.put, List.setIfInBounds_toArray, List.set_cons_zero, List.set_cons_succ]
  refine heldTakeHp 2 (some 7) (.pointer (some ⟨Q, 0, none⟩)) rfl rfl rfl (by kernel_rfl) (by kernel_rfl) (by kernel_rfl) (fun Y hY => ?_) ⟨c0, c1, f0, f1⟩ ?_
  · obtain ⟨y0, y1, y2, y3⟩ := hY
    go_simp
  simp only [Act.put, List.setIfInBounds_toArray, List.set_cons_zero, List.set_cons_succ]
  refine heldTakeHp 3 (some 8) (.pointer (some ⟨Q, 0, none⟩)) rfl rfl rfl (by kernel_rfl) (by kernel_rfl) (by kernel_rfl) (fun Y hY => ?_) ⟨c0, c1, f0, f1⟩ ?_
  · obtain ⟨y0, y1, y2, y3⟩ := hY
    go_simp
  simp only [Act.put, List.setIfInBounds_toArray, List.set_cons_zero, List.set_cons_succ]
  refine heldTakeHp 4 (some 9) (.pointer (some ⟨Q, 1, none⟩)) rfl rfl rfl (by kernel_rfl) (by kernel_rfl) (by kernel_rfl) (fun Y hY => ?_) ⟨c0, c1, f0, f1⟩ ?_
  · obtain ⟨y0, y1, y2, y3⟩ := hY
    go_simp
  simp only [Act.put, List.setIfInBounds_toArray, List.set_cons_zero, List.set_cons_succ]
  refine heldTakeHp 5 (some 10) (.slice (some ⟨nb, no, none⟩) n nc) rfl rfl rfl (by kernel_rfl) (by kernel_rfl) (by kernel_rfl) (fun Y hY => ?_) ⟨c0, c1, f0, f1⟩ ?_
  · obtain ⟨y0, y1, y2, y3⟩ := hY
    go_simp
  simp only [Act.put, List.setIfInBounds_toArray, List.set_cons_zero, List.set_cons_succ]
  refine heldTakeHp 6 (some 11) (.pointer (some ⟨Q, 0, none⟩)) rfl rfl rfl (by kernel_rfl) (by kernel_rfl) (by kernel_rfl) (fun Y hY => ?_) ⟨c0, c1, f0, f1⟩ ?_
  · obtain ⟨y0, y1, y2, y3⟩ := hY
    go_simp
  simp only [Act.put, List.setIfInBounds_toArray, List.set_cons_zero, List.set_cons_succ]
  refine heldTakeHp 7 (some 12) (.pointer (some ⟨Q, 0, none⟩)) rfl rfl rfl (by kernel_rfl) (by kernel_rfl) (by kernel_rfl) (fun Y hY => ?_) ⟨c0, c1, f0, f1⟩ ?_
  · obtain ⟨y0, y1, y2, y3⟩ := hY
    go_simp
  simp only [Act.put, List.setIfInBounds_toArray, List.set_cons_zero, List.set_cons_succ]
  refine heldTakeHp 8 (some 13) (.pointer (some ⟨Q, 3, none⟩)) rfl rfl rfl (by kernel_rfl) (by kernel_rfl) (by kernel_rfl) (fun Y hY => ?_) ⟨c0, c1, f0, f1⟩ ?_
  · obtain ⟨y0, y1, y2, y3⟩ := hY
    go_simp
  simp only [Act.put, List.setIfInBounds_toArray, List.set_cons_zero, List.set_cons_succ]
  refine heldTakeHp 12 (some 17) (.int .u16 (l : Nat)) rfl rfl rfl (by kernel_rfl) (by kernel_rfl) (by kernel_rfl) (fun Y hY => ?_) ⟨c0, c1, f0, f1⟩ ?_
  · obtain ⟨y0, y1, y2, y3⟩ := hY
    go_simp
  simp only [Act.put, List.setIfInBounds_toArray, List.set_cons_zero, List.set_cons_succ]
  refine heldTakeHp 13 (some 18) (.int .i64 (l : Nat)) rfl rfl rfl (by kernel_rfl) (by kernel_rfl) (by kernel_rfl) (fun Y hY => ?_) ⟨c0, c1, f0, f1⟩ ?_
  · obtain ⟨y0, y1, y2, y3⟩ := hY
    go_simp
    exact wrap_l64 l hl
  simp only [Act.put, List.setIfInBounds_toArray, List.set_cons_zero, List.set_cons_succ]
  refine heldTakeHp 14 (some 19) (.pointer (some ⟨Q, 0, none⟩)) rfl rfl rfl (by kernel_rfl) (by kernel_rfl) (by kernel_rfl) (fun Y hY => ?_) ⟨c0, c1, f0, f1⟩ ?_
  · obtain ⟨y0, y1, y2, y3⟩ := hY
    go_simp
  simp only [Act.put, List.setIfInBounds_toArray, List.set_cons_zero, List.set_cons_succ]
  refine heldTakeHp 15 (some 20) (.pointer (some ⟨Q, 0, none⟩)) rfl rfl rfl (by kernel_rfl) (by kernel_rfl) (by kernel_rfl) (fun Y hY => ?_) ⟨c0, c1, f0, f1⟩ ?_
  · obtain ⟨y0, y1, y2, y3⟩ := hY
    go_simp
  simp only [Act.put, List.setIfInBounds_toArray, List.set_cons_zero, List.set_cons_succ]
  refine heldTakeHp 16 (some 21) (.pointer (some ⟨Q, 0, none⟩)) rfl rfl rfl (by kernel_rfl) (by kernel_rfl) (by kernel_rfl) (fun Y hY => ?_) ⟨c0, c1, f0, f1⟩ ?_
  · obtain ⟨y0, y1, y2, y3⟩ := hY
    go_simp
  simp only [Act.put, List.setIfInBounds_toArray, List.set_cons_zero, List.set_cons_succ]
  refine heldTakeHp 17 (some 22) (.pointer (some ⟨Q, 0, none⟩)) rfl rfl rfl (by kernel_rfl) (by kernel_rfl) (by kernel_rfl) (fun Y hY => ?_) ⟨c0, c1, f0, f1⟩ ?_
  · obtain ⟨y0, y1, y2, y3⟩ := hY
    go_simp
  simp only [Act.put, List.setIfInBounds_toArray, List.set_cons_zero, List.set_cons_succ]
  refine heldTakeHp 18 (some 23) (.slice pa p pc) rfl rfl rfl (by kernel_rfl) (by kernel_rfl) (by kernel_rfl) (fun Y hY => ?_) ⟨c0, c1, f0, f1⟩ ?_
  · obtain ⟨y0, y1, y2, y3⟩ := hY
    go_simp
  simp only [Act.put, List.setIfInBounds_toArray, List.set_cons_zero, List.set_cons_succ]
  refine heldTakeHp 19 (some 24) (.int .i64 (p : Nat)) rfl rfl rfl (by kernel_rfl) (by kernel_rfl) (by kernel_rfl) (fun Y hY => ?_) ⟨c0, c1, f0, f1⟩ ?_
  · obtain ⟨y0, y1, y2, y3⟩ := hY
    go_simp
  simp only [Act.put, List.setIfInBounds_toArray, List.set_cons_zero, List.set_cons_succ]
  refine heldTakeHp 20 (some 25) (.int .i64 (q : Nat)) rfl rfl rfl (by kernel_rfl) (by kernel_rfl) (by kernel_rfl) (fun Y hY => ?_) ⟨c0, c1, f0, f1⟩ ?_
  · obtain ⟨y0, y1, y2, y3⟩ := hY
    go_simp
  simp only [Act.put, List.setIfInBounds_toArray, List.set_cons_zero, List.set_cons_succ]
  refine heldTakeHp 21 (some 26) (.int .i64 (r : Nat)) rfl rfl rfl (by kernel_rfl) (by kernel_rfl) (by kernel_rfl) (fun Y hY => ?_) ⟨c0, c1, f0, f1⟩ ?_
  · obtain ⟨y0, y1, y2, y3⟩ := hY
    have hq9 : ¬ q = 0 := Nat.ne_of_gt hq0
    go_simp
  simp only [Act.put, List.setIfInBounds_toArray, List.set_cons_zero, List.set_cons_succ]
  refine heldOneHp 9 (by kernel_rfl) ?_
  refine opValueHp (some 14) (.int .i64 (s : Nat)) w.drew rfl rfl rfl ?_ ⟨⟨c0, c1, f0, f1⟩, ?_⟩
  · have y0 := c2
    go_simp
  simp only [Act.put, List.setIfInBounds_toArray, List.set_cons_zero, List.set_cons_succ]
  refine heldTakeHp 10 (some 15) (.pointer (some ⟨nb, no + s, none⟩)) rfl rfl rfl (by kernel_rfl) (by kernel_rfl) (by kernel_rfl) (fun Y hY => ?_) ⟨c0, c1, f0, f1⟩ ?_
  · obtain ⟨y0, y1, y2, y3⟩ := hY
    go_simp
  simp only [Act.put, List.setIfInBounds_toArray, List.set_cons_zero, List.set_cons_succ]
  refine heldTakeHp 11 (some 16) (.slice (some ⟨ub, uo, none⟩) rl uc) rfl rfl rfl (by kernel_rfl) (by kernel_rfl) (by kernel_rfl) (fun Y hY => ?_) ⟨c0, c1, f0, f1⟩ ?_
  · obtain ⟨y0, y1, y2, y3⟩ := hY
    go_simp
  simp only [Act.put, List.setIfInBounds_toArray, List.set_cons_zero, List.set_cons_succ]
  refine heldTakeHp 22 (some 27) (.pointer (some ⟨ub, uo + r, none⟩)) rfl rfl rfl (by kernel_rfl) (by kernel_rfl) (by kernel_rfl) (fun Y hY => ?_) ⟨c0, c1, f0, f1⟩ ?_
  · obtain ⟨y0, y1, y2, y3⟩ := hY
    go_simp
  simp only [Act.put, List.setIfInBounds_toArray, List.set_cons_zero, List.set_cons_succ]
  refine heldTakeHp 23 (some 28) (.int .i64 (s' : Nat)) rfl rfl rfl (by kernel_rfl) (by kernel_rfl) (by kernel_rfl) (fun Y hY => ?_) ⟨c0, c1, f0, f1⟩ ?_
  · obtain ⟨y0, y1, y2, y3⟩ := hY
    go_simp
  simp only [Act.put, List.setIfInBounds_toArray, List.set_cons_zero, List.set_cons_succ]
  refine heldTakeHp 24 (some 29) (.pointer (some ⟨Q, 0, none⟩)) rfl rfl rfl (by kernel_rfl) (by kernel_rfl) (by kernel_rfl) (fun Y hY => ?_) ⟨c0, c1, f0, f1⟩ ?_
  · obtain ⟨y0, y1, y2, y3⟩ := hY
    go_simp
  simp only [Act.put, List.setIfInBounds_toArray, List.set_cons_zero, List.set_cons_succ]
  refine heldTakeHp 25 (some 30) (.pointer (some ⟨Q, 3, none⟩)) rfl rfl rfl (by kernel_rfl) (by kernel_rfl) (by kernel_rfl) (fun Y hY => ?_) ⟨c0, c1, f0, f1⟩ ?_
  · obtain ⟨y0, y1, y2, y3⟩ := hY
    go_simp
  simp only [Act.put, List.setIfInBounds_toArray, List.set_cons_zero, List.set_cons_succ]
  refine heldOneHp 26 (by kernel_rfl) ?_
  refine opSkipHp W2 rfl rfl rfl ?_ ⟨⟨d0, d1, g0, g1⟩, ?_⟩
  · have y0 := c2
    have y1 := c3
    rw [← HW2.out]
    go_simp
  refine wpAnyH_done (by kernel_rfl) ?_ _
  simp only [Q1Hp]
  clear c0 c1 c2 c3 f0 f1
  go_wp2_with fail
  go_region
  all_goals go_wp2
  go_ret
  exact ⟨rfl, HD2.out.more HDR.out, HK2.out.drew⟩
end Go.Proofs.Ytbbfajbnklgncaa
