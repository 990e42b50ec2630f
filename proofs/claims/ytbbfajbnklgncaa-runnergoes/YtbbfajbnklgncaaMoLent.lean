/- Machines that are lent: LentMoore, WholeMoore. -/
import Derived.Test.YtbbfajbnklgncaaHH
import Derived.Test.YtbbfajbnklgncaaHG
import Derived.Test.YtbbfajbnklgncaaHF
import Derived.Laws.ResultCell
namespace Go.Proofs.Ytbbfajbnklgncaa
open Go.RowKit Go.Shelf

theorem Vds.src {W : World} {v : Value} {xs : List Nat} (h : Vds W v xs) : Src 1 W v xs.length (cellsV xs) := by
  refine ⟨by simp [cellsV], cellsV_one xs, ?_⟩
  rcases h.lie with ⟨rfl, rfl⟩ | ⟨b, o, c, h1, h2, h3, h4⟩
  · exact .inl ⟨rfl, rfl⟩
  · refine .inr ⟨⟨b, o, none⟩, c, h1, h2, h3, fun _ => rfl, fun hz => by rw [List.length_eq_zero_iff.1 hz]; rfl, fun j u hu => ?_⟩
    have hj : j < xs.length := by have := (List.getElem?_eq_some_iff.1 hu).1; simpa [cellsV] using this
    rw [cellsV_at hj] at hu
    rw [addr_add, h4 j hj, ← hu, List.getD_eq_getElem?_getD, List.getElem?_eq_getElem hj]
    rfl
theorem LentG.vds {W : World} {b : Nat} {xs : List Nat} (h : LentG 60 1 W b xs.length (cellsV xs) marksV) (hf : xs.length ≤ 70368744177664) (hs : ∀ x ∈ xs, x < 256) : Vds W (.slice (some ⟨b, 0, none⟩) xs.length (xs.length + 2)) xs := by
  have q := h.src (cellsV_one xs)
  refine ⟨by omega, hs, .inr ⟨b, 0, _, rfl, by omega, by unfold maxLen; omega, fun i hi => ?_⟩⟩
  have := q.cellsAt i _ (cellsV_at hi)
  rw [addr_add] at this
  rw [this, List.getD_eq_getElem?_getD, List.getElem?_eq_getElem hi]
  rfl
/-- A machine that is lent. -/
structure MooL (W : World) (n b1 b2 b3 m : Nat) (bs : List Nat) (ps : List ByteArray) (next : List (List Int)) (live : List Nat) : Prop where
  ps : LentG 9 1 W b1 ps.length (cellsT ps) marksT
  nx : ∃ w0, RowsL w0 W b2 m bs next
  lv : LentG 60 1 W b3 live.length (cellsV live) marksV
  up : n ≤ b1 ∧ b1 < b2 ∧ b2 < b3
  lt : ∀ x ∈ bs, x < b3
theorem mooL_of {V Wa Wb Wc : World} {b1 b2 b3 m : Nat} {bs : List Nat} {ps : List ByteArray} {next : List (List Int)} {live : List Nat} (h1 : LentG 9 1 Wa b1 ps.length (cellsT ps) marksT ∧ V.heap.size ≤ b1) (h2 : RowsL Wa Wb b2 m bs next ∧ Kept [] Wa Wb) (h3 : (LentG 60 1 Wc b3 live.length (cellsV live) marksV ∧ Wb.heap.size ≤ b3) ∧ Kept [] Wb Wc) : MooL Wc V.heap.size b1 b2 b3 m bs ps next live := by
  have z1 := lt_of h1.1.row
  have z2 := lt_of h2.1.row
  have z3 := h2.1.lo
  refine ⟨(h1.1.kept h2.2).kept h3.2, ⟨_, h2.1.kept h3.2⟩, h3.1.1, ⟨h1.2, by omega, by omega⟩, fun x hx => ?_⟩
  obtain ⟨i, hi, rfl⟩ := List.getElem_of_mem hx
  have := lt_of (h2.1.rs.each i (by rw [← h2.1.rs.len]; exact hi) hi).row
  omega
theorem MooL.keptF {F : List Nat} {W W' : World} {n b1 b2 b3 m : Nat} {bs : List Nat} {ps : List ByteArray} {next : List (List Int)} {live : List Nat} (h : MooL W n b1 b2 b3 m bs ps next live) (k : Kept F W W') (hF : ∀ x ∈ F, x < n) (hm : m ∉ F) : MooL W' n b1 b2 b3 m bs ps next live := by
  obtain ⟨u1, u2, u3⟩ := h.up
  have hn : ∀ b, n ≤ b → b ∉ F := fun b hb hx => by have := hF b hx; omega
  obtain ⟨w0, hr⟩ := h.nx
  exact ⟨h.ps.keptF k (hn _ (by omega)), ⟨w0, k.at hr.row (hn _ (by omega)), hr.rs.keptF k (fun x hx => hn x (by have := hr.nb x hx; omega)), k.at hr.mrk hm, hr.nb, hr.nd, hr.lo⟩, h.lv.keptF k (hn _ (by omega)), h.up, h.lt⟩
theorem mooL_set {V W : World} {n b1 b2 b3 m : Nat} {bs : List Nat} {ps : List ByteArray} {next : List (List Int)} {live : List Nat} (h : MooL W V.heap.size b1 b2 b3 m bs ps next live) (hm : m ≠ n + 1) (hV : V.heap.size = n + 1 + 1) (a b c : Value) : MooL (setThr W (n + 1) a b c) n b1 b2 b3 m bs ps next live := by
  have q := h.keptF (kept_thr (B := n + 1) a b c) (fun x hx => by simp at hx; omega) (by simp; exact hm)
  exact ⟨q.ps, q.nx, q.lv, ⟨by have := q.up.1; omega, q.up.2⟩, q.lt⟩
theorem ret_mooL {fn : Func} {p : Tmp} {a : Act} {w : World} {g : Nat} {x1 x2 x3 : Value} {R : Ending → World → Prop} (h : fn.results = #[.cell p 26]) (hp : a.tmps.getD p undef = .pointer (some ⟨g, 0, none⟩)) (hd : a.defers = []) (hg : w.heap[g]? = some (.cells #[x1, x2, x3] 26 (0, 0))) (hR : R (.returned (.agg #[x1, x2, x3])) w) : bodyPost Try.prog fn R .ret a w :=
  bodyPost_ret (results_cell_row h _ w g 26 #[x1, x2, x3] _ _ hp hg Try.underlying26 rfl (by kernel_rfl)) hd hR
def MooEnd (w : World) (ps : List ByteArray) (next : List (List Int)) (live : List Nat) (e : Ending) (w' : World) : Prop := ∃ b1 b2 b3 m bs, e = .returned (.agg #[.slice (some ⟨b1, 0, none⟩) ps.length (ps.length + 2), .slice (some ⟨b2, 0, none⟩) next.length (next.length + 1), .slice (some ⟨b3, 0, none⟩) live.length (live.length + 2)]) ∧ MooL w' w.heap.size b1 b2 b3 m bs ps next live ∧ Kept [] w w'
theorem MooL.mark_ne {W : World} {n b1 b2 b3 m B : Nat} {bs : List Nat} {ps : List ByteArray} {next : List (List Int)} {live : List Nat} {a b c : Value} (h : MooL W n b1 b2 b3 m bs ps next live) (hT : Thr 26 W B a b c) : m ≠ B := by
  rintro rfl
  obtain ⟨w0, hr⟩ := h.nx
  have e := hr.mrk.symm.trans hT
  simp at e
set_option maxHeartbeats 3200000 in
set_option maxRecDepth 10000 in
theorem lentMoore_any (pv nv lv : Value) (ps : List ByteArray) (next : List (List Int)) (live : List Nat) (w : World) (hp : Strs w pv ps) (hn : Rowss w nv next) (hl : Vds w lv live) (hf : ps.length ≤ 8796093022208 ∧ next.length ≤ 100000000 ∧ (∀ xs ∈ next, xs.length ≤ 100000000) ∧ live.length ≤ 17592186044416) :
    Calls Try.prog 8 #[.agg #[pv, nv, lv]] w (MooEnd w ps next live) := by
  obtain ⟨V, hV⟩ : ∃ V, (w.alloc (.cells #[pv, nv, lv] 26)).alloc (.cells #[.slice none 0 0, .slice none 0 0, .slice none 0 0] 26) = V := ⟨_, rfl⟩
  have kV : Kept [] w V := by rw [← hV]; exact ((Kept.refl [] w).alloc _).alloc _
  have hB : Thr 26 V w.heap.size pv nv lv := by rw [← hV]; exact alUp (al0 _ _) _
  have hR : Thr 26 V (w.heap.size + 1) (.slice none 0 0) (.slice none 0 0) (.slice none 0 0) := by rw [← hV]; exact al1 _ _ _
  have hvz : V.heap.size = w.heap.size + 1 + 1 := by rw [← hV, World.size_alloc, World.size_alloc]
  have HL1 : Hid (∀ W, Kept [] V W → Calls Try.prog 25 #[pv] W fun e w' => ∃ b, e = .returned (.slice (some ⟨b, 0, none⟩) ps.length (ps.length + 2)) ∧ LentG 9 1 w' b ps.length (cellsT ps) marksT ∧ W.heap.size ≤ b ∧ Kept [] W w') := fun W k => lentTexts_any pv ps.length _ W ((hp.kept kV).kept k).srcD (by omega)
  have HL2 : Hid (∀ W, Kept [] V W → Calls Try.prog 26 #[nv] W (RowsEnd W next)) := fun W k => lentRows_any nv next W ((hn.kept kV).kept k) (by omega) hf.2.2.1
  have HL3 : Hid (∀ W, Kept [] V W → Calls Try.prog 27 #[lv] W fun e w' => ∃ b, e = .returned (.slice (some ⟨b, 0, none⟩) live.length (live.length + 2)) ∧ LentG 60 1 w' b live.length (cellsV live) marksV ∧ W.heap.size ≤ b ∧ Kept [] W w') := fun W k => lentVerdicts_any lv live.length _ W ((hl.kept kV).kept k).src (by omega)
  have HS : Hid (∀ W, Kept [w.heap.size + 1] V W → W.cell? ⟨w.heap.size, 0, none⟩ = some pv ∧ W.cell? ⟨w.heap.size, 1, none⟩ = some nv ∧ W.cell? ⟨w.heap.size, 2, none⟩ = some lv) := fun W k => (hB.keptF k (by simp)).cells
  have HKV : Hid (Kept [] w V) := kV
  have HR : Hid (∀ W, Kept [] V W → Thr 26 W (w.heap.size + 1) (.slice none 0 0) (.slice none 0 0) (.slice none 0 0)) := fun W k => hR.keptF k (by simp)
  have HVZ : Hid (V.heap.size = w.heap.size + 1 + 1) := hvz
  obtain ⟨pad, pc, rfl, _, _⟩ := hp.form
  obtain ⟨nad, nc, rfl, _, _⟩ := hn.form13
  obtain ⟨lad, lc, rfl⟩ := hl.form
  have HVV : Hid (_ = V) := hV
  obtain ⟨f0, f1, f2⟩ := HS.out V (Kept.refl _ V)
  have HKc : Hid (Kept [] V V) := Kept.refl [] V
  clear hp hn hl kV hB hR hvz hV hf
  go_enter Try.func8, Try.ntmps8
  go_upto_region 1 with fail
  rw [HVV.out]
  clear HVV
  go_region_held3 (fun w' => w'.cell? ⟨w.heap.size, 0, none⟩ = some (.slice pad ps.length pc) ∧ w'.cell? ⟨w.heap.size, 1, none⟩ = some (.slice nad next.length nc) ∧ w'.cell? ⟨w.heap.size, 2, none⟩ = some (.slice lad live.length lc))
    ((refine HS.out _ ?_; (repeat (first | exact (kept_moreD HKc.out) | exact (kept_moreD HKc.out.drew) | refine Kept.setCell ?_ (.inl (by simp)) _))))
    (first
      | (go_at_call 25; refine (HL1.out _ (by first | exact HKc.out | exact HKc.out.drew)).mono ?_; rintro e Wa ⟨b1, rfl, hl1, hb1, ka⟩; have HA1 : Hid (LentG 9 1 Wa b1 ps.length (cellsT ps) marksT ∧ V.heap.size ≤ b1) := ⟨hl1, Nat.le_trans HKc.out.size hb1⟩; have HKn : Hid (Kept [] V Wa) := (by first | exact HKc.out.trans ka (by simp) (by simp) | exact HKc.out.drew.trans ka (by simp) (by simp)); clear HKc ka hl1 hb1; have HKc : Hid (Kept [] V Wa) := HKn.out; clear HKn)
      | (go_at_call 26; refine Calls.mono (HL2.out _ HKc.out) ?_; rintro e Wb ⟨b2, m, bs, rfl, hl2, kb⟩; have HA2 : Hid (RowsL Wa Wb b2 m bs next ∧ Kept [] Wa Wb) := ⟨hl2, kb⟩; have HKn : Hid (Kept [] V Wb) := HKc.out.trans kb (by simp) (by simp); clear HKc kb hl2; have HKc : Hid (Kept [] V Wb) := HKn.out; clear HKn)
      | (go_at_call 27; refine (HL3.out _ HKc.out).mono ?_; rintro e Wd ⟨b3, rfl, hl4, hb4, kd⟩; have HA4 : Hid ((LentG 60 1 Wd b3 live.length (cellsV live) marksV ∧ Wb.heap.size ≤ b3) ∧ Kept [] Wb Wd) := ⟨⟨hl4, hb4⟩, kd⟩; have HKn : Hid (Kept [] V Wd) := HKc.out.trans kd (by simp) (by simp); obtain ⟨r0, r1, r2⟩ := (HR.out Wd HKn.out).cells; obtain ⟨s0, s1, s2⟩ := (HR.out Wd HKn.out).free; have HRd : Hid (Thr 26 Wd (w.heap.size + 1) (.slice none 0 0) (.slice none 0 0) (.slice none 0 0)) := HR.out Wd HKn.out; clear HKc kd hl4 hb4; have HKc : Hid (Kept [] V Wd) := HKn.out; clear HKn))
  all_goals go_wp2
  all_goals exact ret_mooL rfl rfl rfl (HRd.out.set _ _ _) ⟨b1, b2, b3, m, bs, rfl, mooL_set (mooL_of HA1.out HA2.out HA4.out) ((mooL_of HA1.out HA2.out HA4.out).mark_ne HRd.out) HVZ.out _ _ _, kept_set3 (HKV.out.trans HKc.out (by simp) (by simp)) (by omega) _ _ _⟩
set_option maxHeartbeats 1600000 in
theorem wholeMoore_any (b1 b2 b3 m : Nat) (bs : List Nat) (pv nv lv : Value) (ps : List ByteArray) (next : List (List Int)) (live : List Nat) (n : Nat) (w : World) (h : MooL w n b1 b2 b3 m bs ps next live) (hp : Strs w pv ps) (hn : Rowss w nv next) (hl : Vds w lv live) (hf : next.length ≤ 100000000) :
    Calls Try.prog 10 #[.agg #[.slice (some ⟨b1, 0, none⟩) ps.length (ps.length + 2), .slice (some ⟨b2, 0, none⟩) next.length (next.length + 1), .slice (some ⟨b3, 0, none⟩) live.length (live.length + 2)], .agg #[pv, nv, lv]] w fun e w' => e = .returned (.bool true) ∧ Kept [] w w' := by
  obtain ⟨V, hV⟩ : ∃ V, (w.alloc (.cells #[.slice (some ⟨b1, 0, none⟩) ps.length (ps.length + 2), .slice (some ⟨b2, 0, none⟩) next.length (next.length + 1), .slice (some ⟨b3, 0, none⟩) live.length (live.length + 2)] 26)).alloc (.cells #[pv, nv, lv] 26) = V := ⟨_, rfl⟩
  have kV : Kept [] w V := by rw [← hV]; exact ((Kept.refl [] w).alloc _).alloc _
  have hA : Thr 26 V w.heap.size (.slice (some ⟨b1, 0, none⟩) ps.length (ps.length + 2)) (.slice (some ⟨b2, 0, none⟩) next.length (next.length + 1)) (.slice (some ⟨b3, 0, none⟩) live.length (live.length + 2)) := by rw [← hV]; exact alUp (al0 _ _) _
  have hB : Thr 26 V (w.heap.size + 1) pv nv lv := by rw [← hV]; exact al1 _ _ _
  obtain ⟨w0, hr⟩ := h.nx
  have HW1 : Hid (∀ W, Kept [] V W → Calls Try.prog 30 #[.slice (some ⟨b1, 0, none⟩) ps.length (ps.length + 2), pv] W fun e w' => e = .returned (.bool true) ∧ Kept [] W w') := fun W k => wholeTexts_any b1 pv ps W ((h.ps.kept kV).kept k) ((hp.kept kV).kept k).srcD
  have HW2 : Hid (∀ W, Kept [] V W → Calls Try.prog 31 #[.slice (some ⟨b2, 0, none⟩) next.length (next.length + 1), nv] W fun e w' => e = .returned (.bool true) ∧ Kept [] W w') := fun W k => wholeRows_any b2 m bs nv next w0 W ((hr.kept kV).kept k) ((hn.kept kV).kept k) hf
  have HW3 : Hid (∀ W, Kept [] V W → Calls Try.prog 32 #[.slice (some ⟨b3, 0, none⟩) live.length (live.length + 2), lv] W fun e w' => e = .returned (.bool true) ∧ Kept [] W w') := fun W k => wholeVerdicts_any b3 lv live W ((h.lv.kept kV).kept k) ((hl.kept kV).kept k).src
  have HS : Hid (∀ W, Kept [] V W → (W.cell? ⟨w.heap.size, 0, none⟩ = some (.slice (some ⟨b1, 0, none⟩) ps.length (ps.length + 2)) ∧ W.cell? ⟨w.heap.size, 1, none⟩ = some (.slice (some ⟨b2, 0, none⟩) next.length (next.length + 1)) ∧ W.cell? ⟨w.heap.size, 2, none⟩ = some (.slice (some ⟨b3, 0, none⟩) live.length (live.length + 2))) ∧ W.cell? ⟨w.heap.size + 1, 0, none⟩ = some pv ∧ W.cell? ⟨w.heap.size + 1, 1, none⟩ = some nv ∧ W.cell? ⟨w.heap.size + 1, 2, none⟩ = some lv) := fun W k => ⟨(hA.keptF k (by simp)).cells, (hB.keptF k (by simp)).cells⟩
  have HKV : Hid (Kept [] w V) := kV
  obtain ⟨pad, pc, rfl, _, _⟩ := hp.form
  obtain ⟨nad, nc, rfl, _, _⟩ := hn.form13
  obtain ⟨lad, lc, rfl⟩ := hl.form
  have HVV : Hid (_ = V) := hV
  obtain ⟨⟨f0, f1, f2⟩, g0, g1, g2⟩ := HS.out V (Kept.refl [] V)
  clear h hr hp hn hl kV hA hB hV hf
  go_enter Try.func10, Try.ntmps10
  go_upto_region 1 with fail
  rw [HVV.out]
  clear HVV
  go_wp2_with (first
    | (go_at_call 30; refine (HW1.out V (Kept.refl [] V)).mono ?_; rintro e Wa ⟨rfl, ka⟩; have HKa : Hid (Kept [] V Wa) := ka; clear f0 f1 f2 g0 g1 g2 ka; obtain ⟨⟨f0, f1, f2⟩, g0, g1, g2⟩ := HS.out Wa HKa.out)
    | (go_at_call 31; refine (HW2.out Wa HKa.out).mono ?_; rintro e Wb ⟨rfl, kb⟩; have HKb : Hid (Kept [] V Wb) := HKa.out.trans kb (by simp) (by simp); clear f0 f1 f2 g0 g1 g2 kb; obtain ⟨⟨f0, f1, f2⟩, g0, g1, g2⟩ := HS.out Wb HKb.out)
    | (go_at_call 32; refine (HW3.out Wb HKb.out).mono ?_; rintro e Wd ⟨rfl, kd⟩; have HKd : Hid (Kept [] V Wd) := HKb.out.trans kd (by simp) (by simp); clear f0 f1 f2 g0 g1 g2 kd))
  go_ret
  exact ⟨rfl, HKV.out.trans HKd.out (by simp) (by simp)⟩
end Go.Proofs.Ytbbfajbnklgncaa
