/- Automata that are lent: LentBuchi, WholeBuchi. -/
import Derived.Test.YtkkhilgcjaigcaaDoorBuLentG
import Derived.Deep.RegionHeld3
namespace Go.Proofs.YtkkhilgcjaigcaaDoor
open Go.RowKit Go.Shelf


/-- An automaton that is lent. -/
structure BucL (W : World) (n b1 b2 b3 b4 : Nat) (g : Gen) (fin : List Int) : Prop where
  ps : LentG 9 1 W b1 g.ps.length (cellsT g.ps) marksT
  ini : LentG 3 1 W b2 g.ini.length (cellsI g.ini) marksI
  es : LentG 52 4 W b3 g.es.length (cellsE g.es) marksE
  fin : LentG 3 1 W b4 fin.length (cellsI fin) marksI
  up : n ≤ b1 ∧ b1 < b2 ∧ b2 < b3 ∧ b3 < b4
theorem bucL_of {V Wa Wb Wc Wd : World} {b1 b2 b3 b4 : Nat} {g : Gen} {fin : List Int} (h1 : LentG 9 1 Wa b1 g.ps.length (cellsT g.ps) marksT ∧ V.heap.size ≤ b1) (h2 : LentG 3 1 Wb b2 g.ini.length (cellsI g.ini) marksI ∧ Wa.heap.size ≤ b2 ∧ Kept [] Wa Wb) (h3 : LentG 52 4 Wc b3 g.es.length (cellsE g.es) marksE ∧ Wb.heap.size ≤ b3 ∧ Kept [] Wb Wc) (h4 : LentG 3 1 Wd b4 fin.length (cellsI fin) marksI ∧ Wc.heap.size ≤ b4 ∧ Kept [] Wc Wd) : BucL Wd V.heap.size b1 b2 b3 b4 g fin := by
  have z1 := lt_of h1.1.row
  have z2 := lt_of h2.1.row
  have z3 := lt_of h3.1.row
  exact ⟨((h1.1.kept h2.2.2).kept h3.2.2).kept h4.2.2, (h2.1.kept h3.2.2).kept h4.2.2, h3.1.kept h4.2.2, h4.1, h1.2, by omega, by omega, by omega⟩
theorem BucL.keptF {F : List Nat} {W W' : World} {n b1 b2 b3 b4 : Nat} {g : Gen} {fin : List Int} (h : BucL W n b1 b2 b3 b4 g fin) (k : Kept F W W') (hF : ∀ x ∈ F, x < n) : BucL W' n b1 b2 b3 b4 g fin := by
  obtain ⟨u1, u2, u3, u4⟩ := h.up
  have hn : ∀ b, n ≤ b → b ∉ F := fun b hb hx => by have := hF b hx; omega
  exact ⟨h.ps.keptF k (hn _ (by omega)), h.ini.keptF k (hn _ (by omega)), h.es.keptF k (hn _ (by omega)), h.fin.keptF k (hn _ (by omega)), h.up⟩
theorem bucL_set {V W : World} {n b1 b2 b3 b4 : Nat} {g : Gen} {fin : List Int} (h : BucL W V.heap.size b1 b2 b3 b4 g fin) (hV : V.heap.size = n + 1 + 1) (a b c d e : Value) : BucL (setFive W (n + 1) a b c d e) n b1 b2 b3 b4 g fin := by
  have q := h.keptF (kept_five (B := n + 1) a b c d e) (fun x hx => by simp at hx; omega)
  exact ⟨q.ps, q.ini, q.es, q.fin, by have := q.up.1; omega, q.up.2⟩
theorem ret_buc {fn : Func} {p : Tmp} {a : Act} {w : World} {g : Nat} {x1 x2 x3 x4 x5 : Value} {R : Ending → World → Prop} (h : fn.results = #[.cell p 26]) (hp : a.tmps.getD p undef = .pointer (some ⟨g, 0, none⟩)) (hd : a.defers = []) (hg : w.heap[g]? = some (.cells #[x1, x2, x3, x4, x5] 26 (0, 0))) (hR : R (.returned (.agg #[x1, x2, x3, x4, x5])) w) : bodyPost Tryd.prog fn R .ret a w :=
  bodyPost_ret (results_cell_row h _ w g 26 #[x1, x2, x3, x4, x5] _ _ hp hg Tryd.underlying26 rfl (by kernel_rfl)) hd hR

def BucEnd (w : World) (g : Gen) (fin : List Int) (e : Ending) (w' : World) : Prop := ∃ b1 b2 b3 b4, e = .returned (.agg #[.slice (some ⟨b1, 0, none⟩) g.ps.length (g.ps.length + 2), .int .i64 g.st, .slice (some ⟨b2, 0, none⟩) g.ini.length (g.ini.length + 2), .slice (some ⟨b3, 0, none⟩) g.es.length (g.es.length + 2), .slice (some ⟨b4, 0, none⟩) fin.length (fin.length + 2)]) ∧ BucL w' w.heap.size b1 b2 b3 b4 g fin ∧ Kept [] w w'
set_option maxHeartbeats 3200000 in
set_option maxRecDepth 10000 in
theorem lentBuchi_any (pv iv ev sv : Value) (g : Gen) (fin : List Int) (w : World) (h : IsB w pv iv ev sv g fin) (hf : g.ps.length ≤ 8796093022208 ∧ g.ini.length ≤ 17592186044416 ∧ g.es.length ≤ 100000000 ∧ fin.length ≤ 17592186044416) :
    Calls Tryd.prog 8 #[.agg #[pv, .int .i64 g.st, iv, ev, sv]] w (BucEnd w g fin) := by
  obtain ⟨V, hV⟩ : ∃ V, (w.alloc (.cells #[pv, .int .i64 g.st, iv, ev, sv] 26)).alloc (.cells #[.slice none 0 0, .int .i64 0, .slice none 0 0, .slice none 0 0, .slice none 0 0] 26) = V := ⟨_, rfl⟩
  have kV : Kept [] w V := by rw [← hV]; exact ((Kept.refl [] w).alloc _).alloc _
  have hB : Five 26 V w.heap.size pv (.int .i64 g.st) iv ev sv := by rw [← hV]; exact alUp (al0 _ _) _
  have hR : Five 26 V (w.heap.size + 1) (.slice none 0 0) (.int .i64 0) (.slice none 0 0) (.slice none 0 0) (.slice none 0 0) := by rw [← hV]; exact al1 _ _ _
  have hvz : V.heap.size = w.heap.size + 1 + 1 := by rw [← hV, World.size_alloc, World.size_alloc]
  have HL1 : Hid (∀ W, Kept [] V W → Calls Tryd.prog 21 #[pv] W fun e w' => ∃ b, e = .returned (.slice (some ⟨b, 0, none⟩) g.ps.length (g.ps.length + 2)) ∧ LentG 9 1 w' b g.ps.length (cellsT g.ps) marksT ∧ W.heap.size ≤ b ∧ Kept [] W w') := fun W k => lentTexts_any pv g.ps.length _ W ((h.ps.kept kV).kept k).src (by omega)
  have HL2 : Hid (∀ W, Kept [] V W → Calls Tryd.prog 22 #[iv] W fun e w' => ∃ b, e = .returned (.slice (some ⟨b, 0, none⟩) g.ini.length (g.ini.length + 2)) ∧ LentG 3 1 w' b g.ini.length (cellsI g.ini) marksI ∧ W.heap.size ≤ b ∧ Kept [] W w') := fun W k => lentInts_any iv g.ini.length _ W ((h.ini.kept kV).kept k).src (by omega)
  have HL3 : Hid (∀ W, Kept [] V W → Calls Tryd.prog 23 #[ev] W fun e w' => ∃ b, e = .returned (.slice (some ⟨b, 0, none⟩) g.es.length (g.es.length + 2)) ∧ LentG 52 4 w' b g.es.length (cellsE g.es) marksE ∧ W.heap.size ≤ b ∧ Kept [] W w') := fun W k => lentEdges_any ev g.es.length _ W ((h.es.kept kV).kept k).src (by omega)
  have HL4 : Hid (∀ W, Kept [] V W → Calls Tryd.prog 22 #[sv] W fun e w' => ∃ b, e = .returned (.slice (some ⟨b, 0, none⟩) fin.length (fin.length + 2)) ∧ LentG 3 1 w' b fin.length (cellsI fin) marksI ∧ W.heap.size ≤ b ∧ Kept [] W w') := fun W k => lentInts_any sv fin.length _ W ((h.fin.kept kV).kept k).src (by omega)
  have HS : Hid (∀ W, Kept [w.heap.size + 1] V W → W.cell? ⟨w.heap.size, 0, none⟩ = some pv ∧ W.cell? ⟨w.heap.size, 1, none⟩ = some (.int .i64 g.st) ∧ W.cell? ⟨w.heap.size, 2, none⟩ = some iv ∧ W.cell? ⟨w.heap.size, 3, none⟩ = some ev ∧ W.cell? ⟨w.heap.size, 4, none⟩ = some sv) := fun W k => (hB.keptF k (by simp)).cells
  have HKV : Hid (Kept [] w V) := kV
  have HR : Hid (∀ W, Kept [] V W → Five 26 W (w.heap.size + 1) (.slice none 0 0) (.int .i64 0) (.slice none 0 0) (.slice none 0 0) (.slice none 0 0)) := fun W k => hR.keptF k (by simp)
  have HVZ : Hid (V.heap.size = w.heap.size + 1 + 1) := hvz
  obtain ⟨pad, pc, rfl, _, _⟩ := h.ps.form
  obtain ⟨iad, ic, rfl, _, _⟩ := h.ini.form
  obtain ⟨ead, ec, rfl, _, _⟩ := h.es.form
  obtain ⟨sad, sc, rfl, _, _⟩ := h.fin.form
  have HVV : Hid (_ = V) := hV
  obtain ⟨f0, f1, f2, f3, f4⟩ := HS.out V (Kept.refl _ V)
  have T1 : Hid True := trivial
  have HKc : Hid (Kept [] V V) := Kept.refl [] V
  clear h kV hB hR hvz hV hf
  go_enter Tryd.func8, Tryd.ntmps8
  go_upto_region 1 with fail
  rw [HVV.out]
  clear HVV
  go_region_held3 (fun w' => w'.cell? ⟨w.heap.size, 0, none⟩ = some (.slice pad g.ps.length pc) ∧ w'.cell? ⟨w.heap.size, 1, none⟩ = some (.int .i64 g.st) ∧ w'.cell? ⟨w.heap.size, 2, none⟩ = some (.slice iad g.ini.length ic) ∧ w'.cell? ⟨w.heap.size, 3, none⟩ = some (.slice ead g.es.length ec) ∧ w'.cell? ⟨w.heap.size, 4, none⟩ = some (.slice sad fin.length sc))
    ((refine HS.out _ ?_; (repeat (first | exact (kept_moreG HKc.out) | exact (kept_moreG HKc.out.drew) | refine Kept.setCell ?_ (.inl (by simp)) _))))
    (first
      | (go_at_call 21; refine (HL1.out _ (by first | exact HKc.out | exact HKc.out.drew)).mono ?_; rintro e Wa ⟨b1, rfl, hl1, hb1, ka⟩; have HA1 : Hid (LentG 9 1 Wa b1 g.ps.length (cellsT g.ps) marksT ∧ V.heap.size ≤ b1) := ⟨hl1, Nat.le_trans HKc.out.size hb1⟩; have HKn : Hid (Kept [] V Wa) := (by first | exact HKc.out.trans ka (by simp) (by simp) | exact HKc.out.drew.trans ka (by simp) (by simp)); clear HKc ka hl1 hb1; have HKc : Hid (Kept [] V Wa) := HKn.out; clear HKn)
      | (clear T1; go_at_call 22; refine (HL2.out _ HKc.out).mono ?_; rintro e Wb ⟨b2, rfl, hl2, hb2, kb⟩; have HA2 : Hid (LentG 3 1 Wb b2 g.ini.length (cellsI g.ini) marksI ∧ Wa.heap.size ≤ b2 ∧ Kept [] Wa Wb) := ⟨hl2, hb2, kb⟩; have HKn : Hid (Kept [] V Wb) := HKc.out.trans kb (by simp) (by simp); clear HKc kb hl2 hb2; have HKc : Hid (Kept [] V Wb) := HKn.out; clear HKn)
      | (go_at_call 23; refine (HL3.out _ HKc.out).mono ?_; rintro e Wc ⟨b3, rfl, hl3, hb3, kc⟩; have HA3 : Hid (LentG 52 4 Wc b3 g.es.length (cellsE g.es) marksE ∧ Wb.heap.size ≤ b3 ∧ Kept [] Wb Wc) := ⟨hl3, hb3, kc⟩; have HKn : Hid (Kept [] V Wc) := HKc.out.trans kc (by simp) (by simp); clear HKc kc hl3 hb3; have HKc : Hid (Kept [] V Wc) := HKn.out; clear HKn)
      | (go_at_call 22; refine (HL4.out _ HKc.out).mono ?_; rintro e Wd ⟨b4, rfl, hl4, hb4, kd⟩; have HA4 : Hid ((LentG 3 1 Wd b4 fin.length (cellsI fin) marksI ∧ Wc.heap.size ≤ b4) ∧ Kept [] Wc Wd) := ⟨⟨hl4, hb4⟩, kd⟩; have HKn : Hid (Kept [] V Wd) := HKc.out.trans kd (by simp) (by simp); obtain ⟨r0, r1, r2, r3, r4⟩ := (HR.out Wd HKn.out).cells; obtain ⟨s0, s1, s2, s3, s4⟩ := (HR.out Wd HKn.out).free; have HRd : Hid (Five 26 Wd (w.heap.size + 1) (.slice none 0 0) (.int .i64 0) (.slice none 0 0) (.slice none 0 0) (.slice none 0 0)) := HR.out Wd HKn.out; clear HKc kd hl4 hb4; have HKc : Hid (Kept [] V Wd) := HKn.out; clear HKn))
  all_goals go_wp2
  all_goals exact ret_buc rfl rfl rfl (HRd.out.set _ _ _ _ _) ⟨b1, b2, b3, b4, rfl, bucL_set (bucL_of HA1.out HA2.out HA3.out ⟨HA4.out.1.1, HA4.out.1.2, HA4.out.2⟩) HVZ.out _ _ _ _ _, kept_set5 (HKV.out.trans HKc.out (by simp) (by simp)) (by omega) _ _ _ _ _⟩
set_option maxHeartbeats 1600000 in
theorem wholeBuchi_any (b1 b2 b3 b4 : Nat) (pv iv ev sv : Value) (g : Gen) (fin : List Int) (n : Nat) (w : World) (h : BucL w n b1 b2 b3 b4 g fin) (hg : IsB w pv iv ev sv g fin) :
    Calls Tryd.prog 10 #[.agg #[.slice (some ⟨b1, 0, none⟩) g.ps.length (g.ps.length + 2), .int .i64 g.st, .slice (some ⟨b2, 0, none⟩) g.ini.length (g.ini.length + 2), .slice (some ⟨b3, 0, none⟩) g.es.length (g.es.length + 2), .slice (some ⟨b4, 0, none⟩) fin.length (fin.length + 2)], .agg #[pv, .int .i64 g.st, iv, ev, sv]] w fun e w' => e = .returned (.bool true) ∧ Kept [] w w' := by
  obtain ⟨V, hV⟩ : ∃ V, (w.alloc (.cells #[.slice (some ⟨b1, 0, none⟩) g.ps.length (g.ps.length + 2), .int .i64 g.st, .slice (some ⟨b2, 0, none⟩) g.ini.length (g.ini.length + 2), .slice (some ⟨b3, 0, none⟩) g.es.length (g.es.length + 2), .slice (some ⟨b4, 0, none⟩) fin.length (fin.length + 2)] 26)).alloc (.cells #[pv, .int .i64 g.st, iv, ev, sv] 26) = V := ⟨_, rfl⟩
  have kV : Kept [] w V := by rw [← hV]; exact ((Kept.refl [] w).alloc _).alloc _
  have hA : Five 26 V w.heap.size (.slice (some ⟨b1, 0, none⟩) g.ps.length (g.ps.length + 2)) (.int .i64 g.st) (.slice (some ⟨b2, 0, none⟩) g.ini.length (g.ini.length + 2)) (.slice (some ⟨b3, 0, none⟩) g.es.length (g.es.length + 2)) (.slice (some ⟨b4, 0, none⟩) fin.length (fin.length + 2)) := by rw [← hV]; exact alUp (al0 _ _) _
  have hB : Five 26 V (w.heap.size + 1) pv (.int .i64 g.st) iv ev sv := by rw [← hV]; exact al1 _ _ _
  have HW1 : Hid (∀ W, Kept [] V W → Calls Tryd.prog 27 #[.slice (some ⟨b1, 0, none⟩) g.ps.length (g.ps.length + 2), pv] W fun e w' => e = .returned (.bool true) ∧ Kept [] W w') := fun W k => wholeTexts_any b1 pv g.ps W ((h.ps.kept kV).kept k) ((hg.ps.kept kV).kept k).src
  have HW2 : Hid (∀ W, Kept [] V W → Calls Tryd.prog 28 #[.slice (some ⟨b2, 0, none⟩) g.ini.length (g.ini.length + 2), iv] W fun e w' => e = .returned (.bool true) ∧ Kept [] W w') := fun W k => wholeInts_any b2 iv g.ini W ((h.ini.kept kV).kept k) ((hg.ini.kept kV).kept k).src
  have HW3 : Hid (∀ W, Kept [] V W → Calls Tryd.prog 29 #[.slice (some ⟨b3, 0, none⟩) g.es.length (g.es.length + 2), ev] W fun e w' => e = .returned (.bool true) ∧ Kept [] W w') := fun W k => wholeEdges_any b3 ev g.es W ((h.es.kept kV).kept k) ((hg.es.kept kV).kept k).src
  have HW4 : Hid (∀ W, Kept [] V W → Calls Tryd.prog 28 #[.slice (some ⟨b4, 0, none⟩) fin.length (fin.length + 2), sv] W fun e w' => e = .returned (.bool true) ∧ Kept [] W w') := fun W k => wholeInts_any b4 sv fin W ((h.fin.kept kV).kept k) ((hg.fin.kept kV).kept k).src
  have HS : Hid (∀ W, Kept [] V W → (W.cell? ⟨w.heap.size, 0, none⟩ = some (.slice (some ⟨b1, 0, none⟩) g.ps.length (g.ps.length + 2)) ∧ W.cell? ⟨w.heap.size, 1, none⟩ = some (.int .i64 g.st) ∧ W.cell? ⟨w.heap.size, 2, none⟩ = some (.slice (some ⟨b2, 0, none⟩) g.ini.length (g.ini.length + 2)) ∧ W.cell? ⟨w.heap.size, 3, none⟩ = some (.slice (some ⟨b3, 0, none⟩) g.es.length (g.es.length + 2)) ∧ W.cell? ⟨w.heap.size, 4, none⟩ = some (.slice (some ⟨b4, 0, none⟩) fin.length (fin.length + 2))) ∧ W.cell? ⟨w.heap.size + 1, 0, none⟩ = some pv ∧ W.cell? ⟨w.heap.size + 1, 1, none⟩ = some (.int .i64 g.st) ∧ W.cell? ⟨w.heap.size + 1, 2, none⟩ = some iv ∧ W.cell? ⟨w.heap.size + 1, 3, none⟩ = some ev ∧ W.cell? ⟨w.heap.size + 1, 4, none⟩ = some sv) := fun W k => ⟨(hA.keptF k (by simp)).cells, (hB.keptF k (by simp)).cells⟩
  have HKV : Hid (Kept [] w V) := kV
  obtain ⟨pad, pc, rfl, _, _⟩ := hg.ps.form
  obtain ⟨iad, ic, rfl, _, _⟩ := hg.ini.form
  obtain ⟨ead, ec, rfl, _, _⟩ := hg.es.form
  obtain ⟨sad, sc, rfl, _, _⟩ := hg.fin.form
  have HVV : Hid (_ = V) := hV
  have T1 : Hid True := trivial
  obtain ⟨⟨f0, f1, f2, f3, f4⟩, g0, g1, g2, g3, g4⟩ := HS.out V (Kept.refl [] V)
  clear h hg kV hA hB hV
  go_enter Tryd.func10, Tryd.ntmps10
  go_upto_region 1 with fail
  rw [HVV.out]
  clear HVV
  go_wp2_with (first
    | (go_at_call 27; refine (HW1.out V (Kept.refl [] V)).mono ?_; rintro e Wa ⟨rfl, ka⟩; have HKa : Hid (Kept [] V Wa) := ka; clear f0 f1 f2 f3 f4 g0 g1 g2 g3 g4 ka; obtain ⟨⟨f0, f1, f2, f3, f4⟩, g0, g1, g2, g3, g4⟩ := HS.out Wa HKa.out)
    | (clear T1; go_at_call 28; refine (HW2.out Wa HKa.out).mono ?_; rintro e Wb ⟨rfl, kb⟩; have HKb : Hid (Kept [] V Wb) := HKa.out.trans kb (by simp) (by simp); clear f0 f1 f2 f3 f4 g0 g1 g2 g3 g4 kb; obtain ⟨⟨f0, f1, f2, f3, f4⟩, g0, g1, g2, g3, g4⟩ := HS.out Wb HKb.out)
    | (go_at_call 29; refine (HW3.out Wb HKb.out).mono ?_; rintro e Wc ⟨rfl, kc⟩; have HKc : Hid (Kept [] V Wc) := HKb.out.trans kc (by simp) (by simp); clear f0 f1 f2 f3 f4 g0 g1 g2 g3 g4 kc; obtain ⟨⟨f0, f1, f2, f3, f4⟩, g0, g1, g2, g3, g4⟩ := HS.out Wc HKc.out)
    | (go_at_call 28; refine (HW4.out Wc HKc.out).mono ?_; rintro e Wd ⟨rfl, kd⟩; have HKd : Hid (Kept [] V Wd) := HKc.out.trans kd (by simp) (by simp); clear f0 f1 f2 f3 f4 g0 g1 g2 g3 g4 kd))
  go_ret
  exact ⟨rfl, HKV.out.trans HKd.out (by simp) (by simp)⟩
end Go.Proofs.YtkkhilgcjaigcaaDoor

/- Automata that are written over: SpoilGeneral. -/
namespace Go.Proofs.YtkkhilgcjaigcaaDoor
open Go.RowKit Go.Shelf

theorem LentG.ne_one {e e' : TypeId} {s : Nat} {W : World} {b m n : Nat} {cs ms : List Value} {v : Value} (h : LentG e s W b n cs ms) (hs : 0 < s) (hm : W.heap[m]? = some (.cells #[v] e' (0, 0))) : m ≠ b := by
  rintro rfl
  have q := h.row
  rw [hm] at q
  injection q with q
  injection q with q _ _
  have hz : (#[v] : Array Value).size = (cs ++ ms).toArray.size := by rw [q]
  simp [h.len, h.mlen] at hz
  omega
def spoilTB : ByteArray := ⟨#[115, 112, 111, 105, 108, 116]⟩
theorem strs_spoilt {W : World} {b n : Nat} (h : W.heap[b]? = some (.cells (List.replicate (n + 2) spoilT).toArray 9 (0, 0))) (hn : n ≤ 8796093022208) : Strs W (.slice (some ⟨b, 0, none⟩) n (n + 2)) (List.replicate n spoilTB) := by
  refine ⟨by rw [List.length_replicate]; omega, fun x hx => by rw [(List.mem_replicate.1 hx).2]; decide, .inr ⟨b, 0, n + 2, by rw [List.length_replicate], by rw [List.length_replicate]; omega, by unfold maxLen; omega, fun i hi => ?_⟩⟩
  rw [List.length_replicate] at hi
  rw [Nat.zero_add, cell_of h i, List.getElem_replicate]
  simp only [List.getElem?_toArray]
  rw [List.getElem?_replicate, if_pos (by omega)]
  rfl
theorem ints_spoilt {W : World} {b n : Nat} (h : W.heap[b]? = some (.cells (List.replicate (n + 2) spoilI).toArray 3 (0, 0))) (hn : n ≤ 17592186044416) : Ints W (.slice (some ⟨b, 0, none⟩) n (n + 2)) (List.replicate n (-5)) := by
  refine ⟨by rw [List.length_replicate]; omega, fun x hx => by rw [(List.mem_replicate.1 hx).2]; decide, .inr ⟨b, 0, n + 2, by rw [List.length_replicate], by rw [List.length_replicate]; omega, by unfold maxLen; omega, fun i hi => ?_⟩⟩
  rw [List.length_replicate] at hi
  rw [Nat.zero_add, cell_of h i, List.getElem_replicate]
  simp only [List.getElem?_toArray]
  rw [List.getElem?_replicate, if_pos (by omega)]
  rfl
theorem edgs_row {W : World} {b n : Nat} {l : List Edg} (h : W.heap[b]? = some (.cells (cellsE l).toArray 52 (0, 0))) (hl : l.length = n + 2) (ho : ∀ e ∈ l, e.ok) (hn : n ≤ 8796093022208) : Edgs W (.slice (some ⟨b, 0, none⟩) n (n + 2)) (l.take n) := by
  have ht : (l.take n).length = n := by rw [List.length_take]; omega
  refine ⟨by rw [ht]; omega, fun e he => ho e (List.mem_of_mem_take he), .inr ⟨b, 0, n + 2, by rw [ht], by rw [ht]; omega, by unfold maxLen; omega, fun i hi => ?_⟩⟩
  rw [ht] at hi
  have hil : i < l.length := by omega
  have e0 := cellsE_at hil 0 (by decide)
  have e1 := cellsE_at hil 1 (by decide)
  have e2 := cellsE_at hil 2 (by decide)
  have e3 := cellsE_at hil 3 (by decide)
  rw [List.getElem_take]
  refine ⟨?_, ?_, ?_, ?_⟩
  · rw [Nat.zero_add, cell_of h]; simp only [List.getElem?_toArray]; exact e0
  · rw [Nat.zero_add, cell_of h]; simp only [List.getElem?_toArray]; exact e1
  · rw [Nat.zero_add, cell_of h]; simp only [List.getElem?_toArray]; exact e2
  · rw [Nat.zero_add, cell_of h]; simp only [List.getElem?_toArray]; exact e3
theorem lent_strs {W : World} {b : Nat} {xs : List ByteArray} (h : LentG 9 1 W b xs.length (cellsT xs) marksT) (hs : ∀ x ∈ xs, x.size ≤ maxLen) (hb : xs.length ≤ 8796093022208) : Strs W (.slice (some ⟨b, 0, none⟩) xs.length (xs.length + 2)) xs := by
  have hf := h.few
  refine ⟨by omega, hs, .inr ⟨b, 0, xs.length + 2, rfl, by omega, by unfold maxLen; omega, fun i hi => ?_⟩⟩
  rw [Nat.zero_add, cell_of h.row]
  simp only [List.getElem?_toArray]
  rw [List.getElem?_append_left (by simpa [cellsT] using hi)]
  exact cellsT_at hi
theorem lent_ints {W : World} {b : Nat} {xs : List Int} (h : LentG 3 1 W b xs.length (cellsI xs) marksI) (hs : ∀ x ∈ xs, -9223372036854775808 ≤ x ∧ x ≤ 9223372036854775807) (hb : xs.length ≤ 17592186044416) : Ints W (.slice (some ⟨b, 0, none⟩) xs.length (xs.length + 2)) xs := by
  have hf := h.few
  refine ⟨by omega, hs, .inr ⟨b, 0, xs.length + 2, rfl, by omega, by unfold maxLen; omega, fun i hi => ?_⟩⟩
  rw [Nat.zero_add, cell_of h.row]
  simp only [List.getElem?_toArray]
  rw [List.getElem?_append_left (by simpa [cellsI] using hi)]
  exact cellsI_at hi
def marksEd : List Edg := [⟨-7, 0, 0, 0⟩, ⟨-8, 0, 0, 0⟩]
theorem cellsE_app (a b : List Edg) : cellsE (a ++ b) = cellsE a ++ cellsE b := by simp [cellsE]
theorem lent_row {W : World} {b : Nat} {xs : List Edg} (h : LentG 52 4 W b xs.length (cellsE xs) marksE) : W.heap[b]? = some (.cells (cellsE (xs ++ marksEd)).toArray 52 (0, 0)) := by
  rw [h.row, cellsE_app]; rfl
theorem marks_ok {xs : List Edg} (hs : ∀ x ∈ xs, x.ok) : ∀ x ∈ xs ++ marksEd, x.ok := fun x hx => by
  rcases List.mem_append.1 hx with hx | hx
  · exact hs x hx
  · simp only [marksEd, List.mem_cons, List.not_mem_nil, or_false] at hx
    rcases hx with rfl | rfl <;> exact ⟨by decide, by decide, by decide, by decide⟩
theorem lent_edgs {W : World} {b : Nat} {xs : List Edg} (h : LentG 52 4 W b xs.length (cellsE xs) marksE) (hs : ∀ x ∈ xs, x.ok) (hb : xs.length ≤ 8796093022208) : Edgs W (.slice (some ⟨b, 0, none⟩) xs.length (xs.length + 2)) xs := by
  have q := edgs_row (n := xs.length) (lent_row h) (by simp [marksEd]) (marks_ok hs) hb
  rwa [List.take_left] at q
/-- What an automaton's parts keep to. -/
structure Gen.Fit (g : Gen) : Prop where
  ps : ∀ x ∈ g.ps, x.size ≤ maxLen
  ini : ∀ x ∈ g.ini, -9223372036854775808 ≤ x ∧ x ≤ 9223372036854775807
  es : ∀ e ∈ g.es, e.ok
  st : -9223372036854775808 ≤ g.st ∧ g.st ≤ 9223372036854775807
  psl : g.ps.length ≤ 8796093022208
  inil : g.ini.length ≤ 17592186044416
  esl : g.es.length ≤ 8796093022208
theorem IsG.fit {W : World} {pv iv ev sv : Value} {g : Gen} (h : IsG W pv iv ev sv g) : g.Fit := ⟨h.ps.small, h.ini.wf, h.es.wf, h.st, h.ps.few, h.ini.few, h.es.few⟩
theorem IsB.fit {W : World} {pv iv ev fv : Value} {g : Gen} {fin : List Int} (h : IsB W pv iv ev fv g fin) : g.Fit := ⟨h.ps.small, h.ini.wf, h.es.wf, h.st, h.ps.few, h.ini.few, h.es.few⟩
theorem GenL.isG {W : World} {n b1 b2 b3 b4 m : Nat} {bs : List Nat} {g : Gen} (h : GenL W n b1 b2 b3 b4 m bs g) (hg : g.Fit) (hl : g.sets.length ≤ 100000000) (hr : ∀ xs ∈ g.sets, xs.length ≤ 100000000 ∧ ∀ x ∈ xs, -9223372036854775808 ≤ x ∧ x ≤ 9223372036854775807) : IsG W (.slice (some ⟨b1, 0, none⟩) g.ps.length (g.ps.length + 2)) (.slice (some ⟨b2, 0, none⟩) g.ini.length (g.ini.length + 2)) (.slice (some ⟨b3, 0, none⟩) g.es.length (g.es.length + 2)) (.slice (some ⟨b4, 0, none⟩) g.sets.length (g.sets.length + 1)) g := by
  obtain ⟨w0, hs⟩ := h.sets
  exact ⟨lent_strs h.ps hg.ps hg.psl, lent_ints h.ini hg.ini hg.inil, lent_edgs h.es hg.es hg.esl, hs.rowss hl hr, hg.st⟩
/-- What stands in the lists behind it, whatever else is written. -/
def GenS (W : World) (N b1 b2 b3 b4 : Nat) (g : Gen) : Prop := ∃ g' : Gen, g'.st = g.st ∧ g'.sets.length ≤ 100000000 ∧ (∀ xs ∈ g'.sets, xs.length ≤ 100000000) ∧ ∀ F W', Kept F W W' → (∀ x ∈ F, x < N ∧ x ≠ b1 ∧ x ≠ b2 ∧ x ≠ b3 ∧ x ≠ b4) → IsG W' (.slice (some ⟨b1, 0, none⟩) g.ps.length (g.ps.length + 2)) (.slice (some ⟨b2, 0, none⟩) g.ini.length (g.ini.length + 2)) (.slice (some ⟨b3, 0, none⟩) g.es.length (g.es.length + 2)) (.slice (some ⟨b4, 0, none⟩) g.sets.length (g.sets.length + 1)) g'
theorem Gspoilt {Wa Wb Wc Wd : World} {N b1 b2 b3 b4 m : Nat} {bs cs : List Nat} {g : Gen} {l : List Edg} (hN : N ≤ Wc.heap.size) (hg : -9223372036854775808 ≤ g.st ∧ g.st ≤ 9223372036854775807) (hf : g.ps.length ≤ 8796093022208 ∧ g.ini.length ≤ 17592186044416 ∧ g.es.length ≤ 8796093022208 ∧ g.sets.length ≤ 100000000)
    (h1 : Wa.heap[b1]? = some (.cells (List.replicate (g.ps.length + 2) spoilT).toArray 9 (0, 0))) (h2 : Wb.heap[b2]? = some (.cells (List.replicate (g.ini.length + 2) spoilI).toArray 3 (0, 0)) ∧ Kept [b2] Wa Wb) (h3 : (l.length = g.es.length + 2 ∧ (∀ e ∈ l, e.ok) ∧ Wc.heap[b3]? = some (.cells (cellsE l).toArray 52 (0, 0))) ∧ Kept [b3] Wb Wc)
    (h4 : RowsS Wc Wd b4 m g.sets.length cs bs g.sets) (hb : b1 < b2 ∧ b2 < b3 ∧ b3 < b4) (hbs : ∀ x ∈ bs, b4 < x) : GenS Wd N b1 b2 b3 b4 g := by
  have q1 := h3.2.at (h2.2.at h1 (by simp; omega)) (by simp; omega)
  have q2 := h3.2.at h2.1 (by simp; omega)
  have q3 := h3.1.2.2
  have k4 : Kept (b4 :: bs) Wc Wd := h4.kept
  have nn : ∀ x, x < b4 → x ∉ b4 :: bs := fun x hx he => by
    rcases List.mem_cons.1 he with e | e
    · omega
    · have := hbs x e; omega
  have r1 := k4.at q1 (nn _ (by omega))
  have r2 := k4.at q2 (nn _ (by omega))
  have r3 := k4.at q3 (nn _ (by omega))
  refine ⟨⟨List.replicate g.ps.length spoilTB, g.st, List.replicate g.ini.length (-5), l.take g.es.length, List.replicate g.sets.length [-5]⟩, rfl, by rw [List.length_replicate]; exact hf.2.2.2, fun xs hx => by rw [(List.mem_replicate.1 hx).2]; decide, fun F W' k hF => ?_⟩
  have n1 : b1 ∉ F := fun hx => (hF _ hx).2.1 rfl
  have n2 : b2 ∉ F := fun hx => (hF _ hx).2.2.1 rfl
  have n3 : b3 ∉ F := fun hx => (hF _ hx).2.2.2.1 rfl
  have n4 : b4 ∉ F := fun hx => (hF _ hx).2.2.2.2 rfl
  exact ⟨strs_spoilt (k.at r1 n1) hf.1, ints_spoilt (k.at r2 n2) hf.2.1, edgs_row (k.at r3 n3) h3.1.1 h3.1.2.1 hf.2.2.1, h4.rowss hf.2.2.2 k (fun x hx => ⟨Nat.lt_of_lt_of_le (hF x hx).1 hN, (hF x hx).2.2.2.2⟩), hg⟩
end Go.Proofs.YtkkhilgcjaigcaaDoor

/- Automata that are written over: SpoilBuchi. -/
namespace Go.Proofs.YtkkhilgcjaigcaaDoor
open Go.RowKit Go.Shelf

theorem BucL.isB {W : World} {n b1 b2 b3 b4 : Nat} {g : Gen} {fin : List Int} (h : BucL W n b1 b2 b3 b4 g fin) (hg : g.Fit) (hr : ∀ x ∈ fin, -9223372036854775808 ≤ x ∧ x ≤ 9223372036854775807) (hl : fin.length ≤ 17592186044416) : IsB W (.slice (some ⟨b1, 0, none⟩) g.ps.length (g.ps.length + 2)) (.slice (some ⟨b2, 0, none⟩) g.ini.length (g.ini.length + 2)) (.slice (some ⟨b3, 0, none⟩) g.es.length (g.es.length + 2)) (.slice (some ⟨b4, 0, none⟩) fin.length (fin.length + 2)) g fin :=
  ⟨lent_strs h.ps hg.ps hg.psl, lent_ints h.ini hg.ini hg.inil, lent_edgs h.es hg.es hg.esl, lent_ints h.fin hr hl, hg.st⟩
/-- What stands in the lists behind it, whatever else is written. -/
def BucS (W : World) (N b1 b2 b3 b4 : Nat) (g : Gen) (fin : List Int) : Prop := ∃ (g' : Gen), ∃ fin' : List Int, g'.st = g.st ∧ fin'.length ≤ 100000000 ∧ ∀ F W', Kept F W W' → (∀ x ∈ F, x < N ∧ x ≠ b1 ∧ x ≠ b2 ∧ x ≠ b3 ∧ x ≠ b4) → IsB W' (.slice (some ⟨b1, 0, none⟩) g.ps.length (g.ps.length + 2)) (.slice (some ⟨b2, 0, none⟩) g.ini.length (g.ini.length + 2)) (.slice (some ⟨b3, 0, none⟩) g.es.length (g.es.length + 2)) (.slice (some ⟨b4, 0, none⟩) fin.length (fin.length + 2)) g' fin'
theorem Bspoilt {Wa Wb Wc Wd : World} {N b1 b2 b3 b4 : Nat} {bs : List Nat} {g : Gen} {l : List Edg} {fin : List Int} (hg : -9223372036854775808 ≤ g.st ∧ g.st ≤ 9223372036854775807) (hf : g.ps.length ≤ 8796093022208 ∧ g.ini.length ≤ 17592186044416 ∧ g.es.length ≤ 8796093022208 ∧ fin.length ≤ 100000000)
    (h1 : Wa.heap[b1]? = some (.cells (List.replicate (g.ps.length + 2) spoilT).toArray 9 (0, 0))) (h2 : Wb.heap[b2]? = some (.cells (List.replicate (g.ini.length + 2) spoilI).toArray 3 (0, 0)) ∧ Kept [b2] Wa Wb) (h3 : (l.length = g.es.length + 2 ∧ (∀ e ∈ l, e.ok) ∧ Wc.heap[b3]? = some (.cells (cellsE l).toArray 52 (0, 0))) ∧ Kept [b3] Wb Wc)
    (h4 : Wd.heap[b4]? = some (.cells (List.replicate (fin.length + 2) spoilI).toArray 3 (0, 0)) ∧ Kept (b4 :: bs) Wc Wd) (hb : b1 < b2 ∧ b2 < b3 ∧ b3 < b4) (hbs : ∀ x ∈ bs, b4 < x) : BucS Wd N b1 b2 b3 b4 g fin := by
  have q1 := h3.2.at (h2.2.at h1 (by simp; omega)) (by simp; omega)
  have q2 := h3.2.at h2.1 (by simp; omega)
  have q3 := h3.1.2.2
  have k4 : Kept (b4 :: bs) Wc Wd := h4.2
  have nn : ∀ x, x < b4 → x ∉ b4 :: bs := fun x hx he => by
    rcases List.mem_cons.1 he with e | e
    · omega
    · have := hbs x e; omega
  have r1 := k4.at q1 (nn _ (by omega))
  have r2 := k4.at q2 (nn _ (by omega))
  have r3 := k4.at q3 (nn _ (by omega))
  refine ⟨⟨List.replicate g.ps.length spoilTB, g.st, List.replicate g.ini.length (-5), l.take g.es.length, g.sets⟩, List.replicate fin.length (-5), rfl, by rw [List.length_replicate]; exact hf.2.2.2, fun F W' k hF => ?_⟩
  have n1 : b1 ∉ F := fun hx => (hF _ hx).2.1 rfl
  have n2 : b2 ∉ F := fun hx => (hF _ hx).2.2.1 rfl
  have n3 : b3 ∉ F := fun hx => (hF _ hx).2.2.2.1 rfl
  have n4 : b4 ∉ F := fun hx => (hF _ hx).2.2.2.2 rfl
  exact ⟨strs_spoilt (k.at r1 n1) hf.1, ints_spoilt (k.at r2 n2) hf.2.1, edgs_row (k.at r3 n3) h3.1.1 h3.1.2.1 hf.2.2.1, ints_spoilt (k.at h4.1 n4) (by omega), hg⟩
end Go.Proofs.YtkkhilgcjaigcaaDoor
