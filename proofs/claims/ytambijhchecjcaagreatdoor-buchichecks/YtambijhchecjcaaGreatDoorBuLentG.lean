/- Automata that are lent: LentGeneral, WholeGeneral. -/
import Derived.Test.YtambijhchecjcaaGreatDoorHI
import Derived.Test.YtambijhchecjcaaGreatDoorHI
import Derived.Test.YtambijhchecjcaaGreatDoorHI
import Derived.Test.YtambijhchecjcaaGreatDoorBuCheck
import Derived.Deep.RegionHeld3
namespace Go.Proofs.YtambijhchecjcaaGreatDoor
open Go.RowKit Go.Shelf

theorem kept_moreG {B : Nat} {a b : World} (k : Kept [] a b) : Kept [B] a b := ⟨k.os, k.tape, k.output, k.size, fun n h _ => k.block n h (by simp)⟩
/-- A box of five cells. -/
def Five (T : TypeId) (W : World) (B : Nat) (a b c d e : Value) : Prop := W.heap[B]? = some (.cells #[a, b, c, d, e] T (0, 0))
theorem Five.cells {T : TypeId} {W : World} {B : Nat} {a b c d e : Value} (h : Five T W B a b c d e) : W.cell? ⟨B, 0, none⟩ = some a ∧ W.cell? ⟨B, 1, none⟩ = some b ∧ W.cell? ⟨B, 2, none⟩ = some c ∧ W.cell? ⟨B, 3, none⟩ = some d ∧ W.cell? ⟨B, 4, none⟩ = some e :=
  ⟨(cell_of h 0).trans rfl, (cell_of h 1).trans rfl, (cell_of h 2).trans rfl, (cell_of h 3).trans rfl, (cell_of h 4).trans rfl⟩
theorem Five.free {T : TypeId} {W : World} {B : Nat} {a b c d e : Value} (h : Five T W B a b c d e) : W.frozen? ⟨B, 0, none⟩ = false ∧ W.frozen? ⟨B, 1, none⟩ = false ∧ W.frozen? ⟨B, 2, none⟩ = false ∧ W.frozen? ⟨B, 3, none⟩ = false ∧ W.frozen? ⟨B, 4, none⟩ = false :=
  ⟨free_of h 0, free_of h 1, free_of h 2, free_of h 3, free_of h 4⟩
theorem Five.keptF {F : List Nat} {T : TypeId} {W W' : World} {B : Nat} {a b c d e : Value} (h : Five T W B a b c d e) (k : Kept F W W') (hB : B ∉ F) : Five T W' B a b c d e := k.at h hB
def setFive (W : World) (B : Nat) (a b c d e : Value) : World := ((((W.setCell ⟨B, 0, none⟩ a).setCell ⟨B, 1, none⟩ b).setCell ⟨B, 2, none⟩ c).setCell ⟨B, 3, none⟩ d).setCell ⟨B, 4, none⟩ e
theorem Five.set {T : TypeId} {W : World} {B : Nat} {a b c d e : Value} (h : Five T W B a b c d e) (a' b' c' d' e' : Value) : Five T (setFive W B a' b' c' d' e') B a' b' c' d' e' := by
  unfold Five setFive
  exact (row_set (row_set (row_set (row_set (row_set h a') b') c') d') e').trans rfl
theorem kept_set5 {w W : World} {B : Nat} (k : Kept [] w W) (hB : w.heap.size ≤ B) (a b c d e : Value) : Kept [] w (setFive W B a b c d e) := ((((k.setCell (.inr hB) _).setCell (.inr hB) _).setCell (.inr hB) _).setCell (.inr hB) _).setCell (.inr hB) _
theorem kept_five {W : World} {B : Nat} (a b c d e : Value) : Kept [B] W (setFive W B a b c d e) := (((((Kept.refl [B] W).setCell (.inl (by simp)) _).setCell (.inl (by simp)) _).setCell (.inl (by simp)) _).setCell (.inl (by simp)) _).setCell (.inl (by simp)) _
theorem Strs.src {W : World} {v : Value} {xs : List ByteArray} (h : Strs W v xs) : Src 1 W v xs.length (cellsT xs) := by
  refine ⟨by simp [cellsT], cellsT_one xs, ?_⟩
  rcases h.lie with ⟨rfl, rfl⟩ | ⟨b, o, c, h1, h2, h3, h4⟩
  · exact .inl ⟨rfl, rfl⟩
  · refine .inr ⟨⟨b, o, none⟩, c, h1, h2, h3, fun _ => rfl, fun hz => by rw [List.length_eq_zero_iff.1 hz]; rfl, fun j u hu => ?_⟩
    have hj : j < xs.length := by have := (List.getElem?_eq_some_iff.1 hu).1; simpa [cellsT] using this
    rw [cellsT_at hj] at hu
    rw [addr_add, h4 j hj, ← hu]
theorem Edgs.src {W : World} {v : Value} {es : List Edg} (h : Edgs W v es) : Src 4 W v es.length (cellsE es) := by
  refine ⟨cellsE_len es, cellsE_one es, ?_⟩
  rcases h.lie with ⟨rfl, rfl⟩ | ⟨b, o, c, h1, h2, h3, h4⟩
  · exact .inl ⟨rfl, rfl⟩
  · refine .inr ⟨⟨b, o, none⟩, c, h1, h2, h3, fun _ => rfl, fun hz => by rw [List.length_eq_zero_iff.1 hz]; rfl, fun j u hu => ?_⟩
    rw [addr_add]
    have hj : j < es.length * 4 := by have := (List.getElem?_eq_some_iff.1 hu).1; rwa [cellsE_len] at this
    obtain ⟨k, r, rfl, hr⟩ : ∃ k r, j = k * 4 + r ∧ r < 4 := ⟨j / 4, j % 4, by omega, by omega⟩
    have hk : k < es.length := by omega
    rw [cellsE_at hk r hr] at hu
    obtain ⟨q0, q1, q2, q3⟩ := h4 k hk
    rcases (by omega : r = 0 ∨ r = 1 ∨ r = 2 ∨ r = 3) with rfl | rfl | rfl | rfl
    · exact q0.trans hu
    · exact q1.trans hu
    · exact q2.trans hu
    · exact q3.trans hu

/-- An automaton that is lent. -/
structure GenL (W : World) (n b1 b2 b3 b4 m : Nat) (bs : List Nat) (g : Gen) : Prop where
  ps : LentG 9 1 W b1 g.ps.length (cellsT g.ps) marksT
  ini : LentG 3 1 W b2 g.ini.length (cellsI g.ini) marksI
  es : LentG 45 4 W b3 g.es.length (cellsE g.es) marksE
  sets : ∃ w0, RowsL w0 W b4 m bs g.sets
  up : n ≤ b1 ∧ b1 < b2 ∧ b2 < b3 ∧ b3 < b4
theorem genL_of {V Wa Wb Wc Wd : World} {b1 b2 b3 b4 m : Nat} {bs : List Nat} {g : Gen} (h1 : LentG 9 1 Wa b1 g.ps.length (cellsT g.ps) marksT ∧ V.heap.size ≤ b1) (h2 : LentG 3 1 Wb b2 g.ini.length (cellsI g.ini) marksI ∧ Wa.heap.size ≤ b2 ∧ Kept [] Wa Wb) (h3 : LentG 45 4 Wc b3 g.es.length (cellsE g.es) marksE ∧ Wb.heap.size ≤ b3 ∧ Kept [] Wb Wc) (h4 : RowsL Wc Wd b4 m bs g.sets ∧ Kept [] Wc Wd) : GenL Wd V.heap.size b1 b2 b3 b4 m bs g := by
  have z1 := lt_of h1.1.row
  have z2 := lt_of h2.1.row
  have z3 := lt_of h3.1.row
  have z4 := h4.1.lo
  exact ⟨((h1.1.kept h2.2.2).kept h3.2.2).kept h4.2, (h2.1.kept h3.2.2).kept h4.2, h3.1.kept h4.2, ⟨_, h4.1⟩, h1.2, by omega, by omega, by omega⟩
theorem RowsL.keptF {F : List Nat} {w W W' : World} {b m : Nat} {bs : List Nat} {xss : List (List Int)} (h : RowsL w W b m bs xss) (k : Kept F W W') (h1 : b ∉ F) (h2 : m ∉ F) (h3 : ∀ x ∈ bs, x ∉ F) : RowsL w W' b m bs xss := ⟨k.at h.row h1, h.rs.keptF k h3, k.at h.mrk h2, h.nb, h.nd, h.lo⟩
theorem GenL.keptF {F : List Nat} {W W' : World} {n b1 b2 b3 b4 m : Nat} {bs : List Nat} {g : Gen} (h : GenL W n b1 b2 b3 b4 m bs g) (k : Kept F W W') (hF : ∀ x ∈ F, x < n) (hm : m ∉ F) : GenL W' n b1 b2 b3 b4 m bs g := by
  obtain ⟨u1, u2, u3, u4⟩ := h.up
  have hn : ∀ b, n ≤ b → b ∉ F := fun b hb hx => by have := hF b hx; omega
  obtain ⟨w0, hs⟩ := h.sets
  exact ⟨h.ps.keptF k (hn _ (by omega)), h.ini.keptF k (hn _ (by omega)), h.es.keptF k (hn _ (by omega)), ⟨w0, hs.keptF k (hn _ (by omega)) hm (fun x hx => hn _ (by have := hs.nb x hx; omega))⟩, h.up⟩
theorem genL_set {V W : World} {n b1 b2 b3 b4 m : Nat} {bs : List Nat} {g : Gen} {x1 x2 x3 x4 x5 : Value} (h : GenL W V.heap.size b1 b2 b3 b4 m bs g) (hV : V.heap.size = n + 1 + 1) (hW : Five 27 W (n + 1) x1 x2 x3 x4 x5) (a b c d e : Value) : GenL (setFive W (n + 1) a b c d e) n b1 b2 b3 b4 m bs g := by
  obtain ⟨w0, hs⟩ := h.sets
  have hm : m ≠ n + 1 := fun e => by have q := hs.mrk; rw [e, hW] at q; cases q
  have q := h.keptF (kept_five (B := n + 1) a b c d e) (fun x hx => by simp at hx; omega) (by simpa using hm)
  exact ⟨q.ps, q.ini, q.es, q.sets, by have := q.up.1; omega, q.up.2⟩

def GenEnd (w : World) (g : Gen) (e : Ending) (w' : World) : Prop := ∃ b1 b2 b3 b4 m bs, e = .returned (.agg #[.slice (some ⟨b1, 0, none⟩) g.ps.length (g.ps.length + 2), .int .i64 g.st, .slice (some ⟨b2, 0, none⟩) g.ini.length (g.ini.length + 2), .slice (some ⟨b3, 0, none⟩) g.es.length (g.es.length + 2), .slice (some ⟨b4, 0, none⟩) g.sets.length (g.sets.length + 1)]) ∧ GenL w' w.heap.size b1 b2 b3 b4 m bs g ∧ Kept [] w w'
set_option maxHeartbeats 3200000 in
set_option maxRecDepth 10000 in
theorem lentGeneral_any (pv iv ev sv : Value) (g : Gen) (w : World) (h : IsG w pv iv ev sv g) (hf : g.ps.length ≤ 100000000 ∧ g.ini.length ≤ 100000000 ∧ g.es.length ≤ 100000000 ∧ g.sets.length ≤ 100000000 ∧ ∀ xs ∈ g.sets, xs.length ≤ 100000000) :
    Calls Tryz.prog 6 #[.agg #[pv, .int .i64 g.st, iv, ev, sv]] w (GenEnd w g) := by
  obtain ⟨V, hV⟩ : ∃ V, (w.alloc (.cells #[pv, .int .i64 g.st, iv, ev, sv] 27)).alloc (.cells #[.slice none 0 0, .int .i64 0, .slice none 0 0, .slice none 0 0, .slice none 0 0] 27) = V := ⟨_, rfl⟩
  have kV : Kept [] w V := by rw [← hV]; exact ((Kept.refl [] w).alloc _).alloc _
  have hB : Five 27 V w.heap.size pv (.int .i64 g.st) iv ev sv := by rw [← hV]; exact alUp (al0 _ _) _
  have hR : Five 27 V (w.heap.size + 1) (.slice none 0 0) (.int .i64 0) (.slice none 0 0) (.slice none 0 0) (.slice none 0 0) := by rw [← hV]; exact al1 _ _ _
  have hvz : V.heap.size = w.heap.size + 1 + 1 := by rw [← hV, World.size_alloc, World.size_alloc]
  have HL1 : Hid (∀ W, Kept [] V W → Calls Tryz.prog 18 #[pv] W fun e w' => ∃ b, e = .returned (.slice (some ⟨b, 0, none⟩) g.ps.length (g.ps.length + 2)) ∧ LentG 9 1 w' b g.ps.length (cellsT g.ps) marksT ∧ W.heap.size ≤ b ∧ Kept [] W w') := fun W k => lentTexts_any pv g.ps.length _ W ((h.ps.kept kV).kept k).src (by omega)
  have HL2 : Hid (∀ W, Kept [] V W → Calls Tryz.prog 19 #[iv] W fun e w' => ∃ b, e = .returned (.slice (some ⟨b, 0, none⟩) g.ini.length (g.ini.length + 2)) ∧ LentG 3 1 w' b g.ini.length (cellsI g.ini) marksI ∧ W.heap.size ≤ b ∧ Kept [] W w') := fun W k => lentInts_any iv g.ini.length _ W ((h.ini.kept kV).kept k).src (by omega)
  have HL3 : Hid (∀ W, Kept [] V W → Calls Tryz.prog 20 #[ev] W fun e w' => ∃ b, e = .returned (.slice (some ⟨b, 0, none⟩) g.es.length (g.es.length + 2)) ∧ LentG 45 4 w' b g.es.length (cellsE g.es) marksE ∧ W.heap.size ≤ b ∧ Kept [] W w') := fun W k => lentEdges_any ev g.es.length _ W ((h.es.kept kV).kept k).src (by omega)
  have HL4 : Hid (∀ W, Kept [] V W → Calls Tryz.prog 21 #[sv] W (RowsEnd W g.sets)) := fun W k => lentRows_any sv g.sets W ((h.sets.kept kV).kept k) (by omega) hf.2.2.2.2
  have HS : Hid (∀ W, Kept [w.heap.size + 1] V W → W.cell? ⟨w.heap.size, 0, none⟩ = some pv ∧ W.cell? ⟨w.heap.size, 1, none⟩ = some (.int .i64 g.st) ∧ W.cell? ⟨w.heap.size, 2, none⟩ = some iv ∧ W.cell? ⟨w.heap.size, 3, none⟩ = some ev ∧ W.cell? ⟨w.heap.size, 4, none⟩ = some sv) := fun W k => (hB.keptF k (by simp)).cells
  have HKV : Hid (Kept [] w V) := kV
  have HR : Hid (∀ W, Kept [] V W → Five 27 W (w.heap.size + 1) (.slice none 0 0) (.int .i64 0) (.slice none 0 0) (.slice none 0 0) (.slice none 0 0)) := fun W k => hR.keptF k (by simp)
  have HVZ : Hid (V.heap.size = w.heap.size + 1 + 1) := hvz
  obtain ⟨pad, pc, rfl, _, _⟩ := h.ps.form
  obtain ⟨iad, ic, rfl, _, _⟩ := h.ini.form
  obtain ⟨ead, ec, rfl, _, _⟩ := h.es.form
  obtain ⟨sad, sc, rfl⟩ := h.sets.form
  have HVV : Hid (_ = V) := hV
  obtain ⟨f0, f1, f2, f3, f4⟩ := HS.out V (Kept.refl _ V)
  have T1 : Hid True := trivial
  have HKc : Hid (Kept [] V V) := Kept.refl [] V
  clear h kV hB hR hvz hV hf
  go_enter Tryz.func6, Tryz.ntmps6
  go_upto_region 1 with fail
  rw [HVV.out]
  clear HVV
  go_region_held3 (fun w' => w'.cell? ⟨w.heap.size, 0, none⟩ = some (.slice pad g.ps.length pc) ∧ w'.cell? ⟨w.heap.size, 1, none⟩ = some (.int .i64 g.st) ∧ w'.cell? ⟨w.heap.size, 2, none⟩ = some (.slice iad g.ini.length ic) ∧ w'.cell? ⟨w.heap.size, 3, none⟩ = some (.slice ead g.es.length ec) ∧ w'.cell? ⟨w.heap.size, 4, none⟩ = some (.slice sad g.sets.length sc))
    ((refine HS.out _ ?_; (repeat (first | exact (kept_moreG HKc.out) | exact (kept_moreG HKc.out.drew) | refine Kept.setCell ?_ (.inl (by simp)) _))))
    (first
      | (go_at_call 18; refine (HL1.out _ (by first | exact HKc.out | exact HKc.out.drew)).mono ?_; rintro e Wa ⟨b1, rfl, hl1, hb1, ka⟩; have HA1 : Hid (LentG 9 1 Wa b1 g.ps.length (cellsT g.ps) marksT ∧ V.heap.size ≤ b1) := ⟨hl1, Nat.le_trans HKc.out.size hb1⟩; have HKn : Hid (Kept [] V Wa) := (by first | exact HKc.out.trans ka (by simp) (by simp) | exact HKc.out.drew.trans ka (by simp) (by simp)); clear HKc ka hl1 hb1; have HKc : Hid (Kept [] V Wa) := HKn.out; clear HKn)
      | (clear T1; go_at_call 19; refine (HL2.out _ HKc.out).mono ?_; rintro e Wb ⟨b2, rfl, hl2, hb2, kb⟩; have HA2 : Hid (LentG 3 1 Wb b2 g.ini.length (cellsI g.ini) marksI ∧ Wa.heap.size ≤ b2 ∧ Kept [] Wa Wb) := ⟨hl2, hb2, kb⟩; have HKn : Hid (Kept [] V Wb) := HKc.out.trans kb (by simp) (by simp); clear HKc kb hl2 hb2; have HKc : Hid (Kept [] V Wb) := HKn.out; clear HKn)
      | (go_at_call 20; refine (HL3.out _ HKc.out).mono ?_; rintro e Wc ⟨b3, rfl, hl3, hb3, kc⟩; have HA3 : Hid (LentG 45 4 Wc b3 g.es.length (cellsE g.es) marksE ∧ Wb.heap.size ≤ b3 ∧ Kept [] Wb Wc) := ⟨hl3, hb3, kc⟩; have HKn : Hid (Kept [] V Wc) := HKc.out.trans kc (by simp) (by simp); clear HKc kc hl3 hb3; have HKc : Hid (Kept [] V Wc) := HKn.out; clear HKn)
      | (go_at_call 21; refine (HL4.out _ HKc.out).mono ?_; rintro e Wd ⟨b4, m, bs, rfl, hl4, kd⟩; have HA4 : Hid (RowsL Wc Wd b4 m bs g.sets ∧ Kept [] Wc Wd) := ⟨hl4, kd⟩; have HKn : Hid (Kept [] V Wd) := HKc.out.trans kd (by simp) (by simp); obtain ⟨r0, r1, r2, r3, r4⟩ := (HR.out Wd HKn.out).cells; obtain ⟨s0, s1, s2, s3, s4⟩ := (HR.out Wd HKn.out).free; have HRd : Hid (Five 27 Wd (w.heap.size + 1) (.slice none 0 0) (.int .i64 0) (.slice none 0 0) (.slice none 0 0) (.slice none 0 0)) := HR.out Wd HKn.out; clear HKc kd hl4 ; have HKc : Hid (Kept [] V Wd) := HKn.out; clear HKn))
  all_goals go_wp2
  all_goals exact ret_gen rfl rfl rfl (HRd.out.set _ _ _ _ _) ⟨b1, b2, b3, b4, m, bs, rfl, genL_set (genL_of HA1.out HA2.out HA3.out HA4.out) HVZ.out HRd.out _ _ _ _ _, kept_set5 (HKV.out.trans HKc.out (by simp) (by simp)) (by omega) _ _ _ _ _⟩
set_option maxHeartbeats 1600000 in
theorem wholeGeneral_any (b1 b2 b3 b4 m : Nat) (bs : List Nat) (pv iv ev sv : Value) (g : Gen) (n : Nat) (w : World) (h : GenL w n b1 b2 b3 b4 m bs g) (hg : IsG w pv iv ev sv g) (hf : g.ps.length ≤ 100000000 ∧ g.ini.length ≤ 100000000 ∧ g.es.length ≤ 100000000 ∧ g.sets.length ≤ 100000000 ∧ ∀ xs ∈ g.sets, xs.length ≤ 100000000) :
    Calls Tryz.prog 10 #[.agg #[.slice (some ⟨b1, 0, none⟩) g.ps.length (g.ps.length + 2), .int .i64 g.st, .slice (some ⟨b2, 0, none⟩) g.ini.length (g.ini.length + 2), .slice (some ⟨b3, 0, none⟩) g.es.length (g.es.length + 2), .slice (some ⟨b4, 0, none⟩) g.sets.length (g.sets.length + 1)], .agg #[pv, .int .i64 g.st, iv, ev, sv]] w fun e w' => e = .returned (.bool true) ∧ Kept [] w w' := by
  obtain ⟨V, hV⟩ : ∃ V, (w.alloc (.cells #[.slice (some ⟨b1, 0, none⟩) g.ps.length (g.ps.length + 2), .int .i64 g.st, .slice (some ⟨b2, 0, none⟩) g.ini.length (g.ini.length + 2), .slice (some ⟨b3, 0, none⟩) g.es.length (g.es.length + 2), .slice (some ⟨b4, 0, none⟩) g.sets.length (g.sets.length + 1)] 27)).alloc (.cells #[pv, .int .i64 g.st, iv, ev, sv] 27) = V := ⟨_, rfl⟩
  have kV : Kept [] w V := by rw [← hV]; exact ((Kept.refl [] w).alloc _).alloc _
  have hA : Five 27 V w.heap.size (.slice (some ⟨b1, 0, none⟩) g.ps.length (g.ps.length + 2)) (.int .i64 g.st) (.slice (some ⟨b2, 0, none⟩) g.ini.length (g.ini.length + 2)) (.slice (some ⟨b3, 0, none⟩) g.es.length (g.es.length + 2)) (.slice (some ⟨b4, 0, none⟩) g.sets.length (g.sets.length + 1)) := by rw [← hV]; exact alUp (al0 _ _) _
  have hB : Five 27 V (w.heap.size + 1) pv (.int .i64 g.st) iv ev sv := by rw [← hV]; exact al1 _ _ _
  have HW1 : Hid (∀ W, Kept [] V W → Calls Tryz.prog 24 #[.slice (some ⟨b1, 0, none⟩) g.ps.length (g.ps.length + 2), pv] W fun e w' => e = .returned (.bool true) ∧ Kept [] W w') := fun W k => wholeTexts_any b1 pv g.ps W ((h.ps.kept kV).kept k) ((hg.ps.kept kV).kept k).src
  have HW2 : Hid (∀ W, Kept [] V W → Calls Tryz.prog 25 #[.slice (some ⟨b2, 0, none⟩) g.ini.length (g.ini.length + 2), iv] W fun e w' => e = .returned (.bool true) ∧ Kept [] W w') := fun W k => wholeInts_any b2 iv g.ini W ((h.ini.kept kV).kept k) ((hg.ini.kept kV).kept k).src
  have HW3 : Hid (∀ W, Kept [] V W → Calls Tryz.prog 26 #[.slice (some ⟨b3, 0, none⟩) g.es.length (g.es.length + 2), ev] W fun e w' => e = .returned (.bool true) ∧ Kept [] W w') := fun W k => wholeEdges_any b3 ev g.es W ((h.es.kept kV).kept k) ((hg.es.kept kV).kept k).src
  have HW4 : Hid (∀ W, Kept [] V W → Calls Tryz.prog 27 #[.slice (some ⟨b4, 0, none⟩) g.sets.length (g.sets.length + 1), sv] W fun e w' => e = .returned (.bool true) ∧ Kept [] W w') := fun W k => by
    obtain ⟨w0, hs⟩ := h.sets
    exact wholeRows_any b4 m bs sv g.sets w0 W ((hs.kept kV).kept k) ((hg.sets.kept kV).kept k) (by omega)
  have HS : Hid (∀ W, Kept [] V W → (W.cell? ⟨w.heap.size, 0, none⟩ = some (.slice (some ⟨b1, 0, none⟩) g.ps.length (g.ps.length + 2)) ∧ W.cell? ⟨w.heap.size, 1, none⟩ = some (.int .i64 g.st) ∧ W.cell? ⟨w.heap.size, 2, none⟩ = some (.slice (some ⟨b2, 0, none⟩) g.ini.length (g.ini.length + 2)) ∧ W.cell? ⟨w.heap.size, 3, none⟩ = some (.slice (some ⟨b3, 0, none⟩) g.es.length (g.es.length + 2)) ∧ W.cell? ⟨w.heap.size, 4, none⟩ = some (.slice (some ⟨b4, 0, none⟩) g.sets.length (g.sets.length + 1))) ∧ W.cell? ⟨w.heap.size + 1, 0, none⟩ = some pv ∧ W.cell? ⟨w.heap.size + 1, 1, none⟩ = some (.int .i64 g.st) ∧ W.cell? ⟨w.heap.size + 1, 2, none⟩ = some iv ∧ W.cell? ⟨w.heap.size + 1, 3, none⟩ = some ev ∧ W.cell? ⟨w.heap.size + 1, 4, none⟩ = some sv) := fun W k => ⟨(hA.keptF k (by simp)).cells, (hB.keptF k (by simp)).cells⟩
  have HKV : Hid (Kept [] w V) := kV
  obtain ⟨pad, pc, rfl, _, _⟩ := hg.ps.form
  obtain ⟨iad, ic, rfl, _, _⟩ := hg.ini.form
  obtain ⟨ead, ec, rfl, _, _⟩ := hg.es.form
  obtain ⟨sad, sc, rfl⟩ := hg.sets.form
  have HVV : Hid (_ = V) := hV
  have T1 : Hid True := trivial
  obtain ⟨⟨f0, f1, f2, f3, f4⟩, g0, g1, g2, g3, g4⟩ := HS.out V (Kept.refl [] V)
  clear h hg kV hA hB hV hf
  go_enter Tryz.func10, Tryz.ntmps10
  go_upto_region 1 with fail
  rw [HVV.out]
  clear HVV
  go_wp2_with (first
    | (go_at_call 24; refine (HW1.out V (Kept.refl [] V)).mono ?_; rintro e Wa ⟨rfl, ka⟩; have HKa : Hid (Kept [] V Wa) := ka; clear f0 f1 f2 f3 f4 g0 g1 g2 g3 g4 ka; obtain ⟨⟨f0, f1, f2, f3, f4⟩, g0, g1, g2, g3, g4⟩ := HS.out Wa HKa.out)
    | (clear T1; go_at_call 25; refine (HW2.out Wa HKa.out).mono ?_; rintro e Wb ⟨rfl, kb⟩; have HKb : Hid (Kept [] V Wb) := HKa.out.trans kb (by simp) (by simp); clear f0 f1 f2 f3 f4 g0 g1 g2 g3 g4 kb; obtain ⟨⟨f0, f1, f2, f3, f4⟩, g0, g1, g2, g3, g4⟩ := HS.out Wb HKb.out)
    | (go_at_call 26; refine (HW3.out Wb HKb.out).mono ?_; rintro e Wc ⟨rfl, kc⟩; have HKc : Hid (Kept [] V Wc) := HKb.out.trans kc (by simp) (by simp); clear f0 f1 f2 f3 f4 g0 g1 g2 g3 g4 kc; obtain ⟨⟨f0, f1, f2, f3, f4⟩, g0, g1, g2, g3, g4⟩ := HS.out Wc HKc.out)
    | (go_at_call 27; refine (HW4.out Wc HKc.out).mono ?_; rintro e Wd ⟨rfl, kd⟩; have HKd : Hid (Kept [] V Wd) := HKc.out.trans kd (by simp) (by simp); clear f0 f1 f2 f3 f4 g0 g1 g2 g3 g4 kd))
  go_ret
  exact ⟨rfl, HKV.out.trans HKd.out (by simp) (by simp)⟩
end Go.Proofs.YtambijhchecjcaaGreatDoor
