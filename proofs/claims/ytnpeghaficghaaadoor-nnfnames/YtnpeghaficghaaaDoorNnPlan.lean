/- Plans: how they lie in memory; nnf.planOf, plan.fits. -/
import Derived.Test.YtnpeghaficghaaaDoorNnMath
import Derived.Test.YtnpeghaficghaaaDoorTrReb
namespace Go.Proofs.YtnpeghaficghaaaDoor
open Go.RowKit Go.Shelf

/-- What a plan has come to, as far as it is counted. -/
def psz (t : Tr) : Nat := min t.size 1001
def pdp (t : Tr) : Nat := min t.depth 101
/-- A plan's kids lie in memory, in blocks of X: kv is the slice of them. -/
def IsQ (X : Nat → Prop) (w : World) : Tr → Value → Prop :=
  Tr.para (fun t rs kv => ∃ ad cap, kv = .slice ad t.kids.length cap ∧ (rs.length = 0 ∨ ∃ b off, ad = some ⟨b, off, none⟩ ∧ X b ∧
    ∀ i (h : i < rs.length), ∃ kv, w.cell? ⟨b, off + i * 5, none⟩ = some (.int .u8 ((t.kids[i]?.map Tr.op).getD 0 : Nat)) ∧ w.cell? ⟨b, off + i * 5 + 1, none⟩ = some (.string ((t.kids[i]?.map Tr.name).getD ⟨#[]⟩)) ∧ w.cell? ⟨b, off + i * 5 + 2, none⟩ = some kv ∧ w.cell? ⟨b, off + i * 5 + 3, none⟩ = some (.int .i64 ((t.kids[i]?.map psz).getD 0 : Nat)) ∧ w.cell? ⟨b, off + i * 5 + 4, none⟩ = some (.int .i64 ((t.kids[i]?.map pdp).getD 0 : Nat)) ∧ rs[i] kv))
/-- The five cells of a plan among others. -/
def Pl (w : World) (b o : Nat) (t : Tr) (kv : Value) : Prop := w.cell? ⟨b, o, none⟩ = some (.int .u8 (t.op : Nat)) ∧ w.cell? ⟨b, o + 1, none⟩ = some (.string t.name) ∧ w.cell? ⟨b, o + 2, none⟩ = some kv ∧ w.cell? ⟨b, o + 3, none⟩ = some (.int .i64 (psz t : Nat)) ∧ w.cell? ⟨b, o + 4, none⟩ = some (.int .i64 (pdp t : Nat))
theorem isQ_eq {X : Nat → Prop} {w : World} (t : Tr) (kv : Value) : IsQ X w t kv ↔ ∃ ad cap, kv = .slice ad t.kids.length cap ∧ (t.kids.length = 0 ∨ ∃ b off, ad = some ⟨b, off, none⟩ ∧ X b ∧
    ∀ i (h : i < t.kids.length), ∃ kv, Pl w b (off + i * 5) t.kids[i] kv ∧ IsQ X w t.kids[i] kv) := by
  unfold IsQ
  rw [Tr.para_eq]
  simp only [List.length_map, List.getElem_map]
  refine exists_congr fun ad => exists_congr fun cap => and_congr_right fun _ => or_congr_right ?_
  refine exists_congr fun b => exists_congr fun off => and_congr_right fun _ => and_congr_right fun _ => ?_
  refine forall_congr' fun i => forall_congr' fun h => ?_
  simp [List.getElem?_eq_getElem h, Pl, and_assoc]
theorem Pl.cells {w w' : World} {b o : Nat} (hw : ∀ o v, w.cell? ⟨b, o, none⟩ = some v → w'.cell? ⟨b, o, none⟩ = some v) {t : Tr} {kv : Value} (h : Pl w b o t kv) : Pl w' b o t kv :=
  ⟨hw _ _ h.1, hw _ _ h.2.1, hw _ _ h.2.2.1, hw _ _ h.2.2.2.1, hw _ _ h.2.2.2.2⟩
theorem Pl.kept {w w' : World} (k : Kept [] w w') {b o : Nat} {t : Tr} {kv : Value} (h : Pl w b o t kv) : Pl w' b o t kv := h.cells (fun _ _ c => cell_kept0 k c)
/-- What keeps these cells keeps the plan. -/
theorem IsQ.cells {X Y : Nat → Prop} {w w' : World} (hX : ∀ k, X k → k < w.heap.size → Y k) (hw : ∀ b o v, X b → w.cell? ⟨b, o, none⟩ = some v → w'.cell? ⟨b, o, none⟩ = some v) {t : Tr} : ∀ {kv : Value}, IsQ X w t kv → IsQ Y w' t kv := by
  induction t using Tr.ind with
  | h t ih =>
    intro kv h
    obtain ⟨ad, cap, e, h⟩ := (isQ_eq t kv).1 h
    refine (isQ_eq t kv).2 ⟨ad, cap, e, ?_⟩
    rcases Nat.eq_zero_or_pos t.kids.length with h0 | h0
    · exact .inl h0
    · obtain ⟨b, off, e1, hb, hk⟩ := h.resolve_left (by omega)
      obtain ⟨kv0, c0, _⟩ := hk 0 h0
      refine .inr ⟨b, off, e1, hX b hb (World.block_lt_of_cell? w _ c0.1), fun i hi => ?_⟩
      obtain ⟨kv', c, hr⟩ := hk i hi
      exact ⟨kv', c.cells (fun o v => hw b o v hb), ih _ (List.getElem_mem _) hr⟩
theorem IsQ.other {X : Nat → Prop} {W : World} {t : Tr} {kv : Value} (h : IsQ X W t kv) {B : Nat} (hB : ¬ X B) (o : Nat) (v : Value) : IsQ X (W.setCell ⟨B, o, none⟩ v) t kv :=
  h.cells (fun _ h _ => h) (fun b o' u hb hc => by
    rw [World.cell?_of_block (w := W) (a := ⟨b, o', none⟩) (Below.heap_setCell _ _ _ _ (fun e => hB (by have e' : b = B := e; rw [← e']; exact hb)))]; exact hc)
/-- A plan that lies in memory. -/
def IsP (w : World) (t : Tr) (kv : Value) : Prop := IsQ (fun k => k < w.heap.size) w t kv
theorem IsQ.isP {X : Nat → Prop} {w : World} {t : Tr} {kv : Value} (h : IsQ X w t kv) : IsP w t kv := IsQ.cells (fun _ _ h => h) (fun _ _ _ _ c => c) h
theorem isP_eq {w : World} (t : Tr) (kv : Value) : IsP w t kv ↔ ∃ ad cap, kv = .slice ad t.kids.length cap ∧ (t.kids.length = 0 ∨ ∃ b off, ad = some ⟨b, off, none⟩ ∧
    ∀ i (h : i < t.kids.length), ∃ kv, Pl w b (off + i * 5) t.kids[i] kv ∧ IsP w t.kids[i] kv) := by
  unfold IsP
  rw [isQ_eq]
  refine exists_congr fun ad => exists_congr fun cap => and_congr_right fun _ => ⟨fun h => h.imp id (fun ⟨b, off, e, _, hk⟩ => ⟨b, off, e, hk⟩), fun h => ?_⟩
  rcases Nat.eq_zero_or_pos t.kids.length with h0 | h0
  · exact .inl h0
  · obtain ⟨b, off, e, hk⟩ := h.resolve_left (by omega)
    obtain ⟨kv0, c0, _⟩ := hk 0 h0
    exact .inr ⟨b, off, e, World.block_lt_of_cell? w _ c0.1, hk⟩
theorem IsP.slice {w : World} {t : Tr} {kv : Value} (h : IsP w t kv) : ∃ ad cap, kv = .slice ad t.kids.length cap := by
  obtain ⟨ad, cap, e, _⟩ := (isP_eq t kv).1 h
  exact ⟨ad, cap, e⟩
theorem IsP.kid {w : World} {t : Tr} {ad : Option Addr} {n cap : Nat} (h : IsP w t (.slice ad n cap)) (h0 : 0 < t.kids.length) : ∃ b off, ad = some ⟨b, off, none⟩ ∧ ∀ i (h : i < t.kids.length), ∃ kv, Pl w b (off + i * 5) t.kids[i] kv ∧ IsP w t.kids[i] kv := by
  obtain ⟨ad', cap', e, h'⟩ := (isP_eq t _).1 h
  cases e
  exact h'.resolve_left (by omega)
theorem IsP.kept {w w' : World} (k : Kept [] w w') {t : Tr} {kv : Value} (h : IsP w t kv) : IsP w' t kv :=
  IsQ.cells (fun _ h _ => Nat.lt_of_lt_of_le h k.size) (fun _ _ _ _ c => cell_kept0 k c) h
/-- A plan of old has nothing in a new block. -/
theorem IsQ.apart {X : Nat → Prop} {w w' : World} (k : Kept [] w w') {t : Tr} {kv : Value} {B : Nat} (hB : w.heap.size ≤ B) (h : IsQ X w t kv) : IsQ (fun b => X b ∧ b ≠ B) w' t kv :=
  IsQ.cells (fun b hx (h : b < w.heap.size) => ⟨hx, by omega⟩) (fun _ _ _ _ c => cell_kept0 k c) h
theorem IsP.leaf (w : World) {t : Tr} (h : t.kids = []) (ad : Option Addr) (cap : Nat) : IsP w t (.slice ad 0 cap) :=
  (isP_eq t _).2 ⟨ad, cap, by rw [h]; rfl, .inl (by rw [h]; rfl)⟩
/-- A plan in a block of its own. -/
def Pl5 (W : World) (B : Nat) (a b c d e : Value) : Prop := W.heap[B]? = some (.cells #[a, b, c, d, e] 93 (0, 0))
theorem Pl5.cells {W : World} {B : Nat} {a b c d e : Value} (h : Pl5 W B a b c d e) : W.cell? ⟨B, 0, none⟩ = some a ∧ W.cell? ⟨B, 1, none⟩ = some b ∧ W.cell? ⟨B, 2, none⟩ = some c ∧ W.cell? ⟨B, 3, none⟩ = some d ∧ W.cell? ⟨B, 4, none⟩ = some e ∧ ∀ i, W.frozen? ⟨B, i, none⟩ = false :=
  ⟨(cell_of h 0).trans rfl, (cell_of h 1).trans rfl, (cell_of h 2).trans rfl, (cell_of h 3).trans rfl, (cell_of h 4).trans rfl, fun i => free_of h i⟩
theorem Pl5.kept {W W' : World} {B : Nat} {a b c d e : Value} (h : Pl5 W B a b c d e) (k : Kept [] W W') : Pl5 W' B a b c d e := k.at h (by simp)
theorem Pl5.set {W : World} {B : Nat} {a b c d e : Value} (h : Pl5 W B a b c d e) (a' b' c' d' e' : Value) : Pl5 (((((W.setCell ⟨B, 0, none⟩ a').setCell ⟨B, 1, none⟩ b').setCell ⟨B, 2, none⟩ c').setCell ⟨B, 3, none⟩ d').setCell ⟨B, 4, none⟩ e') B a' b' c' d' e' := by
  unfold Pl5; rw [row_set (row_set (row_set (row_set (row_set h a') b') c') d') e']; rfl
theorem ret_pl {fn : Func} {p : Tmp} {a : Act} {w : World} {g : Nat} {x y z u v : Value} {R : Ending → World → Prop} (h : fn.results = #[.cell p 93]) (hp : a.tmps.getD p undef = .pointer (some ⟨g, 0, none⟩)) (hd : a.defers = []) (hg : Pl5 w g x y z u v) (hR : R (.returned (.agg #[x, y, z, u, v])) w) : bodyPost Tryd.prog fn R .ret a w :=
  bodyPost_ret (results_cell_row h _ w g 93 _ _ _ hp hg Tryd.underlying93 rfl (by kernel_rfl)) hd hR
/-- The counts behind the first i kids. -/
def psI (ks : List Tr) (i : Nat) : Nat := min (1 + ((ks.take i).map Tr.size).sum) 1001
def pdI (ks : List Tr) (i : Nat) : Nat := min (1 + ((ks.take i).map Tr.depth).foldl max 0) 101
theorem psI_succ {ks : List Tr} {i : Nat} (h : i < ks.length) : psI ks (i + 1) = min (psI ks i + psz ks[i]) 1001 := by
  unfold psI psz
  rw [List.take_succ_eq_append_getElem h]
  simp only [List.map_append, List.sum_append, List.map_cons, List.map_nil, List.sum_cons, List.sum_nil]
  omega
theorem pdI_succ {ks : List Tr} {i : Nat} (h : i < ks.length) : pdI ks (i + 1) = min (max (pdI ks i) (pdp ks[i] + 1)) 101 := by
  unfold pdI pdp
  rw [List.take_succ_eq_append_getElem h]
  simp only [List.map_append, List.foldl_append, List.map_cons, List.map_nil, List.foldl_cons, List.foldl_nil]
  omega
theorem psI_all (o : Nat) (s : ByteArray) (ks : List Tr) : psI ks ks.length = psz ⟨o, s, ks⟩ := by
  unfold psI psz; rw [List.take_length, Tr.size_eq]
theorem pdI_all (o : Nat) (s : ByteArray) (ks : List Tr) : pdI ks ks.length = pdp ⟨o, s, ks⟩ := by
  unfold pdI pdp; rw [List.take_length, Tr.depth_eq]
structure PlAt (w : World) (o : Nat) (v : Value) (ks : List Tr) (i : Nat) (wr : World) : Prop where
  kept : Kept [] w wr
  res : Pl5 wr w.heap.size (.int .u8 0) (.string ⟨#[]⟩) (.slice none 0 0) (.int .i64 0) (.int .i64 0)
  pl : Pl5 wr (w.heap.size + 1) (.int .u8 (o : Nat)) (.string ⟨#[]⟩) v (.int .i64 (psI ks i : Nat)) (.int .i64 (pdI ks i : Nat))
theorem PlAt.next {w wr : World} {o : Nat} {v : Value} {ks : List Tr} {i : Nat} (h : PlAt w o v ks i wr) (ob : Obj) (x y : Int) (hx : x = (psI ks (i + 1) : Nat)) (hy : y = (pdI ks (i + 1) : Nat)) : PlAt w o v ks (i + 1) (((wr.setCell ⟨w.heap.size + 1, 3, none⟩ (.int .i64 x)).setCell ⟨w.heap.size + 1, 4, none⟩ (.int .i64 y)).alloc ob) := by
  subst hx; subst hy
  refine ⟨((h.kept.setCell (p := ⟨w.heap.size + 1, 3, none⟩) (.inr (by show w.heap.size ≤ w.heap.size + 1; omega)) _).setCell (p := ⟨w.heap.size + 1, 4, none⟩) (.inr (by show w.heap.size ≤ w.heap.size + 1; omega)) _).alloc ob, ?_, ?_⟩
  · exact alUp ((Below.heap_setCell _ _ _ _ (by show w.heap.size ≠ w.heap.size + 1; omega)).trans ((Below.heap_setCell _ _ _ _ (by show w.heap.size ≠ w.heap.size + 1; omega)).trans h.res)) ob
  · refine alUp ?_ ob
    rw [row_set (row_set h.pl _) _]; rfl

set_option maxHeartbeats 1000000 in
set_option maxRecDepth 20000 in
theorem planOf_any (o : Nat) (ks : List Tr) (ad : Option Addr) (cap : Nat) (w : World) (hI : IsP w ⟨o, nE, ks⟩ (.slice ad ks.length cap)) (hl : ks.length ≤ 1000) :
    Calls Tryd.prog 136 #[.int .u8 (o : Nat), .slice ad ks.length cap] w fun e w' => e = .returned (.agg #[.int .u8 (o : Nat), .string nE, .slice ad ks.length cap, .int .i64 (psz ⟨o, nE, ks⟩ : Nat), .int .i64 (pdp ⟨o, nE, ks⟩ : Nat)]) ∧ Kept [] w w' := by
  have HI : Hid (IsP w ⟨o, nE, ks⟩ (.slice ad ks.length cap)) := hI
  clear hI
  go_enter Tryd.func136, Tryd.ntmps136
  go_wp2
  go_loopw [13] (fun v wr => ∃ i : Nat, v = .int .i64 i ∧ i ≤ ks.length ∧ Hid (PlAt w o (.slice ad ks.length cap) ks i wr)) (fun v wr => ks.length - (intOf v).toNat)
  case atStart =>
    exact ⟨0, rfl, Nat.zero_le _, ⟨((Kept.refl [] w).alloc _).alloc _, alUp (al0 w _) _, al1 w _ _⟩⟩
  case round =>
    obtain ⟨i, rfl, hi, HR⟩ := hrel
    obtain ⟨c0, c1, c2, c3, c4, cf⟩ := HR.out.pl.cells
    by_cases hlt : i < ks.length
    · obtain ⟨kb, off, rfl, hk⟩ := HI.out.kid (show 0 < ks.length by omega)
      obtain ⟨kv, hP, hIk⟩ := hk i hlt
      obtain ⟨kad, kcap, rfl⟩ := hIk.slice
      replace hP : Pl w kb (off + i * 5) ks[i] (.slice kad ks[i].kids.length kcap) := hP
      have hS := psI_succ hlt
      have hD := pdI_succ hlt
      obtain ⟨k, hkk⟩ : ∃ k, ks[i] = k := ⟨_, rfl⟩
      rw [hkk] at hP hS hD
      obtain ⟨e0, e1, e2, e3, e4⟩ := hP.kept HR.out.kept
      have lk : kb < wr.heap.size := World.block_lt_of_cell? wr _ e0
      have lw := lt_of HR.out.pl
      have nk1 : ¬ kb = wr.heap.size := by omega
      have nk2 : ¬ wr.heap.size = kb := by omega
      have nw1 : ¬ w.heap.size + 1 = wr.heap.size := by omega
      have nw2 : ¬ wr.heap.size = w.heap.size + 1 := by omega
      have hii : (i : Int) < (ks.length : Int) := by omega
      obtain ⟨a, ha⟩ : ∃ a, psI ks i = a := ⟨_, rfl⟩
      obtain ⟨d, hd⟩ : ∃ d, pdI ks i = d := ⟨_, rfl⟩
      obtain ⟨s, hs⟩ : ∃ s, psz k = s := ⟨_, rfl⟩
      obtain ⟨p, hp⟩ : ∃ p, pdp k = p := ⟨_, rfl⟩
      have ba : a ≤ 1001 := by rw [← ha]; unfold psI; omega
      have bd : d ≤ 101 := by rw [← hd]; unfold pdI; omega
      have bs : s ≤ 1001 := by rw [← hs]; unfold psz; omega
      have bp : p ≤ 101 := by rw [← hp]; unfold pdp; omega
      rw [ha, hs] at hS
      rw [hd, hp] at hD
      rw [ha] at c3
      rw [hd] at c4
      rw [hs] at e3
      rw [hp] at e4
      have HS : Hid _ := hS
      have HD : Hid _ := hD
      clear hP hIk hk hS hD ha hd hs hp hkk hlt
      have ex : min ((a : Int) + (s : Int)) 1001 = ((psI ks (i + 1) : Nat) : Int) := by rw [HS.out]; omega
      have ey : min (max (d : Int) ((p : Int) + 1)) 101 = ((pdI ks (i + 1) : Nat) : Int) := by rw [HD.out]; omega
      have HX : Hid _ := ex
      have HY : Hid _ := ey
      clear ex ey
      go_wp2
      go_roundw
      case rel => exact ⟨i + 1, by go_num, by omega, HR.out.next _ _ _ HX.out HY.out⟩
      case measure => simp [intOf]; omega
    · obtain rfl : i = ks.length := by omega
      obtain ⟨d0, d1, d2, d3, d4, df⟩ := HR.out.res.cells
      clear hlt
      go_wp2
      refine ret_pl rfl rfl rfl (HR.out.res.set _ _ _ _ _) ⟨?_, ?_⟩
      · rw [psI_all o nE ks, pdI_all o nE ks]; rfl
      · exact ((((HR.out.kept.setCell (p := ⟨w.heap.size, 0, none⟩) (.inr (Nat.le_refl _)) _).setCell (p := ⟨w.heap.size, 1, none⟩) (.inr (Nat.le_refl _)) _).setCell (p := ⟨w.heap.size, 2, none⟩) (.inr (Nat.le_refl _)) _).setCell (p := ⟨w.heap.size, 3, none⟩) (.inr (Nat.le_refl _)) _).setCell (p := ⟨w.heap.size, 4, none⟩) (.inr (Nat.le_refl _)) _
end Go.Proofs.YtnpeghaficghaaaDoor
