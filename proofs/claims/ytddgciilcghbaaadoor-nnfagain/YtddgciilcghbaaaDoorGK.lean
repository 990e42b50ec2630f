/- Plans: how they lie in memory; nnf.planOf, plan.fits. -/
import Derived.Test.YtddgciilcghbaaaDoorGG
import Derived.Test.YtddgciilcghbaaaDoorGF
import Derived.Deep.RegionLaw
import Derived.Deep.RegionHeld3
namespace Go.Proofs.YtddgciilcghbaaaDoor
open Go.RowKit Go.Shelf

/-- What a plan has come to, as far as it is counted. -/
def psz (t : Tr) : Nat := min t.size 1001
def pdp (t : Tr) : Nat := min t.depth 101
/-- A plan's kids lie in memory, in blocks of X: kv is the slice of them. -/
def IsQ (X : Nat → Prop) (w : World) : Tr → Value → Prop :=
  Tr.para (fun t rs kv => ∃ ad cap, kv = .slice ad t.kids.length cap ∧ (rs.length = 0 ∨ ∃ b off, ad = some ⟨b, off, none⟩ ∧ X b ∧
    ∀ i (h : i < rs.length), ∃ kv, w.cell? ⟨b, off + i * 5, none⟩ = some (.int .u8 ((t.kids[i]?.map Tr.op).getD 0 : Nat)) ∧ w.cell? ⟨b, off + i * 5 + 1, none⟩ = some (.string ((t.kids[i]?.map Tr.name).getD ⟨#[]⟩)) ∧ w.cell? ⟨b, off + i * 5 + 2, none⟩ = some kv ∧ w.cell? ⟨b, off + i * 5 + 3, none⟩ = some (.int .i64 ((t.kids[i]?.map psz).getD 0 : Nat)) ∧ w.cell? ⟨b, off + i * 5 + 4, none⟩ = some (.int .i64 ((t.kids[i]?.map pdp).getD 0 : Nat)) ∧ rs[i] kv))
/-- The five cells of a plan among others. -/
def Pl (w : World) (b o : Nat) (t : Tr) (kv : Value) : Prop := w.cell? ⟨b, o, none⟩ = some (.int .u8 (t.op : Nat)) ∧ w.cell? ⟨b, o + 1, none⟩ = some (.string t.name) ∧ w.cell? ⟨b, o + 2, none⟩ = some kv ∧ w.cell? ⟨b, o + 3, none⟩ = some (.int .i64 (psz t : Nat)) ∧ w.cell? ⟨b, o + 4, none⟩ = some (.int .i64 (pdp t : Nat))
theorem isQ_eq {X : Nat → Prop} {w : World} (t : Tr) (kv : Value) : IsQ X w t kv ↔ ∃ ad cap, kv = .slice ad t.kids.length cap ∧ (t.kids.length = 0 ∨ ∃ b off, ad = some ⟨b, off, none⟩ ∧ X b ∧
    ∀ i (h : i < t.kids.length), ∃ kv, Pl w b (off + i * 5) t.kids[i] kv ∧ IsQ X w t.kids[i] kv) := by
  unfold IsQ
  rw [Tr.para_eq]
  simp only [List.length_map, List.getElem_map]
  refine exists_congr fun ad => exists_congr fun cap => and_congr_right fun _ => or_congr_right ?_
  refine exists_congr fun b => exists_congr fun off => and_congr_right fun _ => and_congr_right fun _ => ?_
  refine forall_congr' fun i => forall_congr' fun h => ?_
  simp [List.getElem?_eq_getElem h, Pl, and_assoc]
theorem Pl.cells {w w' : World} {b o : Nat} (hw : ∀ o v, w.cell? ⟨b, o, none⟩ = some v → w'.cell? ⟨b, o, none⟩ = some v) {t : Tr} {kv : Value} (h : Pl w b o t kv) : Pl w' b o t kv :=
  ⟨hw _ _ h.1, hw _ _ h.2.1, hw _ _ h.2.2.1, hw _ _ h.2.2.2.1, hw _ _ h.2.2.2.2⟩
theorem Pl.kept {w w' : World} (k : Kept [] w w') {b o : Nat} {t : Tr} {kv : Value} (h : Pl w b o t kv) : Pl w' b o t kv := h.cells (fun _ _ c => cell_kept0 k c)
/-- What keeps these cells keeps the plan. -/
theorem IsQ.cells {X Y : Nat → Prop} {w w' : World} (hX : ∀ k, X k → k < w.heap.size → Y k) (hw : ∀ b o v, X b → w.cell? ⟨b, o, none⟩ = some v → w'.cell? ⟨b, o, none⟩ = some v) {t : Tr} : ∀ {kv : Value}, IsQ X w t kv → IsQ Y w' t kv := by
  induction t using Tr.ind with
  | h t ih =>
    intro kv h
    obtain ⟨ad, cap, e, h⟩ := (isQ_eq t kv).1 h
    refine (isQ_eq t kv).2 ⟨ad, cap, e, ?_⟩
    rcases Nat.eq_zero_or_pos t.kids.length with h0 | h0
    · exact .inl h0
    · obtain ⟨b, off, e1, hb, hk⟩ := h.resolve_left (by omega)
      obtain ⟨kv0, c0, _⟩ := hk 0 h0
      refine .inr ⟨b, off, e1, hX b hb (World.block_lt_of_cell? w _ c0.1), fun i hi => ?_⟩
      obtain ⟨kv', c, hr⟩ := hk i hi
      exact ⟨kv', c.cells (fun o v => hw b o v hb), ih _ (List.getElem_mem _) hr⟩
theorem IsQ.other {X : Nat → Prop} {W : World} {t : Tr} {kv : Value} (h : IsQ X W t kv) {B : Nat} (hB : ¬ X B) (o : Nat) (v : Value) : IsQ X (W.setCell ⟨B, o, none⟩ v) t kv :=
  h.cells (fun _ h _ => h) (fun b o' u hb hc => by
    rw [World.cell?_of_block (w := W) (a := ⟨b, o', none⟩) (Below.heap_setCell _ _ _ _ (fun e => hB (by have e' : b = B := e; rw [← e']; exact hb)))]; exact hc)
/-- A plan that lies in memory. -/
def IsP (w : World) (t : Tr) (kv : Value) : Prop := IsQ (fun k => k < w.heap.size) w t kv
theorem IsQ.isP {X : Nat → Prop} {w : World} {t : Tr} {kv : Value} (h : IsQ X w t kv) : IsP w t kv := IsQ.cells (fun _ _ h => h) (fun _ _ _ _ c => c) h
theorem isP_eq {w : World} (t : Tr) (kv : Value) : IsP w t kv ↔ ∃ ad cap, kv = .slice ad t.kids.length cap ∧ (t.kids.length = 0 ∨ ∃ b off, ad = some ⟨b, off, none⟩ ∧
    ∀ i (h : i < t.kids.length), ∃ kv, Pl w b (off + i * 5) t.kids[i] kv ∧ IsP w t.kids[i] kv) := by
  unfold IsP
  rw [isQ_eq]
  refine exists_congr fun ad => exists_congr fun cap => and_congr_right fun _ => ⟨fun h => h.imp id (fun ⟨b, off, e, _, hk⟩ => ⟨b, off, e, hk⟩), fun h => ?_⟩
  rcases Nat.eq_zero_or_pos t.kids.length with h0 | h0
  · exact .inl h0
  · obtain ⟨b, off, e, hk⟩ := h.resolve_left (by omega)
    obtain ⟨kv0, c0, _⟩ := hk 0 h0
    exact .inr ⟨b, off, e, World.block_lt_of_cell? w _ c0.1, hk⟩
theorem IsP.slice {w : World} {t : Tr} {kv : Value} (h : IsP w t kv) : ∃ ad cap, kv = .slice ad t.kids.length cap := by
  obtain ⟨ad, cap, e, _⟩ := (isP_eq t kv).1 h
  exact ⟨ad, cap, e⟩
theorem IsP.kid {w : World} {t : Tr} {ad : Option Addr} {n cap : Nat} (h : IsP w t (.slice ad n cap)) (h0 : 0 < t.kids.length) : ∃ b off, ad = some ⟨b, off, none⟩ ∧ ∀ i (h : i < t.kids.length), ∃ kv, Pl w b (off + i * 5) t.kids[i] kv ∧ IsP w t.kids[i] kv := by
  obtain ⟨ad', cap', e, h'⟩ := (isP_eq t _).1 h
  cases e
  exact h'.resolve_left (by omega)
theorem IsP.kept {w w' : World} (k : Kept [] w w') {t : Tr} {kv : Value} (h : IsP w t kv) : IsP w' t kv :=
  IsQ.cells (fun _ h _ => Nat.lt_of_lt_of_le h k.size) (fun _ _ _ _ c => cell_kept0 k c) h
/-- A plan of old has nothing in a new block. -/
theorem IsQ.apart {X : Nat → Prop} {w w' : World} (k : Kept [] w w') {t : Tr} {kv : Value} {B : Nat} (hB : w.heap.size ≤ B) (h : IsQ X w t kv) : IsQ (fun b => X b ∧ b ≠ B) w' t kv :=
  IsQ.cells (fun b hx (h : b < w.heap.size) => ⟨hx, by omega⟩) (fun _ _ _ _ c => cell_kept0 k c) h
theorem IsP.leaf (w : World) {t : Tr} (h : t.kids = []) (ad : Option Addr) (cap : Nat) : IsP w t (.slice ad 0 cap) :=
  (isP_eq t _).2 ⟨ad, cap, by rw [h]; rfl, .inl (by rw [h]; rfl)⟩
/-- A plan in a block of its own. -/
def Pl5 (W : World) (B : Nat) (a b c d e : Value) : Prop := W.heap[B]? = some (.cells #[a, b, c, d, e] 93 (0, 0))
theorem Pl5.cells {W : World} {B : Nat} {a b c d e : Value} (h : Pl5 W B a b c d e) : W.cell? ⟨B, 0, none⟩ = some a ∧ W.cell? ⟨B, 1, none⟩ = some b ∧ W.cell? ⟨B, 2, none⟩ = some c ∧ W.cell? ⟨B, 3, none⟩ = some d ∧ W.cell? ⟨B, 4, none⟩ = some e ∧ ∀ i, W.frozen? ⟨B, i, none⟩ = false :=
  ⟨(cell_of h 0).trans rfl, (cell_of h 1).trans rfl, (cell_of h 2).trans rfl, (cell_of h 3).trans rfl, (cell_of h 4).trans rfl, fun i => free_of h i⟩
theorem Pl5.kept {W W' : World} {B : Nat} {a b c d e : Value} (h : Pl5 W B a b c d e) (k : Kept [] W W') : Pl5 W' B a b c d e := k.at h (by simp)
theorem Pl5.set {W : World} {B : Nat} {a b c d e : Value} (h : Pl5 W B a b c d e) (a' b' c' d' e' : Value) : Pl5 (((((W.setCell ⟨B, 0, none⟩ a').setCell ⟨B, 1, none⟩ b').setCell ⟨B, 2, none⟩ c').setCell ⟨B, 3, none⟩ d').setCell ⟨B, 4, none⟩ e') B a' b' c' d' e' := by
  unfold Pl5; rw [row_set (row_set (row_set (row_set (row_set h a') b') c') d') e']; rfl
theorem ret_pl {fn : Func} {p : Tmp} {a : Act} {w : World} {g : Nat} {x y z u v : Value} {R : Ending → World → Prop} (h : fn.results = #[.cell p 93]) (hp : a.tmps.getD p undef = .pointer (some ⟨g, 0, none⟩)) (hd : a.defers = []) (hg : Pl5 w g x y z u v) (hR : R (.returned (.agg #[x, y, z, u, v])) w) : bodyPost Tryd.prog fn R .ret a w :=
  bodyPost_ret (results_cell_row h _ w g 93 _ _ _ hp hg Tryd.underlying93 rfl (by kernel_rfl)) hd hR
/-- The counts behind the first i kids. -/
def psI (ks : List Tr) (i : Nat) : Nat := min (1 + ((ks.take i).map Tr.size).sum) 1001
def pdI (ks : List Tr) (i : Nat) : Nat := min (1 + ((ks.take i).map Tr.depth).foldl max 0) 101
theorem psI_succ {ks : List Tr} {i : Nat} (h : i < ks.length) : psI ks (i + 1) = min (psI ks i + psz ks[i]) 1001 := by
  unfold psI psz
  rw [List.take_succ_eq_append_getElem h]
  simp only [List.map_append, List.sum_append, List.map_cons, List.map_nil, List.sum_cons, List.sum_nil]
  omega
theorem pdI_succ {ks : List Tr} {i : Nat} (h : i < ks.length) : pdI ks (i + 1) = min (max (pdI ks i) (pdp ks[i] + 1)) 101 := by
  unfold pdI pdp
  rw [List.take_succ_eq_append_getElem h]
  simp only [List.map_append, List.foldl_append, List.map_cons, List.map_nil, List.foldl_cons, List.foldl_nil]
  omega
theorem psI_all (o : Nat) (s : ByteArray) (ks : List Tr) : psI ks ks.length = psz ⟨o, s, ks⟩ := by
  unfold psI psz; rw [List.take_length, Tr.size_eq]
theorem pdI_all (o : Nat) (s : ByteArray) (ks : List Tr) : pdI ks ks.length = pdp ⟨o, s, ks⟩ := by
  unfold pdI pdp; rw [List.take_length, Tr.depth_eq]
structure PlAt (w : World) (o : Nat) (v : Value) (ks : List Tr) (i : Nat) (wr : World) : Prop where
  kept : Kept [] w wr
  res : Pl5 wr w.heap.size (.int .u8 0) (.string ⟨#[]⟩) (.slice none 0 0) (.int .i64 0) (.int .i64 0)
  pl : Pl5 wr (w.heap.size + 1) (.int .u8 (o : Nat)) (.string ⟨#[]⟩) v (.int .i64 (psI ks i : Nat)) (.int .i64 (pdI ks i : Nat))
theorem PlAt.next {w wr : World} {o : Nat} {v : Value} {ks : List Tr} {i : Nat} (h : PlAt w o v ks i wr) (ob : Obj) (x y : Int) (hx : x = (psI ks (i + 1) : Nat)) (hy : y = (pdI ks (i + 1) : Nat)) : PlAt w o v ks (i + 1) (((wr.setCell ⟨w.heap.size + 1, 3, none⟩ (.int .i64 x)).setCell ⟨w.heap.size + 1, 4, none⟩ (.int .i64 y)).alloc ob) := by
  subst hx; subst hy
  refine ⟨((h.kept.setCell (p := ⟨w.heap.size + 1, 3, none⟩) (.inr (by show w.heap.size ≤ w.heap.size + 1; omega)) _).setCell (p := ⟨w.heap.size + 1, 4, none⟩) (.inr (by show w.heap.size ≤ w.heap.size + 1; omega)) _).alloc ob, ?_, ?_⟩
  · exact alUp ((Below.heap_setCell _ _ _ _ (by show w.heap.size ≠ w.heap.size + 1; omega)).trans ((Below.heap_setCell _ _ _ _ (by show w.heap.size ≠ w.heap.size + 1; omega)).trans h.res)) ob
  · refine alUp ?_ ob
    rw [row_set (row_set h.pl _) _]; rfl

set_option maxHeartbeats 1000000 in
set_option maxRecDepth 20000 in
theorem planOf_any (o : Nat) (ks : List Tr) (ad : Option Addr) (cap : Nat) (w : World) (hI : IsP w ⟨o, nE, ks⟩ (.slice ad ks.length cap)) (hl : ks.length ≤ 1000) :
    Calls Tryd.prog 135 #[.int .u8 (o : Nat), .slice ad ks.length cap] w fun e w' => e = .returned (.agg #[.int .u8 (o : Nat), .string nE, .slice ad ks.length cap, .int .i64 (psz ⟨o, nE, ks⟩ : Nat), .int .i64 (pdp ⟨o, nE, ks⟩ : Nat)]) ∧ Kept [] w w' := by
  have HI : Hid (IsP w ⟨o, nE, ks⟩ (.slice ad ks.length cap)) := hI
  clear hI
  go_enter Tryd.func135, Tryd.ntmps135
  go_wp2
  go_loopw [13] (fun v wr => ∃ i : Nat, v = .int .i64 i ∧ i ≤ ks.length ∧ Hid (PlAt w o (.slice ad ks.length cap) ks i wr)) (fun v wr => ks.length - (intOf v).toNat)
  case atStart =>
    exact ⟨0, rfl, Nat.zero_le _, ⟨((Kept.refl [] w).alloc _).alloc _, alUp (al0 w _) _, al1 w _ _⟩⟩
  case round =>
    obtain ⟨i, rfl, hi, HR⟩ := hrel
    obtain ⟨c0, c1, c2, c3, c4, cf⟩ := HR.out.pl.cells
    by_cases hlt : i < ks.length
    · obtain ⟨kb, off, rfl, hk⟩ := HI.out.kid (show 0 < ks.length by omega)
      obtain ⟨kv, hP, hIk⟩ := hk i hlt
      obtain ⟨kad, kcap, rfl⟩ := hIk.slice
      replace hP : Pl w kb (off + i * 5) ks[i] (.slice kad ks[i].kids.length kcap) := hP
      have hS := psI_succ hlt
      have hD := pdI_succ hlt
      obtain ⟨k, hkk⟩ : ∃ k, ks[i] = k := ⟨_, rfl⟩
      rw [hkk] at hP hS hD
      obtain ⟨e0, e1, e2, e3, e4⟩ := hP.kept HR.out.kept
      have lk : kb < wr.heap.size := World.block_lt_of_cell? wr _ e0
      have lw := lt_of HR.out.pl
      have nk1 : ¬ kb = wr.heap.size := by omega
      have nk2 : ¬ wr.heap.size = kb := by omega
      have nw1 : ¬ w.heap.size + 1 = wr.heap.size := by omega
      have nw2 : ¬ wr.heap.size = w.heap.size + 1 := by omega
      have hii : (i : Int) < (ks.length : Int) := by omega
      obtain ⟨a, ha⟩ : ∃ a, psI ks i = a := ⟨_, rfl⟩
      obtain ⟨d, hd⟩ : ∃ d, pdI ks i = d := ⟨_, rfl⟩
      obtain ⟨s, hs⟩ : ∃ s, psz k = s := ⟨_, rfl⟩
      obtain ⟨p, hp⟩ : ∃ p, pdp k = p := ⟨_, rfl⟩
      have ba : a ≤ 1001 := by rw [← ha]; unfold psI; omega
      have bd : d ≤ 101 := by rw [← hd]; unfold pdI; omega
      have bs : s ≤ 1001 := by rw [← hs]; unfold psz; omega
      have bp : p ≤ 101 := by rw [← hp]; unfold pdp; omega
      rw [ha, hs] at hS
      rw [hd, hp] at hD
      rw [ha] at c3
      rw [hd] at c4
      rw [hs] at e3
      rw [hp] at e4
      have HS : Hid _ := hS
      have HD : Hid _ := hD
      clear hP hIk hk hS hD ha hd hs hp hkk hlt
      have ex : min ((a : Int) + (s : Int)) 1001 = ((psI ks (i + 1) : Nat) : Int) := by rw [HS.out]; omega
      have ey : min (max (d : Int) ((p : Int) + 1)) 101 = ((pdI ks (i + 1) : Nat) : Int) := by rw [HD.out]; omega
      have HX : Hid _ := ex
      have HY : Hid _ := ey
      clear ex ey
      go_wp2
      go_roundw
      case rel => exact ⟨i + 1, by go_num, by omega, HR.out.next _ _ _ HX.out HY.out⟩
      case measure => simp [intOf]; omega
    · obtain rfl : i = ks.length := by omega
      obtain ⟨d0, d1, d2, d3, d4, df⟩ := HR.out.res.cells
      clear hlt
      go_wp2
      refine ret_pl rfl rfl rfl (HR.out.res.set _ _ _ _ _) ⟨?_, ?_⟩
      · rw [psI_all o nE ks, pdI_all o nE ks]; rfl
      · exact ((((HR.out.kept.setCell (p := ⟨w.heap.size, 0, none⟩) (.inr (Nat.le_refl _)) _).setCell (p := ⟨w.heap.size, 1, none⟩) (.inr (Nat.le_refl _)) _).setCell (p := ⟨w.heap.size, 2, none⟩) (.inr (Nat.le_refl _)) _).setCell (p := ⟨w.heap.size, 3, none⟩) (.inr (Nat.le_refl _)) _).setCell (p := ⟨w.heap.size, 4, none⟩) (.inr (Nat.le_refl _)) _
end Go.Proofs.YtddgciilcghbaaaDoor

/- plan.fits, plan.formula: a formula made of a plan. -/
namespace Go.Proofs.YtddgciilcghbaaaDoor
open Go.RowKit Go.Shelf

/-- Is it within the bounds. -/
def fitB (t : Tr) : Bool := decide (t.size ≤ 1000) && decide (t.depth ≤ 100)
set_option maxHeartbeats 400000 in
theorem fitsP_any (t : Tr) (kad : Option Addr) (n kcap : Nat) (w : World) :
    Calls Tryd.prog 106 #[.agg #[.int .u8 (t.op : Nat), .string t.name, .slice kad n kcap, .int .i64 (psz t : Nat), .int .i64 (pdp t : Nat)]] w fun e w' => e = .returned (.bool (fitB t)) ∧ Kept [] w w' := by
  obtain ⟨a, ha⟩ : ∃ a, psz t = a := ⟨_, rfl⟩
  obtain ⟨d, hd⟩ : ∃ d, pdp t = d := ⟨_, rfl⟩
  have e1 : decide (t.size ≤ 1000) = decide (a ≤ 1000) := by rw [decide_eq_decide, ← ha]; unfold psz; omega
  have e2 : decide (t.depth ≤ 100) = decide (d ≤ 100) := by rw [decide_eq_decide, ← hd]; unfold pdp; omega
  rw [ha, hd]
  unfold fitB
  rw [e1, e2]
  clear ha hd e1 e2
  by_cases h1 : (a : Int) ≤ 1000
  · have e1 : decide (a ≤ 1000) = true := by rw [decide_eq_true_iff]; omega
    rw [e1]
    by_cases h2 : (d : Int) ≤ 100
    · have e2 : decide (d ≤ 100) = true := by rw [decide_eq_true_iff]; omega
      rw [e2]
      clear e1 e2
      go_enter Tryd.func106, Tryd.ntmps106
      go_wp2
      go_ret
      exact ⟨rfl, (Kept.refl _ _).alloc _⟩
    · have e2 : decide (d ≤ 100) = false := by rw [decide_eq_false_iff_not]; omega
      rw [e2]
      clear e1 e2
      go_enter Tryd.func106, Tryd.ntmps106
      go_wp2
      go_ret
      exact ⟨rfl, (Kept.refl _ _).alloc _⟩
  · have e1 : decide (a ≤ 1000) = false := by rw [decide_eq_false_iff_not]; omega
    rw [e1]
    clear e1
    go_enter Tryd.func106, Tryd.ntmps106
    go_wp2
    go_ret
    exact ⟨rfl, (Kept.refl _ _).alloc _⟩

/-- A list of formulas that grows: its first cells in a row of its own, what hangs on them elsewhere. -/
def rowV (ts : List Tr) (kvs : List Value) : List Value := (ts.zip kvs).flatMap fun x => [.int .u8 (x.1.op : Nat), .string x.1.name, x.2]
theorem rowV_snoc (ts : List Tr) (kvs : List Value) (h : ts.length = kvs.length) (t : Tr) (kv : Value) : rowV (ts ++ [t]) (kvs ++ [kv]) = rowV ts kvs ++ [.int .u8 (t.op : Nat), .string t.name, kv] := by
  unfold rowV
  rw [List.zip_append h, List.flatMap_append]
  rfl
theorem rowV_length (ts : List Tr) (kvs : List Value) (h : ts.length = kvs.length) : (rowV ts kvs).length = ts.length * 3 := by
  unfold rowV
  rw [List.length_flatMap]
  simp only [List.length_cons, List.length_nil, List.map_const', List.sum_replicate_nat, List.length_zip, h, Nat.min_self]
theorem rowV_at : ∀ (ts : List Tr) (kvs : List Value) (i : Nat) (h : i < ts.length) (h' : i < kvs.length), (rowV ts kvs)[i * 3]? = some (.int .u8 (ts[i].op : Nat)) ∧ (rowV ts kvs)[i * 3 + 1]? = some (.string ts[i].name) ∧ (rowV ts kvs)[i * 3 + 2]? = some kvs[i]
  | [], _, _, h, _ => by cases h
  | _ :: _, [], _, _, h => by cases h
  | t :: ts, kv :: kvs, 0, _, _ => ⟨rfl, rfl, rfl⟩
  | t :: ts, kv :: kvs, i + 1, h, h' => by
    obtain ⟨q0, q1, q2⟩ := rowV_at ts kvs i (by simpa using h) (by simpa using h')
    have e : rowV (t :: ts) (kv :: kvs) = [.int .u8 (t.op : Nat), .string t.name, kv] ++ rowV ts kvs := rfl
    refine ⟨?_, ?_, ?_⟩
    · rw [e, show (i + 1) * 3 = 3 + i * 3 by omega, List.getElem?_append_right (by simp)]; simpa using q0
    · rw [e, show (i + 1) * 3 + 1 = 3 + (i * 3 + 1) by omega, List.getElem?_append_right (by simp)]; simpa using q1
    · rw [e, show (i + 1) * 3 + 2 = 3 + (i * 3 + 2) by omega, List.getElem?_append_right (by simp)]; simpa using q2
theorem IsT.lt {X : Nat → Prop} {w : World} {t : Tr} {kv : Value} (h : IsT X w t kv) : IsT (fun k => X k ∧ k < w.heap.size) w t kv := by
  induction t using Tr.ind generalizing kv with
  | h t ih =>
    obtain ⟨ad, cap, e, h⟩ := (isT_eq t kv).1 h
    refine (isT_eq t kv).2 ⟨ad, cap, e, ?_⟩
    rcases Nat.eq_zero_or_pos t.kids.length with h0 | h0
    · exact .inl h0
    · obtain ⟨b, off, e1, hb, hk⟩ := h.resolve_left (by omega)
      obtain ⟨kv0, c0, _⟩ := hk 0 h0
      refine .inr ⟨b, off, e1, ⟨hb, World.block_lt_of_cell? w _ c0⟩, fun i hi => ?_⟩
      obtain ⟨kv', c0, c1, c2, hr⟩ := hk i hi
      exact ⟨kv', c0, c1, c2, ih _ (List.getElem_mem _) hr⟩
/-- The new formula in its box, with its first kids. -/
structure Fml (w : World) (o : Nat) (s : ByteArray) (us : List Tr) (W : World) (v : Value) : Prop where
  kept : Kept [] w W
  res : For3 W (w.heap.size + 1) (.int .u8 0) (.string ⟨#[]⟩) (.slice none 0 0)
  box : For3 W (w.heap.size + 1 + 1) (.int .u8 (o : Nat)) (.string s) v
  own : ∃ kvs, us.length = kvs.length ∧ W.ownsRow (w.heap.size + 1 + 1 + 1) 25 3 v us.length (rowV us kvs) ∧ ∀ i (h : i < us.length) (h' : i < kvs.length), IsT (fun k => w.heap.size + 1 + 1 + 1 ≤ k ∧ v.ownBlock ≠ some k) W us[i] kvs[i]
theorem Fml.app {w W U : World} {o : Nat} {s : ByteArray} {us : List Tr} {v : Value} (h : Fml w o s us W v) (k : Kept [] W U) {u : Tr} {kv : Value} (hI : IsT (fun b => W.heap.size ≤ b) U u kv) (hk1 : kv.oneCell' = true) (hl : us.length ≤ 1000) :
    ∃ g n cp w3, (∀ ty, (Builtin.append_ #[23, 23] ty #[v, .slice (some ⟨U.heap.size, 0, none⟩) 1 1]).run Tryd.prog (U.alloc (.cells #[.int .u8 (u.op : Nat), .string u.name, kv] 25)) = .ok (.slice (some ⟨g, 0, none⟩) n cp) w3) ∧ For3 w3 (w.heap.size + 1 + 1) (.int .u8 (o : Nat)) (.string s) v ∧ Fml w o s (us ++ [u]) (w3.setCell ⟨w.heap.size + 1 + 1, 2, none⟩ (.slice (some ⟨g, 0, none⟩) n cp)) (.slice (some ⟨g, 0, none⟩) n cp) := by
  obtain ⟨kvs, hkl, hown, hts⟩ := h.own
  have hbl := lt_of h.box
  have hWU := k.size
  have kU : Kept [] W (U.alloc (.cells #[.int .u8 (u.op : Nat), .string u.name, kv] 25)) := k.alloc _
  obtain ⟨i0, hi, hz0, hz1, hz2⟩ := info_parts Tryd.infoFor
  have hown2 : (U.alloc (.cells #[.int .u8 (u.op : Nat), .string u.name, kv] 25)).ownsRow (w.heap.size + 1 + 1 + 1) 25 3 v us.length (rowV us kvs) := by
    refine ⟨hown.1, ?_⟩
    rcases hown.2 with hn | ⟨g, cap, cur, rfl, hb, hgg, rest⟩
    · exact .inl hn
    · exact .inr ⟨g, cap, cur, rfl, hb, kU.at hgg (by simp), rest⟩
  have hnew := heap_alloc_new U (.cells #[.int .u8 (u.op : Nat), .string u.name, kv] 25)
  obtain ⟨g, cap, w3, hr, h1, h2, h3, h4⟩ := run_append_lies (P := Tryd.prog) (U.alloc (.cells #[.int .u8 (u.op : Nat), .string u.name, kv] 25)) 23 0 (w.heap.size + 1 + 1 + 1) 25 i0 _ 3 48 Tryd.underlying23 hi hz0 hz1 hz2 rfl (by decide) v _ _ hown2 ⟨U.heap.size, 0, none⟩ 1 1 [.int .u8 (u.op : Nat), .string u.name, kv] rfl
    (fun j x hj => by
      rw [show (⟨U.heap.size, 0, none⟩ : Addr).add j = ⟨U.heap.size, j, none⟩ from by unfold Addr.add; by_cases h : j = 0 <;> simp [h], cell_of hnew, ← hj, ← List.getElem?_toArray])
    (fun x hx => by
      simp only [List.mem_cons, List.not_mem_nil, or_false] at hx
      rcases hx with rfl | rfl | rfl
      · rfl
      · rfl
      · exact hk1) (by decide) (by unfold maxLen; omega) (by omega) (by rw [World.size_alloc]; omega) _ rfl
  have hb3 : ∀ b, b < U.heap.size + 1 → v.ownBlock ≠ some b → w3.heap[b]? = (U.alloc (.cells #[.int .u8 (u.op : Nat), .string u.name, kv] 25)).heap[b]? := fun b hb hne => h2.block b (by rw [World.size_alloc]; exact hb) (fun e => hne e.symm)
  have hlow : ∀ b, v.ownBlock = some b → w.heap.size + 1 + 1 + 1 ≤ b ∧ b < W.heap.size := fun b e => hown.lt b e
  have hbx : For3 w3 (w.heap.size + 1 + 1) (.int .u8 (o : Nat)) (.string s) v := (hb3 _ (by omega) (fun e => by have := (hlow _ e).1; omega)).trans (h.box.kept kU)
  refine ⟨g, us.length + 1, cap, w3, fun ty => hr, hbx, ?_, ?_, ?_, kvs ++ [kv], by simp [hkl], ?_, ?_⟩
  · exact ((h.kept.trans kU (H := []) (by simp) (by simp)).grown h2 (fun b e => .inr (by have := (hlow b e).1; omega))).setCell (p := ⟨w.heap.size + 1 + 1, 2, none⟩) (.inr (by show w.heap.size ≤ w.heap.size + 1 + 1; omega)) _
  · exact (Below.heap_setCell _ _ _ _ (by show w.heap.size + 1 ≠ w.heap.size + 1 + 1; omega)).trans ((hb3 _ (by omega) (fun e => by have := (hlow _ e).1; omega)).trans (h.res.kept kU))
  · unfold For3; rw [row_set hbx]; rfl
  · rw [List.length_append, List.length_singleton, rowV_snoc us kvs hkl]
    refine ⟨h1.1, ?_⟩
    rcases h1.2 with ⟨e, _⟩ | ⟨g', cap', cur, e, hb, hgg, rest⟩
    · cases e
    · exact .inr ⟨g', cap', cur, e, hb, (Below.heap_setCell _ _ _ _ (by show g' ≠ w.heap.size + 1 + 1; omega)).trans hgg, rest⟩
  · intro i hi1 hi2
    have hnb : ¬ (w.heap.size + 1 + 1 + 1 ≤ w.heap.size + 1 + 1 ∧ (Value.slice (some ⟨g, 0, none⟩) (us.length + 1) cap).ownBlock ≠ some (w.heap.size + 1 + 1)) := fun h => by omega
    refine IsT.other ?_ hnb _ _
    by_cases hlt : i < us.length
    · have e1 : (us ++ [u])[i] = us[i] := List.getElem_append_left hlt
      have e2 : (kvs ++ [kv])[i] = kvs[i]'(by omega) := List.getElem_append_left (by omega)
      rw [e1, e2]
      refine IsT.keep (fun b hb => ?_) (fun b ob hb hob => ?_) (hts i hlt (by omega)).lt
      · refine ⟨hb.1.1, fun e => ?_⟩
        have e' : g = b := by simpa [Value.ownBlock] using e
        rcases h3 with h3 | h3
        · exact hb.1.2 (by rw [← e']; exact h3)
        · rw [World.size_alloc] at h3; have := hb.2; omega
      · rw [hb3 b (by have := hb.2; omega) hb.1.2]
        exact kU.at hob (by simp)
    · have e0 : i = us.length := by rw [List.length_append, List.length_singleton] at hi1; omega
      subst e0
      have e1 : (us ++ [u])[us.length] = u := by rw [List.getElem_append_right (Nat.le_refl _)]; simp
      have e2 : (kvs ++ [kv])[us.length] = kv := by rw [List.getElem_append_right (by omega)]; simp
      rw [e1, e2]
      have hu2 : Kept [] U (U.alloc (.cells #[.int .u8 (u.op : Nat), .string u.name, kv] 25)) := (Kept.refl [] U).alloc _
      refine IsT.keep (fun b hb => ?_) (fun b ob hb hob => ?_) hI.lt
      · refine ⟨by have := hb.1; omega, fun e => ?_⟩
        have e' : g = b := by simpa [Value.ownBlock] using e
        rcases h3 with h3 | h3
        · have := (hlow _ h3).2; have := hb.1; omega
        · rw [World.size_alloc] at h3; have := hb.2; omega
      · rw [hb3 b (by have := hb.2; omega) (fun e => by have := (hlow _ e).2; have := hb.1; omega)]
        exact hu2.at hob (by simp)
/-- The formula, as it is handed out. -/
theorem Fml.isT {w W : World} {o : Nat} {s : ByteArray} {us : List Tr} {v : Value} (h : Fml w o s us W v) : ∃ ad cap, v = .slice ad us.length cap ∧ IsT (fun b => w.heap.size + 1 + 1 + 1 ≤ b) W ⟨o, s, us⟩ v := by
  obtain ⟨kvs, hkl, hown, hts⟩ := h.own
  rcases hown.2 with ⟨e, h0⟩ | ⟨g, cap, cur, rfl, hb, hgg, rest⟩
  · exact ⟨none, 0, by rw [h0]; exact e, (isT_eq _ _).2 ⟨none, 0, by show v = .slice none us.length 0; rw [h0]; exact e, .inl h0⟩⟩
  · refine ⟨_, cap, rfl, (isT_eq _ _).2 ⟨_, cap, rfl, .inr ⟨g, 0, rfl, hb, fun i hi => ?_⟩⟩⟩
    have hi' : i < us.length := hi
    obtain ⟨q0, q1, q2⟩ := rowV_at us kvs i hi' (by omega)
    refine ⟨kvs[i]'(by omega), ?_, ?_, ?_, (hts i hi' (by omega)).mono (fun b hb => hb.1)⟩
    · rw [Nat.zero_add, hown.cellAt _ (by omega)]; exact q0
    · rw [Nat.zero_add, hown.cellAt _ (by omega)]; exact q1
    · rw [Nat.zero_add, hown.cellAt _ (by omega)]; exact q2
theorem step_append_eq {P : Program} {ops : Array Oper} {o : Oper} {a : Act} {w : World} {K : Act → World → Prop} {Q : Exit → Act → World → Prop} {E : Prop}
    (hg : o.guard = none) (s x : Operand) (t : TypeId) (hop : o.op = Op.call { callee := Callee.builtin Builtin.append, args := #[s, x], argTypes := #[t, t] })
    (v u v' : Value) (w' : World) (hs : a.eval s = v) (hx : a.eval x = u) (hrun : (Builtin.append_ #[t, t] o.type #[v, u]).run P w = .ok v' w') (hK : K (a.put o.dst v') w') :
    if Region.wanted o (yielded ops a.tmps) = true then Oper.wp P o a w K Q else E := by
  have hw : Region.wanted o (yielded ops a.tmps) = true := by simp [Region.wanted, hg]
  rw [if_pos hw]
  unfold Oper.wp
  simp [execOp, hop, resolve, invoke, builtin, hs, hx, hrun, Result.andThen]
  exact hK
theorem Tr.eta (t : Tr) : (⟨t.op, t.name, t.kids⟩ : Tr) = t := by cases t; rfl
theorem nf_len {w W : World} {o : Nat} {s : ByteArray} {us : List Tr} {ad : Option Addr} {n m cap : Nat} (h : Fml w o s us W (.slice ad n cap)) (hm : us.length = m) : n = m := by
  obtain ⟨_, _, e, _⟩ := h.isT
  cases e; exact hm
def FormDoes (t : Tr) : Prop := ∀ (kv : Value) (w : World), IsP w t kv → t.size ≤ 1000 → Calls Tryd.prog 107 #[.agg #[.int .u8 (t.op : Nat), .string t.name, kv, .int .i64 (psz t : Nat), .int .i64 (pdp t : Nat)]] w fun e w' =>
  ∃ kad kcap, e = .returned (.agg #[.int .u8 (t.op : Nat), .string t.name, .slice kad t.kids.length kcap]) ∧ IsT (fun b => w.heap.size ≤ b) w' t (.slice kad t.kids.length kcap) ∧ Kept [] w w'
set_option maxHeartbeats 2000000 in
set_option maxRecDepth 20000 in
theorem formula_any (t : Tr) : FormDoes t := by
  induction t using Tr.ind with
  | h t ih =>
    intro kv w hI hs
    have HIH : Hid (∀ k ∈ t.kids, FormDoes k) := ih
    obtain ⟨kad, kcap, rfl⟩ := hI.slice
    have HI : Hid (IsP w t (.slice kad t.kids.length kcap)) := hI
    have hkl := Tr.kids_size t
    clear ih hI
    go_enter Tryd.func107, Tryd.ntmps107
    go_wp2
    go_loopw [14] (fun v wr => ∃ (i : Nat) (fa : Option Addr) (fc : Nat), v = .int .i64 i ∧ i ≤ t.kids.length ∧ Hid (Fml w t.op t.name (t.kids.take i) wr (.slice fa i fc))) (fun v wr => t.kids.length - (intOf v).toNat)
    case atStart =>
      refine ⟨0, none, 0, rfl, Nat.zero_le _, ⟨(((Kept.refl [] w).alloc _).alloc _).alloc _, alUp (al1 w _ _) _, al2 w _ _ _, [], rfl, ⟨rfl, .inl ⟨rfl, rfl⟩⟩, fun i h => by simp at h⟩⟩
    case round =>
      obtain ⟨i, fa, fc, rfl, hi, HR⟩ := hrel
      obtain ⟨b0, b1, b2, bf⟩ := HR.out.box.cells
      have lw := lt_of HR.out.box
      by_cases hlt : i < t.kids.length
      · obtain ⟨kb, off, rfl, hk⟩ := HI.out.kid (show 0 < t.kids.length by omega)
        obtain ⟨kv, hP, hIk⟩ := hk i hlt
        obtain ⟨ckad, ckcap, rfl⟩ := hIk.slice
        obtain ⟨k, hkk⟩ : ∃ k, t.kids[i] = k := ⟨_, rfl⟩
        have hkm : k ∈ t.kids := by rw [← hkk]; exact List.getElem_mem _
        have HTK : Hid (t.kids.take (i + 1) = t.kids.take i ++ [k]) := by show _ = _; rw [List.take_succ_eq_append_getElem hlt, hkk]
        rw [hkk] at hP hIk
        obtain ⟨e0, e1, e2, e3, e4⟩ := hP.kept HR.out.kept
        have lk : kb < wr.heap.size := World.block_lt_of_cell? wr _ e0
        have nk1 : ¬ kb = wr.heap.size := by omega
        have nk2 : ¬ wr.heap.size = kb := by omega
        have nw1 : ¬ w.heap.size + 1 + 1 = wr.heap.size := by omega
        have nw2 : ¬ wr.heap.size = w.heap.size + 1 + 1 := by omega
        have hii : (i : Int) < (t.kids.length : Int) := by omega
        have hsz := Tr.kid_size hkm
        have HREC : Hid (∀ W, Kept [] wr W → Calls Tryd.prog 107 #[.agg #[.int .u8 (k.op : Nat), .string k.name, .slice ckad k.kids.length ckcap, .int .i64 (psz k : Nat), .int .i64 (pdp k : Nat)]] W fun e w' => ∃ kad kcap, e = .returned (.agg #[.int .u8 (k.op : Nat), .string k.name, .slice kad k.kids.length kcap]) ∧ IsT (fun b => W.heap.size ≤ b) w' k (.slice kad k.kids.length kcap) ∧ Kept [] W w') :=
          fun W kW => HIH.out k hkm _ W ((hIk.kept HR.out.kept).kept kW) (by omega)
        have HLT : Hid ((t.kids.take i).length = i) := by show _ = _; rw [List.length_take]; omega
        have HLL : Hid ((t.kids.take i).length ≤ 1000) := by show _ ≤ _; rw [List.length_take]; omega
        have HKK : Hid (∀ o, Kept [] wr (wr.alloc o).drew) := fun o => ((Kept.refl [] wr).alloc o).drew
        clear hk hP hIk hkk hkm hlt hsz
        generalize psz k = ps at *
        generalize pdp k = pd at *
        go_wp2_with fail
        go_region_law (first | (refine step_append_eq (by rfl) _ _ _ (by rfl) _ _ _ _ (by rfl) (by rfl) (HRUN.out _) ?_) | (go_simp; go_at_call 107; refine (HREC.out _ (HKK.out _)).mono ?_; rintro e U ⟨ua, uc, rfl, hIu, kU⟩; have kU' : Kept [] wr U := (HKK.out _).trans kU (by simp) (by simp); obtain ⟨g, n3, cp, w3, hrun, hbx, hfm⟩ := HR.out.app kU' (u := k) (kv := .slice ua k.kids.length uc) (hIu.mono (fun b hb => by simp at hb; omega)) rfl HLL.out; have HRUN : Hid (∀ ty, (Builtin.append_ #[23, 23] ty #[.slice fa i fc, .slice (some ⟨U.heap.size, 0, none⟩) 1 1]).run Tryd.prog (U.alloc (.cells #[.int .u8 (k.op : Nat), .string k.name, .slice ua k.kids.length uc] 25)) = .ok (.slice (some ⟨g, 0, none⟩) n3 cp) w3) := hrun; have HN3 : Hid (n3 = i + 1) := nf_len hfm (by rw [List.length_append, HLT.out]; rfl); obtain ⟨g0, g1, g2, gf⟩ := hbx.cells; obtain ⟨h0, h1, h2, hf⟩ := (HR.out.box.kept kU').cells; have HFM : Hid (Fml w t.op t.name (t.kids.take i ++ [k]) (w3.setCell ⟨w.heap.size + 1 + 1, 2, none⟩ (.slice (some ⟨g, 0, none⟩) n3 cp)) (.slice (some ⟨g, 0, none⟩) n3 cp)) := hfm; have lU : w.heap.size + 1 + 1 < U.heap.size := Nat.lt_of_lt_of_le lw kU'.size; have nU1 : ¬ w.heap.size + 1 + 1 = U.heap.size := (by omega); have nU2 : ¬ U.heap.size = w.heap.size + 1 + 1 := (by omega); clear hrun hbx hfm hIu kU kU'))
        all_goals go_wp2
        all_goals go_roundw
        all_goals first
          | exact ⟨i + 1, some ⟨g, 0, none⟩, cp, by go_num, by omega, by rw [HTK.out, ← HN3.out]; exact HFM⟩
          | (simp [intOf]; omega)
      · obtain rfl : i = t.kids.length := by omega
        obtain ⟨d0, d1, d2, df⟩ := HR.out.res.cells
        clear hlt
        go_wp2
        obtain ⟨ad, cap, e, hT⟩ := HR.out.isT
        refine ret_for rfl rfl rfl (HR.out.res.set _ _ _) ⟨fa, fc, rfl, ?_, kept_set3 HR.out.kept (by omega) _ _ _⟩
        rw [List.take_length] at hT
        rw [Tr.eta] at hT
        have hn : ¬ (w.heap.size + 1 + 1 + 1 ≤ w.heap.size + 1) := by omega
        exact (((hT.other hn _ _).other hn _ _).other hn _ _).mono (fun b hb => by omega)
end Go.Proofs.YtddgciilcghbaaaDoor

/- Pairs of plans; the four that join two plans (and, or, until, release). -/
namespace Go.Proofs.YtddgciilcghbaaaDoor
open Go.RowKit Go.Shelf

/-- Two plans side by side make the kids of a third. -/
theorem isQ_two {X : Nat → Prop} {W : World} {B o : Nat} {a b : Tr} {ka kb : Value} (hX : X B) (hg : W.heap[B]? = some (.cells #[.int .u8 (a.op : Nat), .string a.name, ka, .int .i64 (psz a : Nat), .int .i64 (pdp a : Nat), .int .u8 (b.op : Nat), .string b.name, kb, .int .i64 (psz b : Nat), .int .i64 (pdp b : Nat)] 93 (0, 0))) (ha : IsQ X W a ka) (hb : IsQ X W b kb) : IsQ X W (nn2 o a b) (.slice (some ⟨B, 0, none⟩) 2 2) := by
  refine (isQ_eq _ _).2 ⟨some ⟨B, 0, none⟩, 2, rfl, .inr ⟨B, 0, rfl, hX, fun i hi => ?_⟩⟩
  replace hi : i < 2 := hi
  rcases (by omega : i = 0 ∨ i = 1) with rfl | rfl
  · exact ⟨ka, ⟨(cell_of hg 0).trans rfl, (cell_of hg 1).trans rfl, (cell_of hg 2).trans rfl, (cell_of hg 3).trans rfl, (cell_of hg 4).trans rfl⟩, ha⟩
  · exact ⟨kb, ⟨(cell_of hg 5).trans rfl, (cell_of hg 6).trans rfl, (cell_of hg 7).trans rfl, (cell_of hg 8).trans rfl, (cell_of hg 9).trans rfl⟩, hb⟩
theorem isQ_one {X : Nat → Prop} {W : World} {B o : Nat} {a : Tr} {ka : Value} (hX : X B) (hg : W.heap[B]? = some (.cells #[.int .u8 (a.op : Nat), .string a.name, ka, .int .i64 (psz a : Nat), .int .i64 (pdp a : Nat)] 93 (0, 0))) (ha : IsQ X W a ka) : IsQ X W (nn1 o a) (.slice (some ⟨B, 0, none⟩) 1 1) := by
  refine (isQ_eq _ _).2 ⟨some ⟨B, 0, none⟩, 1, rfl, .inr ⟨B, 0, rfl, hX, fun i hi => ?_⟩⟩
  replace hi : i < 1 := hi
  rcases (by omega : i = 0) with rfl
  exact ⟨ka, ⟨(cell_of hg 0).trans rfl, (cell_of hg 1).trans rfl, (cell_of hg 2).trans rfl, (cell_of hg 3).trans rfl, (cell_of hg 4).trans rfl⟩, ha⟩
theorem IsQ.kept {X : Nat → Prop} {w w' : World} (k : Kept [] w w') {t : Tr} {kv : Value} (h : IsQ X w t kv) : IsQ X w' t kv := h.cells (fun _ h _ => h) (fun _ _ _ _ c => cell_kept0 k c)
/-- Stored in a box that the plan has nothing in. -/
theorem IsQ.set5 {X : Nat → Prop} {W : World} {B : Nat} {t : Tr} {kv : Value} (h : IsQ (fun b => X b ∧ b ≠ B) W t kv) (a b c d e : Value) : IsQ X (((((W.setCell ⟨B, 0, none⟩ a).setCell ⟨B, 1, none⟩ b).setCell ⟨B, 2, none⟩ c).setCell ⟨B, 3, none⟩ d).setCell ⟨B, 4, none⟩ e) t kv := by
  have hB : ¬ (X B ∧ B ≠ B) := fun h => h.2 rfl
  exact (((((h.other hB _ _).other hB _ _).other hB _ _).other hB _ _).other hB _ _).cells (fun _ h _ => h.1) (fun _ _ _ _ c => c)
/-- A plan that is stored in a box of its own leaves what lies elsewhere. -/
theorem kept_set5 {w W : World} {B : Nat} (k : Kept [] w W) (hB : w.heap.size ≤ B) (a b c d e : Value) : Kept [] w (((((W.setCell ⟨B, 0, none⟩ a).setCell ⟨B, 1, none⟩ b).setCell ⟨B, 2, none⟩ c).setCell ⟨B, 3, none⟩ d).setCell ⟨B, 4, none⟩ e) :=
  ((((k.setCell (p := ⟨B, 0, none⟩) (.inr hB) a).setCell (p := ⟨B, 1, none⟩) (.inr hB) b).setCell (p := ⟨B, 2, none⟩) (.inr hB) c).setCell (p := ⟨B, 3, none⟩) (.inr hB) d).setCell (p := ⟨B, 4, none⟩) (.inr hB) e
/-- A plan as a value. -/
def plA (t : Tr) (ad : Option Addr) (c : Nat) : Value := .agg #[.int .u8 (t.op : Nat), .string t.name, .slice ad t.kids.length c, .int .i64 (psz t : Nat), .int .i64 (pdp t : Nat)]
/-- What joins two plans does. -/
def Joins (f o : Nat) : Prop := ∀ (X : Nat → Prop) (a b : Tr) (aa ba : Option Addr) (ac bc : Nat) (w : World), (∀ k, w.heap.size ≤ k → X k) → IsQ X w a (.slice aa a.kids.length ac) → IsQ X w b (.slice ba b.kids.length bc) →
  Calls Tryd.prog f #[plA a aa ac, plA b ba bc] w fun e w' => ∃ ad, e = .returned (plA (nn2 o a b) ad 2) ∧ IsQ X w' (nn2 o a b) (.slice ad 2 2) ∧ Kept [] w w'
set_option maxHeartbeats 1000000 in
set_option maxRecDepth 20000 in
theorem join_and : Joins 136 5 := by
  intro X a b aa ba ac bc w hX ha hb
  unfold plA
  obtain ⟨V, hV⟩ : ∃ V, (((w.alloc (.cells #[.int .u8 (a.op : Nat), .string a.name, .slice aa a.kids.length ac, .int .i64 (psz a : Nat), .int .i64 (pdp a : Nat)] 93)).alloc (.cells #[.int .u8 (b.op : Nat), .string b.name, .slice ba b.kids.length bc, .int .i64 (psz b : Nat), .int .i64 (pdp b : Nat)] 93)).alloc (.cells #[.int .u8 0, .string ⟨#[]⟩, .slice none 0 0, .int .i64 0, .int .i64 0] 93)).alloc (.cells #[.int .u8 (a.op : Nat), .string a.name, .slice aa a.kids.length ac, .int .i64 (psz a : Nat), .int .i64 (pdp a : Nat), .int .u8 (b.op : Nat), .string b.name, .slice ba b.kids.length bc, .int .i64 (psz b : Nat), .int .i64 (pdp b : Nat)] 93) = V := ⟨_, rfl⟩
  have k4 : Kept [] w V := by rw [← hV]; exact ((((Kept.refl [] w).alloc _).alloc _).alloc _).alloc _
  have hP : IsQ (fun b => X b ∧ b ≠ w.heap.size + 1 + 1) V (nn2 5 a b) (.slice (some ⟨w.heap.size + 1 + 1 + 1, 0, none⟩) 2 2) := isQ_two ⟨hX _ (by omega), by omega⟩ (by rw [← hV]; exact al3 w _ _ _ _) (ha.apart k4 (by omega)) (hb.apart k4 (by omega))
  have hz : Pl5 V (w.heap.size + 1 + 1) (.int .u8 0) (.string ⟨#[]⟩) (.slice none 0 0) (.int .i64 0) (.int .i64 0) := by rw [← hV]; exact alUp (al2 w _ _ _) _
  have HC : Hid (Calls Tryd.prog 135 #[.int .u8 5, .slice (some ⟨w.heap.size + 1 + 1 + 1, 0, none⟩) 2 2] V fun e w' => e = .returned (.agg #[.int .u8 5, .string nE, .slice (some ⟨w.heap.size + 1 + 1 + 1, 0, none⟩) 2 2, .int .i64 (psz (nn2 5 a b) : Nat), .int .i64 (pdp (nn2 5 a b) : Nat)]) ∧ Pl5 w' (w.heap.size + 1 + 1) (.int .u8 0) (.string ⟨#[]⟩) (.slice none 0 0) (.int .i64 0) (.int .i64 0) ∧ IsQ (fun b => X b ∧ b ≠ w.heap.size + 1 + 1) w' (nn2 5 a b) (.slice (some ⟨w.heap.size + 1 + 1 + 1, 0, none⟩) 2 2) ∧ Kept [] w w') := by
    refine (planOf_any 5 [a, b] (some ⟨w.heap.size + 1 + 1 + 1, 0, none⟩) 2 V hP.isP (show 2 ≤ 1000 by decide)).mono ?_
    rintro e w' ⟨rfl, k⟩
    exact ⟨rfl, hz.kept k, hP.kept k, k4.trans k (by simp) (by simp)⟩
  rw [← hV] at HC
  clear ha hb k4 hP hz hV V
  obtain ⟨x1, hx1⟩ : ∃ x, psz a = x := ⟨_, rfl⟩
  obtain ⟨x2, hx2⟩ : ∃ x, pdp a = x := ⟨_, rfl⟩
  obtain ⟨x3, hx3⟩ : ∃ x, psz b = x := ⟨_, rfl⟩
  obtain ⟨x4, hx4⟩ : ∃ x, pdp b = x := ⟨_, rfl⟩
  obtain ⟨x5, hx5⟩ : ∃ x, psz (nn2 5 a b) = x := ⟨_, rfl⟩
  obtain ⟨x6, hx6⟩ : ∃ x, pdp (nn2 5 a b) = x := ⟨_, rfl⟩
  rw [hx1, hx2, hx3, hx4, hx5, hx6] at HC
  rw [hx1, hx2, hx3, hx4, hx5, hx6]
  clear hx1 hx2 hx3 hx4 hx5 hx6
  go_enter Tryd.func136, Tryd.ntmps136
  go_wp2_with (go_at_call 135; refine HC.out.mono ?_; rintro e W2 ⟨rfl, z2, p2, k2⟩; obtain ⟨d0, d1, d2, d3, d4, df⟩ := z2.cells; have HZ : Hid (Pl5 W2 (w.heap.size + 1 + 1) (.int .u8 0) (.string ⟨#[]⟩) (.slice none 0 0) (.int .i64 0) (.int .i64 0)) := z2; have HK2 : Hid (Kept [] w W2) := k2; have HP2 : Hid (IsQ (fun b => X b ∧ b ≠ w.heap.size + 1 + 1) W2 (nn2 5 a b) (.slice (some ⟨w.heap.size + 1 + 1 + 1, 0, none⟩) 2 2)) := p2; clear z2 k2 p2)
  exact ret_pl rfl rfl rfl (HZ.out.set _ _ _ _ _) ⟨_, rfl, HP2.out.set5 _ _ _ _ _, kept_set5 HK2.out (by omega) _ _ _ _ _⟩
set_option maxHeartbeats 1000000 in
set_option maxRecDepth 20000 in
theorem join_or : Joins 137 6 := by
  intro X a b aa ba ac bc w hX ha hb
  unfold plA
  obtain ⟨V, hV⟩ : ∃ V, (((w.alloc (.cells #[.int .u8 (a.op : Nat), .string a.name, .slice aa a.kids.length ac, .int .i64 (psz a : Nat), .int .i64 (pdp a : Nat)] 93)).alloc (.cells #[.int .u8 (b.op : Nat), .string b.name, .slice ba b.kids.length bc, .int .i64 (psz b : Nat), .int .i64 (pdp b : Nat)] 93)).alloc (.cells #[.int .u8 0, .string ⟨#[]⟩, .slice none 0 0, .int .i64 0, .int .i64 0] 93)).alloc (.cells #[.int .u8 (a.op : Nat), .string a.name, .slice aa a.kids.length ac, .int .i64 (psz a : Nat), .int .i64 (pdp a : Nat), .int .u8 (b.op : Nat), .string b.name, .slice ba b.kids.length bc, .int .i64 (psz b : Nat), .int .i64 (pdp b : Nat)] 93) = V := ⟨_, rfl⟩
  have k4 : Kept [] w V := by rw [← hV]; exact ((((Kept.refl [] w).alloc _).alloc _).alloc _).alloc _
  have hP : IsQ (fun b => X b ∧ b ≠ w.heap.size + 1 + 1) V (nn2 6 a b) (.slice (some ⟨w.heap.size + 1 + 1 + 1, 0, none⟩) 2 2) := isQ_two ⟨hX _ (by omega), by omega⟩ (by rw [← hV]; exact al3 w _ _ _ _) (ha.apart k4 (by omega)) (hb.apart k4 (by omega))
  have hz : Pl5 V (w.heap.size + 1 + 1) (.int .u8 0) (.string ⟨#[]⟩) (.slice none 0 0) (.int .i64 0) (.int .i64 0) := by rw [← hV]; exact alUp (al2 w _ _ _) _
  have HC : Hid (Calls Tryd.prog 135 #[.int .u8 6, .slice (some ⟨w.heap.size + 1 + 1 + 1, 0, none⟩) 2 2] V fun e w' => e = .returned (.agg #[.int .u8 6, .string nE, .slice (some ⟨w.heap.size + 1 + 1 + 1, 0, none⟩) 2 2, .int .i64 (psz (nn2 6 a b) : Nat), .int .i64 (pdp (nn2 6 a b) : Nat)]) ∧ Pl5 w' (w.heap.size + 1 + 1) (.int .u8 0) (.string ⟨#[]⟩) (.slice none 0 0) (.int .i64 0) (.int .i64 0) ∧ IsQ (fun b => X b ∧ b ≠ w.heap.size + 1 + 1) w' (nn2 6 a b) (.slice (some ⟨w.heap.size + 1 + 1 + 1, 0, none⟩) 2 2) ∧ Kept [] w w') := by
    refine (planOf_any 6 [a, b] (some ⟨w.heap.size + 1 + 1 + 1, 0, none⟩) 2 V hP.isP (show 2 ≤ 1000 by decide)).mono ?_
    rintro e w' ⟨rfl, k⟩
    exact ⟨rfl, hz.kept k, hP.kept k, k4.trans k (by simp) (by simp)⟩
  rw [← hV] at HC
  clear ha hb k4 hP hz hV V
  obtain ⟨x1, hx1⟩ : ∃ x, psz a = x := ⟨_, rfl⟩
  obtain ⟨x2, hx2⟩ : ∃ x, pdp a = x := ⟨_, rfl⟩
  obtain ⟨x3, hx3⟩ : ∃ x, psz b = x := ⟨_, rfl⟩
  obtain ⟨x4, hx4⟩ : ∃ x, pdp b = x := ⟨_, rfl⟩
  obtain ⟨x5, hx5⟩ : ∃ x, psz (nn2 6 a b) = x := ⟨_, rfl⟩
  obtain ⟨x6, hx6⟩ : ∃ x, pdp (nn2 6 a b) = x := ⟨_, rfl⟩
  rw [hx1, hx2, hx3, hx4, hx5, hx6] at HC
  rw [hx1, hx2, hx3, hx4, hx5, hx6]
  clear hx1 hx2 hx3 hx4 hx5 hx6
  go_enter Tryd.func137, Tryd.ntmps137
  go_wp2_with (go_at_call 135; refine HC.out.mono ?_; rintro e W2 ⟨rfl, z2, p2, k2⟩; obtain ⟨d0, d1, d2, d3, d4, df⟩ := z2.cells; have HZ : Hid (Pl5 W2 (w.heap.size + 1 + 1) (.int .u8 0) (.string ⟨#[]⟩) (.slice none 0 0) (.int .i64 0) (.int .i64 0)) := z2; have HK2 : Hid (Kept [] w W2) := k2; have HP2 : Hid (IsQ (fun b => X b ∧ b ≠ w.heap.size + 1 + 1) W2 (nn2 6 a b) (.slice (some ⟨w.heap.size + 1 + 1 + 1, 0, none⟩) 2 2)) := p2; clear z2 k2 p2)
  exact ret_pl rfl rfl rfl (HZ.out.set _ _ _ _ _) ⟨_, rfl, HP2.out.set5 _ _ _ _ _, kept_set5 HK2.out (by omega) _ _ _ _ _⟩
set_option maxHeartbeats 1000000 in
set_option maxRecDepth 20000 in
theorem join_until : Joins 138 12 := by
  intro X a b aa ba ac bc w hX ha hb
  unfold plA
  obtain ⟨V, hV⟩ : ∃ V, (((w.alloc (.cells #[.int .u8 (a.op : Nat), .string a.name, .slice aa a.kids.length ac, .int .i64 (psz a : Nat), .int .i64 (pdp a : Nat)] 93)).alloc (.cells #[.int .u8 (b.op : Nat), .string b.name, .slice ba b.kids.length bc, .int .i64 (psz b : Nat), .int .i64 (pdp b : Nat)] 93)).alloc (.cells #[.int .u8 0, .string ⟨#[]⟩, .slice none 0 0, .int .i64 0, .int .i64 0] 93)).alloc (.cells #[.int .u8 (a.op : Nat), .string a.name, .slice aa a.kids.length ac, .int .i64 (psz a : Nat), .int .i64 (pdp a : Nat), .int .u8 (b.op : Nat), .string b.name, .slice ba b.kids.length bc, .int .i64 (psz b : Nat), .int .i64 (pdp b : Nat)] 93) = V := ⟨_, rfl⟩
  have k4 : Kept [] w V := by rw [← hV]; exact ((((Kept.refl [] w).alloc _).alloc _).alloc _).alloc _
  have hP : IsQ (fun b => X b ∧ b ≠ w.heap.size + 1 + 1) V (nn2 12 a b) (.slice (some ⟨w.heap.size + 1 + 1 + 1, 0, none⟩) 2 2) := isQ_two ⟨hX _ (by omega), by omega⟩ (by rw [← hV]; exact al3 w _ _ _ _) (ha.apart k4 (by omega)) (hb.apart k4 (by omega))
  have hz : Pl5 V (w.heap.size + 1 + 1) (.int .u8 0) (.string ⟨#[]⟩) (.slice none 0 0) (.int .i64 0) (.int .i64 0) := by rw [← hV]; exact alUp (al2 w _ _ _) _
  have HC : Hid (Calls Tryd.prog 135 #[.int .u8 12, .slice (some ⟨w.heap.size + 1 + 1 + 1, 0, none⟩) 2 2] V fun e w' => e = .returned (.agg #[.int .u8 12, .string nE, .slice (some ⟨w.heap.size + 1 + 1 + 1, 0, none⟩) 2 2, .int .i64 (psz (nn2 12 a b) : Nat), .int .i64 (pdp (nn2 12 a b) : Nat)]) ∧ Pl5 w' (w.heap.size + 1 + 1) (.int .u8 0) (.string ⟨#[]⟩) (.slice none 0 0) (.int .i64 0) (.int .i64 0) ∧ IsQ (fun b => X b ∧ b ≠ w.heap.size + 1 + 1) w' (nn2 12 a b) (.slice (some ⟨w.heap.size + 1 + 1 + 1, 0, none⟩) 2 2) ∧ Kept [] w w') := by
    refine (planOf_any 12 [a, b] (some ⟨w.heap.size + 1 + 1 + 1, 0, none⟩) 2 V hP.isP (show 2 ≤ 1000 by decide)).mono ?_
    rintro e w' ⟨rfl, k⟩
    exact ⟨rfl, hz.kept k, hP.kept k, k4.trans k (by simp) (by simp)⟩
  rw [← hV] at HC
  clear ha hb k4 hP hz hV V
  obtain ⟨x1, hx1⟩ : ∃ x, psz a = x := ⟨_, rfl⟩
  obtain ⟨x2, hx2⟩ : ∃ x, pdp a = x := ⟨_, rfl⟩
  obtain ⟨x3, hx3⟩ : ∃ x, psz b = x := ⟨_, rfl⟩
  obtain ⟨x4, hx4⟩ : ∃ x, pdp b = x := ⟨_, rfl⟩
  obtain ⟨x5, hx5⟩ : ∃ x, psz (nn2 12 a b) = x := ⟨_, rfl⟩
  obtain ⟨x6, hx6⟩ : ∃ x, pdp (nn2 12 a b) = x := ⟨_, rfl⟩
  rw [hx1, hx2, hx3, hx4, hx5, hx6] at HC
  rw [hx1, hx2, hx3, hx4, hx5, hx6]
  clear hx1 hx2 hx3 hx4 hx5 hx6
  go_enter Tryd.func138, Tryd.ntmps138
  go_wp2_with (go_at_call 135; refine HC.out.mono ?_; rintro e W2 ⟨rfl, z2, p2, k2⟩; obtain ⟨d0, d1, d2, d3, d4, df⟩ := z2.cells; have HZ : Hid (Pl5 W2 (w.heap.size + 1 + 1) (.int .u8 0) (.string ⟨#[]⟩) (.slice none 0 0) (.int .i64 0) (.int .i64 0)) := z2; have HK2 : Hid (Kept [] w W2) := k2; have HP2 : Hid (IsQ (fun b => X b ∧ b ≠ w.heap.size + 1 + 1) W2 (nn2 12 a b) (.slice (some ⟨w.heap.size + 1 + 1 + 1, 0, none⟩) 2 2)) := p2; clear z2 k2 p2)
  exact ret_pl rfl rfl rfl (HZ.out.set _ _ _ _ _) ⟨_, rfl, HP2.out.set5 _ _ _ _ _, kept_set5 HK2.out (by omega) _ _ _ _ _⟩
set_option maxHeartbeats 1000000 in
set_option maxRecDepth 20000 in
theorem join_release : Joins 139 13 := by
  intro X a b aa ba ac bc w hX ha hb
  unfold plA
  obtain ⟨V, hV⟩ : ∃ V, (((w.alloc (.cells #[.int .u8 (a.op : Nat), .string a.name, .slice aa a.kids.length ac, .int .i64 (psz a : Nat), .int .i64 (pdp a : Nat)] 93)).alloc (.cells #[.int .u8 (b.op : Nat), .string b.name, .slice ba b.kids.length bc, .int .i64 (psz b : Nat), .int .i64 (pdp b : Nat)] 93)).alloc (.cells #[.int .u8 0, .string ⟨#[]⟩, .slice none 0 0, .int .i64 0, .int .i64 0] 93)).alloc (.cells #[.int .u8 (a.op : Nat), .string a.name, .slice aa a.kids.length ac, .int .i64 (psz a : Nat), .int .i64 (pdp a : Nat), .int .u8 (b.op : Nat), .string b.name, .slice ba b.kids.length bc, .int .i64 (psz b : Nat), .int .i64 (pdp b : Nat)] 93) = V := ⟨_, rfl⟩
  have k4 : Kept [] w V := by rw [← hV]; exact ((((Kept.refl [] w).alloc _).alloc _).alloc _).alloc _
  have hP : IsQ (fun b => X b ∧ b ≠ w.heap.size + 1 + 1) V (nn2 13 a b) (.slice (some ⟨w.heap.size + 1 + 1 + 1, 0, none⟩) 2 2) := isQ_two ⟨hX _ (by omega), by omega⟩ (by rw [← hV]; exact al3 w _ _ _ _) (ha.apart k4 (by omega)) (hb.apart k4 (by omega))
  have hz : Pl5 V (w.heap.size + 1 + 1) (.int .u8 0) (.string ⟨#[]⟩) (.slice none 0 0) (.int .i64 0) (.int .i64 0) := by rw [← hV]; exact alUp (al2 w _ _ _) _
  have HC : Hid (Calls Tryd.prog 135 #[.int .u8 13, .slice (some ⟨w.heap.size + 1 + 1 + 1, 0, none⟩) 2 2] V fun e w' => e = .returned (.agg #[.int .u8 13, .string nE, .slice (some ⟨w.heap.size + 1 + 1 + 1, 0, none⟩) 2 2, .int .i64 (psz (nn2 13 a b) : Nat), .int .i64 (pdp (nn2 13 a b) : Nat)]) ∧ Pl5 w' (w.heap.size + 1 + 1) (.int .u8 0) (.string ⟨#[]⟩) (.slice none 0 0) (.int .i64 0) (.int .i64 0) ∧ IsQ (fun b => X b ∧ b ≠ w.heap.size + 1 + 1) w' (nn2 13 a b) (.slice (some ⟨w.heap.size + 1 + 1 + 1, 0, none⟩) 2 2) ∧ Kept [] w w') := by
    refine (planOf_any 13 [a, b] (some ⟨w.heap.size + 1 + 1 + 1, 0, none⟩) 2 V hP.isP (show 2 ≤ 1000 by decide)).mono ?_
    rintro e w' ⟨rfl, k⟩
    exact ⟨rfl, hz.kept k, hP.kept k, k4.trans k (by simp) (by simp)⟩
  rw [← hV] at HC
  clear ha hb k4 hP hz hV V
  obtain ⟨x1, hx1⟩ : ∃ x, psz a = x := ⟨_, rfl⟩
  obtain ⟨x2, hx2⟩ : ∃ x, pdp a = x := ⟨_, rfl⟩
  obtain ⟨x3, hx3⟩ : ∃ x, psz b = x := ⟨_, rfl⟩
  obtain ⟨x4, hx4⟩ : ∃ x, pdp b = x := ⟨_, rfl⟩
  obtain ⟨x5, hx5⟩ : ∃ x, psz (nn2 13 a b) = x := ⟨_, rfl⟩
  obtain ⟨x6, hx6⟩ : ∃ x, pdp (nn2 13 a b) = x := ⟨_, rfl⟩
  rw [hx1, hx2, hx3, hx4, hx5, hx6] at HC
  rw [hx1, hx2, hx3, hx4, hx5, hx6]
  clear hx1 hx2 hx3 hx4 hx5 hx6
  go_enter Tryd.func139, Tryd.ntmps139
  go_wp2_with (go_at_call 135; refine HC.out.mono ?_; rintro e W2 ⟨rfl, z2, p2, k2⟩; obtain ⟨d0, d1, d2, d3, d4, df⟩ := z2.cells; have HZ : Hid (Pl5 W2 (w.heap.size + 1 + 1) (.int .u8 0) (.string ⟨#[]⟩) (.slice none 0 0) (.int .i64 0) (.int .i64 0)) := z2; have HK2 : Hid (Kept [] w W2) := k2; have HP2 : Hid (IsQ (fun b => X b ∧ b ≠ w.heap.size + 1 + 1) W2 (nn2 13 a b) (.slice (some ⟨w.heap.size + 1 + 1 + 1, 0, none⟩) 2 2)) := p2; clear z2 k2 p2)
  exact ret_pl rfl rfl rfl (HZ.out.set _ _ _ _ _) ⟨_, rfl, HP2.out.set5 _ _ _ _ _, kept_set5 HK2.out (by omega) _ _ _ _ _⟩
end Go.Proofs.YtddgciilcghbaaaDoor
