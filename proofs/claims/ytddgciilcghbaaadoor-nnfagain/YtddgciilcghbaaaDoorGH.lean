/- The small functions of package nnf's Simple: isConstant, formulaOf, same, leafAgain, inOrder, next, lasting, not. -/
import Derived.Test.YtddgciilcghbaaaDoorGG
import Derived.Test.YtddgciilcghbaaaDoorGF
import Derived.Test.YtddgciilcghbaaaDoorGE
import Derived.Deep.CutRange
import Derived.Deep.RegionHeld3
import Derived.BigQuiet
import Derived.Deep.QuietTactic
namespace Go.Proofs.YtddgciilcghbaaaDoor
open Go.RowKit Go.Shelf

/-- What stands in an operator's place, in memory. -/
def TurnTab (w : World) : Prop := ∀ i, i < 12 → w.cell? ⟨0, i, none⟩ = some (.int .u8 (turnO i : Nat))
theorem TurnTab.kept {w w' : World} (h : TurnTab w) (k : Kept [] w w') : TurnTab w' := fun i hi => cell_kept0 k (h i hi)
set_option maxHeartbeats 400000 in
theorem isConst_any (t : Tr) (kad : Option Addr) (n kcap : Nat) (w : World) :
    Calls Tryd.prog 128 #[.agg #[.int .u8 (t.op : Nat), .string t.name, .slice kad n kcap]] w fun e w' => e = .returned (.bool (cstB t)) ∧ Kept [] w w' := by
  by_cases h1 : t.op = 1
  · have e1 : ((t.op : Int) == 1) = true := by rw [beq_iff_eq]; omega
    have : cstB t = true := by simp [cstB, h1]
    rw [this]
    clear this h1
    go_enter Tryd.func128, Tryd.ntmps128
    go_wp2
    go_ret
    exact ⟨rfl, (Kept.refl _ _).alloc _⟩
  · have e1 : ((t.op : Int) == 1) = false := by rw [beq_eq_false_iff_ne]; omega
    by_cases h2 : t.op = 2
    · have e2 : ((t.op : Int) == 2) = true := by rw [beq_iff_eq]; omega
      have : cstB t = true := by simp [cstB, h2]
      rw [this]
      clear this h1 h2
      go_enter Tryd.func128, Tryd.ntmps128
      go_wp2
      go_ret
      exact ⟨rfl, (Kept.refl _ _).alloc _⟩
    · have e2 : ((t.op : Int) == 2) = false := by rw [beq_eq_false_iff_ne]; omega
      have : cstB t = false := by simp [cstB, h1, h2]
      rw [this]
      clear this h1 h2
      go_enter Tryd.func128, Tryd.ntmps128
      go_wp2
      go_ret
      exact ⟨rfl, (Kept.refl _ _).alloc _⟩
set_option maxHeartbeats 400000 in
theorem formulaOf_any (o : Nat) (ad : Option Addr) (n c : Nat) (w : World) :
    Calls Tryd.prog 129 #[.int .u8 (o : Nat), .slice ad n c] w fun e w' => e = .returned (.agg #[.int .u8 (o : Nat), .string nE, .slice ad n c]) ∧ Kept [] w w' := by
  go_enter Tryd.func129, Tryd.ntmps129
  go_wp2
  exact ret_for rfl rfl rfl (show For3 _ w.heap.size _ _ _ from al0 w _) ⟨rfl, (Kept.refl [] w).alloc _⟩
set_option maxHeartbeats 400000 in
theorem same_any (t u : Tr) (kv lv : Value) (w : World) (hI : IsF w t kv) (hJ : IsF w u lv) (hs : t.size ≤ 1099511627776) (hsu : u.size ≤ 1099511627776) :
    Calls Tryd.prog 130 #[.agg #[.int .u8 (t.op : Nat), .string t.name, kv], .agg #[.int .u8 (u.op : Nat), .string u.name, lv]] w fun e w' => e = .returned (.bool (sameT t u)) ∧ Kept [] w w' := by
  obtain ⟨kad, kcap, rfl⟩ := hI.slice
  obtain ⟨lad, lcap, rfl⟩ := hJ.slice
  have HC : Hid (∀ W, Kept [] w W → Calls Tryd.prog 20 #[.agg #[.int .u8 (t.op : Nat), .string t.name, .slice kad t.kids.length kcap], .agg #[.int .u8 (u.op : Nat), .string u.name, .slice lad u.kids.length lcap]] W fun e w' => e = .returned (.int .i64 (cmpT t u)) ∧ Kept [] W w') := fun W k => by
    refine (cmp_any t u _ _ W (hI.kept k) (hJ.kept k) hs hsu).mono ?_
    rintro e w' ⟨h1, h2⟩
    exact ⟨h1, h2.kept⟩
  unfold sameT
  clear hI hJ
  go_enter Tryd.func130, Tryd.ntmps130
  go_wp2_with (go_at_call 20; refine (HC.out _ (((Kept.refl [] w).alloc _).alloc _)).mono ?_; rintro e W1 ⟨rfl, k1⟩; have HK1 : Hid (Kept [] w W1) := (((Kept.refl [] w).alloc _).alloc _).trans k1 (by simp) (by simp); clear k1)
  go_ret
  exact ⟨rfl, HK1.out⟩
set_option maxHeartbeats 400000 in
theorem leafAgain_any (t : Tr) (kad : Option Addr) (n kcap : Nat) (w : World) :
    Calls Tryd.prog 47 #[.agg #[.int .u8 (t.op : Nat), .string t.name, .slice kad n kcap]] w fun e w' => e = .returned (.agg #[.int .u8 (t.op : Nat), .string t.name, .slice none 0 0]) ∧ Kept [] w w' := by
  go_enter Tryd.func47, Tryd.ntmps47
  go_wp2
  exact ret_for rfl rfl rfl (show For3 _ (w.heap.size + 1) _ _ _ from al1 w _ _) ⟨rfl, ((Kept.refl [] w).alloc _).alloc _⟩
/-- What a function of two formulas leaves: a formula that lies in memory. -/
def GivesF (w : World) (p : Tr) (e : Ending) (w' : World) : Prop := ∃ ad c, e = .returned (.agg #[.int .u8 (p.op : Nat), .string p.name, .slice ad p.kids.length c]) ∧ IsF w' p (.slice ad p.kids.length c) ∧ Kept [] w w'
/-- One kid, two kids, in a new row. -/
theorem isF_one {W : World} {B o : Nat} {a : Tr} {ka : Value} (hg : W.heap[B]? = some (.cells #[.int .u8 (a.op : Nat), .string a.name, ka] 25 (0, 0))) (ha : IsF W a ka) : IsF W (nn1 o a) (.slice (some ⟨B, 0, none⟩) 1 1) := by
  refine (isT_eq _ _).2 ⟨some ⟨B, 0, none⟩, 1, rfl, .inr ⟨B, 0, rfl, lt_of hg, fun i hi => ?_⟩⟩
  replace hi : i < 1 := hi
  rcases (by omega : i = 0) with rfl
  exact ⟨ka, (cell_of hg 0).trans rfl, (cell_of hg 1).trans rfl, (cell_of hg 2).trans rfl, ha⟩
theorem isF_two {W : World} {B o : Nat} {a b : Tr} {ka kb : Value} (hg : W.heap[B]? = some (.cells #[.int .u8 (a.op : Nat), .string a.name, ka, .int .u8 (b.op : Nat), .string b.name, kb] 25 (0, 0))) (ha : IsF W a ka) (hb : IsF W b kb) : IsF W (nn2 o a b) (.slice (some ⟨B, 0, none⟩) 2 2) := by
  refine (isT_eq _ _).2 ⟨some ⟨B, 0, none⟩, 2, rfl, .inr ⟨B, 0, rfl, lt_of hg, fun i hi => ?_⟩⟩
  replace hi : i < 2 := hi
  rcases (by omega : i = 0 ∨ i = 1) with rfl | rfl
  · exact ⟨ka, (cell_of hg 0).trans rfl, (cell_of hg 1).trans rfl, (cell_of hg 2).trans rfl, ha⟩
  · exact ⟨kb, (cell_of hg 3).trans rfl, (cell_of hg 4).trans rfl, (cell_of hg 5).trans rfl, hb⟩
end Go.Proofs.YtddgciilcghbaaaDoor

/- nnf.not, next, lasting, inOrder, deny, has. -/
namespace Go.Proofs.YtddgciilcghbaaaDoor
open Go.RowKit Go.Shelf

theorem IsT.apart {X : Nat → Prop} {w w' : World} (k : Kept [] w w') {t : Tr} {kv : Value} {B : Nat} (hB : w.heap.size ≤ B) (h : IsT X w t kv) : IsT (fun b => X b ∧ b ≠ B) w' t kv := by
  induction t using Tr.ind generalizing kv with
  | h t ih =>
    obtain ⟨ad, cap, e, h⟩ := (isT_eq t kv).1 h
    refine (isT_eq t kv).2 ⟨ad, cap, e, ?_⟩
    rcases Nat.eq_zero_or_pos t.kids.length with h0 | h0
    · exact .inl h0
    · obtain ⟨b, off, e1, hb, hk⟩ := h.resolve_left (by omega)
      obtain ⟨kv0, c0, _⟩ := hk 0 h0
      refine .inr ⟨b, off, e1, ⟨hb, by have := World.block_lt_of_cell? w _ c0; simp only at this; omega⟩, fun i hi => ?_⟩
      obtain ⟨kv', c0, c1, c2, hr⟩ := hk i hi
      exact ⟨kv', cell_kept0 k c0, cell_kept0 k c1, cell_kept0 k c2, ih _ (List.getElem_mem _) hr⟩
theorem IsT.keptX {X : Nat → Prop} {w w' : World} (k : Kept [] w w') {t : Tr} {kv : Value} (h : IsT X w t kv) : IsT X w' t kv := IsT.cells (fun _ h => h) (fun _ _ _ _ c => cell_kept0 k c) h
theorem isT_one {X : Nat → Prop} {W : World} {B o : Nat} {a : Tr} {ka : Value} (hX : X B) (hg : W.heap[B]? = some (.cells #[.int .u8 (a.op : Nat), .string a.name, ka] 25 (0, 0))) (ha : IsT X W a ka) : IsT X W (nn1 o a) (.slice (some ⟨B, 0, none⟩) 1 1) := by
  refine (isT_eq _ _).2 ⟨some ⟨B, 0, none⟩, 1, rfl, .inr ⟨B, 0, rfl, hX, fun i hi => ?_⟩⟩
  replace hi : i < 1 := hi
  rcases (by omega : i = 0) with rfl
  exact ⟨ka, (cell_of hg 0).trans rfl, (cell_of hg 1).trans rfl, (cell_of hg 2).trans rfl, ha⟩
theorem isT_two {X : Nat → Prop} {W : World} {B o : Nat} {a b : Tr} {ka kb : Value} (hX : X B) (hg : W.heap[B]? = some (.cells #[.int .u8 (a.op : Nat), .string a.name, ka, .int .u8 (b.op : Nat), .string b.name, kb] 25 (0, 0))) (ha : IsT X W a ka) (hb : IsT X W b kb) : IsT X W (nn2 o a b) (.slice (some ⟨B, 0, none⟩) 2 2) := by
  refine (isT_eq _ _).2 ⟨some ⟨B, 0, none⟩, 2, rfl, .inr ⟨B, 0, rfl, hX, fun i hi => ?_⟩⟩
  replace hi : i < 2 := hi
  rcases (by omega : i = 0 ∨ i = 1) with rfl | rfl
  · exact ⟨ka, (cell_of hg 0).trans rfl, (cell_of hg 1).trans rfl, (cell_of hg 2).trans rfl, ha⟩
  · exact ⟨kb, (cell_of hg 3).trans rfl, (cell_of hg 4).trans rfl, (cell_of hg 5).trans rfl, hb⟩
/-- What a function of formulas leaves: a formula, in blocks of X. -/
def GivesX (X : Nat → Prop) (w : World) (p : Tr) (e : Ending) (w' : World) : Prop := ∃ ad c, e = .returned (.agg #[.int .u8 (p.op : Nat), .string p.name, .slice ad p.kids.length c]) ∧ IsT X w' p (.slice ad p.kids.length c) ∧ Kept [] w w'
theorem gives_end {fn : Func} {p : Tmp} {act : Act} {X : Nat → Prop} {w W : World} {R : Nat} {t : Tr} {ad : Option Addr} {c : Nat} {z0 z1 z2 : Value} (hr : fn.results = #[.cell p 25]) (hp : act.tmps.getD p undef = .pointer (some ⟨R, 0, none⟩)) (hd : act.defers = []) (hz : For3 W R z0 z1 z2) (hT : IsT (fun b => X b ∧ b ≠ R) W t (.slice ad t.kids.length c)) (k : Kept [] w W) (hR : w.heap.size ≤ R) :
    bodyPost Tryd.prog fn (GivesX X w t) .ret act (((W.setCell ⟨R, 0, none⟩ (.int .u8 (t.op : Nat))).setCell ⟨R, 1, none⟩ (.string t.name)).setCell ⟨R, 2, none⟩ (.slice ad t.kids.length c)) := by
  have hn : ¬ (X R ∧ R ≠ R) := fun h => h.2 rfl
  exact ret_for hr hp hd (hz.set _ _ _) ⟨ad, c, rfl, (((hT.other hn _ _).other hn _ _).other hn _ _).mono (fun _ h => h.1), kept_set3 k hR _ _ _⟩
theorem isT_leaf (X : Nat → Prop) (w : World) (o : Nat) (s : ByteArray) : IsT X w ⟨o, s, []⟩ (.slice none 0 0) := IsT.leaf X w rfl none 0
set_option maxHeartbeats 1000000 in
set_option maxRecDepth 20000 in
theorem next_any (X : Nat → Prop) (a : Tr) (kv : Value) (w : World) (hX : ∀ k, w.heap.size ≤ k → X k) (hI : IsT X w a kv) (hT : TurnTab w) :
    Calls Tryd.prog 85 #[.agg #[.int .u8 (a.op : Nat), .string a.name, kv]] w (GivesX X w (sNext a)) := by
  obtain ⟨kad, kcap, rfl⟩ := hI.slice
  obtain ⟨V, hV⟩ : ∃ V, (w.alloc (.cells #[.int .u8 (a.op : Nat), .string a.name, .slice kad a.kids.length kcap] 25)).alloc (.cells #[.int .u8 0, .string ⟨#[]⟩, .slice none 0 0] 25) = V := ⟨_, rfl⟩
  have kV : Kept [] w V := by rw [← hV]; exact ((Kept.refl [] w).alloc _).alloc _
  have v0 : For3 V w.heap.size (.int .u8 (a.op : Nat)) (.string a.name) (.slice kad a.kids.length kcap) := by rw [← hV]; exact alUp (al0 _ _) _
  have v1 : For3 V (w.heap.size + 1) (.int .u8 0) (.string ⟨#[]⟩) (.slice none 0 0) := by rw [← hV]; exact al1 _ _ _
  have HIA : Hid (IsT (fun b => X b ∧ b ≠ w.heap.size + 1) V a (.slice kad a.kids.length kcap)) := hI.apart kV (by omega)
  have HXX : Hid (∀ W, Kept [] V W → ∀ b, W.heap.size ≤ b → X b ∧ b ≠ w.heap.size + 1) := fun W k b hb => ⟨hX b (by have := kV.size; have := k.size; omega), by have := lt_of v1; have := k.size; omega⟩
  have HTT : Hid (TurnTab V) := hT.kept kV
  have HVV : Hid (_ = V) := hV
  have HKV : Hid (Kept [] w V) := kV
  have HV0 : Hid (For3 V w.heap.size (.int .u8 (a.op : Nat)) (.string a.name) (.slice kad a.kids.length kcap)) := v0
  have HV1 : Hid (For3 V (w.heap.size + 1) (.int .u8 0) (.string ⟨#[]⟩) (.slice none 0 0)) := v1
  have HCO : Hid (∀ W, Calls Tryd.prog 128 #[.agg #[.int .u8 (a.op : Nat), .string a.name, .slice kad a.kids.length kcap]] W fun e w' => e = .returned (.bool (cstB a)) ∧ Kept [] W w') := fun W => isConst_any a kad _ kcap W
  have HFO : Hid (∀ (o : Nat) ad n c W, Calls Tryd.prog 129 #[.int .u8 (o : Nat), .slice ad n c] W fun e w' => e = .returned (.agg #[.int .u8 (o : Nat), .string nE, .slice ad n c]) ∧ Kept [] W w') := formulaOf_any
  clear hI hT kV v0 v1 hV hX
  obtain ⟨c0, c1, c2, -⟩ := HV0.out.cells
  by_cases hc : cstB a = true
  · have hS : sNext a = a := by unfold sNext; rw [if_pos hc]
    rw [hS]
    rw [hc] at HCO
    clear hS hc
    go_enter Tryd.func85, Tryd.ntmps85
    go_upto_region 1 with (fail)
    rw [HVV.out]
    go_wp2_with (go_at_call 128; refine (HCO.out _).mono ?_; rintro e W1 ⟨rfl, k1⟩; have HK1 : Hid (Kept [] V W1) := k1; obtain ⟨x0, x1, x2, -⟩ := (HV0.out.kept k1).cells; obtain ⟨y0, y1, y2, yf⟩ := (HV1.out.kept k1).cells; clear k1)
    exact gives_end rfl rfl rfl (HV1.out.kept HK1.out) (HIA.out.keptX HK1.out) (HKV.out.trans HK1.out (by simp) (by simp)) (by omega)
  · have hS : sNext a = nn1 9 a := by unfold sNext; rw [if_neg hc]
    have hc' : cstB a = false := by simpa using hc
    rw [hS]
    rw [hc'] at HCO
    clear hS hc hc'
    go_enter Tryd.func85, Tryd.ntmps85
    go_upto_region 1 with (fail)
    rw [HVV.out]
    go_wp2_with (first
      | (go_at_call 128; refine (HCO.out _).mono ?_; rintro e W1 ⟨rfl, k1⟩; have HK1 : Hid (Kept [] V W1) := k1; obtain ⟨x0, x1, x2, -⟩ := (HV0.out.kept k1).cells; obtain ⟨y0, y1, y2, yf⟩ := (HV1.out.kept k1).cells; clear k1)
      | (go_at_call 129; refine (HFO.out 9 _ _ _ _).mono ?_; rintro e W2 ⟨rfl, k2⟩; have HK2 : Hid (Kept [] V W2) := (HK1.out.alloc _).trans k2 (by simp) (by simp); obtain ⟨u0, u1, u2, uf⟩ := (HV1.out.kept HK2.out).cells; have HT2 : Hid (IsT (fun b => X b ∧ b ≠ w.heap.size + 1) W2 (nn1 9 a) (.slice (some ⟨W1.heap.size, 0, none⟩) 1 1)) := (isT_one (HXX.out W1 HK1.out _ (Nat.le_refl _)) (al0 W1 _) (HIA.out.keptX (HK1.out.alloc _))).keptX k2; clear k2))
    exact gives_end rfl rfl rfl (HV1.out.kept HK2.out) HT2.out (HKV.out.trans HK2.out (by simp) (by simp)) (by omega)
theorem kid_of {X : Nat → Prop} {w : World} {a : Tr} {ad : Option Addr} {n cap : Nat} (h : IsT X w a (.slice ad n cap)) (h0 : 0 < a.kids.length) : ∃ b off xa xc, ad = some ⟨b, off, none⟩ ∧ w.cell? ⟨b, off, none⟩ = some (.int .u8 ((nk0 a).op : Nat)) ∧ w.cell? ⟨b, off + 1, none⟩ = some (.string (nk0 a).name) ∧ w.cell? ⟨b, off + 2, none⟩ = some (.slice xa (nk0 a).kids.length xc) ∧ IsT X w (nk0 a) (.slice xa (nk0 a).kids.length xc) := by
  obtain ⟨b, off, e, _, hk⟩ := h.kid h0
  obtain ⟨kv, c0, c1, c2, hT⟩ := hk 0 h0
  have e0 : a.kids[0] = nk0 a := by unfold nk0; rw [List.getD_eq_getElem?_getD, List.getElem?_eq_getElem h0]; rfl
  rw [e0] at c0 c1 hT
  obtain ⟨xa, xc, rfl⟩ := hT.slice
  rw [Nat.zero_mul, Nat.add_zero] at c0 c1 c2
  exact ⟨b, off, xa, xc, e, c0, c1, c2, hT⟩
theorem kid_two {X : Nat → Prop} {w : World} {a : Tr} {ad : Option Addr} {n cap : Nat} (h : IsT X w a (.slice ad n cap)) (h0 : 1 < a.kids.length) : ∃ b off xa xc, ad = some ⟨b, off, none⟩ ∧ w.cell? ⟨b, off + 3, none⟩ = some (.int .u8 ((nk1 a).op : Nat)) ∧ w.cell? ⟨b, off + 3 + 1, none⟩ = some (.string (nk1 a).name) ∧ w.cell? ⟨b, off + 3 + 2, none⟩ = some (.slice xa (nk1 a).kids.length xc) ∧ IsT X w (nk1 a) (.slice xa (nk1 a).kids.length xc) := by
  obtain ⟨b, off, e, _, hk⟩ := h.kid (by omega)
  obtain ⟨kv, c0, c1, c2, hT⟩ := hk 1 h0
  have e0 : a.kids[1] = nk1 a := by unfold nk1; rw [List.getD_eq_getElem?_getD, List.getElem?_eq_getElem h0]; rfl
  rw [e0] at c0 c1 hT
  obtain ⟨xa, xc, rfl⟩ := hT.slice
  rw [Nat.one_mul] at c0 c1 c2
  exact ⟨b, off, xa, xc, e, c0, c1, c2, hT⟩
set_option maxHeartbeats 1000000 in
set_option maxRecDepth 20000 in
theorem not_any (X : Nat → Prop) (a : Tr) (kv : Value) (w : World) (hX : ∀ k, w.heap.size ≤ k → X k) (hI : IsT X w a kv) (hT : TurnTab w) (hG : a.Good) :
    Calls Tryd.prog 78 #[.agg #[.int .u8 (a.op : Nat), .string a.name, kv]] w (GivesX X w (sNot a)) := by
  obtain ⟨kad, kcap, rfl⟩ := hI.slice
  obtain ⟨V, hV⟩ : ∃ V, (w.alloc (.cells #[.int .u8 (a.op : Nat), .string a.name, .slice kad a.kids.length kcap] 25)).alloc (.cells #[.int .u8 0, .string ⟨#[]⟩, .slice none 0 0] 25) = V := ⟨_, rfl⟩
  have kV : Kept [] w V := by rw [← hV]; exact ((Kept.refl [] w).alloc _).alloc _
  have v0 : For3 V w.heap.size (.int .u8 (a.op : Nat)) (.string a.name) (.slice kad a.kids.length kcap) := by rw [← hV]; exact alUp (al0 _ _) _
  have v1 : For3 V (w.heap.size + 1) (.int .u8 0) (.string ⟨#[]⟩) (.slice none 0 0) := by rw [← hV]; exact al1 _ _ _
  have HIA : Hid (IsT (fun b => X b ∧ b ≠ w.heap.size + 1) V a (.slice kad a.kids.length kcap)) := hI.apart kV (by omega)
  have HXX : Hid (∀ W, Kept [] V W → ∀ b, W.heap.size ≤ b → X b ∧ b ≠ w.heap.size + 1) := fun W k b hb => ⟨hX b (by have := kV.size; have := k.size; omega), by have := lt_of v1; have := k.size; omega⟩
  have HTT : Hid (TurnTab V) := hT.kept kV
  have HVV : Hid (_ = V) := hV
  have HKV : Hid (Kept [] w V) := kV
  have HV0 : Hid (For3 V w.heap.size (.int .u8 (a.op : Nat)) (.string a.name) (.slice kad a.kids.length kcap)) := v0
  have HV1 : Hid (For3 V (w.heap.size + 1) (.int .u8 0) (.string ⟨#[]⟩) (.slice none 0 0)) := v1
  have HCO : Hid (∀ W, Calls Tryd.prog 128 #[.agg #[.int .u8 (a.op : Nat), .string a.name, .slice kad a.kids.length kcap]] W fun e w' => e = .returned (.bool (cstB a)) ∧ Kept [] W w') := fun W => isConst_any a kad _ kcap W
  have HFO : Hid (∀ (o : Nat) ad n c W, Calls Tryd.prog 129 #[.int .u8 (o : Nat), .slice ad n c] W fun e w' => e = .returned (.agg #[.int .u8 (o : Nat), .string nE, .slice ad n c]) ∧ Kept [] W w') := formulaOf_any
  obtain ⟨c0, c1, c2, -⟩ := HV0.out.cells
  by_cases hc : cstB a = true
  · have ho : a.op = 1 ∨ a.op = 2 := by simpa [cstB] using hc
    have hS : sNot a = nn0 (turnO a.op) := by unfold sNot; rw [if_pos hc]
    have ho12 : a.op < 12 := by omega
    have hoi : (a.op : Int) < 12 := by omega
    have HTO : Hid (∀ W, Kept [] V W → W.cell? ⟨0, a.op, none⟩ = some (.int .u8 (turnO a.op : Nat))) := fun W k => (HTT.out.kept k) a.op ho12
    rw [hS]
    rw [hc] at HCO
    clear hS hc ho hI hT kV v0 v1 hV hX hG
    go_enter Tryd.func78, Tryd.ntmps78
    go_upto_region 1 with (fail)
    rw [HVV.out]
    go_wp2_with (first
      | (go_at_call 128; refine (HCO.out _).mono ?_; rintro e W1 ⟨rfl, k1⟩; have HK1 : Hid (Kept [] V W1) := k1; obtain ⟨x0, x1, x2, -⟩ := (HV0.out.kept k1).cells; obtain ⟨y0, y1, y2, yf⟩ := (HV1.out.kept k1).cells; have tO := HTO.out W1 k1; clear k1)
      | (go_at_call 129; refine (HFO.out (turnO a.op) _ _ _ _).mono ?_; rintro e W2 ⟨rfl, k2⟩; have HK2 : Hid (Kept [] V W2) := HK1.out.trans k2 (by simp) (by simp); obtain ⟨u0, u1, u2, uf⟩ := (HV1.out.kept HK2.out).cells; clear k2))
    exact gives_end rfl rfl rfl (HV1.out.kept HK2.out) (isT_leaf _ _ _ _) (HKV.out.trans HK2.out (by simp) (by simp)) (by omega)
  · have hc' : cstB a = false := by simpa using hc
    rw [hc'] at HCO
    by_cases h4 : a.op = 4
    · have hS : sNot a = nk0 a := by unfold sNot; rw [if_neg hc, if_pos h4]
      have h4i : ((a.op : Int) == 4) = true := by rw [beq_iff_eq]; omega
      have hpos : 0 < a.kids.length := by obtain ⟨x, e, _⟩ := good_k h4 hG; rw [e]; show 0 < 1; decide
      have hposi : (0 : Int) < (a.kids.length : Int) := by omega
      obtain ⟨b, off, xa, xc, rfl, g0, g1, g2, hx⟩ := kid_of hI hpos
      have HKD : Hid (∀ W, Kept [] V W → W.cell? ⟨b, off, none⟩ = some (.int .u8 ((nk0 a).op : Nat)) ∧ W.cell? ⟨b, off + 1, none⟩ = some (.string (nk0 a).name) ∧ W.cell? ⟨b, off + 2, none⟩ = some (.slice xa (nk0 a).kids.length xc)) := fun W k => ⟨cell_kept0 (kV.trans k (H := []) (by simp) (by simp)) g0, cell_kept0 (kV.trans k (H := []) (by simp) (by simp)) g1, cell_kept0 (kV.trans k (H := []) (by simp) (by simp)) g2⟩
      have HXT : Hid (IsT (fun b => X b ∧ b ≠ w.heap.size + 1) V (nk0 a) (.slice xa (nk0 a).kids.length xc)) := hx.apart kV (by omega)
      rw [hS]
      clear hS hc hc' h4 hI hT kV v0 v1 hV hX hG hx g0 g1 g2 hpos
      generalize nk0 a = x at *
      go_enter Tryd.func78, Tryd.ntmps78
      go_upto_region 1 with (fail)
      rw [HVV.out]
      go_wp2_with (go_at_call 128; refine (HCO.out _).mono ?_; rintro e W1 ⟨rfl, k1⟩; have HK1 : Hid (Kept [] V W1) := k1; obtain ⟨x0, x1, x2, -⟩ := (HV0.out.kept k1).cells; obtain ⟨y0, y1, y2, yf⟩ := (HV1.out.kept k1).cells; obtain ⟨g0, g1, g2⟩ := HKD.out W1 k1; clear k1)
      exact gives_end rfl rfl rfl (HV1.out.kept HK1.out) (HXT.out.keptX HK1.out) (HKV.out.trans HK1.out (by simp) (by simp)) (by omega)
    · have hS : sNot a = nn1 4 a := by unfold sNot; rw [if_neg hc, if_neg h4]
      have h4i : ((a.op : Int) == 4) = false := by rw [beq_eq_false_iff_ne]; omega
      rw [hS]
      clear hS hc hc' h4 hI hT kV v0 v1 hV hX hG
      go_enter Tryd.func78, Tryd.ntmps78
      go_upto_region 1 with (fail)
      rw [HVV.out]
      go_wp2_with (first
        | (go_at_call 128; refine (HCO.out _).mono ?_; rintro e W1 ⟨rfl, k1⟩; have HK1 : Hid (Kept [] V W1) := k1; obtain ⟨x0, x1, x2, -⟩ := (HV0.out.kept k1).cells; obtain ⟨y0, y1, y2, yf⟩ := (HV1.out.kept k1).cells; clear k1)
        | (go_at_call 129; refine (HFO.out 4 _ _ _ _).mono ?_; rintro e W2 ⟨rfl, k2⟩; have HK2 : Hid (Kept [] V W2) := (HK1.out.alloc _).trans k2 (by simp) (by simp); obtain ⟨u0, u1, u2, uf⟩ := (HV1.out.kept HK2.out).cells; have HT2 : Hid (IsT (fun b => X b ∧ b ≠ w.heap.size + 1) W2 (nn1 4 a) (.slice (some ⟨W1.heap.size, 0, none⟩) 1 1)) := (isT_one (HXX.out W1 HK1.out _ (Nat.le_refl _)) (al0 W1 _) (HIA.out.keptX (HK1.out.alloc _))).keptX k2; clear k2))
      exact gives_end rfl rfl rfl (HV1.out.kept HK2.out) HT2.out (HKV.out.trans HK2.out (by simp) (by simp)) (by omega)
set_option maxHeartbeats 2000000 in
set_option maxRecDepth 20000 in
theorem last_any (X : Nat → Prop) (o : Nat) (ho : o = 10 ∨ o = 11) (a : Tr) (kv : Value) (w : World) (hX : ∀ k, w.heap.size ≤ k → X k) (hI : IsT X w a kv) (hT : TurnTab w) (hG : a.Good) :
    Calls Tryd.prog 87 #[.int .u8 (o : Nat), .agg #[.int .u8 (a.op : Nat), .string a.name, kv]] w (GivesX X w (sLast o a)) := by
  obtain ⟨kad, kcap, rfl⟩ := hI.slice
  obtain ⟨V, hV⟩ : ∃ V, (w.alloc (.cells #[.int .u8 (a.op : Nat), .string a.name, .slice kad a.kids.length kcap] 25)).alloc (.cells #[.int .u8 0, .string ⟨#[]⟩, .slice none 0 0] 25) = V := ⟨_, rfl⟩
  have kV : Kept [] w V := by rw [← hV]; exact ((Kept.refl [] w).alloc _).alloc _
  have v0 : For3 V w.heap.size (.int .u8 (a.op : Nat)) (.string a.name) (.slice kad a.kids.length kcap) := by rw [← hV]; exact alUp (al0 _ _) _
  have v1 : For3 V (w.heap.size + 1) (.int .u8 0) (.string ⟨#[]⟩) (.slice none 0 0) := by rw [← hV]; exact al1 _ _ _
  have HIA : Hid (IsT (fun b => X b ∧ b ≠ w.heap.size + 1) V a (.slice kad a.kids.length kcap)) := hI.apart kV (by omega)
  have HXX : Hid (∀ W, Kept [] V W → ∀ b, W.heap.size ≤ b → X b ∧ b ≠ w.heap.size + 1) := fun W k b hb => ⟨hX b (by have := kV.size; have := k.size; omega), by have := lt_of v1; have := k.size; omega⟩
  have HTT : Hid (TurnTab V) := hT.kept kV
  have HVV : Hid (_ = V) := hV
  have HKV : Hid (Kept [] w V) := kV
  have HV0 : Hid (For3 V w.heap.size (.int .u8 (a.op : Nat)) (.string a.name) (.slice kad a.kids.length kcap)) := v0
  have HV1 : Hid (For3 V (w.heap.size + 1) (.int .u8 0) (.string ⟨#[]⟩) (.slice none 0 0)) := v1
  have HCO : Hid (∀ W, Calls Tryd.prog 128 #[.agg #[.int .u8 (a.op : Nat), .string a.name, .slice kad a.kids.length kcap]] W fun e w' => e = .returned (.bool (cstB a)) ∧ Kept [] W w') := fun W => isConst_any a kad _ kcap W
  have HFO : Hid (∀ (o : Nat) ad n c W, Calls Tryd.prog 129 #[.int .u8 (o : Nat), .slice ad n c] W fun e w' => e = .returned (.agg #[.int .u8 (o : Nat), .string nE, .slice ad n c]) ∧ Kept [] W w') := formulaOf_any
  have ho12 : o < 12 := by omega
  have hoi : (o : Int) < 12 := by omega
  have HKS : Hid (Kept [] V V) := Kept.refl [] V
  obtain ⟨c0, c1, c2, -⟩ := HV0.out.cells
  by_cases hc : cstB a = true
  · have hS : sLast o a = a := by unfold sLast lastB; rw [hc]; rfl
    rw [hc] at HCO
    have HS : Hid (∀ w', Kept [] V w' → w'.cell? ⟨w.heap.size, 0, none⟩ = some (.int .u8 (a.op : Nat)) ∧ w'.cell? ⟨w.heap.size, 1, none⟩ = some (.string a.name) ∧ w'.cell? ⟨w.heap.size, 2, none⟩ = some (.slice kad a.kids.length kcap) ∧ w'.cell? ⟨0, o, none⟩ = some (.int .u8 (turnO o : Nat))) := fun w' k => ⟨cell_kept0 k c0, cell_kept0 k c1, cell_kept0 k c2, (HTT.out.kept k) o ho12⟩
    rw [hS]
    clear hS hI hT kV v0 v1 hV hX hG 
    (try clear hc); (try clear hc'); (try clear h1); (try clear h2); (try clear h3); (try clear ho)
    go_enter Tryd.func87, Tryd.ntmps87
    go_upto_region 1 with (fail)
    rw [HVV.out]
    refine wp_region_quiet (C := fun w' => Kept [] V w') (by kernel_rfl) (by kernel_rfl) (HKS.out.drew) ?_
    simp only []
    go_big_quiet_want
    refine ⟨.agg #[.int .u8 (a.op : Nat), .string a.name, .slice kad a.kids.length kcap], fun w' hw => ?_, ?_⟩
    · obtain ⟨f0, f1, f2, f3⟩ := HS.out w' hw
      go_simp
    go_big_quiet_on
    simp only [Act.put, Array.setIfInBounds, List.size_toArray, List.length_cons, List.length_nil, Nat.reduceAdd, Nat.reduceLT, ↓reduceDIte, List.set_toArray, List.set_cons_succ, List.set_cons_zero]
    go_big_quiet_want
    refine ⟨.bool true, fun w' hw => ?_, ?_⟩
    · go_simp
      exact (HCO.out w').mono fun e w'' ⟨h1, h2⟩ => ⟨h1, hw.trans h2 (by simp) (by simp)⟩
    go_big_quiet_on
    simp only [Act.put, Array.setIfInBounds, List.size_toArray, List.length_cons, List.length_nil, Nat.reduceAdd, Nat.reduceLT, ↓reduceDIte, List.set_toArray, List.set_cons_succ, List.set_cons_zero]
    go_big_quiet_want
    refine ⟨.bool true, fun w' hw => (by go_simp), ?_⟩
    go_big_quiet_on
    simp only [Act.put, Array.setIfInBounds, List.size_toArray, List.length_cons, List.length_nil, Nat.reduceAdd, Nat.reduceLT, ↓reduceDIte, List.set_toArray, List.set_cons_succ, List.set_cons_zero]
    go_big_quiet_skip
    go_big_quiet_skip
    go_big_quiet_skip
    go_big_quiet_skip
    go_big_quiet_want
    refine ⟨.bool true, fun w' hw => (by go_simp), ?_⟩
    go_big_quiet_on
    simp only [Act.put, Array.setIfInBounds, List.size_toArray, List.length_cons, List.length_nil, Nat.reduceAdd, Nat.reduceLT, ↓reduceDIte, List.set_toArray, List.set_cons_succ, List.set_cons_zero]
    go_big_quiet_want
    refine ⟨.bool true, fun w' hw => (by go_simp), ?_⟩
    go_big_quiet_on
    simp only [Act.put, Array.setIfInBounds, List.size_toArray, List.length_cons, List.length_nil, Nat.reduceAdd, Nat.reduceLT, ↓reduceDIte, List.set_toArray, List.set_cons_succ, List.set_cons_zero]
    go_big_quiet_skip
    go_big_quiet_skip
    go_big_quiet_skip
    go_big_quiet_skip
    go_big_quiet_skip
    go_big_quiet_skip
    go_big_quiet_skip
    go_big_quiet_skip
    go_big_quiet_skip
    go_big_quiet_skip
    go_big_quiet_skip
    go_big_quiet_skip
    go_big_quiet_skip
    go_big_quiet_skip
    go_big_quiet_skip
    go_big_quiet_want
    refine ⟨.bool true, fun w' hw => (by go_simp), ?_⟩
    go_big_quiet_on
    simp only [Act.put, Array.setIfInBounds, List.size_toArray, List.length_cons, List.length_nil, Nat.reduceAdd, Nat.reduceLT, ↓reduceDIte, List.set_toArray, List.set_cons_succ, List.set_cons_zero]
    refine wpQuiet_nil ?_
    intro W1 hk1
    have HK1 : Hid (Kept [] V W1) := hk1
    obtain ⟨x0, x1, x2, -⟩ := (HV0.out.kept hk1).cells
    obtain ⟨y0, y1, y2, yf⟩ := (HV1.out.kept hk1).cells
    clear hk1
    go_wp2
    exact gives_end rfl rfl rfl (HV1.out.kept HK1.out) (HIA.out.keptX HK1.out) (HKV.out.trans HK1.out (by simp) (by simp)) (by omega)
  · have hc' : cstB a = false := by simpa using hc
    rw [hc'] at HCO
    by_cases h1 : a.op = o
    · have e1 : ((a.op : Int) == (o : Int)) = true := by rw [beq_iff_eq]; omega
      have hS : sLast o a = a := by unfold sLast lastB; rw [if_pos]; simp [h1]
      have HS : Hid (∀ w', Kept [] V w' → w'.cell? ⟨w.heap.size, 0, none⟩ = some (.int .u8 (a.op : Nat)) ∧ w'.cell? ⟨w.heap.size, 1, none⟩ = some (.string a.name) ∧ w'.cell? ⟨w.heap.size, 2, none⟩ = some (.slice kad a.kids.length kcap) ∧ w'.cell? ⟨0, o, none⟩ = some (.int .u8 (turnO o : Nat))) := fun w' k => ⟨cell_kept0 k c0, cell_kept0 k c1, cell_kept0 k c2, (HTT.out.kept k) o ho12⟩
      rw [hS]
      clear hS hI hT kV v0 v1 hV hX hG 
      (try clear hc); (try clear hc'); (try clear h1); (try clear h2); (try clear h3); (try clear ho)
      go_enter Tryd.func87, Tryd.ntmps87
      go_upto_region 1 with (fail)
      rw [HVV.out]
      refine wp_region_quiet (C := fun w' => Kept [] V w') (by kernel_rfl) (by kernel_rfl) (HKS.out.drew) ?_
      simp only []
      go_big_quiet_want
      refine ⟨.agg #[.int .u8 (a.op : Nat), .string a.name, .slice kad a.kids.length kcap], fun w' hw => ?_, ?_⟩
      · obtain ⟨f0, f1, f2, f3⟩ := HS.out w' hw
        go_simp
      go_big_quiet_on
      simp only [Act.put, Array.setIfInBounds, List.size_toArray, List.length_cons, List.length_nil, Nat.reduceAdd, Nat.reduceLT, ↓reduceDIte, List.set_toArray, List.set_cons_succ, List.set_cons_zero]
      go_big_quiet_want
      refine ⟨.bool false, fun w' hw => ?_, ?_⟩
      · go_simp
        exact (HCO.out w').mono fun e w'' ⟨h1, h2⟩ => ⟨h1, hw.trans h2 (by simp) (by simp)⟩
      go_big_quiet_on
      simp only [Act.put, Array.setIfInBounds, List.size_toArray, List.length_cons, List.length_nil, Nat.reduceAdd, Nat.reduceLT, ↓reduceDIte, List.set_toArray, List.set_cons_succ, List.set_cons_zero]
      go_big_quiet_want
      refine ⟨.bool false, fun w' hw => (by go_simp), ?_⟩
      go_big_quiet_on
      simp only [Act.put, Array.setIfInBounds, List.size_toArray, List.length_cons, List.length_nil, Nat.reduceAdd, Nat.reduceLT, ↓reduceDIte, List.set_toArray, List.set_cons_succ, List.set_cons_zero]
      go_big_quiet_want
      refine ⟨.pointer (some ⟨w.heap.size, 0, none⟩), fun w' hw => (by go_simp), ?_⟩
      go_big_quiet_on
      simp only [Act.put, Array.setIfInBounds, List.size_toArray, List.length_cons, List.length_nil, Nat.reduceAdd, Nat.reduceLT, ↓reduceDIte, List.set_toArray, List.set_cons_succ, List.set_cons_zero]
      go_big_quiet_want
      refine ⟨.int .u8 (a.op : Nat), fun w' hw => ?_, ?_⟩
      · obtain ⟨f0, f1, f2, f3⟩ := HS.out w' hw
        go_simp
      go_big_quiet_on
      simp only [Act.put, Array.setIfInBounds, List.size_toArray, List.length_cons, List.length_nil, Nat.reduceAdd, Nat.reduceLT, ↓reduceDIte, List.set_toArray, List.set_cons_succ, List.set_cons_zero]
      go_big_quiet_want
      refine ⟨.int .u8 (o : Nat), fun w' hw => (by go_simp), ?_⟩
      go_big_quiet_on
      simp only [Act.put, Array.setIfInBounds, List.size_toArray, List.length_cons, List.length_nil, Nat.reduceAdd, Nat.reduceLT, ↓reduceDIte, List.set_toArray, List.set_cons_succ, List.set_cons_zero]
      go_big_quiet_want
      refine ⟨.bool true, fun w' hw => (by go_simp), ?_⟩
      go_big_quiet_on
      simp only [Act.put, Array.setIfInBounds, List.size_toArray, List.length_cons, List.length_nil, Nat.reduceAdd, Nat.reduceLT, ↓reduceDIte, List.set_toArray, List.set_cons_succ, List.set_cons_zero]
      go_big_quiet_want
      refine ⟨.bool true, fun w' hw => (by go_simp), ?_⟩
      go_big_quiet_on
      simp only [Act.put, Array.setIfInBounds, List.size_toArray, List.length_cons, List.length_nil, Nat.reduceAdd, Nat.reduceLT, ↓reduceDIte, List.set_toArray, List.set_cons_succ, List.set_cons_zero]
      go_big_quiet_want
      refine ⟨.bool true, fun w' hw => (by go_simp), ?_⟩
      go_big_quiet_on
      simp only [Act.put, Array.setIfInBounds, List.size_toArray, List.length_cons, List.length_nil, Nat.reduceAdd, Nat.reduceLT, ↓reduceDIte, List.set_toArray, List.set_cons_succ, List.set_cons_zero]
      go_big_quiet_skip
      go_big_quiet_skip
      go_big_quiet_skip
      go_big_quiet_skip
      go_big_quiet_skip
      go_big_quiet_skip
      go_big_quiet_skip
      go_big_quiet_skip
      go_big_quiet_skip
      go_big_quiet_skip
      go_big_quiet_skip
      go_big_quiet_skip
      go_big_quiet_skip
      go_big_quiet_skip
      go_big_quiet_skip
      go_big_quiet_want
      refine ⟨.bool true, fun w' hw => (by go_simp), ?_⟩
      go_big_quiet_on
      simp only [Act.put, Array.setIfInBounds, List.size_toArray, List.length_cons, List.length_nil, Nat.reduceAdd, Nat.reduceLT, ↓reduceDIte, List.set_toArray, List.set_cons_succ, List.set_cons_zero]
      refine wpQuiet_nil ?_
      intro W1 hk1
      have HK1 : Hid (Kept [] V W1) := hk1
      obtain ⟨x0, x1, x2, -⟩ := (HV0.out.kept hk1).cells
      obtain ⟨y0, y1, y2, yf⟩ := (HV1.out.kept hk1).cells
      clear hk1
      go_wp2
      exact gives_end rfl rfl rfl (HV1.out.kept HK1.out) (HIA.out.keptX HK1.out) (HKV.out.trans HK1.out (by simp) (by simp)) (by omega)
    · have e1 : ((a.op : Int) == (o : Int)) = false := by rw [beq_eq_false_iff_ne]; omega
      by_cases h2 : a.op = turnO o
      · have e2 : ((a.op : Int) == (turnO o : Int)) = true := by rw [beq_iff_eq]; omega
        have hpos : 0 < a.kids.length := by
          obtain ⟨x, e, _⟩ := good_u (a := a) (by rw [h2]; rcases ho with rfl | rfl <;> simp [turnO, Un]) hG
          rw [e]; show 0 < 1; decide
        have hposi : (0 : Int) < (a.kids.length : Int) := by omega
        by_cases h3 : (nk0 a).op = o
        · have e3 : (((nk0 a).op : Int) == (o : Int)) = true := by rw [beq_iff_eq]; omega
          have hS : sLast o a = a := by unfold sLast lastB; rw [if_pos]; simp [h2, h3]
          obtain ⟨b, off, xa, xc, rfl, g0, g1, g2, hx⟩ := kid_of hI hpos
          have HS : Hid (∀ w', Kept [] V w' → w'.cell? ⟨w.heap.size, 0, none⟩ = some (.int .u8 (a.op : Nat)) ∧ w'.cell? ⟨w.heap.size, 1, none⟩ = some (.string a.name) ∧ w'.cell? ⟨w.heap.size, 2, none⟩ = some (.slice (some ⟨b, off, none⟩) a.kids.length kcap) ∧ w'.cell? ⟨0, o, none⟩ = some (.int .u8 (turnO o : Nat)) ∧ w'.cell? ⟨b, off, none⟩ = some (.int .u8 ((nk0 a).op : Nat))) := fun w' k => ⟨cell_kept0 k c0, cell_kept0 k c1, cell_kept0 k c2, (HTT.out.kept k) o ho12, cell_kept0 (kV.trans k (H := []) (by simp) (by simp)) g0⟩
          rw [hS]
          clear hS hI hT kV v0 v1 hV hX hG g0 g1 g2 hx
          (try clear hc); (try clear hc'); (try clear h1); (try clear h2); (try clear h3); (try clear ho)
          go_enter Tryd.func87, Tryd.ntmps87
          go_upto_region 1 with (fail)
          rw [HVV.out]
          refine wp_region_quiet (C := fun w' => Kept [] V w') (by kernel_rfl) (by kernel_rfl) (HKS.out.drew) ?_
          simp only []
          go_big_quiet_want
          refine ⟨.agg #[.int .u8 (a.op : Nat), .string a.name, .slice (some ⟨b, off, none⟩) a.kids.length kcap], fun w' hw => ?_, ?_⟩
          · obtain ⟨f0, f1, f2, f3, f4⟩ := HS.out w' hw
            go_simp
          go_big_quiet_on
          simp only [Act.put, Array.setIfInBounds, List.size_toArray, List.length_cons, List.length_nil, Nat.reduceAdd, Nat.reduceLT, ↓reduceDIte, List.set_toArray, List.set_cons_succ, List.set_cons_zero]
          go_big_quiet_want
          refine ⟨.bool false, fun w' hw => ?_, ?_⟩
          · go_simp
            exact (HCO.out w').mono fun e w'' ⟨h1, h2⟩ => ⟨h1, hw.trans h2 (by simp) (by simp)⟩
          go_big_quiet_on
          simp only [Act.put, Array.setIfInBounds, List.size_toArray, List.length_cons, List.length_nil, Nat.reduceAdd, Nat.reduceLT, ↓reduceDIte, List.set_toArray, List.set_cons_succ, List.set_cons_zero]
          go_big_quiet_want
          refine ⟨.bool false, fun w' hw => (by go_simp), ?_⟩
          go_big_quiet_on
          simp only [Act.put, Array.setIfInBounds, List.size_toArray, List.length_cons, List.length_nil, Nat.reduceAdd, Nat.reduceLT, ↓reduceDIte, List.set_toArray, List.set_cons_succ, List.set_cons_zero]
          go_big_quiet_want
          refine ⟨.pointer (some ⟨w.heap.size, 0, none⟩), fun w' hw => (by go_simp), ?_⟩
          go_big_quiet_on
          simp only [Act.put, Array.setIfInBounds, List.size_toArray, List.length_cons, List.length_nil, Nat.reduceAdd, Nat.reduceLT, ↓reduceDIte, List.set_toArray, List.set_cons_succ, List.set_cons_zero]
          go_big_quiet_want
          refine ⟨.int .u8 (a.op : Nat), fun w' hw => ?_, ?_⟩
          · obtain ⟨f0, f1, f2, f3, f4⟩ := HS.out w' hw
            go_simp
          go_big_quiet_on
          simp only [Act.put, Array.setIfInBounds, List.size_toArray, List.length_cons, List.length_nil, Nat.reduceAdd, Nat.reduceLT, ↓reduceDIte, List.set_toArray, List.set_cons_succ, List.set_cons_zero]
          go_big_quiet_want
          refine ⟨.int .u8 (o : Nat), fun w' hw => (by go_simp), ?_⟩
          go_big_quiet_on
          simp only [Act.put, Array.setIfInBounds, List.size_toArray, List.length_cons, List.length_nil, Nat.reduceAdd, Nat.reduceLT, ↓reduceDIte, List.set_toArray, List.set_cons_succ, List.set_cons_zero]
          go_big_quiet_want
          refine ⟨.bool false, fun w' hw => (by go_simp), ?_⟩
          go_big_quiet_on
          simp only [Act.put, Array.setIfInBounds, List.size_toArray, List.length_cons, List.length_nil, Nat.reduceAdd, Nat.reduceLT, ↓reduceDIte, List.set_toArray, List.set_cons_succ, List.set_cons_zero]
          go_big_quiet_want
          refine ⟨.bool false, fun w' hw => (by go_simp), ?_⟩
          go_big_quiet_on
          simp only [Act.put, Array.setIfInBounds, List.size_toArray, List.length_cons, List.length_nil, Nat.reduceAdd, Nat.reduceLT, ↓reduceDIte, List.set_toArray, List.set_cons_succ, List.set_cons_zero]
          go_big_quiet_want
          refine ⟨.bool false, fun w' hw => (by go_simp), ?_⟩
          go_big_quiet_on
          simp only [Act.put, Array.setIfInBounds, List.size_toArray, List.length_cons, List.length_nil, Nat.reduceAdd, Nat.reduceLT, ↓reduceDIte, List.set_toArray, List.set_cons_succ, List.set_cons_zero]
          go_big_quiet_want
          refine ⟨.pointer (some ⟨w.heap.size, 0, none⟩), fun w' hw => (by go_simp), ?_⟩
          go_big_quiet_on
          simp only [Act.put, Array.setIfInBounds, List.size_toArray, List.length_cons, List.length_nil, Nat.reduceAdd, Nat.reduceLT, ↓reduceDIte, List.set_toArray, List.set_cons_succ, List.set_cons_zero]
          go_big_quiet_want
          refine ⟨.int .u8 (a.op : Nat), fun w' hw => ?_, ?_⟩
          · obtain ⟨f0, f1, f2, f3, f4⟩ := HS.out w' hw
            go_simp
          go_big_quiet_on
          simp only [Act.put, Array.setIfInBounds, List.size_toArray, List.length_cons, List.length_nil, Nat.reduceAdd, Nat.reduceLT, ↓reduceDIte, List.set_toArray, List.set_cons_succ, List.set_cons_zero]
          go_big_quiet_want
          refine ⟨.int .u8 (o : Nat), fun w' hw => (by go_simp), ?_⟩
          go_big_quiet_on
          simp only [Act.put, Array.setIfInBounds, List.size_toArray, List.length_cons, List.length_nil, Nat.reduceAdd, Nat.reduceLT, ↓reduceDIte, List.set_toArray, List.set_cons_succ, List.set_cons_zero]
          go_big_quiet_want
          refine ⟨.pointer (some ⟨0, o, none⟩), fun w' hw => (by go_simp), ?_⟩
          go_big_quiet_on
          simp only [Act.put, Array.setIfInBounds, List.size_toArray, List.length_cons, List.length_nil, Nat.reduceAdd, Nat.reduceLT, ↓reduceDIte, List.set_toArray, List.set_cons_succ, List.set_cons_zero]
          go_big_quiet_want
          refine ⟨.int .u8 (turnO o : Nat), fun w' hw => ?_, ?_⟩
          · obtain ⟨f0, f1, f2, f3, f4⟩ := HS.out w' hw
            go_simp
          go_big_quiet_on
          simp only [Act.put, Array.setIfInBounds, List.size_toArray, List.length_cons, List.length_nil, Nat.reduceAdd, Nat.reduceLT, ↓reduceDIte, List.set_toArray, List.set_cons_succ, List.set_cons_zero]
          go_big_quiet_want
          refine ⟨.bool true, fun w' hw => (by go_simp), ?_⟩
          go_big_quiet_on
          simp only [Act.put, Array.setIfInBounds, List.size_toArray, List.length_cons, List.length_nil, Nat.reduceAdd, Nat.reduceLT, ↓reduceDIte, List.set_toArray, List.set_cons_succ, List.set_cons_zero]
          go_big_quiet_want
          refine ⟨.bool true, fun w' hw => (by go_simp), ?_⟩
          go_big_quiet_on
          simp only [Act.put, Array.setIfInBounds, List.size_toArray, List.length_cons, List.length_nil, Nat.reduceAdd, Nat.reduceLT, ↓reduceDIte, List.set_toArray, List.set_cons_succ, List.set_cons_zero]
          go_big_quiet_want
          refine ⟨.pointer (some ⟨w.heap.size, 2, none⟩), fun w' hw => (by go_simp), ?_⟩
          go_big_quiet_on
          simp only [Act.put, Array.setIfInBounds, List.size_toArray, List.length_cons, List.length_nil, Nat.reduceAdd, Nat.reduceLT, ↓reduceDIte, List.set_toArray, List.set_cons_succ, List.set_cons_zero]
          go_big_quiet_want
          refine ⟨.slice (some ⟨b, off, none⟩) a.kids.length kcap, fun w' hw => ?_, ?_⟩
          · obtain ⟨f0, f1, f2, f3, f4⟩ := HS.out w' hw
            go_simp
          go_big_quiet_on
          simp only [Act.put, Array.setIfInBounds, List.size_toArray, List.length_cons, List.length_nil, Nat.reduceAdd, Nat.reduceLT, ↓reduceDIte, List.set_toArray, List.set_cons_succ, List.set_cons_zero]
          go_big_quiet_want
          refine ⟨.pointer (some ⟨b, off, none⟩), fun w' hw => (by go_simp), ?_⟩
          go_big_quiet_on
          simp only [Act.put, Array.setIfInBounds, List.size_toArray, List.length_cons, List.length_nil, Nat.reduceAdd, Nat.reduceLT, ↓reduceDIte, List.set_toArray, List.set_cons_succ, List.set_cons_zero]
          go_big_quiet_want
          refine ⟨.pointer (some ⟨b, off, none⟩), fun w' hw => (by go_simp), ?_⟩
          go_big_quiet_on
          simp only [Act.put, Array.setIfInBounds, List.size_toArray, List.length_cons, List.length_nil, Nat.reduceAdd, Nat.reduceLT, ↓reduceDIte, List.set_toArray, List.set_cons_succ, List.set_cons_zero]
          go_big_quiet_want
          refine ⟨.int .u8 ((nk0 a).op : Nat), fun w' hw => ?_, ?_⟩
          · obtain ⟨f0, f1, f2, f3, f4⟩ := HS.out w' hw
            go_simp
          go_big_quiet_on
          simp only [Act.put, Array.setIfInBounds, List.size_toArray, List.length_cons, List.length_nil, Nat.reduceAdd, Nat.reduceLT, ↓reduceDIte, List.set_toArray, List.set_cons_succ, List.set_cons_zero]
          go_big_quiet_want
          refine ⟨.int .u8 (o : Nat), fun w' hw => (by go_simp), ?_⟩
          go_big_quiet_on
          simp only [Act.put, Array.setIfInBounds, List.size_toArray, List.length_cons, List.length_nil, Nat.reduceAdd, Nat.reduceLT, ↓reduceDIte, List.set_toArray, List.set_cons_succ, List.set_cons_zero]
          go_big_quiet_want
          refine ⟨.bool true, fun w' hw => (by go_simp), ?_⟩
          go_big_quiet_on
          simp only [Act.put, Array.setIfInBounds, List.size_toArray, List.length_cons, List.length_nil, Nat.reduceAdd, Nat.reduceLT, ↓reduceDIte, List.set_toArray, List.set_cons_succ, List.set_cons_zero]
          go_big_quiet_want
          refine ⟨.bool true, fun w' hw => (by go_simp), ?_⟩
          go_big_quiet_on
          simp only [Act.put, Array.setIfInBounds, List.size_toArray, List.length_cons, List.length_nil, Nat.reduceAdd, Nat.reduceLT, ↓reduceDIte, List.set_toArray, List.set_cons_succ, List.set_cons_zero]
          go_big_quiet_want
          refine ⟨.bool true, fun w' hw => (by go_simp), ?_⟩
          go_big_quiet_on
          simp only [Act.put, Array.setIfInBounds, List.size_toArray, List.length_cons, List.length_nil, Nat.reduceAdd, Nat.reduceLT, ↓reduceDIte, List.set_toArray, List.set_cons_succ, List.set_cons_zero]
          refine wpQuiet_nil ?_
          intro W1 hk1
          have HK1 : Hid (Kept [] V W1) := hk1
          obtain ⟨x0, x1, x2, -⟩ := (HV0.out.kept hk1).cells
          obtain ⟨y0, y1, y2, yf⟩ := (HV1.out.kept hk1).cells
          clear hk1
          go_wp2
          exact gives_end rfl rfl rfl (HV1.out.kept HK1.out) (HIA.out.keptX HK1.out) (HKV.out.trans HK1.out (by simp) (by simp)) (by omega)
        · have e3 : (((nk0 a).op : Int) == (o : Int)) = false := by rw [beq_eq_false_iff_ne]; omega
          have hS : sLast o a = nn1 o a := by unfold sLast lastB; rw [if_neg]; simp [hc', h1, h3]
          obtain ⟨b, off, xa, xc, rfl, g0, g1, g2, hx⟩ := kid_of hI hpos
          have HS : Hid (∀ w', Kept [] V w' → w'.cell? ⟨w.heap.size, 0, none⟩ = some (.int .u8 (a.op : Nat)) ∧ w'.cell? ⟨w.heap.size, 1, none⟩ = some (.string a.name) ∧ w'.cell? ⟨w.heap.size, 2, none⟩ = some (.slice (some ⟨b, off, none⟩) a.kids.length kcap) ∧ w'.cell? ⟨0, o, none⟩ = some (.int .u8 (turnO o : Nat)) ∧ w'.cell? ⟨b, off, none⟩ = some (.int .u8 ((nk0 a).op : Nat))) := fun w' k => ⟨cell_kept0 k c0, cell_kept0 k c1, cell_kept0 k c2, (HTT.out.kept k) o ho12, cell_kept0 (kV.trans k (H := []) (by simp) (by simp)) g0⟩
          rw [hS]
          clear hS hI hT kV v0 v1 hV hX hG g0 g1 g2 hx
          (try clear hc); (try clear hc'); (try clear h1); (try clear h2); (try clear h3); (try clear ho)
          go_enter Tryd.func87, Tryd.ntmps87
          go_upto_region 1 with (fail)
          rw [HVV.out]
          refine wp_region_quiet (C := fun w' => Kept [] V w') (by kernel_rfl) (by kernel_rfl) (HKS.out.drew) ?_
          simp only []
          go_big_quiet_want
          refine ⟨.agg #[.int .u8 (a.op : Nat), .string a.name, .slice (some ⟨b, off, none⟩) a.kids.length kcap], fun w' hw => ?_, ?_⟩
          · obtain ⟨f0, f1, f2, f3, f4⟩ := HS.out w' hw
            go_simp
          go_big_quiet_on
          simp only [Act.put, Array.setIfInBounds, List.size_toArray, List.length_cons, List.length_nil, Nat.reduceAdd, Nat.reduceLT, ↓reduceDIte, List.set_toArray, List.set_cons_succ, List.set_cons_zero]
          go_big_quiet_want
          refine ⟨.bool false, fun w' hw => ?_, ?_⟩
          · go_simp
            exact (HCO.out w').mono fun e w'' ⟨h1, h2⟩ => ⟨h1, hw.trans h2 (by simp) (by simp)⟩
          go_big_quiet_on
          simp only [Act.put, Array.setIfInBounds, List.size_toArray, List.length_cons, List.length_nil, Nat.reduceAdd, Nat.reduceLT, ↓reduceDIte, List.set_toArray, List.set_cons_succ, List.set_cons_zero]
          go_big_quiet_want
          refine ⟨.bool false, fun w' hw => (by go_simp), ?_⟩
          go_big_quiet_on
          simp only [Act.put, Array.setIfInBounds, List.size_toArray, List.length_cons, List.length_nil, Nat.reduceAdd, Nat.reduceLT, ↓reduceDIte, List.set_toArray, List.set_cons_succ, List.set_cons_zero]
          go_big_quiet_want
          refine ⟨.pointer (some ⟨w.heap.size, 0, none⟩), fun w' hw => (by go_simp), ?_⟩
          go_big_quiet_on
          simp only [Act.put, Array.setIfInBounds, List.size_toArray, List.length_cons, List.length_nil, Nat.reduceAdd, Nat.reduceLT, ↓reduceDIte, List.set_toArray, List.set_cons_succ, List.set_cons_zero]
          go_big_quiet_want
          refine ⟨.int .u8 (a.op : Nat), fun w' hw => ?_, ?_⟩
          · obtain ⟨f0, f1, f2, f3, f4⟩ := HS.out w' hw
            go_simp
          go_big_quiet_on
          simp only [Act.put, Array.setIfInBounds, List.size_toArray, List.length_cons, List.length_nil, Nat.reduceAdd, Nat.reduceLT, ↓reduceDIte, List.set_toArray, List.set_cons_succ, List.set_cons_zero]
          go_big_quiet_want
          refine ⟨.int .u8 (o : Nat), fun w' hw => (by go_simp), ?_⟩
          go_big_quiet_on
          simp only [Act.put, Array.setIfInBounds, List.size_toArray, List.length_cons, List.length_nil, Nat.reduceAdd, Nat.reduceLT, ↓reduceDIte, List.set_toArray, List.set_cons_succ, List.set_cons_zero]
          go_big_quiet_want
          refine ⟨.bool false, fun w' hw => (by go_simp), ?_⟩
          go_big_quiet_on
          simp only [Act.put, Array.setIfInBounds, List.size_toArray, List.length_cons, List.length_nil, Nat.reduceAdd, Nat.reduceLT, ↓reduceDIte, List.set_toArray, List.set_cons_succ, List.set_cons_zero]
          go_big_quiet_want
          refine ⟨.bool false, fun w' hw => (by go_simp), ?_⟩
          go_big_quiet_on
          simp only [Act.put, Array.setIfInBounds, List.size_toArray, List.length_cons, List.length_nil, Nat.reduceAdd, Nat.reduceLT, ↓reduceDIte, List.set_toArray, List.set_cons_succ, List.set_cons_zero]
          go_big_quiet_want
          refine ⟨.bool false, fun w' hw => (by go_simp), ?_⟩
          go_big_quiet_on
          simp only [Act.put, Array.setIfInBounds, List.size_toArray, List.length_cons, List.length_nil, Nat.reduceAdd, Nat.reduceLT, ↓reduceDIte, List.set_toArray, List.set_cons_succ, List.set_cons_zero]
          go_big_quiet_want
          refine ⟨.pointer (some ⟨w.heap.size, 0, none⟩), fun w' hw => (by go_simp), ?_⟩
          go_big_quiet_on
          simp only [Act.put, Array.setIfInBounds, List.size_toArray, List.length_cons, List.length_nil, Nat.reduceAdd, Nat.reduceLT, ↓reduceDIte, List.set_toArray, List.set_cons_succ, List.set_cons_zero]
          go_big_quiet_want
          refine ⟨.int .u8 (a.op : Nat), fun w' hw => ?_, ?_⟩
          · obtain ⟨f0, f1, f2, f3, f4⟩ := HS.out w' hw
            go_simp
          go_big_quiet_on
          simp only [Act.put, Array.setIfInBounds, List.size_toArray, List.length_cons, List.length_nil, Nat.reduceAdd, Nat.reduceLT, ↓reduceDIte, List.set_toArray, List.set_cons_succ, List.set_cons_zero]
          go_big_quiet_want
          refine ⟨.int .u8 (o : Nat), fun w' hw => (by go_simp), ?_⟩
          go_big_quiet_on
          simp only [Act.put, Array.setIfInBounds, List.size_toArray, List.length_cons, List.length_nil, Nat.reduceAdd, Nat.reduceLT, ↓reduceDIte, List.set_toArray, List.set_cons_succ, List.set_cons_zero]
          go_big_quiet_want
          refine ⟨.pointer (some ⟨0, o, none⟩), fun w' hw => (by go_simp), ?_⟩
          go_big_quiet_on
          simp only [Act.put, Array.setIfInBounds, List.size_toArray, List.length_cons, List.length_nil, Nat.reduceAdd, Nat.reduceLT, ↓reduceDIte, List.set_toArray, List.set_cons_succ, List.set_cons_zero]
          go_big_quiet_want
          refine ⟨.int .u8 (turnO o : Nat), fun w' hw => ?_, ?_⟩
          · obtain ⟨f0, f1, f2, f3, f4⟩ := HS.out w' hw
            go_simp
          go_big_quiet_on
          simp only [Act.put, Array.setIfInBounds, List.size_toArray, List.length_cons, List.length_nil, Nat.reduceAdd, Nat.reduceLT, ↓reduceDIte, List.set_toArray, List.set_cons_succ, List.set_cons_zero]
          go_big_quiet_want
          refine ⟨.bool true, fun w' hw => (by go_simp), ?_⟩
          go_big_quiet_on
          simp only [Act.put, Array.setIfInBounds, List.size_toArray, List.length_cons, List.length_nil, Nat.reduceAdd, Nat.reduceLT, ↓reduceDIte, List.set_toArray, List.set_cons_succ, List.set_cons_zero]
          go_big_quiet_want
          refine ⟨.bool true, fun w' hw => (by go_simp), ?_⟩
          go_big_quiet_on
          simp only [Act.put, Array.setIfInBounds, List.size_toArray, List.length_cons, List.length_nil, Nat.reduceAdd, Nat.reduceLT, ↓reduceDIte, List.set_toArray, List.set_cons_succ, List.set_cons_zero]
          go_big_quiet_want
          refine ⟨.pointer (some ⟨w.heap.size, 2, none⟩), fun w' hw => (by go_simp), ?_⟩
          go_big_quiet_on
          simp only [Act.put, Array.setIfInBounds, List.size_toArray, List.length_cons, List.length_nil, Nat.reduceAdd, Nat.reduceLT, ↓reduceDIte, List.set_toArray, List.set_cons_succ, List.set_cons_zero]
          go_big_quiet_want
          refine ⟨.slice (some ⟨b, off, none⟩) a.kids.length kcap, fun w' hw => ?_, ?_⟩
          · obtain ⟨f0, f1, f2, f3, f4⟩ := HS.out w' hw
            go_simp
          go_big_quiet_on
          simp only [Act.put, Array.setIfInBounds, List.size_toArray, List.length_cons, List.length_nil, Nat.reduceAdd, Nat.reduceLT, ↓reduceDIte, List.set_toArray, List.set_cons_succ, List.set_cons_zero]
          go_big_quiet_want
          refine ⟨.pointer (some ⟨b, off, none⟩), fun w' hw => (by go_simp), ?_⟩
          go_big_quiet_on
          simp only [Act.put, Array.setIfInBounds, List.size_toArray, List.length_cons, List.length_nil, Nat.reduceAdd, Nat.reduceLT, ↓reduceDIte, List.set_toArray, List.set_cons_succ, List.set_cons_zero]
          go_big_quiet_want
          refine ⟨.pointer (some ⟨b, off, none⟩), fun w' hw => (by go_simp), ?_⟩
          go_big_quiet_on
          simp only [Act.put, Array.setIfInBounds, List.size_toArray, List.length_cons, List.length_nil, Nat.reduceAdd, Nat.reduceLT, ↓reduceDIte, List.set_toArray, List.set_cons_succ, List.set_cons_zero]
          go_big_quiet_want
          refine ⟨.int .u8 ((nk0 a).op : Nat), fun w' hw => ?_, ?_⟩
          · obtain ⟨f0, f1, f2, f3, f4⟩ := HS.out w' hw
            go_simp
          go_big_quiet_on
          simp only [Act.put, Array.setIfInBounds, List.size_toArray, List.length_cons, List.length_nil, Nat.reduceAdd, Nat.reduceLT, ↓reduceDIte, List.set_toArray, List.set_cons_succ, List.set_cons_zero]
          go_big_quiet_want
          refine ⟨.int .u8 (o : Nat), fun w' hw => (by go_simp), ?_⟩
          go_big_quiet_on
          simp only [Act.put, Array.setIfInBounds, List.size_toArray, List.length_cons, List.length_nil, Nat.reduceAdd, Nat.reduceLT, ↓reduceDIte, List.set_toArray, List.set_cons_succ, List.set_cons_zero]
          go_big_quiet_want
          refine ⟨.bool false, fun w' hw => (by go_simp), ?_⟩
          go_big_quiet_on
          simp only [Act.put, Array.setIfInBounds, List.size_toArray, List.length_cons, List.length_nil, Nat.reduceAdd, Nat.reduceLT, ↓reduceDIte, List.set_toArray, List.set_cons_succ, List.set_cons_zero]
          go_big_quiet_want
          refine ⟨.bool false, fun w' hw => (by go_simp), ?_⟩
          go_big_quiet_on
          simp only [Act.put, Array.setIfInBounds, List.size_toArray, List.length_cons, List.length_nil, Nat.reduceAdd, Nat.reduceLT, ↓reduceDIte, List.set_toArray, List.set_cons_succ, List.set_cons_zero]
          go_big_quiet_want
          refine ⟨.bool false, fun w' hw => (by go_simp), ?_⟩
          go_big_quiet_on
          simp only [Act.put, Array.setIfInBounds, List.size_toArray, List.length_cons, List.length_nil, Nat.reduceAdd, Nat.reduceLT, ↓reduceDIte, List.set_toArray, List.set_cons_succ, List.set_cons_zero]
          refine wpQuiet_nil ?_
          intro W1 hk1
          have HK1 : Hid (Kept [] V W1) := hk1
          obtain ⟨x0, x1, x2, -⟩ := (HV0.out.kept hk1).cells
          obtain ⟨y0, y1, y2, yf⟩ := (HV1.out.kept hk1).cells
          clear hk1
          go_wp2_with (go_at_call 129; refine (HFO.out o _ _ _ _).mono ?_; rintro e W2 ⟨rfl, k2⟩; have HK2 : Hid (Kept [] V W2) := (HK1.out.alloc _).trans k2 (by simp) (by simp); obtain ⟨u0, u1, u2, uf⟩ := (HV1.out.kept HK2.out).cells; have HT2 : Hid (IsT (fun b => X b ∧ b ≠ w.heap.size + 1) W2 (nn1 o a) (.slice (some ⟨W1.heap.size, 0, none⟩) 1 1)) := (isT_one (HXX.out W1 HK1.out _ (Nat.le_refl _)) (al0 W1 _) (HIA.out.keptX (HK1.out.alloc _))).keptX k2; clear k2)
          exact gives_end rfl rfl rfl (HV1.out.kept HK2.out) HT2.out (HKV.out.trans HK2.out (by simp) (by simp)) (by omega)
      · have e2 : ((a.op : Int) == (turnO o : Int)) = false := by rw [beq_eq_false_iff_ne]; omega
        have hS : sLast o a = nn1 o a := by unfold sLast lastB; rw [if_neg]; simp [hc', h1, h2]
        have HS : Hid (∀ w', Kept [] V w' → w'.cell? ⟨w.heap.size, 0, none⟩ = some (.int .u8 (a.op : Nat)) ∧ w'.cell? ⟨w.heap.size, 1, none⟩ = some (.string a.name) ∧ w'.cell? ⟨w.heap.size, 2, none⟩ = some (.slice kad a.kids.length kcap) ∧ w'.cell? ⟨0, o, none⟩ = some (.int .u8 (turnO o : Nat))) := fun w' k => ⟨cell_kept0 k c0, cell_kept0 k c1, cell_kept0 k c2, (HTT.out.kept k) o ho12⟩
        rw [hS]
        clear hS hI hT kV v0 v1 hV hX hG 
        (try clear hc); (try clear hc'); (try clear h1); (try clear h2); (try clear h3); (try clear ho)
        go_enter Tryd.func87, Tryd.ntmps87
        go_upto_region 1 with (fail)
        rw [HVV.out]
        refine wp_region_quiet (C := fun w' => Kept [] V w') (by kernel_rfl) (by kernel_rfl) (HKS.out.drew) ?_
        simp only []
        go_big_quiet_want
        refine ⟨.agg #[.int .u8 (a.op : Nat), .string a.name, .slice kad a.kids.length kcap], fun w' hw => ?_, ?_⟩
        · obtain ⟨f0, f1, f2, f3⟩ := HS.out w' hw
          go_simp
        go_big_quiet_on
        simp only [Act.put, Array.setIfInBounds, List.size_toArray, List.length_cons, List.length_nil, Nat.reduceAdd, Nat.reduceLT, ↓reduceDIte, List.set_toArray, List.set_cons_succ, List.set_cons_zero]
        go_big_quiet_want
        refine ⟨.bool false, fun w' hw => ?_, ?_⟩
        · go_simp
          exact (HCO.out w').mono fun e w'' ⟨h1, h2⟩ => ⟨h1, hw.trans h2 (by simp) (by simp)⟩
        go_big_quiet_on
        simp only [Act.put, Array.setIfInBounds, List.size_toArray, List.length_cons, List.length_nil, Nat.reduceAdd, Nat.reduceLT, ↓reduceDIte, List.set_toArray, List.set_cons_succ, List.set_cons_zero]
        go_big_quiet_want
        refine ⟨.bool false, fun w' hw => (by go_simp), ?_⟩
        go_big_quiet_on
        simp only [Act.put, Array.setIfInBounds, List.size_toArray, List.length_cons, List.length_nil, Nat.reduceAdd, Nat.reduceLT, ↓reduceDIte, List.set_toArray, List.set_cons_succ, List.set_cons_zero]
        go_big_quiet_want
        refine ⟨.pointer (some ⟨w.heap.size, 0, none⟩), fun w' hw => (by go_simp), ?_⟩
        go_big_quiet_on
        simp only [Act.put, Array.setIfInBounds, List.size_toArray, List.length_cons, List.length_nil, Nat.reduceAdd, Nat.reduceLT, ↓reduceDIte, List.set_toArray, List.set_cons_succ, List.set_cons_zero]
        go_big_quiet_want
        refine ⟨.int .u8 (a.op : Nat), fun w' hw => ?_, ?_⟩
        · obtain ⟨f0, f1, f2, f3⟩ := HS.out w' hw
          go_simp
        go_big_quiet_on
        simp only [Act.put, Array.setIfInBounds, List.size_toArray, List.length_cons, List.length_nil, Nat.reduceAdd, Nat.reduceLT, ↓reduceDIte, List.set_toArray, List.set_cons_succ, List.set_cons_zero]
        go_big_quiet_want
        refine ⟨.int .u8 (o : Nat), fun w' hw => (by go_simp), ?_⟩
        go_big_quiet_on
        simp only [Act.put, Array.setIfInBounds, List.size_toArray, List.length_cons, List.length_nil, Nat.reduceAdd, Nat.reduceLT, ↓reduceDIte, List.set_toArray, List.set_cons_succ, List.set_cons_zero]
        go_big_quiet_want
        refine ⟨.bool false, fun w' hw => (by go_simp), ?_⟩
        go_big_quiet_on
        simp only [Act.put, Array.setIfInBounds, List.size_toArray, List.length_cons, List.length_nil, Nat.reduceAdd, Nat.reduceLT, ↓reduceDIte, List.set_toArray, List.set_cons_succ, List.set_cons_zero]
        go_big_quiet_want
        refine ⟨.bool false, fun w' hw => (by go_simp), ?_⟩
        go_big_quiet_on
        simp only [Act.put, Array.setIfInBounds, List.size_toArray, List.length_cons, List.length_nil, Nat.reduceAdd, Nat.reduceLT, ↓reduceDIte, List.set_toArray, List.set_cons_succ, List.set_cons_zero]
        go_big_quiet_want
        refine ⟨.bool false, fun w' hw => (by go_simp), ?_⟩
        go_big_quiet_on
        simp only [Act.put, Array.setIfInBounds, List.size_toArray, List.length_cons, List.length_nil, Nat.reduceAdd, Nat.reduceLT, ↓reduceDIte, List.set_toArray, List.set_cons_succ, List.set_cons_zero]
        go_big_quiet_want
        refine ⟨.pointer (some ⟨w.heap.size, 0, none⟩), fun w' hw => (by go_simp), ?_⟩
        go_big_quiet_on
        simp only [Act.put, Array.setIfInBounds, List.size_toArray, List.length_cons, List.length_nil, Nat.reduceAdd, Nat.reduceLT, ↓reduceDIte, List.set_toArray, List.set_cons_succ, List.set_cons_zero]
        go_big_quiet_want
        refine ⟨.int .u8 (a.op : Nat), fun w' hw => ?_, ?_⟩
        · obtain ⟨f0, f1, f2, f3⟩ := HS.out w' hw
          go_simp
        go_big_quiet_on
        simp only [Act.put, Array.setIfInBounds, List.size_toArray, List.length_cons, List.length_nil, Nat.reduceAdd, Nat.reduceLT, ↓reduceDIte, List.set_toArray, List.set_cons_succ, List.set_cons_zero]
        go_big_quiet_want
        refine ⟨.int .u8 (o : Nat), fun w' hw => (by go_simp), ?_⟩
        go_big_quiet_on
        simp only [Act.put, Array.setIfInBounds, List.size_toArray, List.length_cons, List.length_nil, Nat.reduceAdd, Nat.reduceLT, ↓reduceDIte, List.set_toArray, List.set_cons_succ, List.set_cons_zero]
        go_big_quiet_want
        refine ⟨.pointer (some ⟨0, o, none⟩), fun w' hw => (by go_simp), ?_⟩
        go_big_quiet_on
        simp only [Act.put, Array.setIfInBounds, List.size_toArray, List.length_cons, List.length_nil, Nat.reduceAdd, Nat.reduceLT, ↓reduceDIte, List.set_toArray, List.set_cons_succ, List.set_cons_zero]
        go_big_quiet_want
        refine ⟨.int .u8 (turnO o : Nat), fun w' hw => ?_, ?_⟩
        · obtain ⟨f0, f1, f2, f3⟩ := HS.out w' hw
          go_simp
        go_big_quiet_on
        simp only [Act.put, Array.setIfInBounds, List.size_toArray, List.length_cons, List.length_nil, Nat.reduceAdd, Nat.reduceLT, ↓reduceDIte, List.set_toArray, List.set_cons_succ, List.set_cons_zero]
        go_big_quiet_want
        refine ⟨.bool false, fun w' hw => (by go_simp), ?_⟩
        go_big_quiet_on
        simp only [Act.put, Array.setIfInBounds, List.size_toArray, List.length_cons, List.length_nil, Nat.reduceAdd, Nat.reduceLT, ↓reduceDIte, List.set_toArray, List.set_cons_succ, List.set_cons_zero]
        go_big_quiet_want
        refine ⟨.bool false, fun w' hw => (by go_simp), ?_⟩
        go_big_quiet_on
        simp only [Act.put, Array.setIfInBounds, List.size_toArray, List.length_cons, List.length_nil, Nat.reduceAdd, Nat.reduceLT, ↓reduceDIte, List.set_toArray, List.set_cons_succ, List.set_cons_zero]
        go_big_quiet_skip
        go_big_quiet_skip
        go_big_quiet_skip
        go_big_quiet_skip
        go_big_quiet_skip
        go_big_quiet_skip
        go_big_quiet_skip
        go_big_quiet_want
        refine ⟨.bool false, fun w' hw => (by go_simp), ?_⟩
        go_big_quiet_on
        simp only [Act.put, Array.setIfInBounds, List.size_toArray, List.length_cons, List.length_nil, Nat.reduceAdd, Nat.reduceLT, ↓reduceDIte, List.set_toArray, List.set_cons_succ, List.set_cons_zero]
        go_big_quiet_want
        refine ⟨.bool false, fun w' hw => (by go_simp), ?_⟩
        go_big_quiet_on
        simp only [Act.put, Array.setIfInBounds, List.size_toArray, List.length_cons, List.length_nil, Nat.reduceAdd, Nat.reduceLT, ↓reduceDIte, List.set_toArray, List.set_cons_succ, List.set_cons_zero]
        refine wpQuiet_nil ?_
        intro W1 hk1
        have HK1 : Hid (Kept [] V W1) := hk1
        obtain ⟨x0, x1, x2, -⟩ := (HV0.out.kept hk1).cells
        obtain ⟨y0, y1, y2, yf⟩ := (HV1.out.kept hk1).cells
        clear hk1
        go_wp2_with (go_at_call 129; refine (HFO.out o _ _ _ _).mono ?_; rintro e W2 ⟨rfl, k2⟩; have HK2 : Hid (Kept [] V W2) := (HK1.out.alloc _).trans k2 (by simp) (by simp); obtain ⟨u0, u1, u2, uf⟩ := (HV1.out.kept HK2.out).cells; have HT2 : Hid (IsT (fun b => X b ∧ b ≠ w.heap.size + 1) W2 (nn1 o a) (.slice (some ⟨W1.heap.size, 0, none⟩) 1 1)) := (isT_one (HXX.out W1 HK1.out _ (Nat.le_refl _)) (al0 W1 _) (HIA.out.keptX (HK1.out.alloc _))).keptX k2; clear k2)
        exact gives_end rfl rfl rfl (HV1.out.kept HK2.out) HT2.out (HKV.out.trans HK2.out (by simp) (by simp)) (by omega)
end Go.Proofs.YtddgciilcghbaaaDoor
