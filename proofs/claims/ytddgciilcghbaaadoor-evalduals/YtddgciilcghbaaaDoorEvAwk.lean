/- Table.Holds. -/
import Derived.Test.YtddgciilcghbaaaDoorEvAlong
import Derived.Test.YtddgciilcghbaaaDoorTrReb
import Derived.Deep.CutRange
namespace Go.Proofs.YtddgciilcghbaaaDoor
open Go.RowKit Go.Shelf Go.Maps

/-- What a call of a table's Holds leaves. -/
def THPost (w₁ w : World) (p m : Nat) (nv sv lv rv : Value) (q : Wd) (xs : List ByteArray) (r : Bool) (e : Ending) (w' : World) : Prop :=
  ∃ rv' known', e = .returned (.tuple #[.bool r, .int .i64 0]) ∧ TabIs w₁ w' p m nv sv lv rv' q xs known' ∧ Kept (FR p m rv) w w' ∧ (∀ g, rv'.ownBlock = some g → rv.ownBlock = some g ∨ w.heap.size ≤ g)
set_option maxHeartbeats 2000000 in
set_option maxRecDepth 20000 in
theorem tholds_ok (t : Tr) (X : Nat → Prop) (kv : Value) (i : Nat) (w₁ w : World) (p m : Nat) (nv sv lv rv : Value) (q : Wd) (xs : List ByteArray) (known : List Tr) (h0 : 0 < q.loop.length) (h8 : xs.length ≤ 8) (hF : t.Fine) (hI : IsT X w t kv) (hX : ∀ k, X k → k < w.heap.size ∧ k ∉ FR p m rv) (hT : TabIs w₁ w p m nv sv lv rv q xs known) (hK : KidsTab w) (hf : fitsN t xs = 0) (hkl : known.length ≤ 1000000) (hi : i < q.len) :
    Calls Tryd.prog 31 #[.pointer (some ⟨p, 0, none⟩), .agg #[.int .u8 (t.op : Nat), .string t.name, kv], .int .i64 (i : Nat)] w (THPost w₁ w p m nv sv lv rv q xs (rowT q xs t i)) := by
  obtain ⟨hG, hsz, hNm, _⟩ := fits_zero hf
  have htx := text_small t hG
  have hdz : t.depth ≤ t.size := Tr.depth_size t
  have hlen : q.len ≤ 70368744177664 := hT.word.few
  obtain ⟨kad, kcap, rfl⟩ := hI.slice
  have kB := (Kept.refl [] w).alloc (.cells #[.int .u8 (t.op : Nat), .string t.name, .slice kad t.kids.length kcap] 25)
  have HB0 : Hid (For3 (w.alloc (.cells #[.int .u8 (t.op : Nat), .string t.name, .slice kad t.kids.length kcap] 25)) w.heap.size (.int .u8 (t.op : Nat)) (.string t.name) (.slice kad t.kids.length kcap)) := al0 w _
  have HFI : Hid (∀ W, Kept [] w W → Calls Tryd.prog 38 #[.agg #[.int .u8 (t.op : Nat), .string t.name, .slice kad t.kids.length kcap], nv] W fun e w' => e = .returned (.int .i64 0) ∧ Kept [] W w') := fun W k => by
    have := efits_any t _ nv xs W (IsF.kept (IsT.isF hI) k) (by omega) (by omega) hF (hK.kept k) (hT.strs.kept k)
    rw [hf] at this
    exact this
  have HPL : Hid (∀ W, Kept [] w W → Calls Tryd.prog 32 #[.pointer (some ⟨p, 0, none⟩)] W fun e w' => e = .returned (.int .i64 (q.len : Nat)) ∧ Kept [] W w') := fun W k => tPlaces_any p nv sv lv rv (.map (some m)) q W (hT.tab.kept k) (hT.isW.kept k) h0
  have HRO : Hid (∀ W, Kept [] w W → Calls Tryd.prog 39 #[.pointer (some ⟨p, 0, none⟩), .agg #[.int .u8 (t.op : Nat), .string t.name, .slice kad t.kids.length kcap]] W (RowPost w₁ W p m nv sv lv rv q xs known t)) := fun W k =>
    row_any h0 h8 t X _ w₁ W p m nv sv lv rv known hG hNm hF (hI.cells (fun _ h => h) (fun _ _ _ _ c => cell_kept0 k c)) (fun x hx => ⟨by have := (hX x hx).1; have := k.size; omega, (hX x hx).2⟩) (hT.keep0 k) (by omega) (by omega)
  obtain ⟨ad, c, rfl, _⟩ := hT.nms.form
  have HTT : Hid (TabIs w₁ w p m (.slice ad xs.length c) sv lv rv q xs known) := hT
  obtain ⟨n, hn⟩ : ∃ n, q.len = n := ⟨_, rfl⟩
  have HN : Hid _ := hn
  rw [hn] at HPL hi hlen
  obtain ⟨rb, hrb⟩ : ∃ rb, rowT q xs t i = rb := ⟨_, rfl⟩
  have HRB : Hid _ := hrb
  rw [hrb]
  have hi1 : (i : Int) < (n : Int) := by omega
  have hi0 : ¬ ((i : Int) < 0) := by omega
  have hi2 : ¬ ((n : Int) ≤ (i : Int)) := by omega
  have hi3 : (0 : Int) ≤ (i : Int) := by omega
  clear hI hX hT hK hF hG hNm hf kB hn hrb
  have c0 := fun o => cell_kept0 ((Kept.refl [] w).alloc o) HTT.out.tab.cells.1
  go_enter Tryd.func31, Tryd.ntmps31
  go_wp2_with fail
  go_region_with (go_at_call 38; refine (HFI.out _ (by repeat (first | exact Kept.refl [] _ | refine Kept.drew ?_ | refine Kept.alloc ?_ _))).mono ?_; rintro e W1 ⟨rfl, k1⟩; have HK1 : Hid (Kept [] w W1) := Kept.trans (F := []) (G := []) (H := []) (by repeat (first | exact Kept.refl [] _ | refine Kept.drew ?_ | refine Kept.alloc ?_ _)) k1 (by simp) (by simp); have HB1 : Hid (For3 W1 w.heap.size (.int .u8 (t.op : Nat)) (.string t.name) (.slice kad t.kids.length kcap)) := HB0.out.kept (by first | exact k1 | exact Kept.trans (F := []) (G := []) (H := []) ((Kept.refl [] _).drew) k1 (by simp) (by simp)); clear k1)
  all_goals
    go_wp2_with (first
      | (go_at_call 32; refine (HPL.out _ HK1.out).mono ?_; rintro e W2 ⟨rfl, k2⟩; have HK2 : Hid (Kept [] w W2) := HK1.out.trans k2 (by simp) (by simp); obtain ⟨f0, f1, f2, _⟩ := (HB1.out.kept k2).cells; clear k2)
      | (go_at_call 39; refine (HRO.out _ HK2.out).mono ?_; rintro e W3 ⟨b, rv', known', rfl, hr, ht3, k3, g3, _, _⟩; rw [HN.out] at hr; have d0 := hr.cell hi; rw [HRB.out] at d0; have HT3 : Hid _ := ht3; have HK3 : Hid _ := k3; have HG3 : Hid _ := g3; (rw [HN.out]); clear hr ht3 k3 g3))
    go_ret2
    exact ⟨_, _, rfl, HT3.out, HK2.out.trans HK3.out (by simp) (fun x hx => .inl hx), fun g e => (HG3.out g e).imp id (fun h => by have := HK2.out.size; omega)⟩
set_option maxHeartbeats 2000000 in
set_option maxRecDepth 20000 in
theorem tholds_arg (t : Tr) (kv : Value) (i : Nat) (w₁ w : World) (p m : Nat) (nv sv lv rv : Value) (q : Wd) (xs : List ByteArray) (known : List Tr) (h0 : 0 < q.loop.length) (hF : t.Fine) (hI : IsF w t kv) (hT : TabIs w₁ w p m nv sv lv rv q xs known) (hK : KidsTab w) (hf : fitsN t xs = 0) (hi : q.len ≤ i) :
    Calls Tryd.prog 31 #[.pointer (some ⟨p, 0, none⟩), .agg #[.int .u8 (t.op : Nat), .string t.name, kv], .int .i64 (i : Nat)] w fun e w' => e = .returned (.tuple #[.bool false, .int .i64 1]) ∧ Kept [] w w' := by
  obtain ⟨hG, hsz, hNm, _⟩ := fits_zero hf
  have hdz : t.depth ≤ t.size := Tr.depth_size t
  obtain ⟨kad, kcap, rfl⟩ := hI.slice
  have HFI : Hid (∀ W, Kept [] w W → Calls Tryd.prog 38 #[.agg #[.int .u8 (t.op : Nat), .string t.name, .slice kad t.kids.length kcap], nv] W fun e w' => e = .returned (.int .i64 0) ∧ Kept [] W w') := fun W k => by
    have := efits_any t _ nv xs W (hI.kept k) (by omega) (by omega) hF (hK.kept k) (hT.strs.kept k)
    rw [hf] at this
    exact this
  have HPL : Hid (∀ W, Kept [] w W → Calls Tryd.prog 32 #[.pointer (some ⟨p, 0, none⟩)] W fun e w' => e = .returned (.int .i64 (q.len : Nat)) ∧ Kept [] W w') := fun W k => tPlaces_any p nv sv lv rv (.map (some m)) q W (hT.tab.kept k) (hT.isW.kept k) h0
  obtain ⟨ad, c, rfl, _⟩ := hT.nms.form
  have HTT : Hid (TabIs w₁ w p m (.slice ad xs.length c) sv lv rv q xs known) := hT
  have hi0 : ¬ ((i : Int) < 0) := by omega
  have hi2 : (q.len : Int) ≤ (i : Int) := by omega
  clear hI hT hK hF hG hNm hf
  have c0 := fun o => cell_kept0 ((Kept.refl [] w).alloc o) HTT.out.tab.cells.1
  go_enter Tryd.func31, Tryd.ntmps31
  go_wp2_with fail
  go_region_with (go_at_call 38; refine (HFI.out _ (by repeat (first | exact Kept.refl [] _ | refine Kept.drew ?_ | refine Kept.alloc ?_ _))).mono ?_; rintro e W1 ⟨rfl, k1⟩; have HK1 : Hid (Kept [] w W1) := Kept.trans (F := []) (G := []) (H := []) (by repeat (first | exact Kept.refl [] _ | refine Kept.drew ?_ | refine Kept.alloc ?_ _)) k1 (by simp) (by simp); clear k1)
  all_goals
    go_wp2_with (go_at_call 32; refine (HPL.out _ HK1.out).mono ?_; rintro e W2 ⟨rfl, k2⟩; have HK2 : Hid (Kept [] w W2) := HK1.out.trans k2 (by simp) (by simp); clear k2)
    go_ret2
    exact ⟨rfl, HK2.out⟩
end Go.Proofs.YtddgciilcghbaaaDoor

/- The laws' own trees: prop, one, two. -/
namespace Go.Proofs.YtddgciilcghbaaaDoor
open Go.RowKit Go.Shelf

/-- A tree in blocks from n on. -/
def IsN (n : Nat) (w : World) (t : Tr) (kv : Value) : Prop := IsT (fun k => n ≤ k) w t kv
theorem IsN.isF {n : Nat} {w : World} {t : Tr} {kv : Value} (h : IsN n w t kv) : IsF w t kv := IsT.isF h
theorem IsN.slice {n : Nat} {w : World} {t : Tr} {kv : Value} (h : IsN n w t kv) : ∃ ad cap, kv = .slice ad t.kids.length cap := IsT.slice h
theorem IsN.kept {n : Nat} {w w' : World} {t : Tr} {kv : Value} (h : IsN n w t kv) (k : Kept [] w w') : IsN n w' t kv := IsT.cells (fun _ h => h) (fun _ _ _ _ c => cell_kept0 k c) h
theorem isT_both {X Y : Nat → Prop} {w : World} {t : Tr} : ∀ {kv : Value}, IsT X w t kv → IsT Y w t kv → IsT (fun k => X k ∧ Y k) w t kv := by
  induction t using Tr.ind with
  | h t ih =>
    intro kv h1 h2
    obtain ⟨ad, cap, e, h⟩ := (isT_eq t kv).1 h1
    obtain ⟨ad', cap', e', h'⟩ := (isT_eq t kv).1 h2
    subst e
    cases e'
    refine (isT_eq t _).2 ⟨ad, cap, rfl, ?_⟩
    rcases Nat.eq_zero_or_pos t.kids.length with h0 | h0
    · exact .inl h0
    · obtain ⟨b, off, e1, hb, hk⟩ := h.resolve_left (by omega)
      obtain ⟨b', off', e1', hb', hk'⟩ := h'.resolve_left (by omega)
      subst e1
      cases e1'
      refine .inr ⟨b, off, rfl, ⟨hb, hb'⟩, fun i hi => ?_⟩
      obtain ⟨kv, c0, c1, c2, hr⟩ := hk i hi
      obtain ⟨kv', _, _, c2', hr'⟩ := hk' i hi
      rw [c2] at c2'
      cases c2'
      exact ⟨kv, c0, c1, c2, ih _ (List.getElem_mem _) hr hr'⟩
theorem isN_one {n : Nat} {W : World} {b o : Nat} {nm : ByteArray} {t : Tr} {kv : Value} (hb : W.heap[b]? = some (.cells #[.int .u8 (t.op : Nat), .string t.name, kv] 25 (0, 0))) (h : IsN n W t kv) (hn : n ≤ b) : IsN n W ⟨o, nm, [t]⟩ (.slice (some ⟨b, 0, none⟩) 1 1) := by
  refine (isT_eq (X := fun k => n ≤ k) ⟨o, nm, [t]⟩ _).2 ⟨_, _, rfl, .inr ⟨b, 0, rfl, hn, fun i hi => ?_⟩⟩
  obtain rfl : i = 0 := by simp at hi; omega
  exact ⟨kv, (cell_of hb 0).trans rfl, (cell_of hb 1).trans rfl, (cell_of hb 2).trans rfl, h⟩
theorem isN_two {n : Nat} {W : World} {b o : Nat} {nm : ByteArray} {t u : Tr} {kv lv : Value} (hb : W.heap[b]? = some (.cells #[.int .u8 (t.op : Nat), .string t.name, kv, .int .u8 (u.op : Nat), .string u.name, lv] 25 (0, 0))) (h : IsN n W t kv) (k : IsN n W u lv) (hn : n ≤ b) : IsN n W ⟨o, nm, [t, u]⟩ (.slice (some ⟨b, 0, none⟩) 2 2) := by
  refine (isT_eq (X := fun k => n ≤ k) ⟨o, nm, [t, u]⟩ _).2 ⟨_, _, rfl, .inr ⟨b, 0, rfl, hn, fun i hi => ?_⟩⟩
  have hi' : i < 2 := by simpa using hi
  match i, hi' with
  | 0, _ => exact ⟨kv, (cell_of hb 0).trans rfl, (cell_of hb 1).trans rfl, (cell_of hb 2).trans rfl, h⟩
  | 1, _ => exact ⟨lv, (cell_of hb 3).trans rfl, (cell_of hb 4).trans rfl, (cell_of hb 5).trans rfl, k⟩
set_option maxHeartbeats 400000 in
theorem lawProp_any (s : ByteArray) (w : World) : Calls Tryd.prog 29 #[.string s] w fun e w' => e = .returned (.agg #[.int .u8 3, .string s, .slice none 0 0]) ∧ Kept [] w w' := by
  go_enter Tryd.func29, Tryd.ntmps29
  go_wp2
  exact ret_for rfl rfl rfl (al0 _ _) ⟨rfl, (Kept.refl [] w).alloc _⟩
set_option maxHeartbeats 400000 in
theorem lawOne_any (n o : Nat) (t : Tr) (kv : Value) (w : World) (hI : IsN n w t kv) (hn : n ≤ w.heap.size) : Calls Tryd.prog 9 #[.int .u8 (o : Nat), .agg #[.int .u8 (t.op : Nat), .string t.name, kv]] w fun e w' => ∃ b, e = .returned (.agg #[.int .u8 (o : Nat), .string ⟨#[]⟩, .slice (some ⟨b, 0, none⟩) 1 1]) ∧ IsN n w' ⟨o, ⟨#[]⟩, [t]⟩ (.slice (some ⟨b, 0, none⟩) 1 1) ∧ Kept [] w w' := by
  obtain ⟨kad, kcap, rfl⟩ := hI.slice
  have HI : Hid (IsN n w t (.slice kad t.kids.length kcap)) := hI
  clear hI
  go_enter Tryd.func9, Tryd.ntmps9
  go_wp2
  exact ret_for rfl rfl rfl (show For3 _ (w.heap.size + 1) _ _ _ from alUp (al1 _ _ _) _) ⟨_, rfl, isN_one (al2 _ _ _ _) (HI.out.kept ((((Kept.refl [] w).alloc _).alloc _).alloc _)) (by omega), (((Kept.refl [] w).alloc _).alloc _).alloc _⟩
set_option maxHeartbeats 400000 in
theorem lawTwo_any (n o : Nat) (t u : Tr) (kv lv : Value) (w : World) (hI : IsN n w t kv) (hJ : IsN n w u lv) (hn : n ≤ w.heap.size) : Calls Tryd.prog 10 #[.int .u8 (o : Nat), .agg #[.int .u8 (t.op : Nat), .string t.name, kv], .agg #[.int .u8 (u.op : Nat), .string u.name, lv]] w fun e w' => ∃ b, e = .returned (.agg #[.int .u8 (o : Nat), .string ⟨#[]⟩, .slice (some ⟨b, 0, none⟩) 2 2]) ∧ IsN n w' ⟨o, ⟨#[]⟩, [t, u]⟩ (.slice (some ⟨b, 0, none⟩) 2 2) ∧ Kept [] w w' := by
  obtain ⟨kad, kcap, rfl⟩ := hI.slice
  obtain ⟨lad, lcap, rfl⟩ := hJ.slice
  have HI : Hid (IsN n w t (.slice kad t.kids.length kcap)) := hI
  have HJ : Hid (IsN n w u (.slice lad u.kids.length lcap)) := hJ
  clear hI hJ
  go_enter Tryd.func10, Tryd.ntmps10
  go_wp2
  exact ret_for rfl rfl rfl (show For3 _ (w.heap.size + 1 + 1) _ _ _ from alUp (al2 _ _ _ _) _) ⟨_, rfl, isN_two (al3 _ _ _ _ _) (HI.out.kept (((((Kept.refl [] w).alloc _).alloc _).alloc _).alloc _)) (HJ.out.kept (((((Kept.refl [] w).alloc _).alloc _).alloc _).alloc _)) (by omega), ((((Kept.refl [] w).alloc _).alloc _).alloc _).alloc _⟩
end Go.Proofs.YtddgciilcghbaaaDoor

/- The chapter's example: closed facts, and the calls at it. -/
namespace Go.Proofs.YtddgciilcghbaaaDoor
open Go.RowKit Go.Shelf Go.Maps

def bP : ByteArray := ⟨#[112]⟩
def bQ : ByteArray := ⟨#[113]⟩
def bR : ByteArray := ⟨#[114]⟩
def b0 : ByteArray := ⟨#[]⟩
def tP : Tr := ⟨3, bP, []⟩
def tQ : Tr := ⟨3, bQ, []⟩
def tR : Tr := ⟨3, bR, []⟩
def tF : Tr := ⟨12, b0, [tP, tQ]⟩
def tE : Tr := ⟨10, b0, [tQ]⟩
def tA : Tr := ⟨11, b0, [tE]⟩
def tN : Tr := ⟨4, b0, [tP]⟩
def tM : Tr := ⟨13, b0, [tQ, tN]⟩
def exNames : List ByteArray := [bP, bQ]
def exWord : Wd := ⟨[1, 1], [2, 0]⟩

theorem has_pq (s : ByteArray) : hasN exNames s = ((bP.data.toList == s.data.toList) || (bQ.data.toList == s.data.toList)) := by
  unfold hasN exNames
  rw [List.any_cons, List.any_cons, List.any_nil, sameN_data, sameN_data, Bool.or_false]
theorem hasP : hasN exNames bP = true := by rw [has_pq]; decide
theorem hasQ : hasN exNames bQ = true := by rw [has_pq]; decide
theorem hasR : hasN exNames bR = false := by rw [has_pq]; decide
theorem ex_list : listBool exNames = true := by
  rw [listBool_iff]
  refine ⟨by decide, fun j hj _ => ?_⟩
  have hj' : j < 2 := hj
  match j, hj' with
  | 0, _ => exact ⟨show nameB bP.data.toList = true by decide, rfl⟩
  | 1, _ =>
    refine ⟨show nameB bQ.data.toList = true by decide, ?_⟩
    show hasN [bP] bQ = false
    unfold hasN
    rw [List.any_cons, List.any_nil, sameN_data]; decide
theorem ex_check : checkE exWord exNames.length = 0 := by decide
theorem ex_len : exWord.len = 4 := rfl
theorem leaf_all {q : Tr → Prop} {s : ByteArray} (h : q ⟨3, s, []⟩) : (⟨3, s, []⟩ : Tr).All q := (Tr.all_eq _).2 ⟨h, fun k hk => by cases hk⟩
theorem one_all {q : Tr → Prop} {o : Nat} {s : ByteArray} {t : Tr} (h : q ⟨o, s, [t]⟩) (ht : t.All q) : (⟨o, s, [t]⟩ : Tr).All q := (Tr.all_eq _).2 ⟨h, fun k hk => by rw [List.mem_singleton.1 hk]; exact ht⟩
theorem two_all {q : Tr → Prop} {o : Nat} {s : ByteArray} {t u : Tr} (h : q ⟨o, s, [t, u]⟩) (ht : t.All q) (hu : u.All q) : (⟨o, s, [t, u]⟩ : Tr).All q := (Tr.all_eq _).2 ⟨h, fun k hk => by
  rcases List.mem_cons.1 hk with e | hk
  · rw [e]; exact ht
  · rw [List.mem_singleton.1 hk]; exact hu⟩
theorem empty_list : b0.toList.isEmpty = true := by rw [ByteArray.toList_eq]; rfl
theorem formed_of {o : Nat} {ks : List Tr} (h1 : 1 ≤ o) (h2 : o ≤ 21) (h3 : o ≠ 3) (h4 : ks.length = kidsN o) : formedB ⟨o, b0, ks⟩ = true := by
  unfold formedB
  simp only [if_neg h3, empty_list, h1, h2, h4, decide_true, Bool.and_true, beq_self_eq_true]
theorem formed_leaf {s : ByteArray} (h : nameB s.data.toList = true) : formedB ⟨3, s, []⟩ = true := by
  unfold formedB
  simp [h, kidsN, kidsL]
theorem gP : tP.Good := leaf_all ⟨formed_leaf (by decide), by decide⟩
theorem gQ : tQ.Good := leaf_all ⟨formed_leaf (by decide), by decide⟩
theorem gR : tR.Good := leaf_all ⟨formed_leaf (by decide), by decide⟩
theorem gF : tF.Good := two_all ⟨formed_of (by decide) (by decide) (by decide) rfl, by decide⟩ gP gQ
theorem gE : tE.Good := one_all ⟨formed_of (by decide) (by decide) (by decide) rfl, by decide⟩ gQ
theorem gA : tA.Good := one_all ⟨formed_of (by decide) (by decide) (by decide) rfl, by decide⟩ gE
theorem gN : tN.Good := one_all ⟨formed_of (by decide) (by decide) (by decide) rfl, by decide⟩ gP
theorem gM : tM.Good := two_all ⟨formed_of (by decide) (by decide) (by decide) rfl, by decide⟩ gQ gN
theorem nP : tP.Named exNames := leaf_all (fun _ => hasP)
theorem nQ : tQ.Named exNames := leaf_all (fun _ => hasQ)
theorem nF : tF.Named exNames := two_all (fun h => absurd h (by decide)) nP nQ
theorem nE : tE.Named exNames := one_all (fun h => absurd h (by decide)) nQ
theorem nA : tA.Named exNames := one_all (fun h => absurd h (by decide)) nE
theorem nN : tN.Named exNames := one_all (fun h => absurd h (by decide)) nP
theorem nM : tM.Named exNames := two_all (fun h => absurd h (by decide)) nQ nN
theorem max_small {b : ByteArray} (h : b.size ≤ 1) : b.size ≤ maxLen := by unfold maxLen; omega
theorem fP : tP.Fine := leaf_all ⟨by decide, max_small (by decide)⟩
theorem fQ : tQ.Fine := leaf_all ⟨by decide, max_small (by decide)⟩
theorem fR : tR.Fine := leaf_all ⟨by decide, max_small (by decide)⟩
theorem fF : tF.Fine := two_all ⟨by decide, max_small (by decide)⟩ fP fQ
theorem fE : tE.Fine := one_all ⟨by decide, max_small (by decide)⟩ fQ
theorem fA : tA.Fine := one_all ⟨by decide, max_small (by decide)⟩ fE
theorem fN : tN.Fine := one_all ⟨by decide, max_small (by decide)⟩ fP
theorem fM : tM.Fine := two_all ⟨by decide, max_small (by decide)⟩ fQ fN
theorem sP : tP.size = 1 ∧ tP.depth = 1 := by unfold tP; rw [Tr.size_eq, Tr.depth_eq]; exact ⟨rfl, rfl⟩
theorem sQ : tQ.size = 1 ∧ tQ.depth = 1 := by unfold tQ; rw [Tr.size_eq, Tr.depth_eq]; exact ⟨rfl, rfl⟩
theorem sR : tR.size = 1 ∧ tR.depth = 1 := by unfold tR; rw [Tr.size_eq, Tr.depth_eq]; exact ⟨rfl, rfl⟩
theorem s_one (o : Nat) (s : ByteArray) (t : Tr) : (⟨o, s, [t]⟩ : Tr).size = 1 + t.size ∧ (⟨o, s, [t]⟩ : Tr).depth = 1 + t.depth := by rw [Tr.size_eq, Tr.depth_eq]; simp
theorem s_two (o : Nat) (s : ByteArray) (t u : Tr) : (⟨o, s, [t, u]⟩ : Tr).size = 1 + (t.size + u.size) ∧ (⟨o, s, [t, u]⟩ : Tr).depth = 1 + max t.depth u.depth := by rw [Tr.size_eq, Tr.depth_eq]; simp
theorem sF : tF.size = 3 ∧ tF.depth = 2 := by unfold tF; rw [(s_two _ _ _ _).1, (s_two _ _ _ _).2, sP.1, sQ.1, sP.2, sQ.2]; decide
theorem sE : tE.size = 2 ∧ tE.depth = 2 := by unfold tE; rw [(s_one _ _ _).1, (s_one _ _ _).2, sQ.1, sQ.2]; decide
theorem sA : tA.size = 3 ∧ tA.depth = 3 := by unfold tA; rw [(s_one _ _ _).1, (s_one _ _ _).2, sE.1, sE.2]; decide
theorem sN : tN.size = 2 ∧ tN.depth = 2 := by unfold tN; rw [(s_one _ _ _).1, (s_one _ _ _).2, sP.1, sP.2]; decide
theorem sM : tM.size = 4 ∧ tM.depth = 3 := by unfold tM; rw [(s_two _ _ _ _).1, (s_two _ _ _ _).2, sQ.1, sN.1, sQ.2, sN.2]; decide
theorem fits_of {t : Tr} {xs : List ByteArray} (h : t.Good) (hn : t.Named xs) (hs : t.size ≤ 1000) (hd : t.depth ≤ 100) : fitsN t xs = 0 := by
  unfold fitsN
  rw [if_neg (by simp [right_of_good h hs hd]), lack_of_named hn]; rfl
theorem along_of {t : Tr} (h : t.Good) (hn : t.Named exNames) (hs : t.size ≤ 1000) (hd : t.depth ≤ 100) : alongE t exNames exWord = 0 := by
  unfold alongE
  rw [if_neg (by simp [fits_of h hn hs hd]), if_neg (by simp [ex_list]), if_neg (by simp [ex_check])]
theorem along_R : alongE tR exNames exWord = 60 := by
  have h : fitsN tR exNames = 60 := by
    unfold fitsN
    rw [if_neg (by simp [right_of_good gR (by rw [sR.1]; omega) (by rw [sR.2]; omega)])]
    have : lackN tR.names exNames = true := by
      have e : tR.names = [bR] := by
        unfold Tr.names tR
        rw [Tr.parts_eq]
        rfl
      rw [e]
      unfold lackN
      rw [List.any_cons, hasR]; rfl
    rw [this]; rfl
  unfold alongE
  rw [if_pos (by rw [h]; decide), h]
theorem rowP : rowT exWord exNames tP = backR exWord false (fun i _ => bitB (exWord.at i) 0) := by unfold tP; rw [rowT_eq]; rfl
theorem rowQ : rowT exWord exNames tQ = backR exWord false (fun i _ => bitB (exWord.at i) 1) := by unfold tQ; rw [rowT_eq]; rfl
theorem row_one (o : Nat) (s : ByteArray) (t : Tr) (q : Wd) (xs : List ByteArray) : rowT q xs ⟨o, s, [t]⟩ = rowOp q xs o s (rowT q xs t) (rowT q xs t) := by rw [rowT_eq]; rfl
theorem row_two (o : Nat) (s : ByteArray) (t u : Tr) (q : Wd) (xs : List ByteArray) : rowT q xs ⟨o, s, [t, u]⟩ = rowOp q xs o s (rowT q xs t) (rowT q xs u) := by rw [rowT_eq]; rfl
theorem rowF : rowT exWord exNames tF 0 = true ∧ rowT exWord exNames tF 1 = true ∧ rowT exWord exNames tF 2 = true ∧ rowT exWord exNames tF 3 = false := by
  unfold tF
  rw [row_two, rowP, rowQ]
  exact ⟨by kernel_rfl, by kernel_rfl, by kernel_rfl, by kernel_rfl⟩
theorem rowA : rowT exWord exNames tA 0 = true := by
  unfold tA tE
  rw [row_one, row_one, rowQ]
  kernel_rfl
theorem rowM : rowT exWord exNames tM 2 = true := by
  unfold tM tN
  rw [row_two, row_one, rowP, rowQ]
  kernel_rfl

/-- The calls at the example. -/
theorem awk_along (W : World) (kv nv sv lv : Value) (hI : IsF W tF kv) (hN : Strs W nv exNames) (hW : IsW W sv lv exWord) (hT : KidsTab W) :
    Calls Tryd.prog 12 #[.agg #[.int .u8 12, .string ⟨#[]⟩, kv], nv, .agg #[sv, lv]] W fun e w' => ∃ b, e = .returned (.tuple #[.slice (some ⟨b, 0, none⟩) 4 4, .int .i64 0]) ∧ (w'.cell? ⟨b, 0, none⟩ = some (.bool true) ∧ w'.cell? ⟨b, 1, none⟩ = some (.bool true) ∧ w'.cell? ⟨b, 2, none⟩ = some (.bool true) ∧ w'.cell? ⟨b, 3, none⟩ = some (.bool false)) ∧ Kept [] W w' := by
  refine (along_ok tF kv nv sv lv exNames exWord W hI fF hN hW hT (by rw [sF.1]; omega) (by rw [sF.2]; omega) (along_of gF nF (by rw [sF.1]; omega) (by rw [sF.2]; omega))).mono ?_
  rintro e w' ⟨b, rfl, hr, k⟩
  obtain ⟨r0, r1, r2, r3⟩ := rowF
  refine ⟨b, rfl, ⟨?_, ?_, ?_, ?_⟩, k⟩
  · rw [hr.cell (i := 0) (by decide), r0]
  · rw [hr.cell (i := 1) (by decide), r1]
  · rw [hr.cell (i := 2) (by decide), r2]
  · rw [hr.cell (i := 3) (by decide), r3]
theorem awk_holds (W : World) (kv nv sv lv : Value) (hI : IsF W tA kv) (hN : Strs W nv exNames) (hW : IsW W sv lv exWord) (hT : KidsTab W) :
    Calls Tryd.prog 13 #[.agg #[.int .u8 11, .string ⟨#[]⟩, kv], nv, .agg #[sv, lv]] W fun e w' => e = .returned (.tuple #[.bool true, .int .i64 0]) ∧ Kept [] W w' := by
  have := holds_ok tA kv nv sv lv exNames exWord W hI fA hN hW hT (by rw [sA.1]; omega) (by rw [sA.2]; omega) (along_of gA nA (by rw [sA.1]; omega) (by rw [sA.2]; omega))
  rw [rowA] at this
  exact this
theorem awk_lacks (W : World) (nv sv lv : Value) (hN : Strs W nv exNames) (hW : IsW W sv lv exWord) (hT : KidsTab W) :
    Calls Tryd.prog 13 #[.agg #[.int .u8 3, .string ⟨#[114]⟩, .slice none 0 0], nv, .agg #[sv, lv]] W fun e w' => e = .returned (.tuple #[.bool false, .int .i64 60]) ∧ Kept [] W w' := by
  have := holds_bad tR (.slice none 0 0) nv sv lv exNames exWord W (leafF W bR) fR hN hW hT (by rw [sR.1]; omega) (by rw [sR.2]; omega) (by rw [along_R]; decide)
  rw [along_R] at this
  exact this
theorem awk_new (W : World) (nv sv lv : Value) (hN : Strs W nv exNames) (hW : IsW W sv lv exWord) (hT : KidsTab W) :
    Calls Tryd.prog 30 #[nv, .agg #[sv, lv]] W (NewPost W exWord exNames) := new_ok nv sv lv exNames exWord W hN hW hT ex_list ex_check
theorem awk_at (W w₁ : World) (n p m : Nat) (kv nv sv lv : Value) (hI : IsN n W tM kv) (hp : p < n) (hm : m < n) (hTb : TabIs w₁ W p m nv sv lv (.slice none 0 0) exWord exNames []) (hT : KidsTab W) :
    Calls Tryd.prog 31 #[.pointer (some ⟨p, 0, none⟩), .agg #[.int .u8 13, .string ⟨#[]⟩, kv], .int .i64 2] W fun e w' => ∃ rv' known', e = .returned (.tuple #[.bool true, .int .i64 0]) ∧ TabIs w₁ w' p m nv sv lv rv' exWord exNames known' ∧ Kept [p, m] W w' := by
  have hIX : IsT (fun k => k < W.heap.size ∧ n ≤ k) W tM kv := by
    have h1 := IsT.isF hI
    exact isT_both h1 hI
  have := tholds_ok tM (fun k => k < W.heap.size ∧ n ≤ k) kv 2 w₁ W p m nv sv lv (.slice none 0 0) exWord exNames [] (by decide) (by decide) fM hIX (fun k hk => ⟨hk.1, fun hin => ?_⟩) hTb hT (fits_of gM nM (by rw [sM.1]; omega) (by rw [sM.2]; omega)) (by simp) (by decide)
  · refine this.mono ?_
    rintro e w' ⟨rv', known', rfl, h1, h2, _⟩
    exact ⟨rv', known', by rw [rowM], h1, h2.mono (fun x hx => by simpa [FR, Value.ownBlock] using hx)⟩
  · simp [FR, Value.ownBlock] at hin
    omega
theorem awk_arg (W w₁ : World) (p m : Nat) (kv nv sv lv rv : Value) (known : List Tr) (hI : IsF W tF kv) (hTb : TabIs w₁ W p m nv sv lv rv exWord exNames known) (hT : KidsTab W) :
    Calls Tryd.prog 31 #[.pointer (some ⟨p, 0, none⟩), .agg #[.int .u8 12, .string ⟨#[]⟩, kv], .int .i64 4] W fun e w' => e = .returned (.tuple #[.bool false, .int .i64 1]) ∧ Kept [] W w' :=
  tholds_arg tF kv 4 w₁ W p m nv sv lv rv exWord exNames known (by decide) fF hI hTb hT (fits_of gF nF (by rw [sF.1]; omega) (by rw [sF.2]; omega)) (by decide)
theorem awk_places (W w₁ : World) (p m : Nat) (nv sv lv rv : Value) (known : List Tr) (hTb : TabIs w₁ W p m nv sv lv rv exWord exNames known) :
    Calls Tryd.prog 32 #[.pointer (some ⟨p, 0, none⟩)] W fun e w' => e = .returned (.int .i64 4) ∧ Kept [] W w' := tPlaces_any p nv sv lv rv (.map (some m)) exWord W hTb.tab hTb.isW (by decide)
end Go.Proofs.YtddgciilcghbaaaDoor

/- The chapter's example, as the laws begin with it: awake. -/
namespace Go.Proofs.YtddgciilcghbaaaDoor
open Go.RowKit Go.Shelf Go.Maps

/-- What stands behind the first lines. -/
structure AwkAt (w V : World) (fb b : Nat) : Prop where
  kept : Kept [] w V
  names : Strs V (.slice (some ⟨w.heap.size + 1 + 1 + 1, 0, none⟩) 2 2) exNames
  word : IsW V (.slice (some ⟨w.heap.size, 0, none⟩) 2 2) (.slice (some ⟨w.heap.size + 1, 0, none⟩) 2 2) exWord
  wb : Wd2 V (w.heap.size + 1 + 1) (.slice (some ⟨w.heap.size, 0, none⟩) 2 2) (.slice (some ⟨w.heap.size + 1, 0, none⟩) 2 2)
  fb : For3 V fb (.int .u8 12) (.string ⟨#[]⟩) (.slice (some ⟨b, 0, none⟩) 2 2)
  f : IsF V tF (.slice (some ⟨b, 0, none⟩) 2 2)
theorem AwkAt.keep {w V W : World} {fb b : Nat} (h : AwkAt w V fb b) (k : Kept [] V W) : AwkAt w W fb b := ⟨h.kept.trans k (by simp) (by simp), h.names.kept k, h.word.kept k, h.wb.kept k, h.fb.kept k, h.f.kept k⟩
theorem awk_base (w : World) : Strs ((((w.alloc (.cells #[.int .u16 1, .int .u16 1] 52)).alloc (.cells #[.int .u16 2, .int .u16 0] 52)).alloc (.cells #[.slice (some ⟨w.heap.size, 0, none⟩) 2 2, .slice (some ⟨w.heap.size + 1, 0, none⟩) 2 2] 29)).alloc (.cells #[.string ⟨#[112]⟩, .string ⟨#[113]⟩] 9)) (.slice (some ⟨w.heap.size + 1 + 1 + 1, 0, none⟩) 2 2) exNames
    ∧ IsW ((((w.alloc (.cells #[.int .u16 1, .int .u16 1] 52)).alloc (.cells #[.int .u16 2, .int .u16 0] 52)).alloc (.cells #[.slice (some ⟨w.heap.size, 0, none⟩) 2 2, .slice (some ⟨w.heap.size + 1, 0, none⟩) 2 2] 29)).alloc (.cells #[.string ⟨#[112]⟩, .string ⟨#[113]⟩] 9)) (.slice (some ⟨w.heap.size, 0, none⟩) 2 2) (.slice (some ⟨w.heap.size + 1, 0, none⟩) 2 2) exWord
    ∧ Wd2 ((((w.alloc (.cells #[.int .u16 1, .int .u16 1] 52)).alloc (.cells #[.int .u16 2, .int .u16 0] 52)).alloc (.cells #[.slice (some ⟨w.heap.size, 0, none⟩) 2 2, .slice (some ⟨w.heap.size + 1, 0, none⟩) 2 2] 29)).alloc (.cells #[.string ⟨#[112]⟩, .string ⟨#[113]⟩] 9)) (w.heap.size + 1 + 1) (.slice (some ⟨w.heap.size, 0, none⟩) 2 2) (.slice (some ⟨w.heap.size + 1, 0, none⟩) 2 2) := by
  refine ⟨⟨by decide, fun x hx => ?_, .inr ⟨_, 0, 2, rfl, by decide, by decide, fun i hi => ?_⟩⟩, ⟨⟨by decide, by decide, .inr ⟨_, 0, 2, rfl, by decide, by decide, fun i hi => ?_⟩⟩, ⟨by decide, by decide, .inr ⟨_, 0, 2, rfl, by decide, by decide, fun i hi => ?_⟩⟩, by decide⟩, alUp (al2 _ _ _ _) _⟩
  · rcases List.mem_cons.1 hx with e | hx
    · rw [e]; exact max_small (by decide)
    · rw [List.mem_singleton.1 hx]; exact max_small (by decide)
  · have hi' : i < 2 := hi
    match i, hi' with
    | 0, _ => exact (cell_of (al3 _ _ _ _ _) 0).trans rfl
    | 1, _ => exact (cell_of (al3 _ _ _ _ _) 1).trans rfl
  · have hi' : i < 2 := hi
    match i, hi' with
    | 0, _ => exact (cell_of (alUp (alUp (alUp (al0 _ _) _) _) _) 0).trans rfl
    | 1, _ => exact (cell_of (alUp (alUp (alUp (al0 _ _) _) _) _) 1).trans rfl
  · have hi' : i < 2 := hi
    match i, hi' with
    | 0, _ => exact (cell_of (alUp (alUp (al1 _ _ _) _) _) 0).trans rfl
    | 1, _ => exact (cell_of (alUp (alUp (al1 _ _ _) _) _) 1).trans rfl

set_option maxHeartbeats 4000000 in
set_option maxRecDepth 20000 in
theorem awake_any (w : World) (hT : KidsTab w) : Calls Tryd.prog 6 #[] w fun e w' => e = .returned (.bool true) ∧ Kept [] w w' := by
  have HT : Hid (KidsTab w) := hT
  have HP : Hid (∀ (s : ByteArray) (W : World), Calls Tryd.prog 29 #[.string s] W fun e w' => e = .returned (.agg #[.int .u8 3, .string s, .slice none 0 0]) ∧ Kept [] W w') := fun s W => lawProp_any s W
  have H2 : Hid (∀ W, Calls Tryd.prog 10 #[.int .u8 12, .agg #[.int .u8 3, .string ⟨#[112]⟩, .slice none 0 0], .agg #[.int .u8 3, .string ⟨#[113]⟩, .slice none 0 0]] W fun e w' => ∃ b, e = .returned (.agg #[.int .u8 12, .string ⟨#[]⟩, .slice (some ⟨b, 0, none⟩) 2 2]) ∧ IsF w' tF (.slice (some ⟨b, 0, none⟩) 2 2) ∧ Kept [] W w') := fun W =>
    (lawTwo_any 0 12 tP tQ (.slice none 0 0) (.slice none 0 0) W (IsT.leaf _ W rfl none 0) (IsT.leaf _ W rfl none 0) (Nat.zero_le _)).mono (fun e w' ⟨b, h1, h2, h3⟩ => ⟨b, h1, IsN.isF h2, h3⟩)
  have H10 : Hid (∀ W, Calls Tryd.prog 9 #[.int .u8 10, .agg #[.int .u8 3, .string ⟨#[113]⟩, .slice none 0 0]] W fun e w' => ∃ b, e = .returned (.agg #[.int .u8 10, .string ⟨#[]⟩, .slice (some ⟨b, 0, none⟩) 1 1]) ∧ IsN 0 w' tE (.slice (some ⟨b, 0, none⟩) 1 1) ∧ Kept [] W w') := fun W => lawOne_any 0 10 tQ (.slice none 0 0) W (IsT.leaf _ W rfl none 0) (Nat.zero_le _)
  have H11 : Hid (∀ W b, IsN 0 W tE (.slice (some ⟨b, 0, none⟩) 1 1) → Calls Tryd.prog 9 #[.int .u8 11, .agg #[.int .u8 10, .string ⟨#[]⟩, .slice (some ⟨b, 0, none⟩) 1 1]] W fun e w' => ∃ b, e = .returned (.agg #[.int .u8 11, .string ⟨#[]⟩, .slice (some ⟨b, 0, none⟩) 1 1]) ∧ IsN 0 w' tA (.slice (some ⟨b, 0, none⟩) 1 1) ∧ Kept [] W w') := fun W b h => lawOne_any 0 11 tE (.slice (some ⟨b, 0, none⟩) 1 1) W h (Nat.zero_le _)
  have H4 : Hid (∀ W n, n ≤ W.heap.size → Calls Tryd.prog 9 #[.int .u8 4, .agg #[.int .u8 3, .string ⟨#[112]⟩, .slice none 0 0]] W fun e w' => ∃ b, e = .returned (.agg #[.int .u8 4, .string ⟨#[]⟩, .slice (some ⟨b, 0, none⟩) 1 1]) ∧ IsN n w' tN (.slice (some ⟨b, 0, none⟩) 1 1) ∧ Kept [] W w') := fun W n h => lawOne_any n 4 tP (.slice none 0 0) W (IsT.leaf _ W rfl none 0) h
  have H13 : Hid (∀ W n b, n ≤ W.heap.size → IsN n W tN (.slice (some ⟨b, 0, none⟩) 1 1) → Calls Tryd.prog 10 #[.int .u8 13, .agg #[.int .u8 3, .string ⟨#[113]⟩, .slice none 0 0], .agg #[.int .u8 4, .string ⟨#[]⟩, .slice (some ⟨b, 0, none⟩) 1 1]] W fun e w' => ∃ b, e = .returned (.agg #[.int .u8 13, .string ⟨#[]⟩, .slice (some ⟨b, 0, none⟩) 2 2]) ∧ IsN n w' tM (.slice (some ⟨b, 0, none⟩) 2 2) ∧ Kept [] W w') := fun W n b h hI => lawTwo_any n 13 tQ tN (.slice none 0 0) (.slice (some ⟨b, 0, none⟩) 1 1) W (IsT.leaf _ W rfl none 0) hI h
  obtain ⟨VV, hVV⟩ : ∃ VV, (((w.alloc (.cells #[.int .u16 1, .int .u16 1] 52)).alloc (.cells #[.int .u16 2, .int .u16 0] 52)).alloc (.cells #[.slice (some ⟨w.heap.size, 0, none⟩) 2 2, .slice (some ⟨w.heap.size + 1, 0, none⟩) 2 2] 29)).alloc (.cells #[.string ⟨#[112]⟩, .string ⟨#[113]⟩] 9) = VV := ⟨_, rfl⟩
  have kVV : Kept [] w VV := by rw [← hVV]; exact ((((Kept.refl [] w).alloc _).alloc _).alloc _).alloc _
  have hbase := awk_base w
  rw [hVV] at hbase
  have HBA : Hid _ := hbase
  have HKV : Hid (Kept [] w VV) := kVV
  have HVV : Hid (_ = VV) := hVV
  clear hT hVV hbase kVV
  go_enter Tryd.func6, Tryd.ntmps6
  go_upto_region 4 with (first
    | (go_at_call 29; refine (HP.out _ _).mono ?_; rintro e W ⟨rfl, k⟩; (try rw [HVV.out] at k); have HKK : Hid (Kept [] VV W) := (by first | exact k | exact HKK.out.trans k (by simp) (by simp)); clear k)
    | (go_at_call 10; refine (H2.out _).mono ?_; rintro e W2 ⟨b, rfl, hI, k⟩; have HI2 : Hid (IsF W2 tF (.slice (some ⟨b, 0, none⟩) 2 2)) := hI; have HK2 : Hid (Kept [] VV W2) := HKK.out.trans k (by simp) (by simp); clear hI k))
  obtain ⟨V, hV⟩ : ∃ V, W2.alloc (.cells #[.int .u8 12, .string ⟨#[]⟩, .slice (some ⟨b, 0, none⟩) 2 2] 25) = V := ⟨_, rfl⟩
  have hA : AwkAt w V W2.heap.size b := by
    rw [← hV]
    have k := HK2.out.alloc (.cells #[.int .u8 12, .string ⟨#[]⟩, .slice (some ⟨b, 0, none⟩) 2 2] 25)
    exact ⟨HKV.out.trans k (by simp) (by simp), HBA.out.1.kept k, HBA.out.2.1.kept k, HBA.out.2.2.kept k, al0 _ _, HI2.out.kept ((Kept.refl [] W2).alloc _)⟩
  rw [hV]
  obtain ⟨fb, hfb⟩ : ∃ fb, W2.heap.size = fb := ⟨_, rfl⟩
  rw [hfb] at hA ⊢
  have HA : Hid (AwkAt w V fb b) := hA
  obtain ⟨f0, f1, f2, _⟩ := hA.fb.cells
  obtain ⟨d0, d1, _, _⟩ := hA.wb.cells
  have HAL : Hid (∀ W, Kept [] V W → Calls Tryd.prog 12 #[.agg #[.int .u8 12, .string ⟨#[]⟩, .slice (some ⟨b, 0, none⟩) 2 2], .slice (some ⟨w.heap.size + 1 + 1 + 1, 0, none⟩) 2 2, .agg #[.slice (some ⟨w.heap.size, 0, none⟩) 2 2, .slice (some ⟨w.heap.size + 1, 0, none⟩) 2 2]] W fun e w' => ∃ b, e = .returned (.tuple #[.slice (some ⟨b, 0, none⟩) 4 4, .int .i64 0]) ∧ (w'.cell? ⟨b, 0, none⟩ = some (.bool true) ∧ w'.cell? ⟨b, 1, none⟩ = some (.bool true) ∧ w'.cell? ⟨b, 2, none⟩ = some (.bool true) ∧ w'.cell? ⟨b, 3, none⟩ = some (.bool false)) ∧ Kept [] W w') := fun W k => awk_along W _ _ _ _ (hA.keep k).f (hA.keep k).names (hA.keep k).word (HT.out.kept (hA.keep k).kept)
  clear hA hV hfb HI2 HKK HK2 HBA HKV HVV H2
  go_upto_region 5 with (go_at_call 12; refine (HAL.out _ (Kept.refl [] V)).mono ?_; rintro e V4 ⟨b4, rfl, hr4, k4⟩; have HR4 : Hid _ := hr4; have HK4 : Hid (Kept [] V V4) := k4; clear hr4 k4)
  have HA4 : Hid (AwkAt w V4 fb b) := HA.out.keep HK4.out
  clear HAL f0 f1 f2 d0 d1
  go_cut [6, 7] from 30 to 38 (fun s6 s7 wc => s6 = .bool true ∧ s7 = .int .i64 0 ∧ Hid (Kept [] V4 wc))
  case first =>
    have hS : ∀ W, Kept [] V4 W → (W.cell? ⟨w.heap.size + 1 + 1, 0, none⟩ = some (.slice (some ⟨w.heap.size, 0, none⟩) 2 2) ∧ W.cell? ⟨w.heap.size + 1 + 1, 1, none⟩ = some (.slice (some ⟨w.heap.size + 1, 0, none⟩) 2 2)) := fun W k => ⟨(HA4.out.keep k).wb.cells.1, (HA4.out.keep k).wb.cells.2.1⟩
    have HS : Hid _ := hS
    obtain ⟨e0, e1⟩ := hS V4 (Kept.refl [] V4)
    have HHO : Hid (∀ W b', Kept [] V4 W → IsN 0 W tA (.slice (some ⟨b', 0, none⟩) 1 1) → Calls Tryd.prog 13 #[.agg #[.int .u8 11, .string ⟨#[]⟩, .slice (some ⟨b', 0, none⟩) 1 1], .slice (some ⟨w.heap.size + 1 + 1 + 1, 0, none⟩) 2 2, .agg #[.slice (some ⟨w.heap.size, 0, none⟩) 2 2, .slice (some ⟨w.heap.size + 1, 0, none⟩) 2 2]] W fun e w' => e = .returned (.tuple #[.bool true, .int .i64 0]) ∧ Kept [] W w') := fun W b' k hI => awk_holds W _ _ _ _ (IsN.isF hI) (HA4.out.keep k).names (HA4.out.keep k).word (HT.out.kept (HA4.out.keep k).kept)
    clear hS
    go_region_held3 (fun w' => w'.cell? ⟨w.heap.size + 1 + 1, 0, none⟩ = some (.slice (some ⟨w.heap.size, 0, none⟩) 2 2) ∧ w'.cell? ⟨w.heap.size + 1 + 1, 1, none⟩ = some (.slice (some ⟨w.heap.size + 1, 0, none⟩) 2 2))
      ((refine HS.out _ ?_; (first | exact Kept.refl [] _ | exact (Kept.refl [] _).drew | exact HKH.out | exact HKB.out | exact HKA.out | exact HKP.out)))
      (first
      | (go_at_call 29; refine (HP.out _ _).mono ?_; rintro e WP ⟨rfl, k⟩; have HKP : Hid (Kept [] V4 WP) := Kept.trans (F := []) (G := []) (H := []) (by first | exact Kept.refl [] _ | exact (Kept.refl [] _).drew) k (by simp) (by simp); clear k)
      | (go_at_call 9; (with_reducible show Calls _ _ #[.int .u8 10, _] _ _); refine (H10.out _).mono ?_; rintro e WA ⟨ba, rfl, hI, k⟩; have HKA : Hid (Kept [] V4 WA) := HKP.out.trans k (by simp) (by simp); have HIA : Hid (IsN 0 WA tE (.slice (some ⟨ba, 0, none⟩) 1 1)) := hI; clear hI k)
      | (go_at_call 9; (with_reducible show Calls _ _ #[.int .u8 11, _] _ _); refine (H11.out _ _ HIA.out).mono ?_; rintro e WB ⟨bb, rfl, hI, k⟩; have HKB : Hid (Kept [] V4 WB) := HKA.out.trans k (by simp) (by simp); have HIB : Hid (IsN 0 WB tA (.slice (some ⟨bb, 0, none⟩) 1 1)) := hI; clear hI k)
      | (go_at_call 13; refine (HHO.out _ _ HKB.out HIB.out).mono ?_; rintro e WH ⟨rfl, k⟩; have HKH : Hid (Kept [] V4 WH) := HKB.out.trans k (by simp) (by simp); clear k))
    all_goals (go_wp2_with fail; go_meet)
    all_goals exact ⟨rfl, rfl, HKH.out⟩
  case rest =>
    obtain ⟨rfl, rfl, HC5⟩ := hcut
    have HA5 : Hid (AwkAt w wc fb b) := HA4.out.keep HC5.out
    have HK5 : Hid (Kept [] V4 wc) := HC5.out
    clear HC5 H10 H11
    rename World => V5
    go_wp2
    go_cut [8, 9] from 39 to 45 (fun s8 s9 wd => s8 = .bool false ∧ s9 = .int .i64 60 ∧ Hid (Kept [] V5 wd))
    case first =>
      have hS : ∀ W, Kept [] V5 W → (W.cell? ⟨w.heap.size + 1 + 1, 0, none⟩ = some (.slice (some ⟨w.heap.size, 0, none⟩) 2 2) ∧ W.cell? ⟨w.heap.size + 1 + 1, 1, none⟩ = some (.slice (some ⟨w.heap.size + 1, 0, none⟩) 2 2)) := fun W k => ⟨(HA5.out.keep k).wb.cells.1, (HA5.out.keep k).wb.cells.2.1⟩
      have HS : Hid _ := hS
      obtain ⟨e0, e1⟩ := hS V5 (Kept.refl [] V5)
      have HHO : Hid (∀ W, Kept [] V5 W → Calls Tryd.prog 13 #[.agg #[.int .u8 3, .string ⟨#[114]⟩, .slice none 0 0], .slice (some ⟨w.heap.size + 1 + 1 + 1, 0, none⟩) 2 2, .agg #[.slice (some ⟨w.heap.size, 0, none⟩) 2 2, .slice (some ⟨w.heap.size + 1, 0, none⟩) 2 2]] W fun e w' => e = .returned (.tuple #[.bool false, .int .i64 60]) ∧ Kept [] W w') := fun W k => awk_lacks W _ _ _ (HA5.out.keep k).names (HA5.out.keep k).word (HT.out.kept (HA5.out.keep k).kept)
      clear hS
      go_region_held3 (fun w' => w'.cell? ⟨w.heap.size + 1 + 1, 0, none⟩ = some (.slice (some ⟨w.heap.size, 0, none⟩) 2 2) ∧ w'.cell? ⟨w.heap.size + 1 + 1, 1, none⟩ = some (.slice (some ⟨w.heap.size + 1, 0, none⟩) 2 2))
        ((refine HS.out _ ?_; (first | exact Kept.refl [] _ | exact (Kept.refl [] _).drew | exact HKH.out | exact HKP.out)))
        (first
        | (go_at_call 29; refine (HP.out _ _).mono ?_; rintro e WP ⟨rfl, k⟩; have HKP : Hid (Kept [] V5 WP) := Kept.trans (F := []) (G := []) (H := []) (by first | exact Kept.refl [] _ | exact (Kept.refl [] _).drew) k (by simp) (by simp); clear k)
        | (go_at_call 13; refine (HHO.out _ HKP.out).mono ?_; rintro e WH ⟨rfl, k⟩; have HKH : Hid (Kept [] V5 WH) := HKP.out.trans k (by simp) (by simp); clear k))
      all_goals (go_wp2_with fail; go_meet)
      all_goals exact ⟨rfl, rfl, HKH.out⟩
    case rest =>
      obtain ⟨rfl, rfl, HC6⟩ := hcut
      have HA6 : Hid (AwkAt w wc fb b) := HA5.out.keep HC6.out
      have HK6 : Hid (Kept [] V4 wc) := HK5.out.trans HC6.out (by simp) (by simp)
      rename World => V6
      obtain ⟨d0, d1, _, _⟩ := HA6.out.wb.cells
      have HNE : Hid (Calls Tryd.prog 30 #[.slice (some ⟨w.heap.size + 1 + 1 + 1, 0, none⟩) 2 2, .agg #[.slice (some ⟨w.heap.size, 0, none⟩) 2 2, .slice (some ⟨w.heap.size + 1, 0, none⟩) 2 2]] V6 (NewPost V6 exWord exNames)) := awk_new V6 _ _ _ HA6.out.names HA6.out.word (HT.out.kept HA6.out.kept)
      have HAT : Hid (∀ (W w₁ : World) (n p m : Nat) (kv nv sv lv : Value), Kept [] w W → IsN n W tM kv → p < n → m < n → TabIs w₁ W p m nv sv lv (.slice none 0 0) exWord exNames [] → Calls Tryd.prog 31 #[.pointer (some ⟨p, 0, none⟩), .agg #[.int .u8 13, .string ⟨#[]⟩, kv], .int .i64 2] W fun e w' => ∃ rv' known', e = .returned (.tuple #[.bool true, .int .i64 0]) ∧ TabIs w₁ w' p m nv sv lv rv' exWord exNames known' ∧ Kept [p, m] W w') := fun W w₁ n p m kv nv sv lv k h1 h2 h3 h4 => awk_at W w₁ n p m kv nv sv lv h1 h2 h3 h4 (HT.out.kept k)
      have HAG : Hid (∀ (W w₁ : World) (p m : Nat) (nv sv lv rv : Value) (known : List Tr), Kept [] V6 W → TabIs w₁ W p m nv sv lv rv exWord exNames known → Calls Tryd.prog 31 #[.pointer (some ⟨p, 0, none⟩), .agg #[.int .u8 12, .string ⟨#[]⟩, .slice (some ⟨b, 0, none⟩) 2 2], .int .i64 4] W fun e w' => e = .returned (.tuple #[.bool false, .int .i64 1]) ∧ Kept [] W w') := fun W w₁ p m nv sv lv rv known k h => awk_arg W w₁ p m _ nv sv lv rv known (HA6.out.keep k).f h (HT.out.kept (HA6.out.keep k).kept)
      have HW6 : Hid (Kept [] w V6) := HA6.out.kept
      have HR6 : Hid (V6.cell? ⟨b4, 0, none⟩ = some (.bool true) ∧ V6.cell? ⟨b4, 1, none⟩ = some (.bool true) ∧ V6.cell? ⟨b4, 2, none⟩ = some (.bool true) ∧ V6.cell? ⟨b4, 3, none⟩ = some (.bool false)) := ⟨cell_kept0 HK6.out HR4.out.1, cell_kept0 HK6.out HR4.out.2.1, cell_kept0 HK6.out HR4.out.2.2.1, cell_kept0 HK6.out HR4.out.2.2.2⟩
      clear HC6 HK5 HK6 HR4 HA5 HA4 HK4 HA
      go_wp2_with (first
        | (go_at_call 30; refine HNE.out.mono ?_; rintro e V7 ⟨p, m, nv, su, lu, w₁, rfl, hTb, k7, hm, h1⟩; have HTB : Hid (TabIs w₁ V7 p m nv su lu (.slice none 0 0) exWord exNames []) := hTb; have HK7 : Hid (Kept [] V6 V7) := k7; have HKC : Hid (Kept [] V7 V7) := Kept.refl [] V7; have HPP : Hid (V6.heap.size ≤ p ∧ V6.heap.size ≤ m) := ⟨Nat.le_trans h1 hTb.low, hm⟩; have HPL : Hid (p < V7.heap.size) := hTb.plt; have HML : Hid (m < V7.heap.size) := hTb.mlt; clear hTb k7 hm h1)
        | (go_at_call 29; refine (HP.out _ _).mono ?_; rintro e WP ⟨rfl, k⟩; have HKC : Hid (Kept [] V7 WP) := HKC.out.trans k (by simp) (by simp); clear k)
        | (go_at_call 9; refine (H4.out _ V7.heap.size HKC.out.size).mono ?_; rintro e WO ⟨bo, rfl, hI, k⟩; have HKC : Hid (Kept [] V7 WO) := HKC.out.trans k (by simp) (by simp); have HIO : Hid (IsN V7.heap.size WO tN (.slice (some ⟨bo, 0, none⟩) 1 1)) := hI; clear hI k)
        | (go_at_call 10; refine (H13.out _ V7.heap.size _ HKC.out.size HIO.out).mono ?_; rintro e WT ⟨bt, rfl, hI, k⟩; have HKC : Hid (Kept [] V7 WT) := HKC.out.trans k (by simp) (by simp); have HIT : Hid (IsN V7.heap.size WT tM (.slice (some ⟨bt, 0, none⟩) 2 2)) := hI; clear hI k)
        | (go_at_call 31; (with_reducible show Calls _ _ #[_, .agg #[.int .u8 13, _, _], _] _ _); refine (HAT.out _ w₁ V7.heap.size p m _ nv su lu ((HW6.out.trans HK7.out (H := []) (by simp) (by simp)).trans HKC.out (by simp) (by simp)) HIT.out HPL.out HML.out (HTB.out.keep0 HKC.out)).mono ?_; rintro e V8 ⟨rv8, kn8, rfl, ht8, k8⟩; have HT8 : Hid (TabIs w₁ V8 p m nv su lu rv8 exWord exNames kn8) := ht8; have HK8 : Hid (Kept [] V6 V8) := (HK7.out.trans HKC.out (H := []) (by simp) (by simp)).trans k8 (by simp) (fun x hx => .inr (by rcases List.mem_cons.1 hx with e | hx; exact (by rw [e]; exact HPP.out.1); rw [List.mem_singleton.1 hx]; exact HPP.out.2)); obtain ⟨g0, g1, g2, _⟩ := (HA6.out.keep HK8.out).fb.cells; clear ht8 k8)
        | (go_at_call 31; refine (HAG.out _ w₁ p m nv su lu rv8 kn8 HK8.out HT8.out).mono ?_; rintro e V9 ⟨rfl, k9⟩; have HT9 : Hid (TabIs w₁ V9 p m nv su lu rv8 exWord exNames kn8) := HT8.out.keep0 k9; have HK9 : Hid (Kept [] V6 V9) := HK8.out.trans k9 (by simp) (by simp); have r0 := cell_kept0 HK9.out HR6.out.1; have r1 := cell_kept0 HK9.out HR6.out.2.1; have r2 := cell_kept0 HK9.out HR6.out.2.2.1; have r3 := cell_kept0 HK9.out HR6.out.2.2.2; clear k9)
        | (go_at_call 32; refine (awk_places _ w₁ p m nv su lu rv8 kn8 HT9.out).mono ?_; rintro e V10 ⟨rfl, k10⟩; have HK10 : Hid (Kept [] V6 V10) := HK9.out.trans k10 (by simp) (by simp); clear k10))
      go_ret
      exact ⟨rfl, HW6.out.trans HK10.out (by simp) (by simp)⟩
end Go.Proofs.YtddgciilcghbaaaDoor
