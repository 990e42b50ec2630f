/- Table.Holds. -/
import Derived.Test.YtondmjnagkldpaaDoorEvAlong
namespace Go.Proofs.YtondmjnagkldpaaDoor
open Go.RowKit Go.Shelf Go.Maps

/-- What a call of a table's Holds leaves. -/
def THPost (w₁ w : World) (p m : Nat) (nv sv lv rv : Value) (q : Wd) (xs : List ByteArray) (r : Bool) (e : Ending) (w' : World) : Prop :=
  ∃ rv' known', e = .returned (.tuple #[.bool r, .int .i64 0]) ∧ TabIs w₁ w' p m nv sv lv rv' q xs known' ∧ Kept (FR p m rv) w w' ∧ (∀ g, rv'.ownBlock = some g → rv.ownBlock = some g ∨ w.heap.size ≤ g)
set_option maxHeartbeats 2000000 in
set_option maxRecDepth 20000 in
theorem tholds_ok (t : Tr) (X : Nat → Prop) (kv : Value) (i : Nat) (w₁ w : World) (p m : Nat) (nv sv lv rv : Value) (q : Wd) (xs : List ByteArray) (known : List Tr) (h0 : 0 < q.loop.length) (h8 : xs.length ≤ 8) (hF : t.Fine) (hI : IsT X w t kv) (hX : ∀ k, X k → k < w.heap.size ∧ k ∉ FR p m rv) (hT : TabIs w₁ w p m nv sv lv rv q xs known) (hK : KidsTab w) (hf : fitsN t xs = 0) (hkl : known.length ≤ 1000000) (hi : i < q.len) :
    Calls Tryd.prog 19 #[.pointer (some ⟨p, 0, none⟩), .agg #[.int .u8 (t.op : Nat), .string t.name, kv], .int .i64 (i : Nat)] w (THPost w₁ w p m nv sv lv rv q xs (rowT q xs t i)) := by
  obtain ⟨hG, hsz, hNm, _⟩ := fits_zero hf
  have htx := text_small t hG
  have hdz : t.depth ≤ t.size := Tr.depth_size t
  have hlen : q.len ≤ 70368744177664 := hT.word.few
  obtain ⟨kad, kcap, rfl⟩ := hI.slice
  have kB := (Kept.refl [] w).alloc (.cells #[.int .u8 (t.op : Nat), .string t.name, .slice kad t.kids.length kcap] 26)
  have HB0 : Hid (For3 (w.alloc (.cells #[.int .u8 (t.op : Nat), .string t.name, .slice kad t.kids.length kcap] 26)) w.heap.size (.int .u8 (t.op : Nat)) (.string t.name) (.slice kad t.kids.length kcap)) := al0 w _
  have HFI : Hid (∀ W, Kept [] w W → Calls Tryd.prog 27 #[.agg #[.int .u8 (t.op : Nat), .string t.name, .slice kad t.kids.length kcap], nv] W fun e w' => e = .returned (.int .i64 0) ∧ Kept [] W w') := fun W k => by
    have := efits_any t _ nv xs W (IsF.kept (IsT.isF hI) k) (by omega) (by omega) hF (hK.kept k) (hT.strs.kept k)
    rw [hf] at this
    exact this
  have HPL : Hid (∀ W, Kept [] w W → Calls Tryd.prog 20 #[.pointer (some ⟨p, 0, none⟩)] W fun e w' => e = .returned (.int .i64 (q.len : Nat)) ∧ Kept [] W w') := fun W k => tPlaces_any p nv sv lv rv (.map (some m)) q W (hT.tab.kept k) (hT.isW.kept k) h0
  have HRO : Hid (∀ W, Kept [] w W → Calls Tryd.prog 28 #[.pointer (some ⟨p, 0, none⟩), .agg #[.int .u8 (t.op : Nat), .string t.name, .slice kad t.kids.length kcap]] W (RowPost w₁ W p m nv sv lv rv q xs known t)) := fun W k =>
    row_any h0 h8 t X _ w₁ W p m nv sv lv rv known hG hNm hF (hI.cells (fun _ h => h) (fun _ _ _ _ c => cell_kept0 k c)) (fun x hx => ⟨by have := (hX x hx).1; have := k.size; omega, (hX x hx).2⟩) (hT.keep0 k) (by omega) (by omega)
  obtain ⟨ad, c, rfl, _⟩ := hT.nms.form
  have HTT : Hid (TabIs w₁ w p m (.slice ad xs.length c) sv lv rv q xs known) := hT
  obtain ⟨n, hn⟩ : ∃ n, q.len = n := ⟨_, rfl⟩
  have HN : Hid _ := hn
  rw [hn] at HPL hi hlen
  obtain ⟨rb, hrb⟩ : ∃ rb, rowT q xs t i = rb := ⟨_, rfl⟩
  have HRB : Hid _ := hrb
  rw [hrb]
  have hi1 : (i : Int) < (n : Int) := by omega
  have hi0 : ¬ ((i : Int) < 0) := by omega
  have hi2 : ¬ ((n : Int) ≤ (i : Int)) := by omega
  have hi3 : (0 : Int) ≤ (i : Int) := by omega
  clear hI hX hT hK hF hG hNm hf kB hn hrb
  have c0 := fun o => cell_kept0 ((Kept.refl [] w).alloc o) HTT.out.tab.cells.1
  go_enter Tryd.func19, Tryd.ntmps19
  go_wp2_with fail
  go_region_with (go_at_call 27; refine (HFI.out _ (by repeat (first | exact Kept.refl [] _ | refine Kept.drew ?_ | refine Kept.alloc ?_ _))).mono ?_; rintro e W1 ⟨rfl, k1⟩; have HK1 : Hid (Kept [] w W1) := Kept.trans (F := []) (G := []) (H := []) (by repeat (first | exact Kept.refl [] _ | refine Kept.drew ?_ | refine Kept.alloc ?_ _)) k1 (by simp) (by simp); have HB1 : Hid (For3 W1 w.heap.size (.int .u8 (t.op : Nat)) (.string t.name) (.slice kad t.kids.length kcap)) := HB0.out.kept (by first | exact k1 | exact Kept.trans (F := []) (G := []) (H := []) ((Kept.refl [] _).drew) k1 (by simp) (by simp)); clear k1)
  all_goals
    go_wp2_with (first
      | (go_at_call 20; refine (HPL.out _ HK1.out).mono ?_; rintro e W2 ⟨rfl, k2⟩; have HK2 : Hid (Kept [] w W2) := HK1.out.trans k2 (by simp) (by simp); obtain ⟨f0, f1, f2, _⟩ := (HB1.out.kept k2).cells; clear k2)
      | (go_at_call 28; refine (HRO.out _ HK2.out).mono ?_; rintro e W3 ⟨b, rv', known', rfl, hr, ht3, k3, g3, _, _⟩; rw [HN.out] at hr; have d0 := hr.cell hi; rw [HRB.out] at d0; have HT3 : Hid _ := ht3; have HK3 : Hid _ := k3; have HG3 : Hid _ := g3; (rw [HN.out]); clear hr ht3 k3 g3))
    go_ret2
    exact ⟨_, _, rfl, HT3.out, HK2.out.trans HK3.out (by simp) (fun x hx => .inl hx), fun g e => (HG3.out g e).imp id (fun h => by have := HK2.out.size; omega)⟩
set_option maxHeartbeats 2000000 in
set_option maxRecDepth 20000 in
theorem tholds_arg (t : Tr) (kv : Value) (i : Nat) (w₁ w : World) (p m : Nat) (nv sv lv rv : Value) (q : Wd) (xs : List ByteArray) (known : List Tr) (h0 : 0 < q.loop.length) (hF : t.Fine) (hI : IsF w t kv) (hT : TabIs w₁ w p m nv sv lv rv q xs known) (hK : KidsTab w) (hf : fitsN t xs = 0) (hi : q.len ≤ i) :
    Calls Tryd.prog 19 #[.pointer (some ⟨p, 0, none⟩), .agg #[.int .u8 (t.op : Nat), .string t.name, kv], .int .i64 (i : Nat)] w fun e w' => e = .returned (.tuple #[.bool false, .int .i64 1]) ∧ Kept [] w w' := by
  obtain ⟨hG, hsz, hNm, _⟩ := fits_zero hf
  have hdz : t.depth ≤ t.size := Tr.depth_size t
  obtain ⟨kad, kcap, rfl⟩ := hI.slice
  have HFI : Hid (∀ W, Kept [] w W → Calls Tryd.prog 27 #[.agg #[.int .u8 (t.op : Nat), .string t.name, .slice kad t.kids.length kcap], nv] W fun e w' => e = .returned (.int .i64 0) ∧ Kept [] W w') := fun W k => by
    have := efits_any t _ nv xs W (hI.kept k) (by omega) (by omega) hF (hK.kept k) (hT.strs.kept k)
    rw [hf] at this
    exact this
  have HPL : Hid (∀ W, Kept [] w W → Calls Tryd.prog 20 #[.pointer (some ⟨p, 0, none⟩)] W fun e w' => e = .returned (.int .i64 (q.len : Nat)) ∧ Kept [] W w') := fun W k => tPlaces_any p nv sv lv rv (.map (some m)) q W (hT.tab.kept k) (hT.isW.kept k) h0
  obtain ⟨ad, c, rfl, _⟩ := hT.nms.form
  have HTT : Hid (TabIs w₁ w p m (.slice ad xs.length c) sv lv rv q xs known) := hT
  have hi0 : ¬ ((i : Int) < 0) := by omega
  have hi2 : (q.len : Int) ≤ (i : Int) := by omega
  clear hI hT hK hF hG hNm hf
  have c0 := fun o => cell_kept0 ((Kept.refl [] w).alloc o) HTT.out.tab.cells.1
  go_enter Tryd.func19, Tryd.ntmps19
  go_wp2_with fail
  go_region_with (go_at_call 27; refine (HFI.out _ (by repeat (first | exact Kept.refl [] _ | refine Kept.drew ?_ | refine Kept.alloc ?_ _))).mono ?_; rintro e W1 ⟨rfl, k1⟩; have HK1 : Hid (Kept [] w W1) := Kept.trans (F := []) (G := []) (H := []) (by repeat (first | exact Kept.refl [] _ | refine Kept.drew ?_ | refine Kept.alloc ?_ _)) k1 (by simp) (by simp); clear k1)
  all_goals
    go_wp2_with (go_at_call 20; refine (HPL.out _ HK1.out).mono ?_; rintro e W2 ⟨rfl, k2⟩; have HK2 : Hid (Kept [] w W2) := HK1.out.trans k2 (by simp) (by simp); clear k2)
    go_ret2
    exact ⟨rfl, HK2.out⟩
end Go.Proofs.YtondmjnagkldpaaDoor
