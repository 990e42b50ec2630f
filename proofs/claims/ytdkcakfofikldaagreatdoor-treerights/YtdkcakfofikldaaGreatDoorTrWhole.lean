/- augurref00.WholeFormula: what was lent is as it was. -/
import Derived.Test.YtdkcakfofikldaaGreatDoorTrLent
namespace Go.Proofs.YtdkcakfofikldaaGreatDoor
open Go.RowKit Go.Shelf

theorem IsL.slice {X : Nat → Prop} {w : World} {t : Tr} {kv : Value} (h : IsL X w t kv) : ∃ b, kv = .slice (some ⟨b, 0, none⟩) t.kids.length (t.kids.length + 1) := by
  obtain ⟨b, e, _⟩ := (isL_eq t kv).1 h
  exact ⟨b, e⟩
theorem IsL.kid {X : Nat → Prop} {w : World} {t : Tr} {b n m : Nat} (h : IsL X w t (.slice (some ⟨b, 0, none⟩) n m)) : (w.cell? ⟨b, t.kids.length * 3, none⟩ = some (.int .u8 0) ∧ w.cell? ⟨b, t.kids.length * 3 + 1, none⟩ = some (.string owners) ∧ w.cell? ⟨b, t.kids.length * 3 + 2, none⟩ = some (.slice none 0 0)) ∧
    ∀ i (h : i < t.kids.length), ∃ kv, w.cell? ⟨b, i * 3, none⟩ = some (.int .u8 (t.kids[i].op : Nat)) ∧ w.cell? ⟨b, i * 3 + 1, none⟩ = some (.string t.kids[i].name) ∧ w.cell? ⟨b, i * 3 + 2, none⟩ = some kv ∧ IsL X w t.kids[i] kv := by
  obtain ⟨b', e, _, hm, hk⟩ := (isL_eq t _).1 h
  cases e
  exact ⟨hm, hk⟩
def WholeDoes (t : Tr) : Prop := ∀ (X : Nat → Prop) (xv lv : Value) (w : World), IsL X w t xv → IsF w t lv → t.size ≤ 1099511627776 →
  Calls Tryz.prog 17 #[.agg #[.int .u8 (t.op : Nat), .string t.name, xv], .agg #[.int .u8 (t.op : Nat), .string t.name, lv]] w fun e w' => e = .returned (.bool true) ∧ Kept [] w w'
theorem six_cells {W W' : World} {b c i : Nat} {off : Nat} {x0 x1 x2 y0 y1 y2 : Value} (k : Kept [] W W') (a0 : W.cell? ⟨b, i * 3, none⟩ = some x0) (a1 : W.cell? ⟨b, i * 3 + 1, none⟩ = some x1) (a2 : W.cell? ⟨b, i * 3 + 2, none⟩ = some x2) (c0 : W.cell? ⟨c, off + i * 3, none⟩ = some y0) (c1 : W.cell? ⟨c, off + i * 3 + 1, none⟩ = some y1) (c2 : W.cell? ⟨c, off + i * 3 + 2, none⟩ = some y2) :
    (W'.cell? ⟨b, i * 3, none⟩ = some x0 ∧ W'.cell? ⟨b, i * 3 + 1, none⟩ = some x1 ∧ W'.cell? ⟨b, i * 3 + 2, none⟩ = some x2) ∧ (W'.cell? ⟨c, off + i * 3, none⟩ = some y0 ∧ W'.cell? ⟨c, off + i * 3 + 1, none⟩ = some y1 ∧ W'.cell? ⟨c, off + i * 3 + 2, none⟩ = some y2) :=
  ⟨⟨cell_kept0 k a0, cell_kept0 k a1, cell_kept0 k a2⟩, cell_kept0 k c0, cell_kept0 k c1, cell_kept0 k c2⟩

set_option maxHeartbeats 1000000 in
set_option maxRecDepth 20000 in
theorem wholes_any (t : Tr) (ih : ∀ k ∈ t.kids, WholeDoes k) (X : Nat → Prop) (xv lv : Value) (w : World) (hL : IsL X w t xv) (hI : IsF w t lv) (hs : t.size ≤ 1099511627776) :
    Calls Tryz.prog 38 #[xv, lv] w fun e w' => e = .returned (.bool true) ∧ Kept [] w w' := by
  obtain ⟨xb, rfl⟩ := hL.slice
  obtain ⟨kad, kcap, rfl⟩ := hI.slice
  have HI : Hid (IsT (fun k => k < w.heap.size) w t (.slice kad t.kids.length kcap)) := hI
  have HL : Hid (IsL X w t (.slice (some ⟨xb, 0, none⟩) t.kids.length (t.kids.length + 1))) := hL
  have HIH : Hid _ := fun k hk => ih k hk
  have hlen : t.kids.length ≤ 1099511627776 := by have := t.kids_size; omega
  obtain ⟨⟨m0, m1', m2⟩, _⟩ := hL.kid
  have m1 : w.cell? ⟨xb, t.kids.length * 3 + 1, none⟩ = some (.string ⟨#[116, 104, 101, 32, 111, 119, 110, 101, 114, 39, 115]⟩) := m1'
  clear hI ih hL m1'
  go_enter Tryz.func38, Tryz.ntmps38
  go_wp2
  go_loopw [6] (fun v wr => ∃ i : Nat, v = .int .i64 (i : Nat) ∧ i ≤ t.kids.length ∧ Hid (Kept [] w wr)) (fun v _ => t.kids.length - (intOf v).toNat)
  case atStart => exact ⟨0, rfl, Nat.zero_le _, Kept.refl [] w⟩
  case round =>
    obtain ⟨i, rfl, hi, HR⟩ := hrel
    clear m0 m1 m2
    by_cases hlt : i < t.kids.length
    · have hli : (i : Int) < (t.kids.length : Int) := by omega
      obtain ⟨kb, koff, rfl, _, hkid⟩ := HI.out.kid (by omega)
      obtain ⟨kv, c0, c1, c2, hIk⟩ := hkid i hlt
      obtain ⟨yv, a0, a1, a2, hLk⟩ := HL.out.kid.2 i hlt
      obtain ⟨ckad, ckcap, rfl⟩ := hIk.slice
      obtain ⟨yb, rfl⟩ := hLk.slice
      obtain ⟨k, hk⟩ : ∃ k, t.kids[i] = k := ⟨_, rfl⟩
      have hkm : k ∈ t.kids := by rw [← hk]; exact List.getElem_mem _
      rw [hk] at c0 c1 c2 hIk a0 a1 a2 hLk
      have kw : Kept [] w wr := HR.out
      have c0 := cell_kept0 kw c0
      have c1 := cell_kept0 kw c1
      have c2 := cell_kept0 kw c2
      have a0 := cell_kept0 kw a0
      have a1 := cell_kept0 kw a1
      have a2 := cell_kept0 kw a2
      have HS : Hid _ := fun W' (q : Kept [] wr W') => six_cells q a0 a1 a2 c0 c1 c2
      have HREC : Hid _ := fun W (q : Kept [] wr W) => HIH.out k hkm X (.slice (some ⟨yb, 0, none⟩) k.kids.length (k.kids.length + 1)) (.slice ckad k.kids.length ckcap) W ((hLk.kept kw).kept q) (IsF.kept (IsF.kept hIk kw) q) (by have := Tr.kid_size hkm; omega)
      clear hkid hk hIk hLk hkm kw
      go_upto_region 9 with fail
      go_cut [66] from 57 to 66 (fun s wx => s = .bool false ∧ Hid (Kept [] wr wx))
      case first =>
        go_region_held3 (fun w' => (w'.cell? ⟨xb, i * 3, none⟩ = some (.int .u8 (k.op : Nat)) ∧ w'.cell? ⟨xb, i * 3 + 1, none⟩ = some (.string k.name) ∧ w'.cell? ⟨xb, i * 3 + 2, none⟩ = some (.slice (some ⟨yb, 0, none⟩) k.kids.length (k.kids.length + 1))) ∧ (w'.cell? ⟨kb, koff + i * 3, none⟩ = some (.int .u8 (k.op : Nat)) ∧ w'.cell? ⟨kb, koff + i * 3 + 1, none⟩ = some (.string k.name) ∧ w'.cell? ⟨kb, koff + i * 3 + 2, none⟩ = some (.slice ckad k.kids.length ckcap)))
          ((refine HS.out _ ?_; (repeat (first | with_reducible exact Kept.refl [] _ | with_reducible refine Kept.drew ?_ | with_reducible refine Kept.trans (F := []) (G := []) (H := []) ?_ HKa.out (by simp) (by simp)))))
          ((go_at_call 17; refine (HREC.out _ (by (repeat (first | with_reducible exact Kept.refl [] _ | with_reducible refine Kept.drew ?_)))).mono ?_; rintro e Wa ⟨rfl, ka⟩; have HKa : Hid _ := ka; clear ka))
        all_goals (go_wp2_with fail; go_meet)
        all_goals refine ⟨rfl, ?_⟩
        all_goals (show Kept [] wr _; (repeat (first | with_reducible exact Kept.refl [] _ | with_reducible refine Kept.drew ?_ | with_reducible refine Kept.trans (F := []) (G := []) (H := []) ?_ HKa.out (by simp) (by simp))))
      case rest =>
        obtain ⟨rfl, HX⟩ := hcut
        go_wp2
        go_roundw
        case rel => exact ⟨i + 1, by go_num, by omega, HR.out.trans HX.out (by simp) (by simp)⟩
        case measure => simp [intOf]; omega
    · obtain rfl : i = t.kids.length := by omega
      have hli : ¬ ((t.kids.length : Int) < (t.kids.length : Int)) := by omega
      go_wp2
      go_ret
      exact ⟨rfl, HR.out⟩

set_option maxHeartbeats 1000000 in
set_option maxRecDepth 20000 in
theorem whole_any (t : Tr) : WholeDoes t := by
  induction t using Tr.ind with
  | h t ih =>
    intro X xv lv w hL hI hs
    have HW : Hid _ := fun W (k : Kept [] w W) => wholes_any t ih X xv lv W (hL.kept k) (hI.kept k) hs
    obtain ⟨xb, rfl⟩ := hL.slice
    obtain ⟨kad, kcap, rfl⟩ := hI.slice
    clear hI hL ih
    go_enter Tryz.func17, Tryz.ntmps17
    go_wp2_with (go_at_call 38; refine (HW.out _ (((Kept.refl [] w).alloc _).alloc _)).mono ?_; rintro e W ⟨rfl, hk⟩)
    go_ret
    exact ⟨rfl, (((Kept.refl [] w).alloc _).alloc _).trans hk (by simp) (by simp)⟩
end Go.Proofs.YtdkcakfofikldaaGreatDoor
