/- augurref00.SameFormula: two readings of one tree are the same. -/
import Derived.Test.YtnjajafmmociiaaGreatDoorTrForm
import Derived.Deep.RegionHeld3
import Derived.Deep.Cut
namespace Go.Proofs.YtnjajafmmociiaaGreatDoor
open Go.RowKit Go.Shelf

def SameDoes (t : Tr) : Prop := ∀ (av bv : Value) (w : World), IsF w t av → IsF w t bv → t.size ≤ 1099511627776 →
  Calls Tryz.prog 13 #[.agg #[.int .u8 (t.op : Nat), .string t.name, av], .agg #[.int .u8 (t.op : Nat), .string t.name, bv]] w fun e w' => e = .returned (.bool true) ∧ Kept [] w w'
theorem six_cellsS {W W' : World} {b bo c i : Nat} {off : Nat} {x0 x1 x2 y0 y1 y2 : Value} (k : Kept [] W W') (a0 : W.cell? ⟨b, bo + i * 3, none⟩ = some x0) (a1 : W.cell? ⟨b, bo + i * 3 + 1, none⟩ = some x1) (a2 : W.cell? ⟨b, bo + i * 3 + 2, none⟩ = some x2) (c0 : W.cell? ⟨c, off + i * 3, none⟩ = some y0) (c1 : W.cell? ⟨c, off + i * 3 + 1, none⟩ = some y1) (c2 : W.cell? ⟨c, off + i * 3 + 2, none⟩ = some y2) :
    (W'.cell? ⟨b, bo + i * 3, none⟩ = some x0 ∧ W'.cell? ⟨b, bo + i * 3 + 1, none⟩ = some x1 ∧ W'.cell? ⟨b, bo + i * 3 + 2, none⟩ = some x2) ∧ (W'.cell? ⟨c, off + i * 3, none⟩ = some y0 ∧ W'.cell? ⟨c, off + i * 3 + 1, none⟩ = some y1 ∧ W'.cell? ⟨c, off + i * 3 + 2, none⟩ = some y2) :=
  ⟨⟨cell_kept0 k a0, cell_kept0 k a1, cell_kept0 k a2⟩, cell_kept0 k c0, cell_kept0 k c1, cell_kept0 k c2⟩

set_option maxHeartbeats 1000000 in
set_option maxRecDepth 20000 in
theorem sames_any (t : Tr) (ih : ∀ k ∈ t.kids, SameDoes k) (av bv : Value) (w : World) (hA : IsF w t av) (hI : IsF w t bv) (hs : t.size ≤ 1099511627776) :
    Calls Tryz.prog 49 #[av, bv] w fun e w' => e = .returned (.bool true) ∧ Kept [] w w' := by
  obtain ⟨xad, xcap, rfl⟩ := hA.slice
  obtain ⟨kad, kcap, rfl⟩ := hI.slice
  have HI : Hid (IsT (fun k => k < w.heap.size) w t (.slice kad t.kids.length kcap)) := hI
  have HL : Hid (IsT (fun k => k < w.heap.size) w t (.slice xad t.kids.length xcap)) := hA
  have HIH : Hid _ := fun k hk => ih k hk
  have hlen : t.kids.length ≤ 1099511627776 := by have := t.kids_size; omega
  clear hI ih hA
  go_enter Tryz.func49, Tryz.ntmps49
  go_wp2
  go_loopw [5] (fun v wr => ∃ i : Nat, v = .int .i64 (i : Nat) ∧ i ≤ t.kids.length ∧ Hid (Kept [] w wr)) (fun v _ => t.kids.length - (intOf v).toNat)
  case atStart => exact ⟨0, rfl, Nat.zero_le _, Kept.refl [] w⟩
  case round =>
    obtain ⟨i, rfl, hi, HR⟩ := hrel
    by_cases hlt : i < t.kids.length
    · have hli : (i : Int) < (t.kids.length : Int) := by omega
      obtain ⟨kb, koff, rfl, _, hkid⟩ := HI.out.kid (by omega)
      obtain ⟨xb, xoff, rfl, _, hxid⟩ := HL.out.kid (by omega)
      obtain ⟨kv, c0, c1, c2, hIk⟩ := hkid i hlt
      obtain ⟨yv, a0, a1, a2, hLk⟩ := hxid i hlt
      obtain ⟨ckad, ckcap, rfl⟩ := hIk.slice
      obtain ⟨yad, ycap, rfl⟩ := hLk.slice
      obtain ⟨k, hk⟩ : ∃ k, t.kids[i] = k := ⟨_, rfl⟩
      have hkm : k ∈ t.kids := by rw [← hk]; exact List.getElem_mem _
      rw [hk] at c0 c1 c2 hIk a0 a1 a2 hLk
      have kw : Kept [] w wr := HR.out
      have c0 := cell_kept0 kw c0
      have c1 := cell_kept0 kw c1
      have c2 := cell_kept0 kw c2
      have a0 := cell_kept0 kw a0
      have a1 := cell_kept0 kw a1
      have a2 := cell_kept0 kw a2
      have HS : Hid _ := fun W' (q : Kept [] wr W') => six_cellsS q a0 a1 a2 c0 c1 c2
      have HREC : Hid _ := fun W (q : Kept [] wr W) => HIH.out k hkm (.slice yad k.kids.length ycap) (.slice ckad k.kids.length ckcap) W (IsF.kept (IsF.kept hLk kw) q) (IsF.kept (IsF.kept hIk kw) q) (by have := Tr.kid_size hkm; omega)
      clear hkid hxid hk hIk hLk hkm kw
      go_wp2_with fail
      go_region_held3 (fun w' => (w'.cell? ⟨xb, xoff + i * 3, none⟩ = some (.int .u8 (k.op : Nat)) ∧ w'.cell? ⟨xb, xoff + i * 3 + 1, none⟩ = some (.string k.name) ∧ w'.cell? ⟨xb, xoff + i * 3 + 2, none⟩ = some (.slice yad k.kids.length ycap)) ∧ (w'.cell? ⟨kb, koff + i * 3, none⟩ = some (.int .u8 (k.op : Nat)) ∧ w'.cell? ⟨kb, koff + i * 3 + 1, none⟩ = some (.string k.name) ∧ w'.cell? ⟨kb, koff + i * 3 + 2, none⟩ = some (.slice ckad k.kids.length ckcap)))
        ((refine HS.out _ ?_; (repeat (first | with_reducible exact Kept.refl [] _ | with_reducible refine Kept.drew ?_ | with_reducible refine Kept.trans (F := []) (G := []) (H := []) ?_ HKa.out (by simp) (by simp)))))
        ((go_at_call 13; refine (HREC.out _ (by (repeat (first | with_reducible exact Kept.refl [] _ | with_reducible refine Kept.drew ?_)))).mono ?_; rintro e Wa ⟨rfl, ka⟩; have HKa : Hid _ := ka; clear ka))
      all_goals go_wp2
      all_goals go_roundw
      all_goals first
        | exact ⟨i + 1, by go_num, by omega, HR.out.trans (G := []) (H := []) (by (repeat (first | with_reducible exact Kept.refl [] _ | with_reducible refine Kept.drew ?_ | with_reducible refine Kept.trans (F := []) (G := []) (H := []) ?_ HKa.out (by simp) (by simp)))) (by simp) (by simp)⟩
        | (simp [intOf]; omega)
    · obtain rfl : i = t.kids.length := by omega
      have hli : ¬ ((t.kids.length : Int) < (t.kids.length : Int)) := by omega
      go_wp2
      go_ret
      exact ⟨rfl, HR.out⟩

set_option maxHeartbeats 1000000 in
set_option maxRecDepth 20000 in
theorem same_any (t : Tr) : SameDoes t := by
  induction t using Tr.ind with
  | h t ih =>
    intro av bv w hA hI hs
    have HW : Hid _ := fun W (k : Kept [] w W) => sames_any t ih av bv W (hA.kept k) (hI.kept k) hs
    obtain ⟨xad, xcap, rfl⟩ := hA.slice
    obtain ⟨kad, kcap, rfl⟩ := hI.slice
    clear hI hA ih
    go_enter Tryz.func13, Tryz.ntmps13
    go_wp2_with (go_at_call 49; refine (HW.out _ (((Kept.refl [] w).alloc _).alloc _)).mono ?_; rintro e W ⟨rfl, hk⟩)
    go_ret
    exact ⟨rfl, (((Kept.refl [] w).alloc _).alloc _).trans hk (by simp) (by simp)⟩
end Go.Proofs.YtnjajafmmociiaaGreatDoor
