/- The laws' own trees: prop, one, two. -/
import Derived.Test.YtnljjbpbgjgnkaaGreatDoorTrPut
namespace Go.Proofs.YtnljjbpbgjgnkaaGreatDoor
open Go.RowKit Go.Shelf

/-- A tree in blocks from n on. -/
def IsN (n : Nat) (w : World) (t : Tr) (kv : Value) : Prop := IsT (fun k => n ≤ k) w t kv
theorem IsN.isF {n : Nat} {w : World} {t : Tr} {kv : Value} (h : IsN n w t kv) : IsF w t kv := IsT.isF h
theorem IsN.slice {n : Nat} {w : World} {t : Tr} {kv : Value} (h : IsN n w t kv) : ∃ ad cap, kv = .slice ad t.kids.length cap := IsT.slice h
theorem IsN.kept {n : Nat} {w w' : World} {t : Tr} {kv : Value} (h : IsN n w t kv) (k : Kept [] w w') : IsN n w' t kv := IsT.cells (fun _ h => h) (fun _ _ _ _ c => cell_kept0 k c) h
theorem isN_one {n : Nat} {W : World} {b o : Nat} {nm : ByteArray} {t : Tr} {kv : Value} (hb : W.heap[b]? = some (.cells #[.int .u8 (t.op : Nat), .string t.name, kv] 25 (0, 0))) (h : IsN n W t kv) (hn : n ≤ b) : IsN n W ⟨o, nm, [t]⟩ (.slice (some ⟨b, 0, none⟩) 1 1) := by
  refine (isT_eq (X := fun k => n ≤ k) ⟨o, nm, [t]⟩ _).2 ⟨_, _, rfl, .inr ⟨b, 0, rfl, hn, fun i hi => ?_⟩⟩
  obtain rfl : i = 0 := by simp at hi; omega
  exact ⟨kv, (cell_of hb 0).trans rfl, (cell_of hb 1).trans rfl, (cell_of hb 2).trans rfl, h⟩
theorem isN_two {n : Nat} {W : World} {b o : Nat} {nm : ByteArray} {t u : Tr} {kv lv : Value} (hb : W.heap[b]? = some (.cells #[.int .u8 (t.op : Nat), .string t.name, kv, .int .u8 (u.op : Nat), .string u.name, lv] 25 (0, 0))) (h : IsN n W t kv) (k : IsN n W u lv) (hn : n ≤ b) : IsN n W ⟨o, nm, [t, u]⟩ (.slice (some ⟨b, 0, none⟩) 2 2) := by
  refine (isT_eq (X := fun k => n ≤ k) ⟨o, nm, [t, u]⟩ _).2 ⟨_, _, rfl, .inr ⟨b, 0, rfl, hn, fun i hi => ?_⟩⟩
  have hi' : i < 2 := by simpa using hi
  match i, hi' with
  | 0, _ => exact ⟨kv, (cell_of hb 0).trans rfl, (cell_of hb 1).trans rfl, (cell_of hb 2).trans rfl, h⟩
  | 1, _ => exact ⟨lv, (cell_of hb 3).trans rfl, (cell_of hb 4).trans rfl, (cell_of hb 5).trans rfl, k⟩
set_option maxHeartbeats 400000 in
theorem lawProp_any (s : ByteArray) (w : World) : Calls Tryz.prog 20 #[.string s] w fun e w' => e = .returned (.agg #[.int .u8 3, .string s, .slice none 0 0]) ∧ Kept [] w w' := by
  go_enter Tryz.func20, Tryz.ntmps20
  go_wp2
  exact ret_for rfl rfl rfl (al0 _ _) ⟨rfl, (Kept.refl [] w).alloc _⟩
set_option maxHeartbeats 400000 in
theorem lawOne_any (n o : Nat) (t : Tr) (kv : Value) (w : World) (hI : IsN n w t kv) (hn : n ≤ w.heap.size) : Calls Tryz.prog 19 #[.int .u8 (o : Nat), .agg #[.int .u8 (t.op : Nat), .string t.name, kv]] w fun e w' => ∃ b, e = .returned (.agg #[.int .u8 (o : Nat), .string ⟨#[]⟩, .slice (some ⟨b, 0, none⟩) 1 1]) ∧ IsN n w' ⟨o, ⟨#[]⟩, [t]⟩ (.slice (some ⟨b, 0, none⟩) 1 1) ∧ Kept [] w w' := by
  obtain ⟨kad, kcap, rfl⟩ := hI.slice
  have HI : Hid (IsN n w t (.slice kad t.kids.length kcap)) := hI
  clear hI
  go_enter Tryz.func19, Tryz.ntmps19
  go_wp2
  exact ret_for rfl rfl rfl (show For3 _ (w.heap.size + 1) _ _ _ from alUp (al1 _ _ _) _) ⟨_, rfl, isN_one (al2 _ _ _ _) (HI.out.kept ((((Kept.refl [] w).alloc _).alloc _).alloc _)) (by omega), (((Kept.refl [] w).alloc _).alloc _).alloc _⟩
set_option maxHeartbeats 400000 in
theorem lawTwo_any (n o : Nat) (t u : Tr) (kv lv : Value) (w : World) (hI : IsN n w t kv) (hJ : IsN n w u lv) (hn : n ≤ w.heap.size) : Calls Tryz.prog 40 #[.int .u8 (o : Nat), .agg #[.int .u8 (t.op : Nat), .string t.name, kv], .agg #[.int .u8 (u.op : Nat), .string u.name, lv]] w fun e w' => ∃ b, e = .returned (.agg #[.int .u8 (o : Nat), .string ⟨#[]⟩, .slice (some ⟨b, 0, none⟩) 2 2]) ∧ IsN n w' ⟨o, ⟨#[]⟩, [t, u]⟩ (.slice (some ⟨b, 0, none⟩) 2 2) ∧ Kept [] w w' := by
  obtain ⟨kad, kcap, rfl⟩ := hI.slice
  obtain ⟨lad, lcap, rfl⟩ := hJ.slice
  have HI : Hid (IsN n w t (.slice kad t.kids.length kcap)) := hI
  have HJ : Hid (IsN n w u (.slice lad u.kids.length lcap)) := hJ
  clear hI hJ
  go_enter Tryz.func40, Tryz.ntmps40
  go_wp2
  exact ret_for rfl rfl rfl (show For3 _ (w.heap.size + 1 + 1) _ _ _ from alUp (al2 _ _ _ _) _) ⟨_, rfl, isN_two (al3 _ _ _ _ _) (HI.out.kept (((((Kept.refl [] w).alloc _).alloc _).alloc _).alloc _)) (HJ.out.kept (((((Kept.refl [] w).alloc _).alloc _).alloc _).alloc _)) (by omega), ((((Kept.refl [] w).alloc _).alloc _).alloc _).alloc _⟩
end Go.Proofs.YtnljjbpbgjgnkaaGreatDoor
