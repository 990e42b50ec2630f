/- nnf.simpler: the rows of each operator, as functions in a table. -/
import Derived.Test.YtddgciilcghbaaaDoorGI
import Derived.Test.YtddgciilcghbaaaDoorGJ
import Derived.Test.YtddgciilcghbaaaDoorNnJunM
namespace Go.Proofs.YtddgciilcghbaaaDoor
open Go.RowKit Go.Shelf

def zeroF : Value := .agg #[.int .u8 0, .string ⟨#[]⟩, .slice none 0 0]
/-- What a function of the table does, of two formulas; of one. -/
def RowTwo (f o : Nat) : Prop := ∀ (X : Nat → Prop) (a b : Tr) (kv lv : Value) (w : World), (∀ k, w.heap.size ≤ k → X k) → IsT X w a kv → IsT X w b lv → TurnTab w → a.Good → b.Good → a.size ≤ 1099511627776 → b.size ≤ 1099511627776 →
  Calls Tryd.prog f #[.agg #[.int .u8 (a.op : Nat), .string a.name, kv], .agg #[.int .u8 (b.op : Nat), .string b.name, lv]] w (GivesX X w (sOp o a b))
def RowOne (f o : Nat) : Prop := ∀ (X : Nat → Prop) (a : Tr) (b : Tr) (kv : Value) (w : World), (∀ k, w.heap.size ≤ k → X k) → IsT X w a kv → TurnTab w → a.Good → a.size ≤ 1099511627776 →
  Calls Tryd.prog f #[.agg #[.int .u8 (a.op : Nat), .string a.name, kv], zeroF] w (GivesX X w (sOp o a b))
set_option maxHeartbeats 1000000 in
set_option maxRecDepth 20000 in
theorem row_4 : RowOne 77 4 := by
  intro X a b kv w hX hI hT ga hsa
  unfold zeroF
  obtain ⟨kad, kcap, rfl⟩ := hI.slice
  obtain ⟨V, hV⟩ : ∃ V, ((w.alloc (.cells #[.int .u8 (a.op : Nat), .string a.name, .slice kad a.kids.length kcap] 25)).alloc (.cells #[.int .u8 0, .string ⟨#[]⟩, .slice none 0 0] 25)).alloc (.cells #[.int .u8 0, .string ⟨#[]⟩, .slice none 0 0] 25) = V := ⟨_, rfl⟩
  have kV : Kept [] w V := by rw [← hV]; exact (((Kept.refl [] w).alloc _).alloc _).alloc _
  have v0 : For3 V w.heap.size (.int .u8 (a.op : Nat)) (.string a.name) (.slice kad a.kids.length kcap) := by rw [← hV]; exact alUp (alUp (al0 _ _) _) _
  have v1 : For3 V (w.heap.size + 1) (.int .u8 0) (.string ⟨#[]⟩) (.slice none 0 0) := by rw [← hV]; exact alUp (al1 _ _ _) _
  have v2 : For3 V (w.heap.size + 1 + 1) (.int .u8 0) (.string ⟨#[]⟩) (.slice none 0 0) := by rw [← hV]; exact al2 _ _ _ _
  have HV2 : Hid (For3 V (w.heap.size + 1 + 1) (.int .u8 0) (.string ⟨#[]⟩) (.slice none 0 0)) := v2
  have HKV : Hid (Kept [] w V) := kV
  have HVV : Hid (_ = V) := hV
  have HC : Hid (Calls Tryd.prog 78 #[.agg #[.int .u8 (a.op : Nat), .string a.name, .slice kad a.kids.length kcap]] V (GivesX (fun k => X k ∧ k ≠ w.heap.size + 1 + 1) V (sOp 4 a b))) := not_any (fun k => X k ∧ k ≠ w.heap.size + 1 + 1) a _ V (fun k hk => ⟨hX k (by have := kV.size; omega), by have := lt_of v2; omega⟩) (hI.apart kV (by omega)) (hT.kept kV) ga
  obtain ⟨c0, c1, c2, -⟩ := v0.cells
  generalize sOp 4 a b = p at *
  clear hI hT hX ga kV v0 v1 v2 hV
  go_enter Tryd.func77, Tryd.ntmps77
  go_upto_region 1 with (fail)
  rw [HVV.out]
  go_wp2_with (go_at_call 78; refine HC.out.mono ?_; rintro e W1 ⟨ra, rc, rfl, hrt, kk⟩; have HK1 : Hid (Kept [] V W1) := kk; obtain ⟨z0, z1, z2, zf⟩ := (HV2.out.kept kk).cells; have HT2 : Hid (IsT (fun k => X k ∧ k ≠ w.heap.size + 1 + 1) W1 p (.slice ra p.kids.length rc)) := hrt; clear kk hrt)
  exact gives_end rfl rfl rfl (HV2.out.kept HK1.out) HT2.out (HKV.out.trans HK1.out (by simp) (by simp)) (by omega)
set_option maxHeartbeats 1000000 in
set_option maxRecDepth 20000 in
theorem row_9 : RowOne 84 9 := by
  intro X a b kv w hX hI hT ga hsa
  unfold zeroF
  obtain ⟨kad, kcap, rfl⟩ := hI.slice
  obtain ⟨V, hV⟩ : ∃ V, ((w.alloc (.cells #[.int .u8 (a.op : Nat), .string a.name, .slice kad a.kids.length kcap] 25)).alloc (.cells #[.int .u8 0, .string ⟨#[]⟩, .slice none 0 0] 25)).alloc (.cells #[.int .u8 0, .string ⟨#[]⟩, .slice none 0 0] 25) = V := ⟨_, rfl⟩
  have kV : Kept [] w V := by rw [← hV]; exact (((Kept.refl [] w).alloc _).alloc _).alloc _
  have v0 : For3 V w.heap.size (.int .u8 (a.op : Nat)) (.string a.name) (.slice kad a.kids.length kcap) := by rw [← hV]; exact alUp (alUp (al0 _ _) _) _
  have v1 : For3 V (w.heap.size + 1) (.int .u8 0) (.string ⟨#[]⟩) (.slice none 0 0) := by rw [← hV]; exact alUp (al1 _ _ _) _
  have v2 : For3 V (w.heap.size + 1 + 1) (.int .u8 0) (.string ⟨#[]⟩) (.slice none 0 0) := by rw [← hV]; exact al2 _ _ _ _
  have HV2 : Hid (For3 V (w.heap.size + 1 + 1) (.int .u8 0) (.string ⟨#[]⟩) (.slice none 0 0)) := v2
  have HKV : Hid (Kept [] w V) := kV
  have HVV : Hid (_ = V) := hV
  have HC : Hid (Calls Tryd.prog 85 #[.agg #[.int .u8 (a.op : Nat), .string a.name, .slice kad a.kids.length kcap]] V (GivesX (fun k => X k ∧ k ≠ w.heap.size + 1 + 1) V (sOp 9 a b))) := next_any (fun k => X k ∧ k ≠ w.heap.size + 1 + 1) a _ V (fun k hk => ⟨hX k (by have := kV.size; omega), by have := lt_of v2; omega⟩) (hI.apart kV (by omega)) (hT.kept kV)
  obtain ⟨c0, c1, c2, -⟩ := v0.cells
  generalize sOp 9 a b = p at *
  clear hI hT hX ga kV v0 v1 v2 hV
  go_enter Tryd.func84, Tryd.ntmps84
  go_upto_region 1 with (fail)
  rw [HVV.out]
  go_wp2_with (go_at_call 85; refine HC.out.mono ?_; rintro e W1 ⟨ra, rc, rfl, hrt, kk⟩; have HK1 : Hid (Kept [] V W1) := kk; obtain ⟨z0, z1, z2, zf⟩ := (HV2.out.kept kk).cells; have HT2 : Hid (IsT (fun k => X k ∧ k ≠ w.heap.size + 1 + 1) W1 p (.slice ra p.kids.length rc)) := hrt; clear kk hrt)
  exact gives_end rfl rfl rfl (HV2.out.kept HK1.out) HT2.out (HKV.out.trans HK1.out (by simp) (by simp)) (by omega)
set_option maxHeartbeats 1000000 in
set_option maxRecDepth 20000 in
theorem row_10 : RowOne 86 10 := by
  intro X a b kv w hX hI hT ga hsa
  unfold zeroF
  obtain ⟨kad, kcap, rfl⟩ := hI.slice
  obtain ⟨V, hV⟩ : ∃ V, ((w.alloc (.cells #[.int .u8 (a.op : Nat), .string a.name, .slice kad a.kids.length kcap] 25)).alloc (.cells #[.int .u8 0, .string ⟨#[]⟩, .slice none 0 0] 25)).alloc (.cells #[.int .u8 0, .string ⟨#[]⟩, .slice none 0 0] 25) = V := ⟨_, rfl⟩
  have kV : Kept [] w V := by rw [← hV]; exact (((Kept.refl [] w).alloc _).alloc _).alloc _
  have v0 : For3 V w.heap.size (.int .u8 (a.op : Nat)) (.string a.name) (.slice kad a.kids.length kcap) := by rw [← hV]; exact alUp (alUp (al0 _ _) _) _
  have v1 : For3 V (w.heap.size + 1) (.int .u8 0) (.string ⟨#[]⟩) (.slice none 0 0) := by rw [← hV]; exact alUp (al1 _ _ _) _
  have v2 : For3 V (w.heap.size + 1 + 1) (.int .u8 0) (.string ⟨#[]⟩) (.slice none 0 0) := by rw [← hV]; exact al2 _ _ _ _
  have HV2 : Hid (For3 V (w.heap.size + 1 + 1) (.int .u8 0) (.string ⟨#[]⟩) (.slice none 0 0)) := v2
  have HKV : Hid (Kept [] w V) := kV
  have HVV : Hid (_ = V) := hV
  have HC : Hid (Calls Tryd.prog 87 #[.int .u8 10, .agg #[.int .u8 (a.op : Nat), .string a.name, .slice kad a.kids.length kcap]] V (GivesX (fun k => X k ∧ k ≠ w.heap.size + 1 + 1) V (sOp 10 a b))) := last_any (fun k => X k ∧ k ≠ w.heap.size + 1 + 1) 10 (.inl rfl) a _ V (fun k hk => ⟨hX k (by have := kV.size; omega), by have := lt_of v2; omega⟩) (hI.apart kV (by omega)) (hT.kept kV) ga
  obtain ⟨c0, c1, c2, -⟩ := v0.cells
  generalize sOp 10 a b = p at *
  clear hI hT hX ga kV v0 v1 v2 hV
  go_enter Tryd.func86, Tryd.ntmps86
  go_upto_region 1 with (fail)
  rw [HVV.out]
  go_wp2_with (go_at_call 87; refine HC.out.mono ?_; rintro e W1 ⟨ra, rc, rfl, hrt, kk⟩; have HK1 : Hid (Kept [] V W1) := kk; obtain ⟨z0, z1, z2, zf⟩ := (HV2.out.kept kk).cells; have HT2 : Hid (IsT (fun k => X k ∧ k ≠ w.heap.size + 1 + 1) W1 p (.slice ra p.kids.length rc)) := hrt; clear kk hrt)
  exact gives_end rfl rfl rfl (HV2.out.kept HK1.out) HT2.out (HKV.out.trans HK1.out (by simp) (by simp)) (by omega)
set_option maxHeartbeats 1000000 in
set_option maxRecDepth 20000 in
theorem row_11 : RowOne 88 11 := by
  intro X a b kv w hX hI hT ga hsa
  unfold zeroF
  obtain ⟨kad, kcap, rfl⟩ := hI.slice
  obtain ⟨V, hV⟩ : ∃ V, ((w.alloc (.cells #[.int .u8 (a.op : Nat), .string a.name, .slice kad a.kids.length kcap] 25)).alloc (.cells #[.int .u8 0, .string ⟨#[]⟩, .slice none 0 0] 25)).alloc (.cells #[.int .u8 0, .string ⟨#[]⟩, .slice none 0 0] 25) = V := ⟨_, rfl⟩
  have kV : Kept [] w V := by rw [← hV]; exact (((Kept.refl [] w).alloc _).alloc _).alloc _
  have v0 : For3 V w.heap.size (.int .u8 (a.op : Nat)) (.string a.name) (.slice kad a.kids.length kcap) := by rw [← hV]; exact alUp (alUp (al0 _ _) _) _
  have v1 : For3 V (w.heap.size + 1) (.int .u8 0) (.string ⟨#[]⟩) (.slice none 0 0) := by rw [← hV]; exact alUp (al1 _ _ _) _
  have v2 : For3 V (w.heap.size + 1 + 1) (.int .u8 0) (.string ⟨#[]⟩) (.slice none 0 0) := by rw [← hV]; exact al2 _ _ _ _
  have HV2 : Hid (For3 V (w.heap.size + 1 + 1) (.int .u8 0) (.string ⟨#[]⟩) (.slice none 0 0)) := v2
  have HKV : Hid (Kept [] w V) := kV
  have HVV : Hid (_ = V) := hV
  have HC : Hid (Calls Tryd.prog 87 #[.int .u8 11, .agg #[.int .u8 (a.op : Nat), .string a.name, .slice kad a.kids.length kcap]] V (GivesX (fun k => X k ∧ k ≠ w.heap.size + 1 + 1) V (sOp 11 a b))) := last_any (fun k => X k ∧ k ≠ w.heap.size + 1 + 1) 11 (.inr rfl) a _ V (fun k hk => ⟨hX k (by have := kV.size; omega), by have := lt_of v2; omega⟩) (hI.apart kV (by omega)) (hT.kept kV) ga
  obtain ⟨c0, c1, c2, -⟩ := v0.cells
  generalize sOp 11 a b = p at *
  clear hI hT hX ga kV v0 v1 v2 hV
  go_enter Tryd.func88, Tryd.ntmps88
  go_upto_region 1 with (fail)
  rw [HVV.out]
  go_wp2_with (go_at_call 87; refine HC.out.mono ?_; rintro e W1 ⟨ra, rc, rfl, hrt, kk⟩; have HK1 : Hid (Kept [] V W1) := kk; obtain ⟨z0, z1, z2, zf⟩ := (HV2.out.kept kk).cells; have HT2 : Hid (IsT (fun k => X k ∧ k ≠ w.heap.size + 1 + 1) W1 p (.slice ra p.kids.length rc)) := hrt; clear kk hrt)
  exact gives_end rfl rfl rfl (HV2.out.kept HK1.out) HT2.out (HKV.out.trans HK1.out (by simp) (by simp)) (by omega)
set_option maxHeartbeats 1000000 in
set_option maxRecDepth 20000 in
theorem row_5 : RowTwo 79 5 := by
  intro X a b kv lv w hX hI hJ hT ga gb hsa hsb
  obtain ⟨kad, kcap, rfl⟩ := hI.slice
  obtain ⟨lad, lcap, rfl⟩ := hJ.slice
  obtain ⟨V, hV⟩ : ∃ V, ((w.alloc (.cells #[.int .u8 (a.op : Nat), .string a.name, .slice kad a.kids.length kcap] 25)).alloc (.cells #[.int .u8 (b.op : Nat), .string b.name, .slice lad b.kids.length lcap] 25)).alloc (.cells #[.int .u8 0, .string ⟨#[]⟩, .slice none 0 0] 25) = V := ⟨_, rfl⟩
  have kV : Kept [] w V := by rw [← hV]; exact (((Kept.refl [] w).alloc _).alloc _).alloc _
  have v0 : For3 V w.heap.size (.int .u8 (a.op : Nat)) (.string a.name) (.slice kad a.kids.length kcap) := by rw [← hV]; exact alUp (alUp (al0 _ _) _) _
  have v1 : For3 V (w.heap.size + 1) (.int .u8 (b.op : Nat)) (.string b.name) (.slice lad b.kids.length lcap) := by rw [← hV]; exact alUp (al1 _ _ _) _
  have v2 : For3 V (w.heap.size + 1 + 1) (.int .u8 0) (.string ⟨#[]⟩) (.slice none 0 0) := by rw [← hV]; exact al2 _ _ _ _
  have HV2 : Hid (For3 V (w.heap.size + 1 + 1) (.int .u8 0) (.string ⟨#[]⟩) (.slice none 0 0)) := v2
  have HKV : Hid (Kept [] w V) := kV
  have HVV : Hid (_ = V) := hV
  have HC : Hid (Calls Tryd.prog 80 #[.int .u8 5, .int .u8 2, .agg #[.int .u8 (a.op : Nat), .string a.name, .slice kad a.kids.length kcap], .agg #[.int .u8 (b.op : Nat), .string b.name, .slice lad b.kids.length lcap]] V (GivesX (fun k => X k ∧ k ≠ w.heap.size + 1 + 1) V (sOp 5 a b))) := jun_any (fun k => X k ∧ k ≠ w.heap.size + 1 + 1) 5 2 (.inl ⟨rfl, rfl⟩) a b _ _ V (fun k hk => ⟨hX k (by have := kV.size; omega), by have := lt_of v2; omega⟩) (hI.apart kV (by omega)) (hJ.apart kV (by omega)) (hT.kept kV) ga gb hsa hsb
  obtain ⟨c0, c1, c2, -⟩ := v0.cells
  obtain ⟨q0, q1, q2, -⟩ := v1.cells
  generalize sOp 5 a b = p at *
  clear hI hJ hT hX ga gb kV v0 v1 v2 hV
  go_enter Tryd.func79, Tryd.ntmps79
  go_upto_region 1 with (fail)
  rw [HVV.out]
  go_wp2_with (go_at_call 80; refine HC.out.mono ?_; rintro e W1 ⟨ra, rc, rfl, hrt, kk⟩; have HK1 : Hid (Kept [] V W1) := kk; obtain ⟨z0, z1, z2, zf⟩ := (HV2.out.kept kk).cells; have HT2 : Hid (IsT (fun k => X k ∧ k ≠ w.heap.size + 1 + 1) W1 p (.slice ra p.kids.length rc)) := hrt; clear kk hrt)
  exact gives_end rfl rfl rfl (HV2.out.kept HK1.out) HT2.out (HKV.out.trans HK1.out (by simp) (by simp)) (by omega)
set_option maxHeartbeats 1000000 in
set_option maxRecDepth 20000 in
theorem row_6 : RowTwo 81 6 := by
  intro X a b kv lv w hX hI hJ hT ga gb hsa hsb
  obtain ⟨kad, kcap, rfl⟩ := hI.slice
  obtain ⟨lad, lcap, rfl⟩ := hJ.slice
  obtain ⟨V, hV⟩ : ∃ V, ((w.alloc (.cells #[.int .u8 (a.op : Nat), .string a.name, .slice kad a.kids.length kcap] 25)).alloc (.cells #[.int .u8 (b.op : Nat), .string b.name, .slice lad b.kids.length lcap] 25)).alloc (.cells #[.int .u8 0, .string ⟨#[]⟩, .slice none 0 0] 25) = V := ⟨_, rfl⟩
  have kV : Kept [] w V := by rw [← hV]; exact (((Kept.refl [] w).alloc _).alloc _).alloc _
  have v0 : For3 V w.heap.size (.int .u8 (a.op : Nat)) (.string a.name) (.slice kad a.kids.length kcap) := by rw [← hV]; exact alUp (alUp (al0 _ _) _) _
  have v1 : For3 V (w.heap.size + 1) (.int .u8 (b.op : Nat)) (.string b.name) (.slice lad b.kids.length lcap) := by rw [← hV]; exact alUp (al1 _ _ _) _
  have v2 : For3 V (w.heap.size + 1 + 1) (.int .u8 0) (.string ⟨#[]⟩) (.slice none 0 0) := by rw [← hV]; exact al2 _ _ _ _
  have HV2 : Hid (For3 V (w.heap.size + 1 + 1) (.int .u8 0) (.string ⟨#[]⟩) (.slice none 0 0)) := v2
  have HKV : Hid (Kept [] w V) := kV
  have HVV : Hid (_ = V) := hV
  have HC : Hid (Calls Tryd.prog 80 #[.int .u8 6, .int .u8 1, .agg #[.int .u8 (a.op : Nat), .string a.name, .slice kad a.kids.length kcap], .agg #[.int .u8 (b.op : Nat), .string b.name, .slice lad b.kids.length lcap]] V (GivesX (fun k => X k ∧ k ≠ w.heap.size + 1 + 1) V (sOp 6 a b))) := jun_any (fun k => X k ∧ k ≠ w.heap.size + 1 + 1) 6 1 (.inr ⟨rfl, rfl⟩) a b _ _ V (fun k hk => ⟨hX k (by have := kV.size; omega), by have := lt_of v2; omega⟩) (hI.apart kV (by omega)) (hJ.apart kV (by omega)) (hT.kept kV) ga gb hsa hsb
  obtain ⟨c0, c1, c2, -⟩ := v0.cells
  obtain ⟨q0, q1, q2, -⟩ := v1.cells
  generalize sOp 6 a b = p at *
  clear hI hJ hT hX ga gb kV v0 v1 v2 hV
  go_enter Tryd.func81, Tryd.ntmps81
  go_upto_region 1 with (fail)
  rw [HVV.out]
  go_wp2_with (go_at_call 80; refine HC.out.mono ?_; rintro e W1 ⟨ra, rc, rfl, hrt, kk⟩; have HK1 : Hid (Kept [] V W1) := kk; obtain ⟨z0, z1, z2, zf⟩ := (HV2.out.kept kk).cells; have HT2 : Hid (IsT (fun k => X k ∧ k ≠ w.heap.size + 1 + 1) W1 p (.slice ra p.kids.length rc)) := hrt; clear kk hrt)
  exact gives_end rfl rfl rfl (HV2.out.kept HK1.out) HT2.out (HKV.out.trans HK1.out (by simp) (by simp)) (by omega)
set_option maxHeartbeats 1000000 in
set_option maxRecDepth 20000 in
theorem row_12 : RowTwo 89 12 := by
  intro X a b kv lv w hX hI hJ hT ga gb hsa hsb
  obtain ⟨kad, kcap, rfl⟩ := hI.slice
  obtain ⟨lad, lcap, rfl⟩ := hJ.slice
  obtain ⟨V, hV⟩ : ∃ V, ((w.alloc (.cells #[.int .u8 (a.op : Nat), .string a.name, .slice kad a.kids.length kcap] 25)).alloc (.cells #[.int .u8 (b.op : Nat), .string b.name, .slice lad b.kids.length lcap] 25)).alloc (.cells #[.int .u8 0, .string ⟨#[]⟩, .slice none 0 0] 25) = V := ⟨_, rfl⟩
  have kV : Kept [] w V := by rw [← hV]; exact (((Kept.refl [] w).alloc _).alloc _).alloc _
  have v0 : For3 V w.heap.size (.int .u8 (a.op : Nat)) (.string a.name) (.slice kad a.kids.length kcap) := by rw [← hV]; exact alUp (alUp (al0 _ _) _) _
  have v1 : For3 V (w.heap.size + 1) (.int .u8 (b.op : Nat)) (.string b.name) (.slice lad b.kids.length lcap) := by rw [← hV]; exact alUp (al1 _ _ _) _
  have v2 : For3 V (w.heap.size + 1 + 1) (.int .u8 0) (.string ⟨#[]⟩) (.slice none 0 0) := by rw [← hV]; exact al2 _ _ _ _
  have HV2 : Hid (For3 V (w.heap.size + 1 + 1) (.int .u8 0) (.string ⟨#[]⟩) (.slice none 0 0)) := v2
  have HKV : Hid (Kept [] w V) := kV
  have HVV : Hid (_ = V) := hV
  have HC : Hid (Calls Tryd.prog 90 #[.int .u8 12, .int .u8 1, .int .u8 10, .agg #[.int .u8 (a.op : Nat), .string a.name, .slice kad a.kids.length kcap], .agg #[.int .u8 (b.op : Nat), .string b.name, .slice lad b.kids.length lcap]] V (GivesX (fun k => X k ∧ k ≠ w.heap.size + 1 + 1) V (sOp 12 a b))) := unt_any (fun k => X k ∧ k ≠ w.heap.size + 1 + 1) 12 1 10 (.inl rfl) (.inl rfl) a b _ _ V (fun k hk => ⟨hX k (by have := kV.size; omega), by have := lt_of v2; omega⟩) (hI.apart kV (by omega)) (hJ.apart kV (by omega)) (hT.kept kV) ga gb hsa hsb
  obtain ⟨c0, c1, c2, -⟩ := v0.cells
  obtain ⟨q0, q1, q2, -⟩ := v1.cells
  generalize sOp 12 a b = p at *
  clear hI hJ hT hX ga gb kV v0 v1 v2 hV
  go_enter Tryd.func89, Tryd.ntmps89
  go_upto_region 1 with (fail)
  rw [HVV.out]
  go_wp2_with (go_at_call 90; refine HC.out.mono ?_; rintro e W1 ⟨ra, rc, rfl, hrt, kk⟩; have HK1 : Hid (Kept [] V W1) := kk; obtain ⟨z0, z1, z2, zf⟩ := (HV2.out.kept kk).cells; have HT2 : Hid (IsT (fun k => X k ∧ k ≠ w.heap.size + 1 + 1) W1 p (.slice ra p.kids.length rc)) := hrt; clear kk hrt)
  exact gives_end rfl rfl rfl (HV2.out.kept HK1.out) HT2.out (HKV.out.trans HK1.out (by simp) (by simp)) (by omega)
set_option maxHeartbeats 1000000 in
set_option maxRecDepth 20000 in
theorem row_13 : RowTwo 91 13 := by
  intro X a b kv lv w hX hI hJ hT ga gb hsa hsb
  obtain ⟨kad, kcap, rfl⟩ := hI.slice
  obtain ⟨lad, lcap, rfl⟩ := hJ.slice
  obtain ⟨V, hV⟩ : ∃ V, ((w.alloc (.cells #[.int .u8 (a.op : Nat), .string a.name, .slice kad a.kids.length kcap] 25)).alloc (.cells #[.int .u8 (b.op : Nat), .string b.name, .slice lad b.kids.length lcap] 25)).alloc (.cells #[.int .u8 0, .string ⟨#[]⟩, .slice none 0 0] 25) = V := ⟨_, rfl⟩
  have kV : Kept [] w V := by rw [← hV]; exact (((Kept.refl [] w).alloc _).alloc _).alloc _
  have v0 : For3 V w.heap.size (.int .u8 (a.op : Nat)) (.string a.name) (.slice kad a.kids.length kcap) := by rw [← hV]; exact alUp (alUp (al0 _ _) _) _
  have v1 : For3 V (w.heap.size + 1) (.int .u8 (b.op : Nat)) (.string b.name) (.slice lad b.kids.length lcap) := by rw [← hV]; exact alUp (al1 _ _ _) _
  have v2 : For3 V (w.heap.size + 1 + 1) (.int .u8 0) (.string ⟨#[]⟩) (.slice none 0 0) := by rw [← hV]; exact al2 _ _ _ _
  have HV2 : Hid (For3 V (w.heap.size + 1 + 1) (.int .u8 0) (.string ⟨#[]⟩) (.slice none 0 0)) := v2
  have HKV : Hid (Kept [] w V) := kV
  have HVV : Hid (_ = V) := hV
  have HC : Hid (Calls Tryd.prog 90 #[.int .u8 13, .int .u8 2, .int .u8 11, .agg #[.int .u8 (a.op : Nat), .string a.name, .slice kad a.kids.length kcap], .agg #[.int .u8 (b.op : Nat), .string b.name, .slice lad b.kids.length lcap]] V (GivesX (fun k => X k ∧ k ≠ w.heap.size + 1 + 1) V (sOp 13 a b))) := unt_any (fun k => X k ∧ k ≠ w.heap.size + 1 + 1) 13 2 11 (.inr rfl) (.inr rfl) a b _ _ V (fun k hk => ⟨hX k (by have := kV.size; omega), by have := lt_of v2; omega⟩) (hI.apart kV (by omega)) (hJ.apart kV (by omega)) (hT.kept kV) ga gb hsa hsb
  obtain ⟨c0, c1, c2, -⟩ := v0.cells
  obtain ⟨q0, q1, q2, -⟩ := v1.cells
  generalize sOp 13 a b = p at *
  clear hI hJ hT hX ga gb kV v0 v1 v2 hV
  go_enter Tryd.func91, Tryd.ntmps91
  go_upto_region 1 with (fail)
  rw [HVV.out]
  go_wp2_with (go_at_call 90; refine HC.out.mono ?_; rintro e W1 ⟨ra, rc, rfl, hrt, kk⟩; have HK1 : Hid (Kept [] V W1) := kk; obtain ⟨z0, z1, z2, zf⟩ := (HV2.out.kept kk).cells; have HT2 : Hid (IsT (fun k => X k ∧ k ≠ w.heap.size + 1 + 1) W1 p (.slice ra p.kids.length rc)) := hrt; clear kk hrt)
  exact gives_end rfl rfl rfl (HV2.out.kept HK1.out) HT2.out (HKV.out.trans HK1.out (by simp) (by simp)) (by omega)
set_option maxHeartbeats 1000000 in
set_option maxRecDepth 20000 in
theorem row_14 : RowTwo 92 14 := by
  intro X a b kv lv w hX hI hJ hT ga gb hsa hsb
  obtain ⟨kad, kcap, rfl⟩ := hI.slice
  obtain ⟨lad, lcap, rfl⟩ := hJ.slice
  obtain ⟨V, hV⟩ : ∃ V, ((w.alloc (.cells #[.int .u8 (a.op : Nat), .string a.name, .slice kad a.kids.length kcap] 25)).alloc (.cells #[.int .u8 (b.op : Nat), .string b.name, .slice lad b.kids.length lcap] 25)).alloc (.cells #[.int .u8 0, .string ⟨#[]⟩, .slice none 0 0] 25) = V := ⟨_, rfl⟩
  have kV : Kept [] w V := by rw [← hV]; exact (((Kept.refl [] w).alloc _).alloc _).alloc _
  have v0 : For3 V w.heap.size (.int .u8 (a.op : Nat)) (.string a.name) (.slice kad a.kids.length kcap) := by rw [← hV]; exact alUp (alUp (al0 _ _) _) _
  have v1 : For3 V (w.heap.size + 1) (.int .u8 (b.op : Nat)) (.string b.name) (.slice lad b.kids.length lcap) := by rw [← hV]; exact alUp (al1 _ _ _) _
  have v2 : For3 V (w.heap.size + 1 + 1) (.int .u8 0) (.string ⟨#[]⟩) (.slice none 0 0) := by rw [← hV]; exact al2 _ _ _ _
  have HV2 : Hid (For3 V (w.heap.size + 1 + 1) (.int .u8 0) (.string ⟨#[]⟩) (.slice none 0 0)) := v2
  have HKV : Hid (Kept [] w V) := kV
  have HVV : Hid (_ = V) := hV
  have HC : Hid (Calls Tryd.prog 93 #[.int .u8 14, .int .u8 1, .int .u8 11, .agg #[.int .u8 (a.op : Nat), .string a.name, .slice kad a.kids.length kcap], .agg #[.int .u8 (b.op : Nat), .string b.name, .slice lad b.kids.length lcap]] V (GivesX (fun k => X k ∧ k ≠ w.heap.size + 1 + 1) V (sOp 14 a b))) := weak_any (fun k => X k ∧ k ≠ w.heap.size + 1 + 1) 14 1 11 (.inl rfl) (.inr rfl) a b _ _ V (fun k hk => ⟨hX k (by have := kV.size; omega), by have := lt_of v2; omega⟩) (hI.apart kV (by omega)) (hJ.apart kV (by omega)) (hT.kept kV) ga gb hsa hsb
  obtain ⟨c0, c1, c2, -⟩ := v0.cells
  obtain ⟨q0, q1, q2, -⟩ := v1.cells
  generalize sOp 14 a b = p at *
  clear hI hJ hT hX ga gb kV v0 v1 v2 hV
  go_enter Tryd.func92, Tryd.ntmps92
  go_upto_region 1 with (fail)
  rw [HVV.out]
  go_wp2_with (go_at_call 93; refine HC.out.mono ?_; rintro e W1 ⟨ra, rc, rfl, hrt, kk⟩; have HK1 : Hid (Kept [] V W1) := kk; obtain ⟨z0, z1, z2, zf⟩ := (HV2.out.kept kk).cells; have HT2 : Hid (IsT (fun k => X k ∧ k ≠ w.heap.size + 1 + 1) W1 p (.slice ra p.kids.length rc)) := hrt; clear kk hrt)
  exact gives_end rfl rfl rfl (HV2.out.kept HK1.out) HT2.out (HKV.out.trans HK1.out (by simp) (by simp)) (by omega)
set_option maxHeartbeats 1000000 in
set_option maxRecDepth 20000 in
theorem row_15 : RowTwo 94 15 := by
  intro X a b kv lv w hX hI hJ hT ga gb hsa hsb
  obtain ⟨kad, kcap, rfl⟩ := hI.slice
  obtain ⟨lad, lcap, rfl⟩ := hJ.slice
  obtain ⟨V, hV⟩ : ∃ V, ((w.alloc (.cells #[.int .u8 (a.op : Nat), .string a.name, .slice kad a.kids.length kcap] 25)).alloc (.cells #[.int .u8 (b.op : Nat), .string b.name, .slice lad b.kids.length lcap] 25)).alloc (.cells #[.int .u8 0, .string ⟨#[]⟩, .slice none 0 0] 25) = V := ⟨_, rfl⟩
  have kV : Kept [] w V := by rw [← hV]; exact (((Kept.refl [] w).alloc _).alloc _).alloc _
  have v0 : For3 V w.heap.size (.int .u8 (a.op : Nat)) (.string a.name) (.slice kad a.kids.length kcap) := by rw [← hV]; exact alUp (alUp (al0 _ _) _) _
  have v1 : For3 V (w.heap.size + 1) (.int .u8 (b.op : Nat)) (.string b.name) (.slice lad b.kids.length lcap) := by rw [← hV]; exact alUp (al1 _ _ _) _
  have v2 : For3 V (w.heap.size + 1 + 1) (.int .u8 0) (.string ⟨#[]⟩) (.slice none 0 0) := by rw [← hV]; exact al2 _ _ _ _
  have HV2 : Hid (For3 V (w.heap.size + 1 + 1) (.int .u8 0) (.string ⟨#[]⟩) (.slice none 0 0)) := v2
  have HKV : Hid (Kept [] w V) := kV
  have HVV : Hid (_ = V) := hV
  have HC : Hid (Calls Tryd.prog 93 #[.int .u8 15, .int .u8 2, .int .u8 10, .agg #[.int .u8 (a.op : Nat), .string a.name, .slice kad a.kids.length kcap], .agg #[.int .u8 (b.op : Nat), .string b.name, .slice lad b.kids.length lcap]] V (GivesX (fun k => X k ∧ k ≠ w.heap.size + 1 + 1) V (sOp 15 a b))) := weak_any (fun k => X k ∧ k ≠ w.heap.size + 1 + 1) 15 2 10 (.inr rfl) (.inl rfl) a b _ _ V (fun k hk => ⟨hX k (by have := kV.size; omega), by have := lt_of v2; omega⟩) (hI.apart kV (by omega)) (hJ.apart kV (by omega)) (hT.kept kV) ga gb hsa hsb
  obtain ⟨c0, c1, c2, -⟩ := v0.cells
  obtain ⟨q0, q1, q2, -⟩ := v1.cells
  generalize sOp 15 a b = p at *
  clear hI hJ hT hX ga gb kV v0 v1 v2 hV
  go_enter Tryd.func94, Tryd.ntmps94
  go_upto_region 1 with (fail)
  rw [HVV.out]
  go_wp2_with (go_at_call 93; refine HC.out.mono ?_; rintro e W1 ⟨ra, rc, rfl, hrt, kk⟩; have HK1 : Hid (Kept [] V W1) := kk; obtain ⟨z0, z1, z2, zf⟩ := (HV2.out.kept kk).cells; have HT2 : Hid (IsT (fun k => X k ∧ k ≠ w.heap.size + 1 + 1) W1 p (.slice ra p.kids.length rc)) := hrt; clear kk hrt)
  exact gives_end rfl rfl rfl (HV2.out.kept HK1.out) HT2.out (HKV.out.trans HK1.out (by simp) (by simp)) (by omega)
theorem row_7 : RowTwo 82 7 := fun X a b kv lv w hX hI hJ hT ga _ hsa hsb => imp_any X a b kv lv w hX hI hJ hT ga hsa hsb
theorem row_8 : RowTwo 83 8 := fun X a b kv lv w hX hI hJ hT ga gb hsa hsb => equ_any X a b kv lv w hX hI hJ hT ga gb hsa hsb
end Go.Proofs.YtddgciilcghbaaaDoor
