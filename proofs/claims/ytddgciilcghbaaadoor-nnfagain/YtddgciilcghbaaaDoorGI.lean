/- nnf.implication. -/
import Derived.Test.YtddgciilcghbaaaDoorNnDenyM
import Derived.Test.YtddgciilcghbaaaDoorNnHasM
namespace Go.Proofs.YtddgciilcghbaaaDoor
open Go.RowKit Go.Shelf

set_option maxHeartbeats 4000000 in
set_option maxRecDepth 20000 in
theorem imp_any (X : Nat → Prop) (a b : Tr) (kv lv : Value) (w : World) (hX : ∀ k, w.heap.size ≤ k → X k) (hI : IsT X w a kv) (hJ : IsT X w b lv) (hT : TurnTab w) (ga : a.Good) (hsa : a.size ≤ 1099511627776) (hsb : b.size ≤ 1099511627776) :
    Calls Tryd.prog 82 #[.agg #[.int .u8 (a.op : Nat), .string a.name, kv], .agg #[.int .u8 (b.op : Nat), .string b.name, lv]] w (GivesX X w (sImp a b)) := by
  obtain ⟨kad, kcap, rfl⟩ := hI.slice
  obtain ⟨lad, lcap, rfl⟩ := hJ.slice
  obtain ⟨V, hV⟩ : ∃ V, ((w.alloc (.cells #[.int .u8 (a.op : Nat), .string a.name, .slice kad a.kids.length kcap] 25)).alloc (.cells #[.int .u8 (b.op : Nat), .string b.name, .slice lad b.kids.length lcap] 25)).alloc (.cells #[.int .u8 0, .string ⟨#[]⟩, .slice none 0 0] 25) = V := ⟨_, rfl⟩
  have kV : Kept [] w V := by rw [← hV]; exact (((Kept.refl [] w).alloc _).alloc _).alloc _
  have v0 : For3 V w.heap.size (.int .u8 (a.op : Nat)) (.string a.name) (.slice kad a.kids.length kcap) := by rw [← hV]; exact alUp (alUp (al0 _ _) _) _
  have v1 : For3 V (w.heap.size + 1) (.int .u8 (b.op : Nat)) (.string b.name) (.slice lad b.kids.length lcap) := by rw [← hV]; exact alUp (al1 _ _ _) _
  have v2 : For3 V (w.heap.size + 1 + 1) (.int .u8 0) (.string ⟨#[]⟩) (.slice none 0 0) := by rw [← hV]; exact al2 _ _ _ _
  have HVV : Hid (_ = V) := hV
  have HKV : Hid (Kept [] w V) := kV
  have HV0 : Hid (For3 V w.heap.size (.int .u8 (a.op : Nat)) (.string a.name) (.slice kad a.kids.length kcap)) := v0
  have HV1 : Hid (For3 V (w.heap.size + 1) (.int .u8 (b.op : Nat)) (.string b.name) (.slice lad b.kids.length lcap)) := v1
  have HV2 : Hid (For3 V (w.heap.size + 1 + 1) (.int .u8 0) (.string ⟨#[]⟩) (.slice none 0 0)) := v2
  have HIA : Hid (∀ W, Kept [] V W → IsT (fun k => X k ∧ k ≠ w.heap.size + 1 + 1) W a (.slice kad a.kids.length kcap)) := fun W k => hI.apart (kV.trans k (by simp) (by simp)) (by omega)
  have HIB : Hid (∀ W, Kept [] V W → IsT (fun k => X k ∧ k ≠ w.heap.size + 1 + 1) W b (.slice lad b.kids.length lcap)) := fun W k => hJ.apart (kV.trans k (by simp) (by simp)) (by omega)
  have HXX : Hid (∀ W, Kept [] V W → ∀ k, W.heap.size ≤ k → (fun k => X k ∧ k ≠ w.heap.size + 1 + 1) k) := fun W k b hb => ⟨hX b (by have := kV.size; have := k.size; omega), by have := lt_of v2; have := k.size; omega⟩
  have HTT : Hid (∀ W, Kept [] V W → TurnTab W) := fun W k => (hT.kept kV).kept k
  have HFO : Hid (∀ (o : Nat) ad n c W, Calls Tryd.prog 129 #[.int .u8 (o : Nat), .slice ad n c] W fun e w' => e = .returned (.agg #[.int .u8 (o : Nat), .string nE, .slice ad n c]) ∧ Kept [] W w') := formulaOf_any
  have HSA : Hid (∀ W, Kept [] V W → Calls Tryd.prog 130 #[.agg #[.int .u8 (a.op : Nat), .string a.name, .slice kad a.kids.length kcap], .agg #[.int .u8 (b.op : Nat), .string b.name, .slice lad b.kids.length lcap]] W fun e w' => e = .returned (.bool (sameT a b)) ∧ Kept [] W w') := fun W k => same_any a b _ _ W (hI.isF.kept (kV.trans k (by simp) (by simp))) (hJ.isF.kept (kV.trans k (by simp) (by simp))) hsa hsb
  have HNA : Hid (∀ W, Kept [] V W → Calls Tryd.prog 78 #[.agg #[.int .u8 (a.op : Nat), .string a.name, .slice kad a.kids.length kcap]] W (GivesX (fun k => X k ∧ k ≠ w.heap.size + 1 + 1) W (sNot a))) := fun W k => not_any (fun k => X k ∧ k ≠ w.heap.size + 1 + 1) a _ W (HXX.out W k) (HIA.out W k) (HTT.out W k) ga
  obtain ⟨c0, c1, c2, -⟩ := HV0.out.cells
  obtain ⟨q0, q1, q2, -⟩ := HV1.out.cells
  obtain ⟨z0, z1, z2, zf⟩ := HV2.out.cells
  by_cases h1 : a.op = 2 ∨ b.op = 1
  · skip
    by_cases ha : a.op = 2
    · have ea2 : ((a.op : Int) == (2 : Int)) = true := by rw [beq_iff_eq]; omega
      have hS : sImp a b = nn0 1 := by unfold sImp; rw [if_pos h1]
      rw [hS]
      clear hS hI hJ kV v0 v1 v2 hV hX hT ga
      (try clear h1); (try clear h2); (try clear h3); (try clear h4); (try clear ha)
      have T1 : Hid True := trivial
      go_enter Tryd.func82, Tryd.ntmps82
      go_upto_region 1 with (fail)
      rw [HVV.out]
      go_wp2_with (first
        | (clear T1; go_at_call 129; refine (HFO.out 1 _ _ _ _).mono ?_; rintro e W1 ⟨rfl, kk⟩; have HK1 : Hid (Kept [] V W1) := (Kept.refl [] V).trans kk (by simp) (by simp); obtain ⟨x1_0, x1_1, x1_2, -⟩ := (HV0.out.kept HK1.out).cells; obtain ⟨y1_0, y1_1, y1_2, -⟩ := (HV1.out.kept HK1.out).cells; obtain ⟨z1_0, z1_1, z1_2, z1_f⟩ := (HV2.out.kept HK1.out).cells; clear kk))
      exact gives_end rfl rfl rfl (HV2.out.kept HK1.out) (isT_leaf _ _ _ _) (HKV.out.trans HK1.out (by simp) (by simp)) (by omega)
    · have ea2 : ((a.op : Int) == (2 : Int)) = false := by rw [beq_eq_false_iff_ne]; omega
      have eb1 : ((b.op : Int) == 1) = true := by rw [beq_iff_eq]; have := h1.resolve_left ha; omega
      have hS : sImp a b = nn0 1 := by unfold sImp; rw [if_pos h1]
      rw [hS]
      clear hS hI hJ kV v0 v1 v2 hV hX hT ga
      (try clear h1); (try clear h2); (try clear h3); (try clear h4); (try clear ha)
      have T1 : Hid True := trivial
      go_enter Tryd.func82, Tryd.ntmps82
      go_upto_region 1 with (fail)
      rw [HVV.out]
      go_wp2_with (first
        | (clear T1; go_at_call 129; refine (HFO.out 1 _ _ _ _).mono ?_; rintro e W1 ⟨rfl, kk⟩; have HK1 : Hid (Kept [] V W1) := (Kept.refl [] V).trans kk (by simp) (by simp); obtain ⟨x1_0, x1_1, x1_2, -⟩ := (HV0.out.kept HK1.out).cells; obtain ⟨y1_0, y1_1, y1_2, -⟩ := (HV1.out.kept HK1.out).cells; obtain ⟨z1_0, z1_1, z1_2, z1_f⟩ := (HV2.out.kept HK1.out).cells; clear kk))
      exact gives_end rfl rfl rfl (HV2.out.kept HK1.out) (isT_leaf _ _ _ _) (HKV.out.trans HK1.out (by simp) (by simp)) (by omega)
  · skip
    have hna : ¬ a.op = 2 := fun h => h1 (.inl h)
    have hnb : ¬ b.op = 1 := fun h => h1 (.inr h)
    have ea2 : ((a.op : Int) == (2 : Int)) = false := by rw [beq_eq_false_iff_ne]; omega
    have eb1 : ((b.op : Int) == (1 : Int)) = false := by rw [beq_eq_false_iff_ne]; omega
    clear hna hnb
    by_cases h2 : a.op = 1
    · skip
      have ea1 : ((a.op : Int) == (1 : Int)) = true := by rw [beq_iff_eq]; omega
      have hS : sImp a b = b := by unfold sImp; rw [if_neg h1, if_pos h2]
      rw [hS]
      clear hS hI hJ kV v0 v1 v2 hV hX hT ga
      (try clear h1); (try clear h2); (try clear h3); (try clear h4); (try clear ha)
      go_enter Tryd.func82, Tryd.ntmps82
      go_upto_region 1 with (fail)
      rw [HVV.out]
      go_wp2
      exact gives_end rfl rfl rfl (HV2.out.kept (Kept.refl [] V)) (HIB.out _ (Kept.refl [] V)) (HKV.out.trans (Kept.refl [] V) (by simp) (by simp)) (by omega)
    · skip
      have ea1 : ((a.op : Int) == (1 : Int)) = false := by rw [beq_eq_false_iff_ne]; omega
      by_cases h3 : b.op = 2
      · skip
        have eb2 : ((b.op : Int) == (2 : Int)) = true := by rw [beq_iff_eq]; omega
        have hS : sImp a b = sNot a := by unfold sImp; rw [if_neg h1, if_neg h2, if_pos h3]
        rw [hS]
        clear hS hI hJ kV v0 v1 v2 hV hX hT ga
        (try clear h1); (try clear h2); (try clear h3); (try clear h4); (try clear ha)
        have T1 : Hid True := trivial
        go_enter Tryd.func82, Tryd.ntmps82
        go_upto_region 1 with (fail)
        rw [HVV.out]
        go_wp2_with (first
          | (clear T1; go_at_call 78; refine (HNA.out _ ((Kept.refl [] V))).mono ?_; rintro e W1 ⟨ra, rc, rfl, hrt, kk⟩; have HK1 : Hid (Kept [] V W1) := (Kept.refl [] V).trans kk (by simp) (by simp); obtain ⟨x1_0, x1_1, x1_2, -⟩ := (HV0.out.kept HK1.out).cells; obtain ⟨y1_0, y1_1, y1_2, -⟩ := (HV1.out.kept HK1.out).cells; obtain ⟨z1_0, z1_1, z1_2, z1_f⟩ := (HV2.out.kept HK1.out).cells; have HT2 : Hid (IsT (fun k => X k ∧ k ≠ w.heap.size + 1 + 1) W1 (sNot a) (.slice ra (sNot a).kids.length rc)) := hrt; clear kk hrt))
        exact gives_end rfl rfl rfl (HV2.out.kept HK1.out) HT2.out (HKV.out.trans HK1.out (by simp) (by simp)) (by omega)
      · skip
        have eb2 : ((b.op : Int) == (2 : Int)) = false := by rw [beq_eq_false_iff_ne]; omega
        by_cases h4 : sameT a b = true
        · skip
          rw [h4] at HSA
          have hS : sImp a b = nn0 1 := by unfold sImp; rw [if_neg h1, if_neg h2, if_neg h3, if_pos h4]
          rw [hS]
          clear hS hI hJ kV v0 v1 v2 hV hX hT ga
          (try clear h1); (try clear h2); (try clear h3); (try clear h4); (try clear ha)
          have T1 : Hid True := trivial
          have T2 : Hid True := trivial
          go_enter Tryd.func82, Tryd.ntmps82
          go_upto_region 1 with (fail)
          rw [HVV.out]
          go_wp2_with (first
            | (clear T1; go_at_call 130; refine (HSA.out _ ((Kept.refl [] V))).mono ?_; rintro e W1 ⟨rfl, kk⟩; have HK1 : Hid (Kept [] V W1) := (Kept.refl [] V).trans kk (by simp) (by simp); obtain ⟨x1_0, x1_1, x1_2, -⟩ := (HV0.out.kept HK1.out).cells; obtain ⟨y1_0, y1_1, y1_2, -⟩ := (HV1.out.kept HK1.out).cells; obtain ⟨z1_0, z1_1, z1_2, z1_f⟩ := (HV2.out.kept HK1.out).cells; clear kk)
            | (clear T2; go_at_call 129; refine (HFO.out 1 _ _ _ _).mono ?_; rintro e W2 ⟨rfl, kk⟩; have HK2 : Hid (Kept [] V W2) := HK1.out.trans kk (by simp) (by simp); obtain ⟨x2_0, x2_1, x2_2, -⟩ := (HV0.out.kept HK2.out).cells; obtain ⟨y2_0, y2_1, y2_2, -⟩ := (HV1.out.kept HK2.out).cells; obtain ⟨z2_0, z2_1, z2_2, z2_f⟩ := (HV2.out.kept HK2.out).cells; clear kk))
          exact gives_end rfl rfl rfl (HV2.out.kept HK2.out) (isT_leaf _ _ _ _) (HKV.out.trans HK2.out (by simp) (by simp)) (by omega)
        · skip
          have h4' : sameT a b = false := by simpa using h4
          rw [h4'] at HSA
          have hS : sImp a b = nn2 7 a b := by unfold sImp; rw [if_neg h1, if_neg h2, if_neg h3, if_neg h4]
          rw [hS]
          clear hS hI hJ kV v0 v1 v2 hV hX hT ga
          (try clear h1); (try clear h2); (try clear h3); (try clear h4); (try clear ha); (try clear h4')
          have T1 : Hid True := trivial
          have T2 : Hid True := trivial
          go_enter Tryd.func82, Tryd.ntmps82
          go_upto_region 1 with (fail)
          rw [HVV.out]
          go_wp2_with (first
            | (clear T1; go_at_call 130; refine (HSA.out _ ((Kept.refl [] V))).mono ?_; rintro e W1 ⟨rfl, kk⟩; have HK1 : Hid (Kept [] V W1) := (Kept.refl [] V).trans kk (by simp) (by simp); obtain ⟨x1_0, x1_1, x1_2, -⟩ := (HV0.out.kept HK1.out).cells; obtain ⟨y1_0, y1_1, y1_2, -⟩ := (HV1.out.kept HK1.out).cells; obtain ⟨z1_0, z1_1, z1_2, z1_f⟩ := (HV2.out.kept HK1.out).cells; clear kk)
            | (clear T2; go_at_call 129; refine (HFO.out 7 _ _ _ _).mono ?_; rintro e W2 ⟨rfl, kk⟩; have HK2 : Hid (Kept [] V W2) := (Kept.alloc HK1.out _).trans kk (by simp) (by simp); obtain ⟨x2_0, x2_1, x2_2, -⟩ := (HV0.out.kept HK2.out).cells; obtain ⟨y2_0, y2_1, y2_2, -⟩ := (HV1.out.kept HK2.out).cells; obtain ⟨z2_0, z2_1, z2_2, z2_f⟩ := (HV2.out.kept HK2.out).cells; have HT2 : Hid (IsT (fun k => X k ∧ k ≠ w.heap.size + 1 + 1) W2 (nn2 7 a b) (.slice (some ⟨W1.heap.size, 0, none⟩) 2 2)) := (isT_two (HXX.out W1 HK1.out _ (Nat.le_refl _)) (al0 W1 _) (HIA.out _ (Kept.alloc HK1.out _)) (HIB.out _ (Kept.alloc HK1.out _))).keptX kk; clear kk))
          exact gives_end rfl rfl rfl (HV2.out.kept HK2.out) HT2.out (HKV.out.trans HK2.out (by simp) (by simp)) (by omega)
end Go.Proofs.YtddgciilcghbaaaDoor

/- nnf.Equ. -/
namespace Go.Proofs.YtddgciilcghbaaaDoor
open Go.RowKit Go.Shelf

set_option maxHeartbeats 4000000 in
set_option maxRecDepth 20000 in
theorem equ_any (X : Nat → Prop) (a b : Tr) (kv lv : Value) (w : World) (hX : ∀ k, w.heap.size ≤ k → X k) (hI : IsT X w a kv) (hJ : IsT X w b lv) (hT : TurnTab w) (ga : a.Good) (gb : b.Good) (hsa : a.size ≤ 1099511627776) (hsb : b.size ≤ 1099511627776) :
    Calls Tryd.prog 83 #[.agg #[.int .u8 (a.op : Nat), .string a.name, kv], .agg #[.int .u8 (b.op : Nat), .string b.name, lv]] w (GivesX X w (sEqu a b)) := by
  obtain ⟨kad, kcap, rfl⟩ := hI.slice
  obtain ⟨lad, lcap, rfl⟩ := hJ.slice
  obtain ⟨V, hV⟩ : ∃ V, ((w.alloc (.cells #[.int .u8 (a.op : Nat), .string a.name, .slice kad a.kids.length kcap] 25)).alloc (.cells #[.int .u8 (b.op : Nat), .string b.name, .slice lad b.kids.length lcap] 25)).alloc (.cells #[.int .u8 0, .string ⟨#[]⟩, .slice none 0 0] 25) = V := ⟨_, rfl⟩
  have kV : Kept [] w V := by rw [← hV]; exact (((Kept.refl [] w).alloc _).alloc _).alloc _
  have v0 : For3 V w.heap.size (.int .u8 (a.op : Nat)) (.string a.name) (.slice kad a.kids.length kcap) := by rw [← hV]; exact alUp (alUp (al0 _ _) _) _
  have v1 : For3 V (w.heap.size + 1) (.int .u8 (b.op : Nat)) (.string b.name) (.slice lad b.kids.length lcap) := by rw [← hV]; exact alUp (al1 _ _ _) _
  have v2 : For3 V (w.heap.size + 1 + 1) (.int .u8 0) (.string ⟨#[]⟩) (.slice none 0 0) := by rw [← hV]; exact al2 _ _ _ _
  have HVV : Hid (_ = V) := hV
  have HKV : Hid (Kept [] w V) := kV
  have HV0 : Hid (For3 V w.heap.size (.int .u8 (a.op : Nat)) (.string a.name) (.slice kad a.kids.length kcap)) := v0
  have HV1 : Hid (For3 V (w.heap.size + 1) (.int .u8 (b.op : Nat)) (.string b.name) (.slice lad b.kids.length lcap)) := v1
  have HV2 : Hid (For3 V (w.heap.size + 1 + 1) (.int .u8 0) (.string ⟨#[]⟩) (.slice none 0 0)) := v2
  have HIA : Hid (∀ W, Kept [] V W → IsT (fun k => X k ∧ k ≠ w.heap.size + 1 + 1) W a (.slice kad a.kids.length kcap)) := fun W k => hI.apart (kV.trans k (by simp) (by simp)) (by omega)
  have HIB : Hid (∀ W, Kept [] V W → IsT (fun k => X k ∧ k ≠ w.heap.size + 1 + 1) W b (.slice lad b.kids.length lcap)) := fun W k => hJ.apart (kV.trans k (by simp) (by simp)) (by omega)
  have HXX : Hid (∀ W, Kept [] V W → ∀ k, W.heap.size ≤ k → (fun k => X k ∧ k ≠ w.heap.size + 1 + 1) k) := fun W k b hb => ⟨hX b (by have := kV.size; have := k.size; omega), by have := lt_of v2; have := k.size; omega⟩
  have HTT : Hid (∀ W, Kept [] V W → TurnTab W) := fun W k => (hT.kept kV).kept k
  have HFO : Hid (∀ (o : Nat) ad n c W, Calls Tryd.prog 129 #[.int .u8 (o : Nat), .slice ad n c] W fun e w' => e = .returned (.agg #[.int .u8 (o : Nat), .string nE, .slice ad n c]) ∧ Kept [] W w') := formulaOf_any
  have HSA : Hid (∀ W, Kept [] V W → Calls Tryd.prog 130 #[.agg #[.int .u8 (a.op : Nat), .string a.name, .slice kad a.kids.length kcap], .agg #[.int .u8 (b.op : Nat), .string b.name, .slice lad b.kids.length lcap]] W fun e w' => e = .returned (.bool (sameT a b)) ∧ Kept [] W w') := fun W k => same_any a b _ _ W (hI.isF.kept (kV.trans k (by simp) (by simp))) (hJ.isF.kept (kV.trans k (by simp) (by simp))) hsa hsb
  have HNA : Hid (∀ W, Kept [] V W → Calls Tryd.prog 78 #[.agg #[.int .u8 (a.op : Nat), .string a.name, .slice kad a.kids.length kcap]] W (GivesX (fun k => X k ∧ k ≠ w.heap.size + 1 + 1) W (sNot a))) := fun W k => not_any (fun k => X k ∧ k ≠ w.heap.size + 1 + 1) a _ W (HXX.out W k) (HIA.out W k) (HTT.out W k) ga
  have HNB : Hid (∀ W, Kept [] V W → Calls Tryd.prog 78 #[.agg #[.int .u8 (b.op : Nat), .string b.name, .slice lad b.kids.length lcap]] W (GivesX (fun k => X k ∧ k ≠ w.heap.size + 1 + 1) W (sNot b))) := fun W k => not_any (fun k => X k ∧ k ≠ w.heap.size + 1 + 1) b _ W (HXX.out W k) (HIB.out W k) (HTT.out W k) gb
  have HOR : Hid (∀ W, Kept [] V W → Calls Tryd.prog 133 #[.int .u8 8, .agg #[.int .u8 (a.op : Nat), .string a.name, .slice kad a.kids.length kcap], .agg #[.int .u8 (b.op : Nat), .string b.name, .slice lad b.kids.length lcap]] W (GivesX (fun k => X k ∧ k ≠ w.heap.size + 1 + 1) W (sOrd 8 a b))) := fun W k => ord_any (fun k => X k ∧ k ≠ w.heap.size + 1 + 1) 8 a b _ _ W (HXX.out W k) (HIA.out W k) (HIB.out W k) hsa hsb
  obtain ⟨c0, c1, c2, -⟩ := HV0.out.cells
  obtain ⟨q0, q1, q2, -⟩ := HV1.out.cells
  obtain ⟨z0, z1, z2, zf⟩ := HV2.out.cells
  by_cases h1 : a.op = 1
  · skip
    have ea1 : ((a.op : Int) == (1 : Int)) = true := by rw [beq_iff_eq]; omega
    have hS : sEqu a b = b := by unfold sEqu; rw [if_pos h1]
    rw [hS]
    clear hS hI hJ kV v0 v1 v2 hV hX hT ga gb
    (try clear h1); (try clear h2); (try clear h3); (try clear h4); (try clear h5); (try clear h5')
    go_enter Tryd.func83, Tryd.ntmps83
    go_upto_region 1 with (fail)
    rw [HVV.out]
    go_wp2
    exact gives_end rfl rfl rfl (HV2.out.kept (Kept.refl [] V)) (HIB.out _ (Kept.refl [] V)) (HKV.out.trans (Kept.refl [] V) (by simp) (by simp)) (by omega)
  · skip
    have ea1 : ((a.op : Int) == (1 : Int)) = false := by rw [beq_eq_false_iff_ne]; omega
    by_cases h2 : b.op = 1
    · skip
      have eb1 : ((b.op : Int) == (1 : Int)) = true := by rw [beq_iff_eq]; omega
      have hS : sEqu a b = a := by unfold sEqu; rw [if_neg h1, if_pos h2]
      rw [hS]
      clear hS hI hJ kV v0 v1 v2 hV hX hT ga gb
      (try clear h1); (try clear h2); (try clear h3); (try clear h4); (try clear h5); (try clear h5')
      go_enter Tryd.func83, Tryd.ntmps83
      go_upto_region 1 with (fail)
      rw [HVV.out]
      go_wp2
      exact gives_end rfl rfl rfl (HV2.out.kept (Kept.refl [] V)) (HIA.out _ (Kept.refl [] V)) (HKV.out.trans (Kept.refl [] V) (by simp) (by simp)) (by omega)
    · skip
      have eb1 : ((b.op : Int) == (1 : Int)) = false := by rw [beq_eq_false_iff_ne]; omega
      by_cases h3 : a.op = 2
      · skip
        have ea2 : ((a.op : Int) == (2 : Int)) = true := by rw [beq_iff_eq]; omega
        have hS : sEqu a b = sNot b := by unfold sEqu; rw [if_neg h1, if_neg h2, if_pos h3]
        rw [hS]
        clear hS hI hJ kV v0 v1 v2 hV hX hT ga gb
        (try clear h1); (try clear h2); (try clear h3); (try clear h4); (try clear h5); (try clear h5')
        have T1 : Hid True := trivial
        go_enter Tryd.func83, Tryd.ntmps83
        go_upto_region 1 with (fail)
        rw [HVV.out]
        go_wp2_with (first
          | (clear T1; go_at_call 78; refine (HNB.out _ ((Kept.refl [] V))).mono ?_; rintro e W1 ⟨ra, rc, rfl, hrt, kk⟩; have HK1 : Hid (Kept [] V W1) := (Kept.refl [] V).trans kk (by simp) (by simp); obtain ⟨x1_0, x1_1, x1_2, -⟩ := (HV0.out.kept HK1.out).cells; obtain ⟨y1_0, y1_1, y1_2, -⟩ := (HV1.out.kept HK1.out).cells; obtain ⟨z1_0, z1_1, z1_2, z1_f⟩ := (HV2.out.kept HK1.out).cells; have HT2 : Hid (IsT (fun k => X k ∧ k ≠ w.heap.size + 1 + 1) W1 (sNot b) (.slice ra (sNot b).kids.length rc)) := hrt; clear kk hrt))
        exact gives_end rfl rfl rfl (HV2.out.kept HK1.out) HT2.out (HKV.out.trans HK1.out (by simp) (by simp)) (by omega)
      · skip
        have ea2 : ((a.op : Int) == (2 : Int)) = false := by rw [beq_eq_false_iff_ne]; omega
        by_cases h4 : b.op = 2
        · skip
          have eb2 : ((b.op : Int) == (2 : Int)) = true := by rw [beq_iff_eq]; omega
          have hS : sEqu a b = sNot a := by unfold sEqu; rw [if_neg h1, if_neg h2, if_neg h3, if_pos h4]
          rw [hS]
          clear hS hI hJ kV v0 v1 v2 hV hX hT ga gb
          (try clear h1); (try clear h2); (try clear h3); (try clear h4); (try clear h5); (try clear h5')
          have T1 : Hid True := trivial
          go_enter Tryd.func83, Tryd.ntmps83
          go_upto_region 1 with (fail)
          rw [HVV.out]
          go_wp2_with (first
            | (clear T1; go_at_call 78; refine (HNA.out _ ((Kept.refl [] V))).mono ?_; rintro e W1 ⟨ra, rc, rfl, hrt, kk⟩; have HK1 : Hid (Kept [] V W1) := (Kept.refl [] V).trans kk (by simp) (by simp); obtain ⟨x1_0, x1_1, x1_2, -⟩ := (HV0.out.kept HK1.out).cells; obtain ⟨y1_0, y1_1, y1_2, -⟩ := (HV1.out.kept HK1.out).cells; obtain ⟨z1_0, z1_1, z1_2, z1_f⟩ := (HV2.out.kept HK1.out).cells; have HT2 : Hid (IsT (fun k => X k ∧ k ≠ w.heap.size + 1 + 1) W1 (sNot a) (.slice ra (sNot a).kids.length rc)) := hrt; clear kk hrt))
          exact gives_end rfl rfl rfl (HV2.out.kept HK1.out) HT2.out (HKV.out.trans HK1.out (by simp) (by simp)) (by omega)
        · skip
          have eb2 : ((b.op : Int) == (2 : Int)) = false := by rw [beq_eq_false_iff_ne]; omega
          by_cases h5 : sameT a b = true
          · skip
            rw [h5] at HSA
            have hS : sEqu a b = nn0 1 := by unfold sEqu; rw [if_neg h1, if_neg h2, if_neg h3, if_neg h4, if_pos h5]
            rw [hS]
            clear hS hI hJ kV v0 v1 v2 hV hX hT ga gb
            (try clear h1); (try clear h2); (try clear h3); (try clear h4); (try clear h5); (try clear h5')
            have T1 : Hid True := trivial
            have T2 : Hid True := trivial
            go_enter Tryd.func83, Tryd.ntmps83
            go_upto_region 1 with (fail)
            rw [HVV.out]
            go_wp2_with (first
              | (clear T1; go_at_call 130; refine (HSA.out _ ((Kept.refl [] V))).mono ?_; rintro e W1 ⟨rfl, kk⟩; have HK1 : Hid (Kept [] V W1) := (Kept.refl [] V).trans kk (by simp) (by simp); obtain ⟨x1_0, x1_1, x1_2, -⟩ := (HV0.out.kept HK1.out).cells; obtain ⟨y1_0, y1_1, y1_2, -⟩ := (HV1.out.kept HK1.out).cells; obtain ⟨z1_0, z1_1, z1_2, z1_f⟩ := (HV2.out.kept HK1.out).cells; clear kk)
              | (clear T2; go_at_call 129; refine (HFO.out 1 _ _ _ _).mono ?_; rintro e W2 ⟨rfl, kk⟩; have HK2 : Hid (Kept [] V W2) := HK1.out.trans kk (by simp) (by simp); obtain ⟨x2_0, x2_1, x2_2, -⟩ := (HV0.out.kept HK2.out).cells; obtain ⟨y2_0, y2_1, y2_2, -⟩ := (HV1.out.kept HK2.out).cells; obtain ⟨z2_0, z2_1, z2_2, z2_f⟩ := (HV2.out.kept HK2.out).cells; clear kk))
            exact gives_end rfl rfl rfl (HV2.out.kept HK2.out) (isT_leaf _ _ _ _) (HKV.out.trans HK2.out (by simp) (by simp)) (by omega)
          · skip
            have h5' : sameT a b = false := by simpa using h5
            rw [h5'] at HSA
            have hS : sEqu a b = sOrd 8 a b := by unfold sEqu; rw [if_neg h1, if_neg h2, if_neg h3, if_neg h4, if_neg h5]
            rw [hS]
            clear hS hI hJ kV v0 v1 v2 hV hX hT ga gb
            (try clear h1); (try clear h2); (try clear h3); (try clear h4); (try clear h5); (try clear h5')
            have T1 : Hid True := trivial
            have T2 : Hid True := trivial
            go_enter Tryd.func83, Tryd.ntmps83
            go_upto_region 1 with (fail)
            rw [HVV.out]
            go_wp2_with (first
              | (clear T1; go_at_call 130; refine (HSA.out _ ((Kept.refl [] V))).mono ?_; rintro e W1 ⟨rfl, kk⟩; have HK1 : Hid (Kept [] V W1) := (Kept.refl [] V).trans kk (by simp) (by simp); obtain ⟨x1_0, x1_1, x1_2, -⟩ := (HV0.out.kept HK1.out).cells; obtain ⟨y1_0, y1_1, y1_2, -⟩ := (HV1.out.kept HK1.out).cells; obtain ⟨z1_0, z1_1, z1_2, z1_f⟩ := (HV2.out.kept HK1.out).cells; clear kk)
              | (clear T2; go_at_call 133; refine (HOR.out _ (HK1.out)).mono ?_; rintro e W2 ⟨ra, rc, rfl, hrt, kk⟩; have HK2 : Hid (Kept [] V W2) := HK1.out.trans kk (by simp) (by simp); obtain ⟨x2_0, x2_1, x2_2, -⟩ := (HV0.out.kept HK2.out).cells; obtain ⟨y2_0, y2_1, y2_2, -⟩ := (HV1.out.kept HK2.out).cells; obtain ⟨z2_0, z2_1, z2_2, z2_f⟩ := (HV2.out.kept HK2.out).cells; have HT2 : Hid (IsT (fun k => X k ∧ k ≠ w.heap.size + 1 + 1) W2 (sOrd 8 a b) (.slice ra (sOrd 8 a b).kids.length rc)) := hrt; clear kk hrt))
            exact gives_end rfl rfl rfl (HV2.out.kept HK2.out) HT2.out (HKV.out.trans HK2.out (by simp) (by simp)) (by omega)
end Go.Proofs.YtddgciilcghbaaaDoor
