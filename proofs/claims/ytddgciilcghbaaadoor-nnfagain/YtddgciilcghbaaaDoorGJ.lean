/- nnf.until. -/
import Derived.Test.YtddgciilcghbaaaDoorNnDenyM
import Derived.Test.YtddgciilcghbaaaDoorNnHasM
namespace Go.Proofs.YtddgciilcghbaaaDoor
open Go.RowKit Go.Shelf

set_option maxHeartbeats 4000000 in
set_option maxRecDepth 20000 in
theorem unt_any (X : Nat → Prop) (o fr sh : Nat) (hfr : fr = 1 ∨ fr = 2) (hsh : sh = 10 ∨ sh = 11) (a b : Tr) (kv lv : Value) (w : World) (hX : ∀ k, w.heap.size ≤ k → X k) (hI : IsT X w a kv) (hJ : IsT X w b lv) (hT : TurnTab w) (_ga : a.Good) (gb : b.Good) (hsa : a.size ≤ 1099511627776) (hsb : b.size ≤ 1099511627776) :
    Calls Tryd.prog 90 #[.int .u8 (o : Nat), .int .u8 (fr : Nat), .int .u8 (sh : Nat), .agg #[.int .u8 (a.op : Nat), .string a.name, kv], .agg #[.int .u8 (b.op : Nat), .string b.name, lv]] w (GivesX X w (sUnt o fr sh a b)) := by
  obtain ⟨kad, kcap, rfl⟩ := hI.slice
  obtain ⟨lad, lcap, rfl⟩ := hJ.slice
  obtain ⟨V, hV⟩ : ∃ V, ((w.alloc (.cells #[.int .u8 (a.op : Nat), .string a.name, .slice kad a.kids.length kcap] 25)).alloc (.cells #[.int .u8 (b.op : Nat), .string b.name, .slice lad b.kids.length lcap] 25)).alloc (.cells #[.int .u8 0, .string ⟨#[]⟩, .slice none 0 0] 25) = V := ⟨_, rfl⟩
  have kV : Kept [] w V := by rw [← hV]; exact (((Kept.refl [] w).alloc _).alloc _).alloc _
  have v0 : For3 V w.heap.size (.int .u8 (a.op : Nat)) (.string a.name) (.slice kad a.kids.length kcap) := by rw [← hV]; exact alUp (alUp (al0 _ _) _) _
  have v1 : For3 V (w.heap.size + 1) (.int .u8 (b.op : Nat)) (.string b.name) (.slice lad b.kids.length lcap) := by rw [← hV]; exact alUp (al1 _ _ _) _
  have v2 : For3 V (w.heap.size + 1 + 1) (.int .u8 0) (.string ⟨#[]⟩) (.slice none 0 0) := by rw [← hV]; exact al2 _ _ _ _
  have HVV : Hid (_ = V) := hV
  have HKV : Hid (Kept [] w V) := kV
  have HV0 : Hid (For3 V w.heap.size (.int .u8 (a.op : Nat)) (.string a.name) (.slice kad a.kids.length kcap)) := v0
  have HV1 : Hid (For3 V (w.heap.size + 1) (.int .u8 (b.op : Nat)) (.string b.name) (.slice lad b.kids.length lcap)) := v1
  have HV2 : Hid (For3 V (w.heap.size + 1 + 1) (.int .u8 0) (.string ⟨#[]⟩) (.slice none 0 0)) := v2
  have HIA : Hid (∀ W, Kept [] V W → IsT (fun k => X k ∧ k ≠ w.heap.size + 1 + 1) W a (.slice kad a.kids.length kcap)) := fun W k => hI.apart (kV.trans k (by simp) (by simp)) (by omega)
  have HIB : Hid (∀ W, Kept [] V W → IsT (fun k => X k ∧ k ≠ w.heap.size + 1 + 1) W b (.slice lad b.kids.length lcap)) := fun W k => hJ.apart (kV.trans k (by simp) (by simp)) (by omega)
  have HXX : Hid (∀ W, Kept [] V W → ∀ k, W.heap.size ≤ k → (fun k => X k ∧ k ≠ w.heap.size + 1 + 1) k) := fun W k b hb => ⟨hX b (by have := kV.size; have := k.size; omega), by have := lt_of v2; have := k.size; omega⟩
  have HTT : Hid (∀ W, Kept [] V W → TurnTab W) := fun W k => (hT.kept kV).kept k
  have HFO : Hid (∀ (o : Nat) ad n c W, Calls Tryd.prog 129 #[.int .u8 (o : Nat), .slice ad n c] W fun e w' => e = .returned (.agg #[.int .u8 (o : Nat), .string nE, .slice ad n c]) ∧ Kept [] W w') := formulaOf_any
  have HSA : Hid (∀ W, Kept [] V W → Calls Tryd.prog 130 #[.agg #[.int .u8 (a.op : Nat), .string a.name, .slice kad a.kids.length kcap], .agg #[.int .u8 (b.op : Nat), .string b.name, .slice lad b.kids.length lcap]] W fun e w' => e = .returned (.bool (sameT a b)) ∧ Kept [] W w') := fun W k => same_any a b _ _ W (hI.isF.kept (kV.trans k (by simp) (by simp))) (hJ.isF.kept (kV.trans k (by simp) (by simp))) hsa hsb
  have HCB : Hid (∀ W, Calls Tryd.prog 128 #[.agg #[.int .u8 (b.op : Nat), .string b.name, .slice lad b.kids.length lcap]] W fun e w' => e = .returned (.bool (cstB b)) ∧ Kept [] W w') := fun W => isConst_any b lad _ lcap W
  have HLB : Hid (∀ W, Kept [] V W → Calls Tryd.prog 87 #[.int .u8 (sh : Nat), .agg #[.int .u8 (b.op : Nat), .string b.name, .slice lad b.kids.length lcap]] W (GivesX (fun k => X k ∧ k ≠ w.heap.size + 1 + 1) W (sLast sh b))) := fun W k => last_any (fun k => X k ∧ k ≠ w.heap.size + 1 + 1) sh hsh b _ W (HXX.out W k) (HIB.out W k) (HTT.out W k) gb
  obtain ⟨c0, c1, c2, -⟩ := HV0.out.cells
  obtain ⟨q0, q1, q2, -⟩ := HV1.out.cells
  obtain ⟨z0, z1, z2, zf⟩ := HV2.out.cells
  have hl_fr : fr < 12 := by omega
  have hl_fri : (fr : Int) < 12 := by omega
  by_cases h1 : cstB b = true
  · skip
    rw [h1] at HCB
    have hS : sUnt o fr sh a b = b := by unfold sUnt; rw [if_pos h1]
    rw [hS]
    clear hS hI hJ kV v0 v1 v2 hV hX hT _ga gb
    (try clear h1); (try clear h1'); (try clear h2); (try clear h3); (try clear h4); (try clear h4'); (try clear h5); (try clear hfr); (try clear hsh)
    have T1 : Hid True := trivial
    go_enter Tryd.func90, Tryd.ntmps90
    go_upto_region 1 with (fail)
    rw [HVV.out]
    go_wp2_with (first
      | (clear T1; go_at_call 128; refine (HCB.out _).mono ?_; rintro e W1 ⟨rfl, kk⟩; have HK1 : Hid (Kept [] V W1) := (Kept.refl [] V).trans kk (by simp) (by simp); obtain ⟨x1_0, x1_1, x1_2, -⟩ := (HV0.out.kept HK1.out).cells; obtain ⟨y1_0, y1_1, y1_2, -⟩ := (HV1.out.kept HK1.out).cells; obtain ⟨z1_0, z1_1, z1_2, z1_f⟩ := (HV2.out.kept HK1.out).cells; clear kk))
    exact gives_end rfl rfl rfl (HV2.out.kept HK1.out) (HIB.out _ HK1.out) (HKV.out.trans HK1.out (by simp) (by simp)) (by omega)
  · skip
    have h1' : cstB b = false := by simpa using h1
    rw [h1'] at HCB
    by_cases h2 : a.op = fr
    · skip
      have eaf : ((a.op : Int) == (fr : Int)) = true := by rw [beq_iff_eq]; omega
      have hS : sUnt o fr sh a b = sLast sh b := by unfold sUnt; rw [if_neg h1, if_pos h2]
      rw [hS]
      clear hS hI hJ kV v0 v1 v2 hV hX hT _ga gb
      (try clear h1); (try clear h1'); (try clear h2); (try clear h3); (try clear h4); (try clear h4'); (try clear h5); (try clear hfr); (try clear hsh)
      have T1 : Hid True := trivial
      have T2 : Hid True := trivial
      go_enter Tryd.func90, Tryd.ntmps90
      go_upto_region 1 with (fail)
      rw [HVV.out]
      go_wp2_with (first
        | (clear T1; go_at_call 128; refine (HCB.out _).mono ?_; rintro e W1 ⟨rfl, kk⟩; have HK1 : Hid (Kept [] V W1) := (Kept.refl [] V).trans kk (by simp) (by simp); obtain ⟨x1_0, x1_1, x1_2, -⟩ := (HV0.out.kept HK1.out).cells; obtain ⟨y1_0, y1_1, y1_2, -⟩ := (HV1.out.kept HK1.out).cells; obtain ⟨z1_0, z1_1, z1_2, z1_f⟩ := (HV2.out.kept HK1.out).cells; clear kk)
        | (clear T2; go_at_call 87; refine (HLB.out _ (HK1.out)).mono ?_; rintro e W2 ⟨ra, rc, rfl, hrt, kk⟩; have HK2 : Hid (Kept [] V W2) := HK1.out.trans kk (by simp) (by simp); obtain ⟨x2_0, x2_1, x2_2, -⟩ := (HV0.out.kept HK2.out).cells; obtain ⟨y2_0, y2_1, y2_2, -⟩ := (HV1.out.kept HK2.out).cells; obtain ⟨z2_0, z2_1, z2_2, z2_f⟩ := (HV2.out.kept HK2.out).cells; have HT2 : Hid (IsT (fun k => X k ∧ k ≠ w.heap.size + 1 + 1) W2 (sLast sh b) (.slice ra (sLast sh b).kids.length rc)) := hrt; clear kk hrt))
      exact gives_end rfl rfl rfl (HV2.out.kept HK2.out) HT2.out (HKV.out.trans HK2.out (by simp) (by simp)) (by omega)
    · skip
      have eaf : ((a.op : Int) == (fr : Int)) = false := by rw [beq_eq_false_iff_ne]; omega
      by_cases h3 : a.op = turnO fr
      · skip
        have eat : ((a.op : Int) == (turnO fr : Int)) = true := by rw [beq_iff_eq]; omega
        have hS : sUnt o fr sh a b = b := by unfold sUnt; rw [if_neg h1, if_neg h2, if_pos h3]
        rw [hS]
        clear hS hI hJ kV v0 v1 v2 hV hX hT _ga gb
        (try clear h1); (try clear h1'); (try clear h2); (try clear h3); (try clear h4); (try clear h4'); (try clear h5); (try clear hfr); (try clear hsh)
        have T1 : Hid True := trivial
        have T2 : Hid True := trivial
        go_enter Tryd.func90, Tryd.ntmps90
        go_upto_region 1 with (fail)
        rw [HVV.out]
        go_wp2_with (first
          | (clear T1; go_at_call 128; refine (HCB.out _).mono ?_; rintro e W1 ⟨rfl, kk⟩; have HK1 : Hid (Kept [] V W1) := (Kept.refl [] V).trans kk (by simp) (by simp); obtain ⟨x1_0, x1_1, x1_2, -⟩ := (HV0.out.kept HK1.out).cells; obtain ⟨y1_0, y1_1, y1_2, -⟩ := (HV1.out.kept HK1.out).cells; obtain ⟨z1_0, z1_1, z1_2, z1_f⟩ := (HV2.out.kept HK1.out).cells; clear kk))
        have HS : Hid (∀ w', Kept [] V w' → w'.cell? ⟨w.heap.size, 0, none⟩ = some (.int .u8 (a.op : Nat)) ∧ w'.cell? ⟨w.heap.size, 1, none⟩ = some (.string a.name) ∧ w'.cell? ⟨w.heap.size, 2, none⟩ = some (.slice kad a.kids.length kcap) ∧ w'.cell? ⟨w.heap.size + 1, 0, none⟩ = some (.int .u8 (b.op : Nat)) ∧ w'.cell? ⟨w.heap.size + 1, 1, none⟩ = some (.string b.name) ∧ w'.cell? ⟨w.heap.size + 1, 2, none⟩ = some (.slice lad b.kids.length lcap) ∧ w'.cell? ⟨0, fr, none⟩ = some (.int .u8 (turnO fr : Nat))) := fun w' k => ⟨cell_kept0 k c0, cell_kept0 k c1, cell_kept0 k c2, cell_kept0 k q0, cell_kept0 k q1, cell_kept0 k q2, (HTT.out w' k) fr hl_fr⟩
        have HKS : Hid (Kept [] V W1) := HK1.out
        refine wp_region_quiet (C := fun w' => Kept [] V w') (by kernel_rfl) (by kernel_rfl) (HKS.out.drew) ?_
        simp only []
        go_big_quiet_want
        refine ⟨.pointer (some ⟨w.heap.size, 0, none⟩), fun w' hw => (by go_simp), ?_⟩
        go_big_quiet_on
        simp only [Act.put, Array.setIfInBounds, List.size_toArray, List.length_cons, List.length_nil, Nat.reduceAdd, Nat.reduceLT, ↓reduceDIte, List.set_toArray, List.set_cons_succ, List.set_cons_zero]
        go_big_quiet_want
        refine ⟨.int .u8 (a.op : Nat), fun w' hw => ?_, ?_⟩
        · obtain ⟨f0, f1, f2, f3, f4, f5, f6⟩ := HS.out w' hw
          go_simp
        go_big_quiet_on
        simp only [Act.put, Array.setIfInBounds, List.size_toArray, List.length_cons, List.length_nil, Nat.reduceAdd, Nat.reduceLT, ↓reduceDIte, List.set_toArray, List.set_cons_succ, List.set_cons_zero]
        go_big_quiet_want
        refine ⟨.int .u8 (fr : Nat), fun w' hw => (by go_simp), ?_⟩
        go_big_quiet_on
        simp only [Act.put, Array.setIfInBounds, List.size_toArray, List.length_cons, List.length_nil, Nat.reduceAdd, Nat.reduceLT, ↓reduceDIte, List.set_toArray, List.set_cons_succ, List.set_cons_zero]
        go_big_quiet_want
        refine ⟨.pointer (some ⟨0, fr, none⟩), fun w' hw => (by go_simp), ?_⟩
        go_big_quiet_on
        simp only [Act.put, Array.setIfInBounds, List.size_toArray, List.length_cons, List.length_nil, Nat.reduceAdd, Nat.reduceLT, ↓reduceDIte, List.set_toArray, List.set_cons_succ, List.set_cons_zero]
        go_big_quiet_want
        refine ⟨.int .u8 (turnO fr : Nat), fun w' hw => ?_, ?_⟩
        · obtain ⟨f0, f1, f2, f3, f4, f5, f6⟩ := HS.out w' hw
          go_simp
        go_big_quiet_on
        simp only [Act.put, Array.setIfInBounds, List.size_toArray, List.length_cons, List.length_nil, Nat.reduceAdd, Nat.reduceLT, ↓reduceDIte, List.set_toArray, List.set_cons_succ, List.set_cons_zero]
        go_big_quiet_want
        refine ⟨.bool true, fun w' hw => (by go_simp), ?_⟩
        go_big_quiet_on
        simp only [Act.put, Array.setIfInBounds, List.size_toArray, List.length_cons, List.length_nil, Nat.reduceAdd, Nat.reduceLT, ↓reduceDIte, List.set_toArray, List.set_cons_succ, List.set_cons_zero]
        go_big_quiet_want
        refine ⟨.bool true, fun w' hw => (by go_simp), ?_⟩
        go_big_quiet_on
        simp only [Act.put, Array.setIfInBounds, List.size_toArray, List.length_cons, List.length_nil, Nat.reduceAdd, Nat.reduceLT, ↓reduceDIte, List.set_toArray, List.set_cons_succ, List.set_cons_zero]
        refine wpQuiet_nil ?_
        intro W2 hk2
        have HK2 : Hid (Kept [] V W2) := hk2
        obtain ⟨x2_0, x2_1, x2_2, -⟩ := (HV0.out.kept HK2.out).cells; obtain ⟨y2_0, y2_1, y2_2, -⟩ := (HV1.out.kept HK2.out).cells; obtain ⟨z2_0, z2_1, z2_2, z2_f⟩ := (HV2.out.kept HK2.out).cells
        clear hk2 HS HKS
        go_wp2
        exact gives_end rfl rfl rfl (HV2.out.kept HK2.out) (HIB.out _ HK2.out) (HKV.out.trans HK2.out (by simp) (by simp)) (by omega)
      · skip
        have eat : ((a.op : Int) == (turnO fr : Int)) = false := by rw [beq_eq_false_iff_ne]; omega
        by_cases h4 : sameT a b = true
        · skip
          rw [h4] at HSA
          have hS : sUnt o fr sh a b = a := by unfold sUnt; rw [if_neg h1, if_neg h2, if_neg h3, if_pos h4]
          rw [hS]
          clear hS hI hJ kV v0 v1 v2 hV hX hT _ga gb
          (try clear h1); (try clear h1'); (try clear h2); (try clear h3); (try clear h4); (try clear h4'); (try clear h5); (try clear hfr); (try clear hsh)
          have T1 : Hid True := trivial
          have T2 : Hid True := trivial
          have T3 : Hid True := trivial
          go_enter Tryd.func90, Tryd.ntmps90
          go_upto_region 1 with (fail)
          rw [HVV.out]
          go_wp2_with (first
            | (clear T1; go_at_call 128; refine (HCB.out _).mono ?_; rintro e W1 ⟨rfl, kk⟩; have HK1 : Hid (Kept [] V W1) := (Kept.refl [] V).trans kk (by simp) (by simp); obtain ⟨x1_0, x1_1, x1_2, -⟩ := (HV0.out.kept HK1.out).cells; obtain ⟨y1_0, y1_1, y1_2, -⟩ := (HV1.out.kept HK1.out).cells; obtain ⟨z1_0, z1_1, z1_2, z1_f⟩ := (HV2.out.kept HK1.out).cells; clear kk))
          have HS : Hid (∀ w', Kept [] V w' → w'.cell? ⟨w.heap.size, 0, none⟩ = some (.int .u8 (a.op : Nat)) ∧ w'.cell? ⟨w.heap.size, 1, none⟩ = some (.string a.name) ∧ w'.cell? ⟨w.heap.size, 2, none⟩ = some (.slice kad a.kids.length kcap) ∧ w'.cell? ⟨w.heap.size + 1, 0, none⟩ = some (.int .u8 (b.op : Nat)) ∧ w'.cell? ⟨w.heap.size + 1, 1, none⟩ = some (.string b.name) ∧ w'.cell? ⟨w.heap.size + 1, 2, none⟩ = some (.slice lad b.kids.length lcap) ∧ w'.cell? ⟨0, fr, none⟩ = some (.int .u8 (turnO fr : Nat))) := fun w' k => ⟨cell_kept0 k c0, cell_kept0 k c1, cell_kept0 k c2, cell_kept0 k q0, cell_kept0 k q1, cell_kept0 k q2, (HTT.out w' k) fr hl_fr⟩
          have HKS : Hid (Kept [] V W1) := HK1.out
          refine wp_region_quiet (C := fun w' => Kept [] V w') (by kernel_rfl) (by kernel_rfl) (HKS.out.drew) ?_
          simp only []
          go_big_quiet_want
          refine ⟨.pointer (some ⟨w.heap.size, 0, none⟩), fun w' hw => (by go_simp), ?_⟩
          go_big_quiet_on
          simp only [Act.put, Array.setIfInBounds, List.size_toArray, List.length_cons, List.length_nil, Nat.reduceAdd, Nat.reduceLT, ↓reduceDIte, List.set_toArray, List.set_cons_succ, List.set_cons_zero]
          go_big_quiet_want
          refine ⟨.int .u8 (a.op : Nat), fun w' hw => ?_, ?_⟩
          · obtain ⟨f0, f1, f2, f3, f4, f5, f6⟩ := HS.out w' hw
            go_simp
          go_big_quiet_on
          simp only [Act.put, Array.setIfInBounds, List.size_toArray, List.length_cons, List.length_nil, Nat.reduceAdd, Nat.reduceLT, ↓reduceDIte, List.set_toArray, List.set_cons_succ, List.set_cons_zero]
          go_big_quiet_want
          refine ⟨.int .u8 (fr : Nat), fun w' hw => (by go_simp), ?_⟩
          go_big_quiet_on
          simp only [Act.put, Array.setIfInBounds, List.size_toArray, List.length_cons, List.length_nil, Nat.reduceAdd, Nat.reduceLT, ↓reduceDIte, List.set_toArray, List.set_cons_succ, List.set_cons_zero]
          go_big_quiet_want
          refine ⟨.pointer (some ⟨0, fr, none⟩), fun w' hw => (by go_simp), ?_⟩
          go_big_quiet_on
          simp only [Act.put, Array.setIfInBounds, List.size_toArray, List.length_cons, List.length_nil, Nat.reduceAdd, Nat.reduceLT, ↓reduceDIte, List.set_toArray, List.set_cons_succ, List.set_cons_zero]
          go_big_quiet_want
          refine ⟨.int .u8 (turnO fr : Nat), fun w' hw => ?_, ?_⟩
          · obtain ⟨f0, f1, f2, f3, f4, f5, f6⟩ := HS.out w' hw
            go_simp
          go_big_quiet_on
          simp only [Act.put, Array.setIfInBounds, List.size_toArray, List.length_cons, List.length_nil, Nat.reduceAdd, Nat.reduceLT, ↓reduceDIte, List.set_toArray, List.set_cons_succ, List.set_cons_zero]
          go_big_quiet_want
          refine ⟨.bool false, fun w' hw => (by go_simp), ?_⟩
          go_big_quiet_on
          simp only [Act.put, Array.setIfInBounds, List.size_toArray, List.length_cons, List.length_nil, Nat.reduceAdd, Nat.reduceLT, ↓reduceDIte, List.set_toArray, List.set_cons_succ, List.set_cons_zero]
          go_big_quiet_want
          refine ⟨.bool false, fun w' hw => (by go_simp), ?_⟩
          go_big_quiet_on
          simp only [Act.put, Array.setIfInBounds, List.size_toArray, List.length_cons, List.length_nil, Nat.reduceAdd, Nat.reduceLT, ↓reduceDIte, List.set_toArray, List.set_cons_succ, List.set_cons_zero]
          refine wpQuiet_nil ?_
          intro W2 hk2
          have HK2 : Hid (Kept [] V W2) := hk2
          obtain ⟨x2_0, x2_1, x2_2, -⟩ := (HV0.out.kept HK2.out).cells; obtain ⟨y2_0, y2_1, y2_2, -⟩ := (HV1.out.kept HK2.out).cells; obtain ⟨z2_0, z2_1, z2_2, z2_f⟩ := (HV2.out.kept HK2.out).cells
          clear hk2 HS HKS
          go_wp2_with (first
            | (clear T3; go_at_call 130; refine (HSA.out _ (HK2.out)).mono ?_; rintro e W3 ⟨rfl, kk⟩; have HK3 : Hid (Kept [] V W3) := HK2.out.trans kk (by simp) (by simp); obtain ⟨x3_0, x3_1, x3_2, -⟩ := (HV0.out.kept HK3.out).cells; obtain ⟨y3_0, y3_1, y3_2, -⟩ := (HV1.out.kept HK3.out).cells; obtain ⟨z3_0, z3_1, z3_2, z3_f⟩ := (HV2.out.kept HK3.out).cells; clear kk))
          exact gives_end rfl rfl rfl (HV2.out.kept HK3.out) (HIA.out _ HK3.out) (HKV.out.trans HK3.out (by simp) (by simp)) (by omega)
        · skip
          have h4' : sameT a b = false := by simpa using h4
          rw [h4'] at HSA
          by_cases h5 : b.op = sh
          · skip
            have ebs : ((b.op : Int) == (sh : Int)) = true := by rw [beq_iff_eq]; omega
            have hS : sUnt o fr sh a b = b := by unfold sUnt; rw [if_neg h1, if_neg h2, if_neg h3, if_neg h4, if_pos h5]
            rw [hS]
            clear hS hI hJ kV v0 v1 v2 hV hX hT _ga gb
            (try clear h1); (try clear h1'); (try clear h2); (try clear h3); (try clear h4); (try clear h4'); (try clear h5); (try clear hfr); (try clear hsh)
            have T1 : Hid True := trivial
            have T2 : Hid True := trivial
            have T3 : Hid True := trivial
            go_enter Tryd.func90, Tryd.ntmps90
            go_upto_region 1 with (fail)
            rw [HVV.out]
            go_wp2_with (first
              | (clear T1; go_at_call 128; refine (HCB.out _).mono ?_; rintro e W1 ⟨rfl, kk⟩; have HK1 : Hid (Kept [] V W1) := (Kept.refl [] V).trans kk (by simp) (by simp); obtain ⟨x1_0, x1_1, x1_2, -⟩ := (HV0.out.kept HK1.out).cells; obtain ⟨y1_0, y1_1, y1_2, -⟩ := (HV1.out.kept HK1.out).cells; obtain ⟨z1_0, z1_1, z1_2, z1_f⟩ := (HV2.out.kept HK1.out).cells; clear kk))
            have HS : Hid (∀ w', Kept [] V w' → w'.cell? ⟨w.heap.size, 0, none⟩ = some (.int .u8 (a.op : Nat)) ∧ w'.cell? ⟨w.heap.size, 1, none⟩ = some (.string a.name) ∧ w'.cell? ⟨w.heap.size, 2, none⟩ = some (.slice kad a.kids.length kcap) ∧ w'.cell? ⟨w.heap.size + 1, 0, none⟩ = some (.int .u8 (b.op : Nat)) ∧ w'.cell? ⟨w.heap.size + 1, 1, none⟩ = some (.string b.name) ∧ w'.cell? ⟨w.heap.size + 1, 2, none⟩ = some (.slice lad b.kids.length lcap) ∧ w'.cell? ⟨0, fr, none⟩ = some (.int .u8 (turnO fr : Nat))) := fun w' k => ⟨cell_kept0 k c0, cell_kept0 k c1, cell_kept0 k c2, cell_kept0 k q0, cell_kept0 k q1, cell_kept0 k q2, (HTT.out w' k) fr hl_fr⟩
            have HKS : Hid (Kept [] V W1) := HK1.out
            refine wp_region_quiet (C := fun w' => Kept [] V w') (by kernel_rfl) (by kernel_rfl) (HKS.out.drew) ?_
            simp only []
            go_big_quiet_want
            refine ⟨.pointer (some ⟨w.heap.size, 0, none⟩), fun w' hw => (by go_simp), ?_⟩
            go_big_quiet_on
            simp only [Act.put, Array.setIfInBounds, List.size_toArray, List.length_cons, List.length_nil, Nat.reduceAdd, Nat.reduceLT, ↓reduceDIte, List.set_toArray, List.set_cons_succ, List.set_cons_zero]
            go_big_quiet_want
            refine ⟨.int .u8 (a.op : Nat), fun w' hw => ?_, ?_⟩
            · obtain ⟨f0, f1, f2, f3, f4, f5, f6⟩ := HS.out w' hw
              go_simp
            go_big_quiet_on
            simp only [Act.put, Array.setIfInBounds, List.size_toArray, List.length_cons, List.length_nil, Nat.reduceAdd, Nat.reduceLT, ↓reduceDIte, List.set_toArray, List.set_cons_succ, List.set_cons_zero]
            go_big_quiet_want
            refine ⟨.int .u8 (fr : Nat), fun w' hw => (by go_simp), ?_⟩
            go_big_quiet_on
            simp only [Act.put, Array.setIfInBounds, List.size_toArray, List.length_cons, List.length_nil, Nat.reduceAdd, Nat.reduceLT, ↓reduceDIte, List.set_toArray, List.set_cons_succ, List.set_cons_zero]
            go_big_quiet_want
            refine ⟨.pointer (some ⟨0, fr, none⟩), fun w' hw => (by go_simp), ?_⟩
            go_big_quiet_on
            simp only [Act.put, Array.setIfInBounds, List.size_toArray, List.length_cons, List.length_nil, Nat.reduceAdd, Nat.reduceLT, ↓reduceDIte, List.set_toArray, List.set_cons_succ, List.set_cons_zero]
            go_big_quiet_want
            refine ⟨.int .u8 (turnO fr : Nat), fun w' hw => ?_, ?_⟩
            · obtain ⟨f0, f1, f2, f3, f4, f5, f6⟩ := HS.out w' hw
              go_simp
            go_big_quiet_on
            simp only [Act.put, Array.setIfInBounds, List.size_toArray, List.length_cons, List.length_nil, Nat.reduceAdd, Nat.reduceLT, ↓reduceDIte, List.set_toArray, List.set_cons_succ, List.set_cons_zero]
            go_big_quiet_want
            refine ⟨.bool false, fun w' hw => (by go_simp), ?_⟩
            go_big_quiet_on
            simp only [Act.put, Array.setIfInBounds, List.size_toArray, List.length_cons, List.length_nil, Nat.reduceAdd, Nat.reduceLT, ↓reduceDIte, List.set_toArray, List.set_cons_succ, List.set_cons_zero]
            go_big_quiet_want
            refine ⟨.bool false, fun w' hw => (by go_simp), ?_⟩
            go_big_quiet_on
            simp only [Act.put, Array.setIfInBounds, List.size_toArray, List.length_cons, List.length_nil, Nat.reduceAdd, Nat.reduceLT, ↓reduceDIte, List.set_toArray, List.set_cons_succ, List.set_cons_zero]
            refine wpQuiet_nil ?_
            intro W2 hk2
            have HK2 : Hid (Kept [] V W2) := hk2
            obtain ⟨x2_0, x2_1, x2_2, -⟩ := (HV0.out.kept HK2.out).cells; obtain ⟨y2_0, y2_1, y2_2, -⟩ := (HV1.out.kept HK2.out).cells; obtain ⟨z2_0, z2_1, z2_2, z2_f⟩ := (HV2.out.kept HK2.out).cells
            clear hk2 HS HKS
            go_wp2_with (first
              | (clear T3; go_at_call 130; refine (HSA.out _ (HK2.out)).mono ?_; rintro e W3 ⟨rfl, kk⟩; have HK3 : Hid (Kept [] V W3) := HK2.out.trans kk (by simp) (by simp); obtain ⟨x3_0, x3_1, x3_2, -⟩ := (HV0.out.kept HK3.out).cells; obtain ⟨y3_0, y3_1, y3_2, -⟩ := (HV1.out.kept HK3.out).cells; obtain ⟨z3_0, z3_1, z3_2, z3_f⟩ := (HV2.out.kept HK3.out).cells; clear kk))
            exact gives_end rfl rfl rfl (HV2.out.kept HK3.out) (HIB.out _ HK3.out) (HKV.out.trans HK3.out (by simp) (by simp)) (by omega)
          · skip
            have ebs : ((b.op : Int) == (sh : Int)) = false := by rw [beq_eq_false_iff_ne]; omega
            have hS : sUnt o fr sh a b = nn2 o a b := by unfold sUnt; rw [if_neg h1, if_neg h2, if_neg h3, if_neg h4, if_neg h5]
            rw [hS]
            clear hS hI hJ kV v0 v1 v2 hV hX hT _ga gb
            (try clear h1); (try clear h1'); (try clear h2); (try clear h3); (try clear h4); (try clear h4'); (try clear h5); (try clear hfr); (try clear hsh)
            have T1 : Hid True := trivial
            have T2 : Hid True := trivial
            have T3 : Hid True := trivial
            have T4 : Hid True := trivial
            go_enter Tryd.func90, Tryd.ntmps90
            go_upto_region 1 with (fail)
            rw [HVV.out]
            go_wp2_with (first
              | (clear T1; go_at_call 128; refine (HCB.out _).mono ?_; rintro e W1 ⟨rfl, kk⟩; have HK1 : Hid (Kept [] V W1) := (Kept.refl [] V).trans kk (by simp) (by simp); obtain ⟨x1_0, x1_1, x1_2, -⟩ := (HV0.out.kept HK1.out).cells; obtain ⟨y1_0, y1_1, y1_2, -⟩ := (HV1.out.kept HK1.out).cells; obtain ⟨z1_0, z1_1, z1_2, z1_f⟩ := (HV2.out.kept HK1.out).cells; clear kk))
            have HS : Hid (∀ w', Kept [] V w' → w'.cell? ⟨w.heap.size, 0, none⟩ = some (.int .u8 (a.op : Nat)) ∧ w'.cell? ⟨w.heap.size, 1, none⟩ = some (.string a.name) ∧ w'.cell? ⟨w.heap.size, 2, none⟩ = some (.slice kad a.kids.length kcap) ∧ w'.cell? ⟨w.heap.size + 1, 0, none⟩ = some (.int .u8 (b.op : Nat)) ∧ w'.cell? ⟨w.heap.size + 1, 1, none⟩ = some (.string b.name) ∧ w'.cell? ⟨w.heap.size + 1, 2, none⟩ = some (.slice lad b.kids.length lcap) ∧ w'.cell? ⟨0, fr, none⟩ = some (.int .u8 (turnO fr : Nat))) := fun w' k => ⟨cell_kept0 k c0, cell_kept0 k c1, cell_kept0 k c2, cell_kept0 k q0, cell_kept0 k q1, cell_kept0 k q2, (HTT.out w' k) fr hl_fr⟩
            have HKS : Hid (Kept [] V W1) := HK1.out
            refine wp_region_quiet (C := fun w' => Kept [] V w') (by kernel_rfl) (by kernel_rfl) (HKS.out.drew) ?_
            simp only []
            go_big_quiet_want
            refine ⟨.pointer (some ⟨w.heap.size, 0, none⟩), fun w' hw => (by go_simp), ?_⟩
            go_big_quiet_on
            simp only [Act.put, Array.setIfInBounds, List.size_toArray, List.length_cons, List.length_nil, Nat.reduceAdd, Nat.reduceLT, ↓reduceDIte, List.set_toArray, List.set_cons_succ, List.set_cons_zero]
            go_big_quiet_want
            refine ⟨.int .u8 (a.op : Nat), fun w' hw => ?_, ?_⟩
            · obtain ⟨f0, f1, f2, f3, f4, f5, f6⟩ := HS.out w' hw
              go_simp
            go_big_quiet_on
            simp only [Act.put, Array.setIfInBounds, List.size_toArray, List.length_cons, List.length_nil, Nat.reduceAdd, Nat.reduceLT, ↓reduceDIte, List.set_toArray, List.set_cons_succ, List.set_cons_zero]
            go_big_quiet_want
            refine ⟨.int .u8 (fr : Nat), fun w' hw => (by go_simp), ?_⟩
            go_big_quiet_on
            simp only [Act.put, Array.setIfInBounds, List.size_toArray, List.length_cons, List.length_nil, Nat.reduceAdd, Nat.reduceLT, ↓reduceDIte, List.set_toArray, List.set_cons_succ, List.set_cons_zero]
            go_big_quiet_want
            refine ⟨.pointer (some ⟨0, fr, none⟩), fun w' hw => (by go_simp), ?_⟩
            go_big_quiet_on
            simp only [Act.put, Array.setIfInBounds, List.size_toArray, List.length_cons, List.length_nil, Nat.reduceAdd, Nat.reduceLT, ↓reduceDIte, List.set_toArray, List.set_cons_succ, List.set_cons_zero]
            go_big_quiet_want
            refine ⟨.int .u8 (turnO fr : Nat), fun w' hw => ?_, ?_⟩
            · obtain ⟨f0, f1, f2, f3, f4, f5, f6⟩ := HS.out w' hw
              go_simp
            go_big_quiet_on
            simp only [Act.put, Array.setIfInBounds, List.size_toArray, List.length_cons, List.length_nil, Nat.reduceAdd, Nat.reduceLT, ↓reduceDIte, List.set_toArray, List.set_cons_succ, List.set_cons_zero]
            go_big_quiet_want
            refine ⟨.bool false, fun w' hw => (by go_simp), ?_⟩
            go_big_quiet_on
            simp only [Act.put, Array.setIfInBounds, List.size_toArray, List.length_cons, List.length_nil, Nat.reduceAdd, Nat.reduceLT, ↓reduceDIte, List.set_toArray, List.set_cons_succ, List.set_cons_zero]
            go_big_quiet_want
            refine ⟨.bool false, fun w' hw => (by go_simp), ?_⟩
            go_big_quiet_on
            simp only [Act.put, Array.setIfInBounds, List.size_toArray, List.length_cons, List.length_nil, Nat.reduceAdd, Nat.reduceLT, ↓reduceDIte, List.set_toArray, List.set_cons_succ, List.set_cons_zero]
            refine wpQuiet_nil ?_
            intro W2 hk2
            have HK2 : Hid (Kept [] V W2) := hk2
            obtain ⟨x2_0, x2_1, x2_2, -⟩ := (HV0.out.kept HK2.out).cells; obtain ⟨y2_0, y2_1, y2_2, -⟩ := (HV1.out.kept HK2.out).cells; obtain ⟨z2_0, z2_1, z2_2, z2_f⟩ := (HV2.out.kept HK2.out).cells
            clear hk2 HS HKS
            go_wp2_with (first
              | (clear T3; go_at_call 130; refine (HSA.out _ (HK2.out)).mono ?_; rintro e W3 ⟨rfl, kk⟩; have HK3 : Hid (Kept [] V W3) := HK2.out.trans kk (by simp) (by simp); obtain ⟨x3_0, x3_1, x3_2, -⟩ := (HV0.out.kept HK3.out).cells; obtain ⟨y3_0, y3_1, y3_2, -⟩ := (HV1.out.kept HK3.out).cells; obtain ⟨z3_0, z3_1, z3_2, z3_f⟩ := (HV2.out.kept HK3.out).cells; clear kk)
              | (clear T4; go_at_call 129; refine (HFO.out o _ _ _ _).mono ?_; rintro e W4 ⟨rfl, kk⟩; have HK4 : Hid (Kept [] V W4) := (Kept.alloc HK3.out _).trans kk (by simp) (by simp); obtain ⟨x4_0, x4_1, x4_2, -⟩ := (HV0.out.kept HK4.out).cells; obtain ⟨y4_0, y4_1, y4_2, -⟩ := (HV1.out.kept HK4.out).cells; obtain ⟨z4_0, z4_1, z4_2, z4_f⟩ := (HV2.out.kept HK4.out).cells; have HT2 : Hid (IsT (fun k => X k ∧ k ≠ w.heap.size + 1 + 1) W4 (nn2 o a b) (.slice (some ⟨W3.heap.size, 0, none⟩) 2 2)) := (isT_two (HXX.out W3 HK3.out _ (Nat.le_refl _)) (al0 W3 _) (HIA.out _ (Kept.alloc HK3.out _)) (HIB.out _ (Kept.alloc HK3.out _))).keptX kk; clear kk))
            exact gives_end rfl rfl rfl (HV2.out.kept HK4.out) HT2.out (HKV.out.trans HK4.out (by simp) (by simp)) (by omega)
end Go.Proofs.YtddgciilcghbaaaDoor

/- nnf.weak. -/
namespace Go.Proofs.YtddgciilcghbaaaDoor
open Go.RowKit Go.Shelf

set_option maxHeartbeats 4000000 in
set_option maxRecDepth 20000 in
theorem weak_any (X : Nat → Prop) (o cs sh : Nat) (hcs : cs = 1 ∨ cs = 2) (hsh : sh = 10 ∨ sh = 11) (a b : Tr) (kv lv : Value) (w : World) (hX : ∀ k, w.heap.size ≤ k → X k) (hI : IsT X w a kv) (hJ : IsT X w b lv) (hT : TurnTab w) (ga : a.Good) (_gb : b.Good) (hsa : a.size ≤ 1099511627776) (hsb : b.size ≤ 1099511627776) :
    Calls Tryd.prog 93 #[.int .u8 (o : Nat), .int .u8 (cs : Nat), .int .u8 (sh : Nat), .agg #[.int .u8 (a.op : Nat), .string a.name, kv], .agg #[.int .u8 (b.op : Nat), .string b.name, lv]] w (GivesX X w (sWeak o cs sh a b)) := by
  obtain ⟨kad, kcap, rfl⟩ := hI.slice
  obtain ⟨lad, lcap, rfl⟩ := hJ.slice
  obtain ⟨V, hV⟩ : ∃ V, ((w.alloc (.cells #[.int .u8 (a.op : Nat), .string a.name, .slice kad a.kids.length kcap] 25)).alloc (.cells #[.int .u8 (b.op : Nat), .string b.name, .slice lad b.kids.length lcap] 25)).alloc (.cells #[.int .u8 0, .string ⟨#[]⟩, .slice none 0 0] 25) = V := ⟨_, rfl⟩
  have kV : Kept [] w V := by rw [← hV]; exact (((Kept.refl [] w).alloc _).alloc _).alloc _
  have v0 : For3 V w.heap.size (.int .u8 (a.op : Nat)) (.string a.name) (.slice kad a.kids.length kcap) := by rw [← hV]; exact alUp (alUp (al0 _ _) _) _
  have v1 : For3 V (w.heap.size + 1) (.int .u8 (b.op : Nat)) (.string b.name) (.slice lad b.kids.length lcap) := by rw [← hV]; exact alUp (al1 _ _ _) _
  have v2 : For3 V (w.heap.size + 1 + 1) (.int .u8 0) (.string ⟨#[]⟩) (.slice none 0 0) := by rw [← hV]; exact al2 _ _ _ _
  have HVV : Hid (_ = V) := hV
  have HKV : Hid (Kept [] w V) := kV
  have HV0 : Hid (For3 V w.heap.size (.int .u8 (a.op : Nat)) (.string a.name) (.slice kad a.kids.length kcap)) := v0
  have HV1 : Hid (For3 V (w.heap.size + 1) (.int .u8 (b.op : Nat)) (.string b.name) (.slice lad b.kids.length lcap)) := v1
  have HV2 : Hid (For3 V (w.heap.size + 1 + 1) (.int .u8 0) (.string ⟨#[]⟩) (.slice none 0 0)) := v2
  have HIA : Hid (∀ W, Kept [] V W → IsT (fun k => X k ∧ k ≠ w.heap.size + 1 + 1) W a (.slice kad a.kids.length kcap)) := fun W k => hI.apart (kV.trans k (by simp) (by simp)) (by omega)
  have HIB : Hid (∀ W, Kept [] V W → IsT (fun k => X k ∧ k ≠ w.heap.size + 1 + 1) W b (.slice lad b.kids.length lcap)) := fun W k => hJ.apart (kV.trans k (by simp) (by simp)) (by omega)
  have HXX : Hid (∀ W, Kept [] V W → ∀ k, W.heap.size ≤ k → (fun k => X k ∧ k ≠ w.heap.size + 1 + 1) k) := fun W k b hb => ⟨hX b (by have := kV.size; have := k.size; omega), by have := lt_of v2; have := k.size; omega⟩
  have HTT : Hid (∀ W, Kept [] V W → TurnTab W) := fun W k => (hT.kept kV).kept k
  have HFO : Hid (∀ (o : Nat) ad n c W, Calls Tryd.prog 129 #[.int .u8 (o : Nat), .slice ad n c] W fun e w' => e = .returned (.agg #[.int .u8 (o : Nat), .string nE, .slice ad n c]) ∧ Kept [] W w') := formulaOf_any
  have HSA : Hid (∀ W, Kept [] V W → Calls Tryd.prog 130 #[.agg #[.int .u8 (a.op : Nat), .string a.name, .slice kad a.kids.length kcap], .agg #[.int .u8 (b.op : Nat), .string b.name, .slice lad b.kids.length lcap]] W fun e w' => e = .returned (.bool (sameT a b)) ∧ Kept [] W w') := fun W k => same_any a b _ _ W (hI.isF.kept (kV.trans k (by simp) (by simp))) (hJ.isF.kept (kV.trans k (by simp) (by simp))) hsa hsb
  have HLA : Hid (∀ W, Kept [] V W → Calls Tryd.prog 87 #[.int .u8 (sh : Nat), .agg #[.int .u8 (a.op : Nat), .string a.name, .slice kad a.kids.length kcap]] W (GivesX (fun k => X k ∧ k ≠ w.heap.size + 1 + 1) W (sLast sh a))) := fun W k => last_any (fun k => X k ∧ k ≠ w.heap.size + 1 + 1) sh hsh a _ W (HXX.out W k) (HIA.out W k) (HTT.out W k) ga
  obtain ⟨c0, c1, c2, -⟩ := HV0.out.cells
  obtain ⟨q0, q1, q2, -⟩ := HV1.out.cells
  obtain ⟨z0, z1, z2, zf⟩ := HV2.out.cells
  have hl_cs : cs < 12 := by omega
  have hl_csi : (cs : Int) < 12 := by omega
  by_cases h1 : a.op = cs ∨ b.op = cs
  · skip
    by_cases ha : a.op = cs
    · have eac : ((a.op : Int) == (cs : Int)) = true := by rw [beq_iff_eq]; omega
      have hS : sWeak o cs sh a b = nn0 cs := by unfold sWeak; rw [if_pos h1]
      rw [hS]
      clear hS hI hJ kV v0 v1 v2 hV hX hT ga _gb
      (try clear h1); (try clear h2); (try clear h3); (try clear h4); (try clear h4'); (try clear ha); (try clear hcs); (try clear hsh)
      have T1 : Hid True := trivial
      go_enter Tryd.func93, Tryd.ntmps93
      go_upto_region 1 with (fail)
      rw [HVV.out]
      go_wp2_with (first
        | (clear T1; go_at_call 129; refine (HFO.out cs _ _ _ _).mono ?_; rintro e W1 ⟨rfl, kk⟩; have HK1 : Hid (Kept [] V W1) := (Kept.refl [] V).trans kk (by simp) (by simp); obtain ⟨x1_0, x1_1, x1_2, -⟩ := (HV0.out.kept HK1.out).cells; obtain ⟨y1_0, y1_1, y1_2, -⟩ := (HV1.out.kept HK1.out).cells; obtain ⟨z1_0, z1_1, z1_2, z1_f⟩ := (HV2.out.kept HK1.out).cells; clear kk))
      exact gives_end rfl rfl rfl (HV2.out.kept HK1.out) (isT_leaf _ _ _ _) (HKV.out.trans HK1.out (by simp) (by simp)) (by omega)
    · have eac : ((a.op : Int) == (cs : Int)) = false := by rw [beq_eq_false_iff_ne]; omega
      have ebc : ((b.op : Int) == (cs : Int)) = true := by rw [beq_iff_eq]; have := h1.resolve_left ha; omega
      have hS : sWeak o cs sh a b = nn0 cs := by unfold sWeak; rw [if_pos h1]
      rw [hS]
      clear hS hI hJ kV v0 v1 v2 hV hX hT ga _gb
      (try clear h1); (try clear h2); (try clear h3); (try clear h4); (try clear h4'); (try clear ha); (try clear hcs); (try clear hsh)
      have T1 : Hid True := trivial
      go_enter Tryd.func93, Tryd.ntmps93
      go_upto_region 1 with (fail)
      rw [HVV.out]
      go_wp2_with (first
        | (clear T1; go_at_call 129; refine (HFO.out cs _ _ _ _).mono ?_; rintro e W1 ⟨rfl, kk⟩; have HK1 : Hid (Kept [] V W1) := (Kept.refl [] V).trans kk (by simp) (by simp); obtain ⟨x1_0, x1_1, x1_2, -⟩ := (HV0.out.kept HK1.out).cells; obtain ⟨y1_0, y1_1, y1_2, -⟩ := (HV1.out.kept HK1.out).cells; obtain ⟨z1_0, z1_1, z1_2, z1_f⟩ := (HV2.out.kept HK1.out).cells; clear kk))
      exact gives_end rfl rfl rfl (HV2.out.kept HK1.out) (isT_leaf _ _ _ _) (HKV.out.trans HK1.out (by simp) (by simp)) (by omega)
  · skip
    have hna : ¬ a.op = cs := fun h => h1 (.inl h)
    have hnb : ¬ b.op = cs := fun h => h1 (.inr h)
    have eac : ((a.op : Int) == (cs : Int)) = false := by rw [beq_eq_false_iff_ne]; omega
    have ebc : ((b.op : Int) == (cs : Int)) = false := by rw [beq_eq_false_iff_ne]; omega
    clear hna hnb
    by_cases h2 : a.op = turnO cs
    · skip
      have eat : ((a.op : Int) == (turnO cs : Int)) = true := by rw [beq_iff_eq]; omega
      have hS : sWeak o cs sh a b = b := by unfold sWeak; rw [if_neg h1, if_pos h2]
      rw [hS]
      clear hS hI hJ kV v0 v1 v2 hV hX hT ga _gb
      (try clear h1); (try clear h2); (try clear h3); (try clear h4); (try clear h4'); (try clear ha); (try clear hcs); (try clear hsh)
      have T1 : Hid True := trivial
      go_enter Tryd.func93, Tryd.ntmps93
      go_upto_region 1 with (fail)
      rw [HVV.out]
      go_wp2_with fail
      have HS : Hid (∀ w', Kept [] V w' → w'.cell? ⟨w.heap.size, 0, none⟩ = some (.int .u8 (a.op : Nat)) ∧ w'.cell? ⟨w.heap.size, 1, none⟩ = some (.string a.name) ∧ w'.cell? ⟨w.heap.size, 2, none⟩ = some (.slice kad a.kids.length kcap) ∧ w'.cell? ⟨w.heap.size + 1, 0, none⟩ = some (.int .u8 (b.op : Nat)) ∧ w'.cell? ⟨w.heap.size + 1, 1, none⟩ = some (.string b.name) ∧ w'.cell? ⟨w.heap.size + 1, 2, none⟩ = some (.slice lad b.kids.length lcap) ∧ w'.cell? ⟨0, cs, none⟩ = some (.int .u8 (turnO cs : Nat))) := fun w' k => ⟨cell_kept0 k c0, cell_kept0 k c1, cell_kept0 k c2, cell_kept0 k q0, cell_kept0 k q1, cell_kept0 k q2, (HTT.out w' k) cs hl_cs⟩
      have HKS : Hid (Kept [] V V) := (Kept.refl [] V)
      refine wp_region_quiet (C := fun w' => Kept [] V w') (by kernel_rfl) (by kernel_rfl) (HKS.out.drew) ?_
      simp only []
      go_big_quiet_want
      refine ⟨.pointer (some ⟨w.heap.size, 0, none⟩), fun w' hw => (by go_simp), ?_⟩
      go_big_quiet_on
      simp only [Act.put, Array.setIfInBounds, List.size_toArray, List.length_cons, List.length_nil, Nat.reduceAdd, Nat.reduceLT, ↓reduceDIte, List.set_toArray, List.set_cons_succ, List.set_cons_zero]
      go_big_quiet_want
      refine ⟨.int .u8 (a.op : Nat), fun w' hw => ?_, ?_⟩
      · obtain ⟨f0, f1, f2, f3, f4, f5, f6⟩ := HS.out w' hw
        go_simp
      go_big_quiet_on
      simp only [Act.put, Array.setIfInBounds, List.size_toArray, List.length_cons, List.length_nil, Nat.reduceAdd, Nat.reduceLT, ↓reduceDIte, List.set_toArray, List.set_cons_succ, List.set_cons_zero]
      go_big_quiet_want
      refine ⟨.int .u8 (cs : Nat), fun w' hw => (by go_simp), ?_⟩
      go_big_quiet_on
      simp only [Act.put, Array.setIfInBounds, List.size_toArray, List.length_cons, List.length_nil, Nat.reduceAdd, Nat.reduceLT, ↓reduceDIte, List.set_toArray, List.set_cons_succ, List.set_cons_zero]
      go_big_quiet_want
      refine ⟨.pointer (some ⟨0, cs, none⟩), fun w' hw => (by go_simp), ?_⟩
      go_big_quiet_on
      simp only [Act.put, Array.setIfInBounds, List.size_toArray, List.length_cons, List.length_nil, Nat.reduceAdd, Nat.reduceLT, ↓reduceDIte, List.set_toArray, List.set_cons_succ, List.set_cons_zero]
      go_big_quiet_want
      refine ⟨.int .u8 (turnO cs : Nat), fun w' hw => ?_, ?_⟩
      · obtain ⟨f0, f1, f2, f3, f4, f5, f6⟩ := HS.out w' hw
        go_simp
      go_big_quiet_on
      simp only [Act.put, Array.setIfInBounds, List.size_toArray, List.length_cons, List.length_nil, Nat.reduceAdd, Nat.reduceLT, ↓reduceDIte, List.set_toArray, List.set_cons_succ, List.set_cons_zero]
      go_big_quiet_want
      refine ⟨.bool true, fun w' hw => (by go_simp), ?_⟩
      go_big_quiet_on
      simp only [Act.put, Array.setIfInBounds, List.size_toArray, List.length_cons, List.length_nil, Nat.reduceAdd, Nat.reduceLT, ↓reduceDIte, List.set_toArray, List.set_cons_succ, List.set_cons_zero]
      go_big_quiet_want
      refine ⟨.bool true, fun w' hw => (by go_simp), ?_⟩
      go_big_quiet_on
      simp only [Act.put, Array.setIfInBounds, List.size_toArray, List.length_cons, List.length_nil, Nat.reduceAdd, Nat.reduceLT, ↓reduceDIte, List.set_toArray, List.set_cons_succ, List.set_cons_zero]
      refine wpQuiet_nil ?_
      intro W1 hk1
      have HK1 : Hid (Kept [] V W1) := hk1
      obtain ⟨x1_0, x1_1, x1_2, -⟩ := (HV0.out.kept HK1.out).cells; obtain ⟨y1_0, y1_1, y1_2, -⟩ := (HV1.out.kept HK1.out).cells; obtain ⟨z1_0, z1_1, z1_2, z1_f⟩ := (HV2.out.kept HK1.out).cells
      clear hk1 HS HKS
      go_wp2
      exact gives_end rfl rfl rfl (HV2.out.kept HK1.out) (HIB.out _ HK1.out) (HKV.out.trans HK1.out (by simp) (by simp)) (by omega)
    · skip
      have eat : ((a.op : Int) == (turnO cs : Int)) = false := by rw [beq_eq_false_iff_ne]; omega
      by_cases h3 : b.op = turnO cs
      · skip
        have ebt : ((b.op : Int) == (turnO cs : Int)) = true := by rw [beq_iff_eq]; omega
        have hS : sWeak o cs sh a b = sLast sh a := by unfold sWeak; rw [if_neg h1, if_neg h2, if_pos h3]
        rw [hS]
        clear hS hI hJ kV v0 v1 v2 hV hX hT ga _gb
        (try clear h1); (try clear h2); (try clear h3); (try clear h4); (try clear h4'); (try clear ha); (try clear hcs); (try clear hsh)
        have T1 : Hid True := trivial
        have T2 : Hid True := trivial
        have T3 : Hid True := trivial
        go_enter Tryd.func93, Tryd.ntmps93
        go_upto_region 1 with (fail)
        rw [HVV.out]
        go_wp2_with fail
        have HS : Hid (∀ w', Kept [] V w' → w'.cell? ⟨w.heap.size, 0, none⟩ = some (.int .u8 (a.op : Nat)) ∧ w'.cell? ⟨w.heap.size, 1, none⟩ = some (.string a.name) ∧ w'.cell? ⟨w.heap.size, 2, none⟩ = some (.slice kad a.kids.length kcap) ∧ w'.cell? ⟨w.heap.size + 1, 0, none⟩ = some (.int .u8 (b.op : Nat)) ∧ w'.cell? ⟨w.heap.size + 1, 1, none⟩ = some (.string b.name) ∧ w'.cell? ⟨w.heap.size + 1, 2, none⟩ = some (.slice lad b.kids.length lcap) ∧ w'.cell? ⟨0, cs, none⟩ = some (.int .u8 (turnO cs : Nat))) := fun w' k => ⟨cell_kept0 k c0, cell_kept0 k c1, cell_kept0 k c2, cell_kept0 k q0, cell_kept0 k q1, cell_kept0 k q2, (HTT.out w' k) cs hl_cs⟩
        have HKS : Hid (Kept [] V V) := (Kept.refl [] V)
        refine wp_region_quiet (C := fun w' => Kept [] V w') (by kernel_rfl) (by kernel_rfl) (HKS.out.drew) ?_
        simp only []
        go_big_quiet_want
        refine ⟨.pointer (some ⟨w.heap.size, 0, none⟩), fun w' hw => (by go_simp), ?_⟩
        go_big_quiet_on
        simp only [Act.put, Array.setIfInBounds, List.size_toArray, List.length_cons, List.length_nil, Nat.reduceAdd, Nat.reduceLT, ↓reduceDIte, List.set_toArray, List.set_cons_succ, List.set_cons_zero]
        go_big_quiet_want
        refine ⟨.int .u8 (a.op : Nat), fun w' hw => ?_, ?_⟩
        · obtain ⟨f0, f1, f2, f3, f4, f5, f6⟩ := HS.out w' hw
          go_simp
        go_big_quiet_on
        simp only [Act.put, Array.setIfInBounds, List.size_toArray, List.length_cons, List.length_nil, Nat.reduceAdd, Nat.reduceLT, ↓reduceDIte, List.set_toArray, List.set_cons_succ, List.set_cons_zero]
        go_big_quiet_want
        refine ⟨.int .u8 (cs : Nat), fun w' hw => (by go_simp), ?_⟩
        go_big_quiet_on
        simp only [Act.put, Array.setIfInBounds, List.size_toArray, List.length_cons, List.length_nil, Nat.reduceAdd, Nat.reduceLT, ↓reduceDIte, List.set_toArray, List.set_cons_succ, List.set_cons_zero]
        go_big_quiet_want
        refine ⟨.pointer (some ⟨0, cs, none⟩), fun w' hw => (by go_simp), ?_⟩
        go_big_quiet_on
        simp only [Act.put, Array.setIfInBounds, List.size_toArray, List.length_cons, List.length_nil, Nat.reduceAdd, Nat.reduceLT, ↓reduceDIte, List.set_toArray, List.set_cons_succ, List.set_cons_zero]
        go_big_quiet_want
        refine ⟨.int .u8 (turnO cs : Nat), fun w' hw => ?_, ?_⟩
        · obtain ⟨f0, f1, f2, f3, f4, f5, f6⟩ := HS.out w' hw
          go_simp
        go_big_quiet_on
        simp only [Act.put, Array.setIfInBounds, List.size_toArray, List.length_cons, List.length_nil, Nat.reduceAdd, Nat.reduceLT, ↓reduceDIte, List.set_toArray, List.set_cons_succ, List.set_cons_zero]
        go_big_quiet_want
        refine ⟨.bool false, fun w' hw => (by go_simp), ?_⟩
        go_big_quiet_on
        simp only [Act.put, Array.setIfInBounds, List.size_toArray, List.length_cons, List.length_nil, Nat.reduceAdd, Nat.reduceLT, ↓reduceDIte, List.set_toArray, List.set_cons_succ, List.set_cons_zero]
        go_big_quiet_want
        refine ⟨.bool false, fun w' hw => (by go_simp), ?_⟩
        go_big_quiet_on
        simp only [Act.put, Array.setIfInBounds, List.size_toArray, List.length_cons, List.length_nil, Nat.reduceAdd, Nat.reduceLT, ↓reduceDIte, List.set_toArray, List.set_cons_succ, List.set_cons_zero]
        refine wpQuiet_nil ?_
        intro W1 hk1
        have HK1 : Hid (Kept [] V W1) := hk1
        obtain ⟨x1_0, x1_1, x1_2, -⟩ := (HV0.out.kept HK1.out).cells; obtain ⟨y1_0, y1_1, y1_2, -⟩ := (HV1.out.kept HK1.out).cells; obtain ⟨z1_0, z1_1, z1_2, z1_f⟩ := (HV2.out.kept HK1.out).cells
        clear hk1 HS HKS
        go_wp2_with fail
        have HS : Hid (∀ w', Kept [] V w' → w'.cell? ⟨w.heap.size, 0, none⟩ = some (.int .u8 (a.op : Nat)) ∧ w'.cell? ⟨w.heap.size, 1, none⟩ = some (.string a.name) ∧ w'.cell? ⟨w.heap.size, 2, none⟩ = some (.slice kad a.kids.length kcap) ∧ w'.cell? ⟨w.heap.size + 1, 0, none⟩ = some (.int .u8 (b.op : Nat)) ∧ w'.cell? ⟨w.heap.size + 1, 1, none⟩ = some (.string b.name) ∧ w'.cell? ⟨w.heap.size + 1, 2, none⟩ = some (.slice lad b.kids.length lcap) ∧ w'.cell? ⟨0, cs, none⟩ = some (.int .u8 (turnO cs : Nat))) := fun w' k => ⟨cell_kept0 k c0, cell_kept0 k c1, cell_kept0 k c2, cell_kept0 k q0, cell_kept0 k q1, cell_kept0 k q2, (HTT.out w' k) cs hl_cs⟩
        have HKS : Hid (Kept [] V W1) := HK1.out
        refine wp_region_quiet (C := fun w' => Kept [] V w') (by kernel_rfl) (by kernel_rfl) (HKS.out.drew) ?_
        simp only []
        go_big_quiet_want
        refine ⟨.pointer (some ⟨w.heap.size + 1, 0, none⟩), fun w' hw => (by go_simp), ?_⟩
        go_big_quiet_on
        simp only [Act.put, Array.setIfInBounds, List.size_toArray, List.length_cons, List.length_nil, Nat.reduceAdd, Nat.reduceLT, ↓reduceDIte, List.set_toArray, List.set_cons_succ, List.set_cons_zero]
        go_big_quiet_want
        refine ⟨.int .u8 (b.op : Nat), fun w' hw => ?_, ?_⟩
        · obtain ⟨f0, f1, f2, f3, f4, f5, f6⟩ := HS.out w' hw
          go_simp
        go_big_quiet_on
        simp only [Act.put, Array.setIfInBounds, List.size_toArray, List.length_cons, List.length_nil, Nat.reduceAdd, Nat.reduceLT, ↓reduceDIte, List.set_toArray, List.set_cons_succ, List.set_cons_zero]
        go_big_quiet_want
        refine ⟨.int .u8 (cs : Nat), fun w' hw => (by go_simp), ?_⟩
        go_big_quiet_on
        simp only [Act.put, Array.setIfInBounds, List.size_toArray, List.length_cons, List.length_nil, Nat.reduceAdd, Nat.reduceLT, ↓reduceDIte, List.set_toArray, List.set_cons_succ, List.set_cons_zero]
        go_big_quiet_want
        refine ⟨.pointer (some ⟨0, cs, none⟩), fun w' hw => (by go_simp), ?_⟩
        go_big_quiet_on
        simp only [Act.put, Array.setIfInBounds, List.size_toArray, List.length_cons, List.length_nil, Nat.reduceAdd, Nat.reduceLT, ↓reduceDIte, List.set_toArray, List.set_cons_succ, List.set_cons_zero]
        go_big_quiet_want
        refine ⟨.int .u8 (turnO cs : Nat), fun w' hw => ?_, ?_⟩
        · obtain ⟨f0, f1, f2, f3, f4, f5, f6⟩ := HS.out w' hw
          go_simp
        go_big_quiet_on
        simp only [Act.put, Array.setIfInBounds, List.size_toArray, List.length_cons, List.length_nil, Nat.reduceAdd, Nat.reduceLT, ↓reduceDIte, List.set_toArray, List.set_cons_succ, List.set_cons_zero]
        go_big_quiet_want
        refine ⟨.bool true, fun w' hw => (by go_simp), ?_⟩
        go_big_quiet_on
        simp only [Act.put, Array.setIfInBounds, List.size_toArray, List.length_cons, List.length_nil, Nat.reduceAdd, Nat.reduceLT, ↓reduceDIte, List.set_toArray, List.set_cons_succ, List.set_cons_zero]
        go_big_quiet_want
        refine ⟨.bool true, fun w' hw => (by go_simp), ?_⟩
        go_big_quiet_on
        simp only [Act.put, Array.setIfInBounds, List.size_toArray, List.length_cons, List.length_nil, Nat.reduceAdd, Nat.reduceLT, ↓reduceDIte, List.set_toArray, List.set_cons_succ, List.set_cons_zero]
        refine wpQuiet_nil ?_
        intro W2 hk2
        have HK2 : Hid (Kept [] V W2) := hk2
        obtain ⟨x2_0, x2_1, x2_2, -⟩ := (HV0.out.kept HK2.out).cells; obtain ⟨y2_0, y2_1, y2_2, -⟩ := (HV1.out.kept HK2.out).cells; obtain ⟨z2_0, z2_1, z2_2, z2_f⟩ := (HV2.out.kept HK2.out).cells
        clear hk2 HS HKS
        go_wp2_with (first
          | (clear T3; go_at_call 87; refine (HLA.out _ (HK2.out)).mono ?_; rintro e W3 ⟨ra, rc, rfl, hrt, kk⟩; have HK3 : Hid (Kept [] V W3) := HK2.out.trans kk (by simp) (by simp); obtain ⟨x3_0, x3_1, x3_2, -⟩ := (HV0.out.kept HK3.out).cells; obtain ⟨y3_0, y3_1, y3_2, -⟩ := (HV1.out.kept HK3.out).cells; obtain ⟨z3_0, z3_1, z3_2, z3_f⟩ := (HV2.out.kept HK3.out).cells; have HT2 : Hid (IsT (fun k => X k ∧ k ≠ w.heap.size + 1 + 1) W3 (sLast sh a) (.slice ra (sLast sh a).kids.length rc)) := hrt; clear kk hrt))
        exact gives_end rfl rfl rfl (HV2.out.kept HK3.out) HT2.out (HKV.out.trans HK3.out (by simp) (by simp)) (by omega)
      · skip
        have ebt : ((b.op : Int) == (turnO cs : Int)) = false := by rw [beq_eq_false_iff_ne]; omega
        by_cases h4 : sameT a b = true
        · skip
          rw [h4] at HSA
          have hS : sWeak o cs sh a b = a := by unfold sWeak; rw [if_neg h1, if_neg h2, if_neg h3, if_pos h4]
          rw [hS]
          clear hS hI hJ kV v0 v1 v2 hV hX hT ga _gb
          (try clear h1); (try clear h2); (try clear h3); (try clear h4); (try clear h4'); (try clear ha); (try clear hcs); (try clear hsh)
          have T1 : Hid True := trivial
          have T2 : Hid True := trivial
          have T3 : Hid True := trivial
          go_enter Tryd.func93, Tryd.ntmps93
          go_upto_region 1 with (fail)
          rw [HVV.out]
          go_wp2_with fail
          have HS : Hid (∀ w', Kept [] V w' → w'.cell? ⟨w.heap.size, 0, none⟩ = some (.int .u8 (a.op : Nat)) ∧ w'.cell? ⟨w.heap.size, 1, none⟩ = some (.string a.name) ∧ w'.cell? ⟨w.heap.size, 2, none⟩ = some (.slice kad a.kids.length kcap) ∧ w'.cell? ⟨w.heap.size + 1, 0, none⟩ = some (.int .u8 (b.op : Nat)) ∧ w'.cell? ⟨w.heap.size + 1, 1, none⟩ = some (.string b.name) ∧ w'.cell? ⟨w.heap.size + 1, 2, none⟩ = some (.slice lad b.kids.length lcap) ∧ w'.cell? ⟨0, cs, none⟩ = some (.int .u8 (turnO cs : Nat))) := fun w' k => ⟨cell_kept0 k c0, cell_kept0 k c1, cell_kept0 k c2, cell_kept0 k q0, cell_kept0 k q1, cell_kept0 k q2, (HTT.out w' k) cs hl_cs⟩
          have HKS : Hid (Kept [] V V) := (Kept.refl [] V)
          refine wp_region_quiet (C := fun w' => Kept [] V w') (by kernel_rfl) (by kernel_rfl) (HKS.out.drew) ?_
          simp only []
          go_big_quiet_want
          refine ⟨.pointer (some ⟨w.heap.size, 0, none⟩), fun w' hw => (by go_simp), ?_⟩
          go_big_quiet_on
          simp only [Act.put, Array.setIfInBounds, List.size_toArray, List.length_cons, List.length_nil, Nat.reduceAdd, Nat.reduceLT, ↓reduceDIte, List.set_toArray, List.set_cons_succ, List.set_cons_zero]
          go_big_quiet_want
          refine ⟨.int .u8 (a.op : Nat), fun w' hw => ?_, ?_⟩
          · obtain ⟨f0, f1, f2, f3, f4, f5, f6⟩ := HS.out w' hw
            go_simp
          go_big_quiet_on
          simp only [Act.put, Array.setIfInBounds, List.size_toArray, List.length_cons, List.length_nil, Nat.reduceAdd, Nat.reduceLT, ↓reduceDIte, List.set_toArray, List.set_cons_succ, List.set_cons_zero]
          go_big_quiet_want
          refine ⟨.int .u8 (cs : Nat), fun w' hw => (by go_simp), ?_⟩
          go_big_quiet_on
          simp only [Act.put, Array.setIfInBounds, List.size_toArray, List.length_cons, List.length_nil, Nat.reduceAdd, Nat.reduceLT, ↓reduceDIte, List.set_toArray, List.set_cons_succ, List.set_cons_zero]
          go_big_quiet_want
          refine ⟨.pointer (some ⟨0, cs, none⟩), fun w' hw => (by go_simp), ?_⟩
          go_big_quiet_on
          simp only [Act.put, Array.setIfInBounds, List.size_toArray, List.length_cons, List.length_nil, Nat.reduceAdd, Nat.reduceLT, ↓reduceDIte, List.set_toArray, List.set_cons_succ, List.set_cons_zero]
          go_big_quiet_want
          refine ⟨.int .u8 (turnO cs : Nat), fun w' hw => ?_, ?_⟩
          · obtain ⟨f0, f1, f2, f3, f4, f5, f6⟩ := HS.out w' hw
            go_simp
          go_big_quiet_on
          simp only [Act.put, Array.setIfInBounds, List.size_toArray, List.length_cons, List.length_nil, Nat.reduceAdd, Nat.reduceLT, ↓reduceDIte, List.set_toArray, List.set_cons_succ, List.set_cons_zero]
          go_big_quiet_want
          refine ⟨.bool false, fun w' hw => (by go_simp), ?_⟩
          go_big_quiet_on
          simp only [Act.put, Array.setIfInBounds, List.size_toArray, List.length_cons, List.length_nil, Nat.reduceAdd, Nat.reduceLT, ↓reduceDIte, List.set_toArray, List.set_cons_succ, List.set_cons_zero]
          go_big_quiet_want
          refine ⟨.bool false, fun w' hw => (by go_simp), ?_⟩
          go_big_quiet_on
          simp only [Act.put, Array.setIfInBounds, List.size_toArray, List.length_cons, List.length_nil, Nat.reduceAdd, Nat.reduceLT, ↓reduceDIte, List.set_toArray, List.set_cons_succ, List.set_cons_zero]
          refine wpQuiet_nil ?_
          intro W1 hk1
          have HK1 : Hid (Kept [] V W1) := hk1
          obtain ⟨x1_0, x1_1, x1_2, -⟩ := (HV0.out.kept HK1.out).cells; obtain ⟨y1_0, y1_1, y1_2, -⟩ := (HV1.out.kept HK1.out).cells; obtain ⟨z1_0, z1_1, z1_2, z1_f⟩ := (HV2.out.kept HK1.out).cells
          clear hk1 HS HKS
          go_wp2_with fail
          have HS : Hid (∀ w', Kept [] V w' → w'.cell? ⟨w.heap.size, 0, none⟩ = some (.int .u8 (a.op : Nat)) ∧ w'.cell? ⟨w.heap.size, 1, none⟩ = some (.string a.name) ∧ w'.cell? ⟨w.heap.size, 2, none⟩ = some (.slice kad a.kids.length kcap) ∧ w'.cell? ⟨w.heap.size + 1, 0, none⟩ = some (.int .u8 (b.op : Nat)) ∧ w'.cell? ⟨w.heap.size + 1, 1, none⟩ = some (.string b.name) ∧ w'.cell? ⟨w.heap.size + 1, 2, none⟩ = some (.slice lad b.kids.length lcap) ∧ w'.cell? ⟨0, cs, none⟩ = some (.int .u8 (turnO cs : Nat))) := fun w' k => ⟨cell_kept0 k c0, cell_kept0 k c1, cell_kept0 k c2, cell_kept0 k q0, cell_kept0 k q1, cell_kept0 k q2, (HTT.out w' k) cs hl_cs⟩
          have HKS : Hid (Kept [] V W1) := HK1.out
          refine wp_region_quiet (C := fun w' => Kept [] V w') (by kernel_rfl) (by kernel_rfl) (HKS.out.drew) ?_
          simp only []
          go_big_quiet_want
          refine ⟨.pointer (some ⟨w.heap.size + 1, 0, none⟩), fun w' hw => (by go_simp), ?_⟩
          go_big_quiet_on
          simp only [Act.put, Array.setIfInBounds, List.size_toArray, List.length_cons, List.length_nil, Nat.reduceAdd, Nat.reduceLT, ↓reduceDIte, List.set_toArray, List.set_cons_succ, List.set_cons_zero]
          go_big_quiet_want
          refine ⟨.int .u8 (b.op : Nat), fun w' hw => ?_, ?_⟩
          · obtain ⟨f0, f1, f2, f3, f4, f5, f6⟩ := HS.out w' hw
            go_simp
          go_big_quiet_on
          simp only [Act.put, Array.setIfInBounds, List.size_toArray, List.length_cons, List.length_nil, Nat.reduceAdd, Nat.reduceLT, ↓reduceDIte, List.set_toArray, List.set_cons_succ, List.set_cons_zero]
          go_big_quiet_want
          refine ⟨.int .u8 (cs : Nat), fun w' hw => (by go_simp), ?_⟩
          go_big_quiet_on
          simp only [Act.put, Array.setIfInBounds, List.size_toArray, List.length_cons, List.length_nil, Nat.reduceAdd, Nat.reduceLT, ↓reduceDIte, List.set_toArray, List.set_cons_succ, List.set_cons_zero]
          go_big_quiet_want
          refine ⟨.pointer (some ⟨0, cs, none⟩), fun w' hw => (by go_simp), ?_⟩
          go_big_quiet_on
          simp only [Act.put, Array.setIfInBounds, List.size_toArray, List.length_cons, List.length_nil, Nat.reduceAdd, Nat.reduceLT, ↓reduceDIte, List.set_toArray, List.set_cons_succ, List.set_cons_zero]
          go_big_quiet_want
          refine ⟨.int .u8 (turnO cs : Nat), fun w' hw => ?_, ?_⟩
          · obtain ⟨f0, f1, f2, f3, f4, f5, f6⟩ := HS.out w' hw
            go_simp
          go_big_quiet_on
          simp only [Act.put, Array.setIfInBounds, List.size_toArray, List.length_cons, List.length_nil, Nat.reduceAdd, Nat.reduceLT, ↓reduceDIte, List.set_toArray, List.set_cons_succ, List.set_cons_zero]
          go_big_quiet_want
          refine ⟨.bool false, fun w' hw => (by go_simp), ?_⟩
          go_big_quiet_on
          simp only [Act.put, Array.setIfInBounds, List.size_toArray, List.length_cons, List.length_nil, Nat.reduceAdd, Nat.reduceLT, ↓reduceDIte, List.set_toArray, List.set_cons_succ, List.set_cons_zero]
          go_big_quiet_want
          refine ⟨.bool false, fun w' hw => (by go_simp), ?_⟩
          go_big_quiet_on
          simp only [Act.put, Array.setIfInBounds, List.size_toArray, List.length_cons, List.length_nil, Nat.reduceAdd, Nat.reduceLT, ↓reduceDIte, List.set_toArray, List.set_cons_succ, List.set_cons_zero]
          refine wpQuiet_nil ?_
          intro W2 hk2
          have HK2 : Hid (Kept [] V W2) := hk2
          obtain ⟨x2_0, x2_1, x2_2, -⟩ := (HV0.out.kept HK2.out).cells; obtain ⟨y2_0, y2_1, y2_2, -⟩ := (HV1.out.kept HK2.out).cells; obtain ⟨z2_0, z2_1, z2_2, z2_f⟩ := (HV2.out.kept HK2.out).cells
          clear hk2 HS HKS
          go_wp2_with (first
            | (clear T3; go_at_call 130; refine (HSA.out _ (HK2.out)).mono ?_; rintro e W3 ⟨rfl, kk⟩; have HK3 : Hid (Kept [] V W3) := HK2.out.trans kk (by simp) (by simp); obtain ⟨x3_0, x3_1, x3_2, -⟩ := (HV0.out.kept HK3.out).cells; obtain ⟨y3_0, y3_1, y3_2, -⟩ := (HV1.out.kept HK3.out).cells; obtain ⟨z3_0, z3_1, z3_2, z3_f⟩ := (HV2.out.kept HK3.out).cells; clear kk))
          exact gives_end rfl rfl rfl (HV2.out.kept HK3.out) (HIA.out _ HK3.out) (HKV.out.trans HK3.out (by simp) (by simp)) (by omega)
        · skip
          have h4' : sameT a b = false := by simpa using h4
          rw [h4'] at HSA
          have hS : sWeak o cs sh a b = nn2 o a b := by unfold sWeak; rw [if_neg h1, if_neg h2, if_neg h3, if_neg h4]
          rw [hS]
          clear hS hI hJ kV v0 v1 v2 hV hX hT ga _gb
          (try clear h1); (try clear h2); (try clear h3); (try clear h4); (try clear h4'); (try clear ha); (try clear hcs); (try clear hsh)
          have T1 : Hid True := trivial
          have T2 : Hid True := trivial
          have T3 : Hid True := trivial
          have T4 : Hid True := trivial
          go_enter Tryd.func93, Tryd.ntmps93
          go_upto_region 1 with (fail)
          rw [HVV.out]
          go_wp2_with fail
          have HS : Hid (∀ w', Kept [] V w' → w'.cell? ⟨w.heap.size, 0, none⟩ = some (.int .u8 (a.op : Nat)) ∧ w'.cell? ⟨w.heap.size, 1, none⟩ = some (.string a.name) ∧ w'.cell? ⟨w.heap.size, 2, none⟩ = some (.slice kad a.kids.length kcap) ∧ w'.cell? ⟨w.heap.size + 1, 0, none⟩ = some (.int .u8 (b.op : Nat)) ∧ w'.cell? ⟨w.heap.size + 1, 1, none⟩ = some (.string b.name) ∧ w'.cell? ⟨w.heap.size + 1, 2, none⟩ = some (.slice lad b.kids.length lcap) ∧ w'.cell? ⟨0, cs, none⟩ = some (.int .u8 (turnO cs : Nat))) := fun w' k => ⟨cell_kept0 k c0, cell_kept0 k c1, cell_kept0 k c2, cell_kept0 k q0, cell_kept0 k q1, cell_kept0 k q2, (HTT.out w' k) cs hl_cs⟩
          have HKS : Hid (Kept [] V V) := (Kept.refl [] V)
          refine wp_region_quiet (C := fun w' => Kept [] V w') (by kernel_rfl) (by kernel_rfl) (HKS.out.drew) ?_
          simp only []
          go_big_quiet_want
          refine ⟨.pointer (some ⟨w.heap.size, 0, none⟩), fun w' hw => (by go_simp), ?_⟩
          go_big_quiet_on
          simp only [Act.put, Array.setIfInBounds, List.size_toArray, List.length_cons, List.length_nil, Nat.reduceAdd, Nat.reduceLT, ↓reduceDIte, List.set_toArray, List.set_cons_succ, List.set_cons_zero]
          go_big_quiet_want
          refine ⟨.int .u8 (a.op : Nat), fun w' hw => ?_, ?_⟩
          · obtain ⟨f0, f1, f2, f3, f4, f5, f6⟩ := HS.out w' hw
            go_simp
          go_big_quiet_on
          simp only [Act.put, Array.setIfInBounds, List.size_toArray, List.length_cons, List.length_nil, Nat.reduceAdd, Nat.reduceLT, ↓reduceDIte, List.set_toArray, List.set_cons_succ, List.set_cons_zero]
          go_big_quiet_want
          refine ⟨.int .u8 (cs : Nat), fun w' hw => (by go_simp), ?_⟩
          go_big_quiet_on
          simp only [Act.put, Array.setIfInBounds, List.size_toArray, List.length_cons, List.length_nil, Nat.reduceAdd, Nat.reduceLT, ↓reduceDIte, List.set_toArray, List.set_cons_succ, List.set_cons_zero]
          go_big_quiet_want
          refine ⟨.pointer (some ⟨0, cs, none⟩), fun w' hw => (by go_simp), ?_⟩
          go_big_quiet_on
          simp only [Act.put, Array.setIfInBounds, List.size_toArray, List.length_cons, List.length_nil, Nat.reduceAdd, Nat.reduceLT, ↓reduceDIte, List.set_toArray, List.set_cons_succ, List.set_cons_zero]
          go_big_quiet_want
          refine ⟨.int .u8 (turnO cs : Nat), fun w' hw => ?_, ?_⟩
          · obtain ⟨f0, f1, f2, f3, f4, f5, f6⟩ := HS.out w' hw
            go_simp
          go_big_quiet_on
          simp only [Act.put, Array.setIfInBounds, List.size_toArray, List.length_cons, List.length_nil, Nat.reduceAdd, Nat.reduceLT, ↓reduceDIte, List.set_toArray, List.set_cons_succ, List.set_cons_zero]
          go_big_quiet_want
          refine ⟨.bool false, fun w' hw => (by go_simp), ?_⟩
          go_big_quiet_on
          simp only [Act.put, Array.setIfInBounds, List.size_toArray, List.length_cons, List.length_nil, Nat.reduceAdd, Nat.reduceLT, ↓reduceDIte, List.set_toArray, List.set_cons_succ, List.set_cons_zero]
          go_big_quiet_want
          refine ⟨.bool false, fun w' hw => (by go_simp), ?_⟩
          go_big_quiet_on
          simp only [Act.put, Array.setIfInBounds, List.size_toArray, List.length_cons, List.length_nil, Nat.reduceAdd, Nat.reduceLT, ↓reduceDIte, List.set_toArray, List.set_cons_succ, List.set_cons_zero]
          refine wpQuiet_nil ?_
          intro W1 hk1
          have HK1 : Hid (Kept [] V W1) := hk1
          obtain ⟨x1_0, x1_1, x1_2, -⟩ := (HV0.out.kept HK1.out).cells; obtain ⟨y1_0, y1_1, y1_2, -⟩ := (HV1.out.kept HK1.out).cells; obtain ⟨z1_0, z1_1, z1_2, z1_f⟩ := (HV2.out.kept HK1.out).cells
          clear hk1 HS HKS
          go_wp2_with fail
          have HS : Hid (∀ w', Kept [] V w' → w'.cell? ⟨w.heap.size, 0, none⟩ = some (.int .u8 (a.op : Nat)) ∧ w'.cell? ⟨w.heap.size, 1, none⟩ = some (.string a.name) ∧ w'.cell? ⟨w.heap.size, 2, none⟩ = some (.slice kad a.kids.length kcap) ∧ w'.cell? ⟨w.heap.size + 1, 0, none⟩ = some (.int .u8 (b.op : Nat)) ∧ w'.cell? ⟨w.heap.size + 1, 1, none⟩ = some (.string b.name) ∧ w'.cell? ⟨w.heap.size + 1, 2, none⟩ = some (.slice lad b.kids.length lcap) ∧ w'.cell? ⟨0, cs, none⟩ = some (.int .u8 (turnO cs : Nat))) := fun w' k => ⟨cell_kept0 k c0, cell_kept0 k c1, cell_kept0 k c2, cell_kept0 k q0, cell_kept0 k q1, cell_kept0 k q2, (HTT.out w' k) cs hl_cs⟩
          have HKS : Hid (Kept [] V W1) := HK1.out
          refine wp_region_quiet (C := fun w' => Kept [] V w') (by kernel_rfl) (by kernel_rfl) (HKS.out.drew) ?_
          simp only []
          go_big_quiet_want
          refine ⟨.pointer (some ⟨w.heap.size + 1, 0, none⟩), fun w' hw => (by go_simp), ?_⟩
          go_big_quiet_on
          simp only [Act.put, Array.setIfInBounds, List.size_toArray, List.length_cons, List.length_nil, Nat.reduceAdd, Nat.reduceLT, ↓reduceDIte, List.set_toArray, List.set_cons_succ, List.set_cons_zero]
          go_big_quiet_want
          refine ⟨.int .u8 (b.op : Nat), fun w' hw => ?_, ?_⟩
          · obtain ⟨f0, f1, f2, f3, f4, f5, f6⟩ := HS.out w' hw
            go_simp
          go_big_quiet_on
          simp only [Act.put, Array.setIfInBounds, List.size_toArray, List.length_cons, List.length_nil, Nat.reduceAdd, Nat.reduceLT, ↓reduceDIte, List.set_toArray, List.set_cons_succ, List.set_cons_zero]
          go_big_quiet_want
          refine ⟨.int .u8 (cs : Nat), fun w' hw => (by go_simp), ?_⟩
          go_big_quiet_on
          simp only [Act.put, Array.setIfInBounds, List.size_toArray, List.length_cons, List.length_nil, Nat.reduceAdd, Nat.reduceLT, ↓reduceDIte, List.set_toArray, List.set_cons_succ, List.set_cons_zero]
          go_big_quiet_want
          refine ⟨.pointer (some ⟨0, cs, none⟩), fun w' hw => (by go_simp), ?_⟩
          go_big_quiet_on
          simp only [Act.put, Array.setIfInBounds, List.size_toArray, List.length_cons, List.length_nil, Nat.reduceAdd, Nat.reduceLT, ↓reduceDIte, List.set_toArray, List.set_cons_succ, List.set_cons_zero]
          go_big_quiet_want
          refine ⟨.int .u8 (turnO cs : Nat), fun w' hw => ?_, ?_⟩
          · obtain ⟨f0, f1, f2, f3, f4, f5, f6⟩ := HS.out w' hw
            go_simp
          go_big_quiet_on
          simp only [Act.put, Array.setIfInBounds, List.size_toArray, List.length_cons, List.length_nil, Nat.reduceAdd, Nat.reduceLT, ↓reduceDIte, List.set_toArray, List.set_cons_succ, List.set_cons_zero]
          go_big_quiet_want
          refine ⟨.bool false, fun w' hw => (by go_simp), ?_⟩
          go_big_quiet_on
          simp only [Act.put, Array.setIfInBounds, List.size_toArray, List.length_cons, List.length_nil, Nat.reduceAdd, Nat.reduceLT, ↓reduceDIte, List.set_toArray, List.set_cons_succ, List.set_cons_zero]
          go_big_quiet_want
          refine ⟨.bool false, fun w' hw => (by go_simp), ?_⟩
          go_big_quiet_on
          simp only [Act.put, Array.setIfInBounds, List.size_toArray, List.length_cons, List.length_nil, Nat.reduceAdd, Nat.reduceLT, ↓reduceDIte, List.set_toArray, List.set_cons_succ, List.set_cons_zero]
          refine wpQuiet_nil ?_
          intro W2 hk2
          have HK2 : Hid (Kept [] V W2) := hk2
          obtain ⟨x2_0, x2_1, x2_2, -⟩ := (HV0.out.kept HK2.out).cells; obtain ⟨y2_0, y2_1, y2_2, -⟩ := (HV1.out.kept HK2.out).cells; obtain ⟨z2_0, z2_1, z2_2, z2_f⟩ := (HV2.out.kept HK2.out).cells
          clear hk2 HS HKS
          go_wp2_with (first
            | (clear T3; go_at_call 130; refine (HSA.out _ (HK2.out)).mono ?_; rintro e W3 ⟨rfl, kk⟩; have HK3 : Hid (Kept [] V W3) := HK2.out.trans kk (by simp) (by simp); obtain ⟨x3_0, x3_1, x3_2, -⟩ := (HV0.out.kept HK3.out).cells; obtain ⟨y3_0, y3_1, y3_2, -⟩ := (HV1.out.kept HK3.out).cells; obtain ⟨z3_0, z3_1, z3_2, z3_f⟩ := (HV2.out.kept HK3.out).cells; clear kk)
            | (clear T4; go_at_call 129; refine (HFO.out o _ _ _ _).mono ?_; rintro e W4 ⟨rfl, kk⟩; have HK4 : Hid (Kept [] V W4) := (Kept.alloc HK3.out _).trans kk (by simp) (by simp); obtain ⟨x4_0, x4_1, x4_2, -⟩ := (HV0.out.kept HK4.out).cells; obtain ⟨y4_0, y4_1, y4_2, -⟩ := (HV1.out.kept HK4.out).cells; obtain ⟨z4_0, z4_1, z4_2, z4_f⟩ := (HV2.out.kept HK4.out).cells; have HT2 : Hid (IsT (fun k => X k ∧ k ≠ w.heap.size + 1 + 1) W4 (nn2 o a b) (.slice (some ⟨W3.heap.size, 0, none⟩) 2 2)) := (isT_two (HXX.out W3 HK3.out _ (Nat.le_refl _)) (al0 W3 _) (HIA.out _ (Kept.alloc HK3.out _)) (HIB.out _ (Kept.alloc HK3.out _))).keptX kk; clear kk))
          exact gives_end rfl rfl rfl (HV2.out.kept HK4.out) HT2.out (HKV.out.trans HK4.out (by simp) (by simp)) (by omega)
end Go.Proofs.YtddgciilcghbaaaDoor
