/- nnf.inOrder, deny, has. -/
import Derived.Test.YtddgciilcghbaaaDoorGH
namespace Go.Proofs.YtddgciilcghbaaaDoor
open Go.RowKit Go.Shelf

set_option maxHeartbeats 2000000 in
set_option maxRecDepth 20000 in
theorem deny_any (a b : Tr) (kv lv : Value) (w : World) (hI : IsF w a kv) (hJ : IsF w b lv) (ga : a.Good) (gb : b.Good) (hsa : a.size ≤ 1099511627776) (hsb : b.size ≤ 1099511627776) :
    Calls Tryd.prog 131 #[.agg #[.int .u8 (a.op : Nat), .string a.name, kv], .agg #[.int .u8 (b.op : Nat), .string b.name, lv]] w fun e w' => e = .returned (.bool (denyB a b)) ∧ Kept [] w w' := by
  obtain ⟨kad, kcap, rfl⟩ := hI.slice
  obtain ⟨lad, lcap, rfl⟩ := hJ.slice
  obtain ⟨V, hV⟩ : ∃ V, ((w.alloc (.cells #[.int .u8 (a.op : Nat), .string a.name, .slice kad a.kids.length kcap] 25)).alloc (.cells #[.int .u8 (b.op : Nat), .string b.name, .slice lad b.kids.length lcap] 25)) = V := ⟨_, rfl⟩
  have kV : Kept [] w V := by rw [← hV]; exact ((Kept.refl [] w).alloc _).alloc _
  have v0 : For3 V w.heap.size (.int .u8 (a.op : Nat)) (.string a.name) (.slice kad a.kids.length kcap) := by rw [← hV]; exact alUp (al0 _ _) _
  have v1 : For3 V (w.heap.size + 1) (.int .u8 (b.op : Nat)) (.string b.name) (.slice lad b.kids.length lcap) := by rw [← hV]; exact al1 _ _ _
  have HVV : Hid (_ = V) := hV
  have HKV : Hid (Kept [] w V) := kV
  have HKS : Hid (Kept [] V V) := Kept.refl [] V
  obtain ⟨c0, c1, c2, -⟩ := v0.cells
  obtain ⟨e0, e1, e2, -⟩ := v1.cells
  have hsk : ∀ t : Tr, t.size ≤ 1099511627776 → 0 < t.kids.length → (nk0 t).size ≤ 1099511627776 := fun t ht h0 => by
    have e : nk0 t = t.kids[0] := by unfold nk0; rw [List.getD_eq_getElem?_getD, List.getElem?_eq_getElem h0]; rfl
    have := Tr.kid_size (t := t) (k := nk0 t) (by rw [e]; exact List.getElem_mem _)
    omega
  by_cases ha : a.op = 4
  · have ha4 : ((a.op : Int) == 4) = true := by rw [beq_iff_eq]; omega
    have hposa : 0 < a.kids.length := by obtain ⟨x, e, _⟩ := good_k ha ga; rw [e]; show 0 < 1; decide
    have hposai : (0 : Int) < (a.kids.length : Int) := by omega
    cases hs1 : sameT (nk0 a) b with
    | true =>
      have hD : denyB a b = true := by simp [denyB, ha, hs1]
      obtain ⟨xb, xo, xa, xc, rfl, g0, g1, g2, hx⟩ := kid_of hI hposa
      have HSX : Hid (∀ W, Kept [] V W → Calls Tryd.prog 130 #[.agg #[.int .u8 ((nk0 a).op : Nat), .string (nk0 a).name, .slice xa (nk0 a).kids.length xc], .agg #[.int .u8 (b.op : Nat), .string b.name, .slice lad b.kids.length lcap]] W fun e w' => e = .returned (.bool (sameT (nk0 a) b)) ∧ Kept [] W w') := fun W k => same_any (nk0 a) b _ _ W (IsF.kept hx.isF (kV.trans k (by simp) (by simp))) (IsF.kept hJ (kV.trans k (by simp) (by simp))) (hsk a hsa hposa) hsb
      rw [hs1] at HSX
      have HS : Hid (∀ w', Kept [] V w' → w'.cell? ⟨w.heap.size, 0, none⟩ = some (.int .u8 (a.op : Nat)) ∧ w'.cell? ⟨w.heap.size, 1, none⟩ = some (.string a.name) ∧ w'.cell? ⟨w.heap.size, 2, none⟩ = some (.slice (some ⟨xb, xo, none⟩) a.kids.length kcap) ∧ w'.cell? ⟨w.heap.size + 1, 0, none⟩ = some (.int .u8 (b.op : Nat)) ∧ w'.cell? ⟨w.heap.size + 1, 1, none⟩ = some (.string b.name) ∧ w'.cell? ⟨w.heap.size + 1, 2, none⟩ = some (.slice lad b.kids.length lcap) ∧ w'.cell? ⟨xb, xo, none⟩ = some (.int .u8 ((nk0 a).op : Nat)) ∧ w'.cell? ⟨xb, xo + 1, none⟩ = some (.string (nk0 a).name) ∧ w'.cell? ⟨xb, xo + 2, none⟩ = some (.slice xa (nk0 a).kids.length xc)) := fun w' k => ⟨cell_kept0 k c0, cell_kept0 k c1, cell_kept0 k c2, cell_kept0 k e0, cell_kept0 k e1, cell_kept0 k e2, cell_kept0 (kV.trans k (H := []) (by simp) (by simp)) g0, cell_kept0 (kV.trans k (H := []) (by simp) (by simp)) g1, cell_kept0 (kV.trans k (H := []) (by simp) (by simp)) g2⟩
      rw [hD]
      clear hD hI hJ kV v0 v1 hV hsk ga gb  g0 g1 g2 hx
      (try clear ha); (try clear hb); (try clear hs1); (try clear hs2);
      go_enter Tryd.func131, Tryd.ntmps131
      go_upto_region 1 with (fail)
      rw [HVV.out]
      refine wp_region_quiet (C := fun w' => Kept [] V w') (by kernel_rfl) (by kernel_rfl) (HKS.out.drew) ?_
      simp only []
      go_big_quiet_want
      refine ⟨.pointer (some ⟨w.heap.size, 0, none⟩), fun w' hw => (by go_simp), ?_⟩
      go_big_quiet_on
      simp only [Act.put, Array.setIfInBounds, List.size_toArray, List.length_cons, List.length_nil, Nat.reduceAdd, Nat.reduceLT, ↓reduceDIte, List.set_toArray, List.set_cons_succ, List.set_cons_zero]
      go_big_quiet_want
      refine ⟨.int .u8 (a.op : Nat), fun w' hw => ?_, ?_⟩
      · obtain ⟨f0, f1, f2, f3, f4, f5, f6, f7, f8⟩ := HS.out w' hw
        go_simp
      go_big_quiet_on
      simp only [Act.put, Array.setIfInBounds, List.size_toArray, List.length_cons, List.length_nil, Nat.reduceAdd, Nat.reduceLT, ↓reduceDIte, List.set_toArray, List.set_cons_succ, List.set_cons_zero]
      go_big_quiet_want
      refine ⟨.bool true, fun w' hw => (by go_simp), ?_⟩
      go_big_quiet_on
      simp only [Act.put, Array.setIfInBounds, List.size_toArray, List.length_cons, List.length_nil, Nat.reduceAdd, Nat.reduceLT, ↓reduceDIte, List.set_toArray, List.set_cons_succ, List.set_cons_zero]
      go_big_quiet_want
      refine ⟨.bool true, fun w' hw => (by go_simp), ?_⟩
      go_big_quiet_on
      simp only [Act.put, Array.setIfInBounds, List.size_toArray, List.length_cons, List.length_nil, Nat.reduceAdd, Nat.reduceLT, ↓reduceDIte, List.set_toArray, List.set_cons_succ, List.set_cons_zero]
      go_big_quiet_want
      refine ⟨.pointer (some ⟨w.heap.size, 2, none⟩), fun w' hw => (by go_simp), ?_⟩
      go_big_quiet_on
      simp only [Act.put, Array.setIfInBounds, List.size_toArray, List.length_cons, List.length_nil, Nat.reduceAdd, Nat.reduceLT, ↓reduceDIte, List.set_toArray, List.set_cons_succ, List.set_cons_zero]
      go_big_quiet_want
      refine ⟨.slice (some ⟨xb, xo, none⟩) a.kids.length kcap, fun w' hw => ?_, ?_⟩
      · obtain ⟨f0, f1, f2, f3, f4, f5, f6, f7, f8⟩ := HS.out w' hw
        go_simp
      go_big_quiet_on
      simp only [Act.put, Array.setIfInBounds, List.size_toArray, List.length_cons, List.length_nil, Nat.reduceAdd, Nat.reduceLT, ↓reduceDIte, List.set_toArray, List.set_cons_succ, List.set_cons_zero]
      go_big_quiet_want
      refine ⟨.pointer (some ⟨xb, xo, none⟩), fun w' hw => (by go_simp), ?_⟩
      go_big_quiet_on
      simp only [Act.put, Array.setIfInBounds, List.size_toArray, List.length_cons, List.length_nil, Nat.reduceAdd, Nat.reduceLT, ↓reduceDIte, List.set_toArray, List.set_cons_succ, List.set_cons_zero]
      go_big_quiet_want
      refine ⟨.agg #[.int .u8 ((nk0 a).op : Nat), .string (nk0 a).name, .slice xa (nk0 a).kids.length xc], fun w' hw => ?_, ?_⟩
      · obtain ⟨f0, f1, f2, f3, f4, f5, f6, f7, f8⟩ := HS.out w' hw
        go_simp
      go_big_quiet_on
      simp only [Act.put, Array.setIfInBounds, List.size_toArray, List.length_cons, List.length_nil, Nat.reduceAdd, Nat.reduceLT, ↓reduceDIte, List.set_toArray, List.set_cons_succ, List.set_cons_zero]
      go_big_quiet_want
      refine ⟨.agg #[.int .u8 (b.op : Nat), .string b.name, .slice lad b.kids.length lcap], fun w' hw => ?_, ?_⟩
      · obtain ⟨f0, f1, f2, f3, f4, f5, f6, f7, f8⟩ := HS.out w' hw
        go_simp
      go_big_quiet_on
      simp only [Act.put, Array.setIfInBounds, List.size_toArray, List.length_cons, List.length_nil, Nat.reduceAdd, Nat.reduceLT, ↓reduceDIte, List.set_toArray, List.set_cons_succ, List.set_cons_zero]
      go_big_quiet_want
      refine ⟨.bool true, fun w' hw => ?_, ?_⟩
      · go_simp
        exact (HSX.out w' hw).mono fun e w'' ⟨h1, h2⟩ => ⟨h1, hw.trans h2 (by simp) (by simp)⟩
      go_big_quiet_on
      simp only [Act.put, Array.setIfInBounds, List.size_toArray, List.length_cons, List.length_nil, Nat.reduceAdd, Nat.reduceLT, ↓reduceDIte, List.set_toArray, List.set_cons_succ, List.set_cons_zero]
      go_big_quiet_want
      refine ⟨.bool true, fun w' hw => (by go_simp), ?_⟩
      go_big_quiet_on
      simp only [Act.put, Array.setIfInBounds, List.size_toArray, List.length_cons, List.length_nil, Nat.reduceAdd, Nat.reduceLT, ↓reduceDIte, List.set_toArray, List.set_cons_succ, List.set_cons_zero]
      go_big_quiet_want
      refine ⟨.bool true, fun w' hw => (by go_simp), ?_⟩
      go_big_quiet_on
      simp only [Act.put, Array.setIfInBounds, List.size_toArray, List.length_cons, List.length_nil, Nat.reduceAdd, Nat.reduceLT, ↓reduceDIte, List.set_toArray, List.set_cons_succ, List.set_cons_zero]
      go_big_quiet_skip
      go_big_quiet_skip
      go_big_quiet_skip
      go_big_quiet_skip
      go_big_quiet_skip
      go_big_quiet_skip
      go_big_quiet_skip
      go_big_quiet_skip
      go_big_quiet_skip
      go_big_quiet_skip
      go_big_quiet_skip
      go_big_quiet_want
      refine ⟨.bool true, fun w' hw => (by go_simp), ?_⟩
      go_big_quiet_on
      simp only [Act.put, Array.setIfInBounds, List.size_toArray, List.length_cons, List.length_nil, Nat.reduceAdd, Nat.reduceLT, ↓reduceDIte, List.set_toArray, List.set_cons_succ, List.set_cons_zero]
      go_big_quiet_want
      refine ⟨.bool true, fun w' hw => (by go_simp), ?_⟩
      go_big_quiet_on
      simp only [Act.put, Array.setIfInBounds, List.size_toArray, List.length_cons, List.length_nil, Nat.reduceAdd, Nat.reduceLT, ↓reduceDIte, List.set_toArray, List.set_cons_succ, List.set_cons_zero]
      refine wpQuiet_nil ?_
      intro W1 hk1
      go_wp2
      go_ret
      exact ⟨rfl, HKV.out.trans hk1 (by simp) (by simp)⟩
    | false =>
      by_cases hb : b.op = 4
      · have hb4 : ((b.op : Int) == 4) = true := by rw [beq_iff_eq]; omega
        have hposb : 0 < b.kids.length := by obtain ⟨x, e, _⟩ := good_k hb gb; rw [e]; show 0 < 1; decide
        have hposbi : (0 : Int) < (b.kids.length : Int) := by omega
        cases hs2 : sameT (nk0 b) a with
        | true =>
          have hD : denyB a b = true := by simp [denyB, hb, hs2]
          obtain ⟨yb, yo, ya, yc, rfl, m0, m1, m2, hy⟩ := kid_of hJ hposb
          obtain ⟨xb, xo, xa, xc, rfl, g0, g1, g2, hx⟩ := kid_of hI hposa
          have HSX : Hid (∀ W, Kept [] V W → Calls Tryd.prog 130 #[.agg #[.int .u8 ((nk0 a).op : Nat), .string (nk0 a).name, .slice xa (nk0 a).kids.length xc], .agg #[.int .u8 (b.op : Nat), .string b.name, .slice (some ⟨yb, yo, none⟩) b.kids.length lcap]] W fun e w' => e = .returned (.bool (sameT (nk0 a) b)) ∧ Kept [] W w') := fun W k => same_any (nk0 a) b _ _ W (IsF.kept hx.isF (kV.trans k (by simp) (by simp))) (IsF.kept hJ (kV.trans k (by simp) (by simp))) (hsk a hsa hposa) hsb
          rw [hs1] at HSX
          have HSY : Hid (∀ W, Kept [] V W → Calls Tryd.prog 130 #[.agg #[.int .u8 ((nk0 b).op : Nat), .string (nk0 b).name, .slice ya (nk0 b).kids.length yc], .agg #[.int .u8 (a.op : Nat), .string a.name, .slice (some ⟨xb, xo, none⟩) a.kids.length kcap]] W fun e w' => e = .returned (.bool (sameT (nk0 b) a)) ∧ Kept [] W w') := fun W k => same_any (nk0 b) a _ _ W (IsF.kept hy.isF (kV.trans k (by simp) (by simp))) (IsF.kept hI (kV.trans k (by simp) (by simp))) (hsk b hsb hposb) hsa
          rw [hs2] at HSY
          have HS : Hid (∀ w', Kept [] V w' → w'.cell? ⟨w.heap.size, 0, none⟩ = some (.int .u8 (a.op : Nat)) ∧ w'.cell? ⟨w.heap.size, 1, none⟩ = some (.string a.name) ∧ w'.cell? ⟨w.heap.size, 2, none⟩ = some (.slice (some ⟨xb, xo, none⟩) a.kids.length kcap) ∧ w'.cell? ⟨w.heap.size + 1, 0, none⟩ = some (.int .u8 (b.op : Nat)) ∧ w'.cell? ⟨w.heap.size + 1, 1, none⟩ = some (.string b.name) ∧ w'.cell? ⟨w.heap.size + 1, 2, none⟩ = some (.slice (some ⟨yb, yo, none⟩) b.kids.length lcap) ∧ w'.cell? ⟨xb, xo, none⟩ = some (.int .u8 ((nk0 a).op : Nat)) ∧ w'.cell? ⟨xb, xo + 1, none⟩ = some (.string (nk0 a).name) ∧ w'.cell? ⟨xb, xo + 2, none⟩ = some (.slice xa (nk0 a).kids.length xc) ∧ w'.cell? ⟨yb, yo, none⟩ = some (.int .u8 ((nk0 b).op : Nat)) ∧ w'.cell? ⟨yb, yo + 1, none⟩ = some (.string (nk0 b).name) ∧ w'.cell? ⟨yb, yo + 2, none⟩ = some (.slice ya (nk0 b).kids.length yc)) := fun w' k => ⟨cell_kept0 k c0, cell_kept0 k c1, cell_kept0 k c2, cell_kept0 k e0, cell_kept0 k e1, cell_kept0 k e2, cell_kept0 (kV.trans k (H := []) (by simp) (by simp)) g0, cell_kept0 (kV.trans k (H := []) (by simp) (by simp)) g1, cell_kept0 (kV.trans k (H := []) (by simp) (by simp)) g2, cell_kept0 (kV.trans k (H := []) (by simp) (by simp)) m0, cell_kept0 (kV.trans k (H := []) (by simp) (by simp)) m1, cell_kept0 (kV.trans k (H := []) (by simp) (by simp)) m2⟩
          rw [hD]
          clear hD hI hJ kV v0 v1 hV hsk ga gb  g0 g1 g2 hx m0 m1 m2 hy
          (try clear ha); (try clear hb); (try clear hs1); (try clear hs2);
          go_enter Tryd.func131, Tryd.ntmps131
          go_upto_region 1 with (fail)
          rw [HVV.out]
          refine wp_region_quiet (C := fun w' => Kept [] V w') (by kernel_rfl) (by kernel_rfl) (HKS.out.drew) ?_
          simp only []
          go_big_quiet_want
          refine ⟨.pointer (some ⟨w.heap.size, 0, none⟩), fun w' hw => (by go_simp), ?_⟩
          go_big_quiet_on
          simp only [Act.put, Array.setIfInBounds, List.size_toArray, List.length_cons, List.length_nil, Nat.reduceAdd, Nat.reduceLT, ↓reduceDIte, List.set_toArray, List.set_cons_succ, List.set_cons_zero]
          go_big_quiet_want
          refine ⟨.int .u8 (a.op : Nat), fun w' hw => ?_, ?_⟩
          · obtain ⟨f0, f1, f2, f3, f4, f5, f6, f7, f8, f9, f10, f11⟩ := HS.out w' hw
            go_simp
          go_big_quiet_on
          simp only [Act.put, Array.setIfInBounds, List.size_toArray, List.length_cons, List.length_nil, Nat.reduceAdd, Nat.reduceLT, ↓reduceDIte, List.set_toArray, List.set_cons_succ, List.set_cons_zero]
          go_big_quiet_want
          refine ⟨.bool true, fun w' hw => (by go_simp), ?_⟩
          go_big_quiet_on
          simp only [Act.put, Array.setIfInBounds, List.size_toArray, List.length_cons, List.length_nil, Nat.reduceAdd, Nat.reduceLT, ↓reduceDIte, List.set_toArray, List.set_cons_succ, List.set_cons_zero]
          go_big_quiet_want
          refine ⟨.bool true, fun w' hw => (by go_simp), ?_⟩
          go_big_quiet_on
          simp only [Act.put, Array.setIfInBounds, List.size_toArray, List.length_cons, List.length_nil, Nat.reduceAdd, Nat.reduceLT, ↓reduceDIte, List.set_toArray, List.set_cons_succ, List.set_cons_zero]
          go_big_quiet_want
          refine ⟨.pointer (some ⟨w.heap.size, 2, none⟩), fun w' hw => (by go_simp), ?_⟩
          go_big_quiet_on
          simp only [Act.put, Array.setIfInBounds, List.size_toArray, List.length_cons, List.length_nil, Nat.reduceAdd, Nat.reduceLT, ↓reduceDIte, List.set_toArray, List.set_cons_succ, List.set_cons_zero]
          go_big_quiet_want
          refine ⟨.slice (some ⟨xb, xo, none⟩) a.kids.length kcap, fun w' hw => ?_, ?_⟩
          · obtain ⟨f0, f1, f2, f3, f4, f5, f6, f7, f8, f9, f10, f11⟩ := HS.out w' hw
            go_simp
          go_big_quiet_on
          simp only [Act.put, Array.setIfInBounds, List.size_toArray, List.length_cons, List.length_nil, Nat.reduceAdd, Nat.reduceLT, ↓reduceDIte, List.set_toArray, List.set_cons_succ, List.set_cons_zero]
          go_big_quiet_want
          refine ⟨.pointer (some ⟨xb, xo, none⟩), fun w' hw => (by go_simp), ?_⟩
          go_big_quiet_on
          simp only [Act.put, Array.setIfInBounds, List.size_toArray, List.length_cons, List.length_nil, Nat.reduceAdd, Nat.reduceLT, ↓reduceDIte, List.set_toArray, List.set_cons_succ, List.set_cons_zero]
          go_big_quiet_want
          refine ⟨.agg #[.int .u8 ((nk0 a).op : Nat), .string (nk0 a).name, .slice xa (nk0 a).kids.length xc], fun w' hw => ?_, ?_⟩
          · obtain ⟨f0, f1, f2, f3, f4, f5, f6, f7, f8, f9, f10, f11⟩ := HS.out w' hw
            go_simp
          go_big_quiet_on
          simp only [Act.put, Array.setIfInBounds, List.size_toArray, List.length_cons, List.length_nil, Nat.reduceAdd, Nat.reduceLT, ↓reduceDIte, List.set_toArray, List.set_cons_succ, List.set_cons_zero]
          go_big_quiet_want
          refine ⟨.agg #[.int .u8 (b.op : Nat), .string b.name, .slice (some ⟨yb, yo, none⟩) b.kids.length lcap], fun w' hw => ?_, ?_⟩
          · obtain ⟨f0, f1, f2, f3, f4, f5, f6, f7, f8, f9, f10, f11⟩ := HS.out w' hw
            go_simp
          go_big_quiet_on
          simp only [Act.put, Array.setIfInBounds, List.size_toArray, List.length_cons, List.length_nil, Nat.reduceAdd, Nat.reduceLT, ↓reduceDIte, List.set_toArray, List.set_cons_succ, List.set_cons_zero]
          go_big_quiet_want
          refine ⟨.bool false, fun w' hw => ?_, ?_⟩
          · go_simp
            exact (HSX.out w' hw).mono fun e w'' ⟨h1, h2⟩ => ⟨h1, hw.trans h2 (by simp) (by simp)⟩
          go_big_quiet_on
          simp only [Act.put, Array.setIfInBounds, List.size_toArray, List.length_cons, List.length_nil, Nat.reduceAdd, Nat.reduceLT, ↓reduceDIte, List.set_toArray, List.set_cons_succ, List.set_cons_zero]
          go_big_quiet_want
          refine ⟨.bool false, fun w' hw => (by go_simp), ?_⟩
          go_big_quiet_on
          simp only [Act.put, Array.setIfInBounds, List.size_toArray, List.length_cons, List.length_nil, Nat.reduceAdd, Nat.reduceLT, ↓reduceDIte, List.set_toArray, List.set_cons_succ, List.set_cons_zero]
          go_big_quiet_want
          refine ⟨.bool false, fun w' hw => (by go_simp), ?_⟩
          go_big_quiet_on
          simp only [Act.put, Array.setIfInBounds, List.size_toArray, List.length_cons, List.length_nil, Nat.reduceAdd, Nat.reduceLT, ↓reduceDIte, List.set_toArray, List.set_cons_succ, List.set_cons_zero]
          go_big_quiet_want
          refine ⟨.pointer (some ⟨w.heap.size + 1, 0, none⟩), fun w' hw => (by go_simp), ?_⟩
          go_big_quiet_on
          simp only [Act.put, Array.setIfInBounds, List.size_toArray, List.length_cons, List.length_nil, Nat.reduceAdd, Nat.reduceLT, ↓reduceDIte, List.set_toArray, List.set_cons_succ, List.set_cons_zero]
          go_big_quiet_want
          refine ⟨.int .u8 (b.op : Nat), fun w' hw => ?_, ?_⟩
          · obtain ⟨f0, f1, f2, f3, f4, f5, f6, f7, f8, f9, f10, f11⟩ := HS.out w' hw
            go_simp
          go_big_quiet_on
          simp only [Act.put, Array.setIfInBounds, List.size_toArray, List.length_cons, List.length_nil, Nat.reduceAdd, Nat.reduceLT, ↓reduceDIte, List.set_toArray, List.set_cons_succ, List.set_cons_zero]
          go_big_quiet_want
          refine ⟨.bool true, fun w' hw => (by go_simp), ?_⟩
          go_big_quiet_on
          simp only [Act.put, Array.setIfInBounds, List.size_toArray, List.length_cons, List.length_nil, Nat.reduceAdd, Nat.reduceLT, ↓reduceDIte, List.set_toArray, List.set_cons_succ, List.set_cons_zero]
          go_big_quiet_want
          refine ⟨.bool true, fun w' hw => (by go_simp), ?_⟩
          go_big_quiet_on
          simp only [Act.put, Array.setIfInBounds, List.size_toArray, List.length_cons, List.length_nil, Nat.reduceAdd, Nat.reduceLT, ↓reduceDIte, List.set_toArray, List.set_cons_succ, List.set_cons_zero]
          go_big_quiet_want
          refine ⟨.pointer (some ⟨w.heap.size + 1, 2, none⟩), fun w' hw => (by go_simp), ?_⟩
          go_big_quiet_on
          simp only [Act.put, Array.setIfInBounds, List.size_toArray, List.length_cons, List.length_nil, Nat.reduceAdd, Nat.reduceLT, ↓reduceDIte, List.set_toArray, List.set_cons_succ, List.set_cons_zero]
          go_big_quiet_want
          refine ⟨.slice (some ⟨yb, yo, none⟩) b.kids.length lcap, fun w' hw => ?_, ?_⟩
          · obtain ⟨f0, f1, f2, f3, f4, f5, f6, f7, f8, f9, f10, f11⟩ := HS.out w' hw
            go_simp
          go_big_quiet_on
          simp only [Act.put, Array.setIfInBounds, List.size_toArray, List.length_cons, List.length_nil, Nat.reduceAdd, Nat.reduceLT, ↓reduceDIte, List.set_toArray, List.set_cons_succ, List.set_cons_zero]
          go_big_quiet_want
          refine ⟨.pointer (some ⟨yb, yo, none⟩), fun w' hw => (by go_simp), ?_⟩
          go_big_quiet_on
          simp only [Act.put, Array.setIfInBounds, List.size_toArray, List.length_cons, List.length_nil, Nat.reduceAdd, Nat.reduceLT, ↓reduceDIte, List.set_toArray, List.set_cons_succ, List.set_cons_zero]
          go_big_quiet_want
          refine ⟨.agg #[.int .u8 ((nk0 b).op : Nat), .string (nk0 b).name, .slice ya (nk0 b).kids.length yc], fun w' hw => ?_, ?_⟩
          · obtain ⟨f0, f1, f2, f3, f4, f5, f6, f7, f8, f9, f10, f11⟩ := HS.out w' hw
            go_simp
          go_big_quiet_on
          simp only [Act.put, Array.setIfInBounds, List.size_toArray, List.length_cons, List.length_nil, Nat.reduceAdd, Nat.reduceLT, ↓reduceDIte, List.set_toArray, List.set_cons_succ, List.set_cons_zero]
          go_big_quiet_want
          refine ⟨.agg #[.int .u8 (a.op : Nat), .string a.name, .slice (some ⟨xb, xo, none⟩) a.kids.length kcap], fun w' hw => ?_, ?_⟩
          · obtain ⟨f0, f1, f2, f3, f4, f5, f6, f7, f8, f9, f10, f11⟩ := HS.out w' hw
            go_simp
          go_big_quiet_on
          simp only [Act.put, Array.setIfInBounds, List.size_toArray, List.length_cons, List.length_nil, Nat.reduceAdd, Nat.reduceLT, ↓reduceDIte, List.set_toArray, List.set_cons_succ, List.set_cons_zero]
          go_big_quiet_want
          refine ⟨.bool true, fun w' hw => ?_, ?_⟩
          · go_simp
            exact (HSY.out w' hw).mono fun e w'' ⟨h1, h2⟩ => ⟨h1, hw.trans h2 (by simp) (by simp)⟩
          go_big_quiet_on
          simp only [Act.put, Array.setIfInBounds, List.size_toArray, List.length_cons, List.length_nil, Nat.reduceAdd, Nat.reduceLT, ↓reduceDIte, List.set_toArray, List.set_cons_succ, List.set_cons_zero]
          go_big_quiet_want
          refine ⟨.bool true, fun w' hw => (by go_simp), ?_⟩
          go_big_quiet_on
          simp only [Act.put, Array.setIfInBounds, List.size_toArray, List.length_cons, List.length_nil, Nat.reduceAdd, Nat.reduceLT, ↓reduceDIte, List.set_toArray, List.set_cons_succ, List.set_cons_zero]
          go_big_quiet_want
          refine ⟨.bool true, fun w' hw => (by go_simp), ?_⟩
          go_big_quiet_on
          simp only [Act.put, Array.setIfInBounds, List.size_toArray, List.length_cons, List.length_nil, Nat.reduceAdd, Nat.reduceLT, ↓reduceDIte, List.set_toArray, List.set_cons_succ, List.set_cons_zero]
          go_big_quiet_want
          refine ⟨.bool true, fun w' hw => (by go_simp), ?_⟩
          go_big_quiet_on
          simp only [Act.put, Array.setIfInBounds, List.size_toArray, List.length_cons, List.length_nil, Nat.reduceAdd, Nat.reduceLT, ↓reduceDIte, List.set_toArray, List.set_cons_succ, List.set_cons_zero]
          refine wpQuiet_nil ?_
          intro W1 hk1
          go_wp2
          go_ret
          exact ⟨rfl, HKV.out.trans hk1 (by simp) (by simp)⟩
        | false =>
          have hD : denyB a b = false := by simp [denyB, hs1, hs2]
          obtain ⟨yb, yo, ya, yc, rfl, m0, m1, m2, hy⟩ := kid_of hJ hposb
          obtain ⟨xb, xo, xa, xc, rfl, g0, g1, g2, hx⟩ := kid_of hI hposa
          have HSX : Hid (∀ W, Kept [] V W → Calls Tryd.prog 130 #[.agg #[.int .u8 ((nk0 a).op : Nat), .string (nk0 a).name, .slice xa (nk0 a).kids.length xc], .agg #[.int .u8 (b.op : Nat), .string b.name, .slice (some ⟨yb, yo, none⟩) b.kids.length lcap]] W fun e w' => e = .returned (.bool (sameT (nk0 a) b)) ∧ Kept [] W w') := fun W k => same_any (nk0 a) b _ _ W (IsF.kept hx.isF (kV.trans k (by simp) (by simp))) (IsF.kept hJ (kV.trans k (by simp) (by simp))) (hsk a hsa hposa) hsb
          rw [hs1] at HSX
          have HSY : Hid (∀ W, Kept [] V W → Calls Tryd.prog 130 #[.agg #[.int .u8 ((nk0 b).op : Nat), .string (nk0 b).name, .slice ya (nk0 b).kids.length yc], .agg #[.int .u8 (a.op : Nat), .string a.name, .slice (some ⟨xb, xo, none⟩) a.kids.length kcap]] W fun e w' => e = .returned (.bool (sameT (nk0 b) a)) ∧ Kept [] W w') := fun W k => same_any (nk0 b) a _ _ W (IsF.kept hy.isF (kV.trans k (by simp) (by simp))) (IsF.kept hI (kV.trans k (by simp) (by simp))) (hsk b hsb hposb) hsa
          rw [hs2] at HSY
          have HS : Hid (∀ w', Kept [] V w' → w'.cell? ⟨w.heap.size, 0, none⟩ = some (.int .u8 (a.op : Nat)) ∧ w'.cell? ⟨w.heap.size, 1, none⟩ = some (.string a.name) ∧ w'.cell? ⟨w.heap.size, 2, none⟩ = some (.slice (some ⟨xb, xo, none⟩) a.kids.length kcap) ∧ w'.cell? ⟨w.heap.size + 1, 0, none⟩ = some (.int .u8 (b.op : Nat)) ∧ w'.cell? ⟨w.heap.size + 1, 1, none⟩ = some (.string b.name) ∧ w'.cell? ⟨w.heap.size + 1, 2, none⟩ = some (.slice (some ⟨yb, yo, none⟩) b.kids.length lcap) ∧ w'.cell? ⟨xb, xo, none⟩ = some (.int .u8 ((nk0 a).op : Nat)) ∧ w'.cell? ⟨xb, xo + 1, none⟩ = some (.string (nk0 a).name) ∧ w'.cell? ⟨xb, xo + 2, none⟩ = some (.slice xa (nk0 a).kids.length xc) ∧ w'.cell? ⟨yb, yo, none⟩ = some (.int .u8 ((nk0 b).op : Nat)) ∧ w'.cell? ⟨yb, yo + 1, none⟩ = some (.string (nk0 b).name) ∧ w'.cell? ⟨yb, yo + 2, none⟩ = some (.slice ya (nk0 b).kids.length yc)) := fun w' k => ⟨cell_kept0 k c0, cell_kept0 k c1, cell_kept0 k c2, cell_kept0 k e0, cell_kept0 k e1, cell_kept0 k e2, cell_kept0 (kV.trans k (H := []) (by simp) (by simp)) g0, cell_kept0 (kV.trans k (H := []) (by simp) (by simp)) g1, cell_kept0 (kV.trans k (H := []) (by simp) (by simp)) g2, cell_kept0 (kV.trans k (H := []) (by simp) (by simp)) m0, cell_kept0 (kV.trans k (H := []) (by simp) (by simp)) m1, cell_kept0 (kV.trans k (H := []) (by simp) (by simp)) m2⟩
          rw [hD]
          clear hD hI hJ kV v0 v1 hV hsk ga gb  g0 g1 g2 hx m0 m1 m2 hy
          (try clear ha); (try clear hb); (try clear hs1); (try clear hs2);
          go_enter Tryd.func131, Tryd.ntmps131
          go_upto_region 1 with (fail)
          rw [HVV.out]
          refine wp_region_quiet (C := fun w' => Kept [] V w') (by kernel_rfl) (by kernel_rfl) (HKS.out.drew) ?_
          simp only []
          go_big_quiet_want
          refine ⟨.pointer (some ⟨w.heap.size, 0, none⟩), fun w' hw => (by go_simp), ?_⟩
          go_big_quiet_on
          simp only [Act.put, Array.setIfInBounds, List.size_toArray, List.length_cons, List.length_nil, Nat.reduceAdd, Nat.reduceLT, ↓reduceDIte, List.set_toArray, List.set_cons_succ, List.set_cons_zero]
          go_big_quiet_want
          refine ⟨.int .u8 (a.op : Nat), fun w' hw => ?_, ?_⟩
          · obtain ⟨f0, f1, f2, f3, f4, f5, f6, f7, f8, f9, f10, f11⟩ := HS.out w' hw
            go_simp
          go_big_quiet_on
          simp only [Act.put, Array.setIfInBounds, List.size_toArray, List.length_cons, List.length_nil, Nat.reduceAdd, Nat.reduceLT, ↓reduceDIte, List.set_toArray, List.set_cons_succ, List.set_cons_zero]
          go_big_quiet_want
          refine ⟨.bool true, fun w' hw => (by go_simp), ?_⟩
          go_big_quiet_on
          simp only [Act.put, Array.setIfInBounds, List.size_toArray, List.length_cons, List.length_nil, Nat.reduceAdd, Nat.reduceLT, ↓reduceDIte, List.set_toArray, List.set_cons_succ, List.set_cons_zero]
          go_big_quiet_want
          refine ⟨.bool true, fun w' hw => (by go_simp), ?_⟩
          go_big_quiet_on
          simp only [Act.put, Array.setIfInBounds, List.size_toArray, List.length_cons, List.length_nil, Nat.reduceAdd, Nat.reduceLT, ↓reduceDIte, List.set_toArray, List.set_cons_succ, List.set_cons_zero]
          go_big_quiet_want
          refine ⟨.pointer (some ⟨w.heap.size, 2, none⟩), fun w' hw => (by go_simp), ?_⟩
          go_big_quiet_on
          simp only [Act.put, Array.setIfInBounds, List.size_toArray, List.length_cons, List.length_nil, Nat.reduceAdd, Nat.reduceLT, ↓reduceDIte, List.set_toArray, List.set_cons_succ, List.set_cons_zero]
          go_big_quiet_want
          refine ⟨.slice (some ⟨xb, xo, none⟩) a.kids.length kcap, fun w' hw => ?_, ?_⟩
          · obtain ⟨f0, f1, f2, f3, f4, f5, f6, f7, f8, f9, f10, f11⟩ := HS.out w' hw
            go_simp
          go_big_quiet_on
          simp only [Act.put, Array.setIfInBounds, List.size_toArray, List.length_cons, List.length_nil, Nat.reduceAdd, Nat.reduceLT, ↓reduceDIte, List.set_toArray, List.set_cons_succ, List.set_cons_zero]
          go_big_quiet_want
          refine ⟨.pointer (some ⟨xb, xo, none⟩), fun w' hw => (by go_simp), ?_⟩
          go_big_quiet_on
          simp only [Act.put, Array.setIfInBounds, List.size_toArray, List.length_cons, List.length_nil, Nat.reduceAdd, Nat.reduceLT, ↓reduceDIte, List.set_toArray, List.set_cons_succ, List.set_cons_zero]
          go_big_quiet_want
          refine ⟨.agg #[.int .u8 ((nk0 a).op : Nat), .string (nk0 a).name, .slice xa (nk0 a).kids.length xc], fun w' hw => ?_, ?_⟩
          · obtain ⟨f0, f1, f2, f3, f4, f5, f6, f7, f8, f9, f10, f11⟩ := HS.out w' hw
            go_simp
          go_big_quiet_on
          simp only [Act.put, Array.setIfInBounds, List.size_toArray, List.length_cons, List.length_nil, Nat.reduceAdd, Nat.reduceLT, ↓reduceDIte, List.set_toArray, List.set_cons_succ, List.set_cons_zero]
          go_big_quiet_want
          refine ⟨.agg #[.int .u8 (b.op : Nat), .string b.name, .slice (some ⟨yb, yo, none⟩) b.kids.length lcap], fun w' hw => ?_, ?_⟩
          · obtain ⟨f0, f1, f2, f3, f4, f5, f6, f7, f8, f9, f10, f11⟩ := HS.out w' hw
            go_simp
          go_big_quiet_on
          simp only [Act.put, Array.setIfInBounds, List.size_toArray, List.length_cons, List.length_nil, Nat.reduceAdd, Nat.reduceLT, ↓reduceDIte, List.set_toArray, List.set_cons_succ, List.set_cons_zero]
          go_big_quiet_want
          refine ⟨.bool false, fun w' hw => ?_, ?_⟩
          · go_simp
            exact (HSX.out w' hw).mono fun e w'' ⟨h1, h2⟩ => ⟨h1, hw.trans h2 (by simp) (by simp)⟩
          go_big_quiet_on
          simp only [Act.put, Array.setIfInBounds, List.size_toArray, List.length_cons, List.length_nil, Nat.reduceAdd, Nat.reduceLT, ↓reduceDIte, List.set_toArray, List.set_cons_succ, List.set_cons_zero]
          go_big_quiet_want
          refine ⟨.bool false, fun w' hw => (by go_simp), ?_⟩
          go_big_quiet_on
          simp only [Act.put, Array.setIfInBounds, List.size_toArray, List.length_cons, List.length_nil, Nat.reduceAdd, Nat.reduceLT, ↓reduceDIte, List.set_toArray, List.set_cons_succ, List.set_cons_zero]
          go_big_quiet_want
          refine ⟨.bool false, fun w' hw => (by go_simp), ?_⟩
          go_big_quiet_on
          simp only [Act.put, Array.setIfInBounds, List.size_toArray, List.length_cons, List.length_nil, Nat.reduceAdd, Nat.reduceLT, ↓reduceDIte, List.set_toArray, List.set_cons_succ, List.set_cons_zero]
          go_big_quiet_want
          refine ⟨.pointer (some ⟨w.heap.size + 1, 0, none⟩), fun w' hw => (by go_simp), ?_⟩
          go_big_quiet_on
          simp only [Act.put, Array.setIfInBounds, List.size_toArray, List.length_cons, List.length_nil, Nat.reduceAdd, Nat.reduceLT, ↓reduceDIte, List.set_toArray, List.set_cons_succ, List.set_cons_zero]
          go_big_quiet_want
          refine ⟨.int .u8 (b.op : Nat), fun w' hw => ?_, ?_⟩
          · obtain ⟨f0, f1, f2, f3, f4, f5, f6, f7, f8, f9, f10, f11⟩ := HS.out w' hw
            go_simp
          go_big_quiet_on
          simp only [Act.put, Array.setIfInBounds, List.size_toArray, List.length_cons, List.length_nil, Nat.reduceAdd, Nat.reduceLT, ↓reduceDIte, List.set_toArray, List.set_cons_succ, List.set_cons_zero]
          go_big_quiet_want
          refine ⟨.bool true, fun w' hw => (by go_simp), ?_⟩
          go_big_quiet_on
          simp only [Act.put, Array.setIfInBounds, List.size_toArray, List.length_cons, List.length_nil, Nat.reduceAdd, Nat.reduceLT, ↓reduceDIte, List.set_toArray, List.set_cons_succ, List.set_cons_zero]
          go_big_quiet_want
          refine ⟨.bool true, fun w' hw => (by go_simp), ?_⟩
          go_big_quiet_on
          simp only [Act.put, Array.setIfInBounds, List.size_toArray, List.length_cons, List.length_nil, Nat.reduceAdd, Nat.reduceLT, ↓reduceDIte, List.set_toArray, List.set_cons_succ, List.set_cons_zero]
          go_big_quiet_want
          refine ⟨.pointer (some ⟨w.heap.size + 1, 2, none⟩), fun w' hw => (by go_simp), ?_⟩
          go_big_quiet_on
          simp only [Act.put, Array.setIfInBounds, List.size_toArray, List.length_cons, List.length_nil, Nat.reduceAdd, Nat.reduceLT, ↓reduceDIte, List.set_toArray, List.set_cons_succ, List.set_cons_zero]
          go_big_quiet_want
          refine ⟨.slice (some ⟨yb, yo, none⟩) b.kids.length lcap, fun w' hw => ?_, ?_⟩
          · obtain ⟨f0, f1, f2, f3, f4, f5, f6, f7, f8, f9, f10, f11⟩ := HS.out w' hw
            go_simp
          go_big_quiet_on
          simp only [Act.put, Array.setIfInBounds, List.size_toArray, List.length_cons, List.length_nil, Nat.reduceAdd, Nat.reduceLT, ↓reduceDIte, List.set_toArray, List.set_cons_succ, List.set_cons_zero]
          go_big_quiet_want
          refine ⟨.pointer (some ⟨yb, yo, none⟩), fun w' hw => (by go_simp), ?_⟩
          go_big_quiet_on
          simp only [Act.put, Array.setIfInBounds, List.size_toArray, List.length_cons, List.length_nil, Nat.reduceAdd, Nat.reduceLT, ↓reduceDIte, List.set_toArray, List.set_cons_succ, List.set_cons_zero]
          go_big_quiet_want
          refine ⟨.agg #[.int .u8 ((nk0 b).op : Nat), .string (nk0 b).name, .slice ya (nk0 b).kids.length yc], fun w' hw => ?_, ?_⟩
          · obtain ⟨f0, f1, f2, f3, f4, f5, f6, f7, f8, f9, f10, f11⟩ := HS.out w' hw
            go_simp
          go_big_quiet_on
          simp only [Act.put, Array.setIfInBounds, List.size_toArray, List.length_cons, List.length_nil, Nat.reduceAdd, Nat.reduceLT, ↓reduceDIte, List.set_toArray, List.set_cons_succ, List.set_cons_zero]
          go_big_quiet_want
          refine ⟨.agg #[.int .u8 (a.op : Nat), .string a.name, .slice (some ⟨xb, xo, none⟩) a.kids.length kcap], fun w' hw => ?_, ?_⟩
          · obtain ⟨f0, f1, f2, f3, f4, f5, f6, f7, f8, f9, f10, f11⟩ := HS.out w' hw
            go_simp
          go_big_quiet_on
          simp only [Act.put, Array.setIfInBounds, List.size_toArray, List.length_cons, List.length_nil, Nat.reduceAdd, Nat.reduceLT, ↓reduceDIte, List.set_toArray, List.set_cons_succ, List.set_cons_zero]
          go_big_quiet_want
          refine ⟨.bool false, fun w' hw => ?_, ?_⟩
          · go_simp
            exact (HSY.out w' hw).mono fun e w'' ⟨h1, h2⟩ => ⟨h1, hw.trans h2 (by simp) (by simp)⟩
          go_big_quiet_on
          simp only [Act.put, Array.setIfInBounds, List.size_toArray, List.length_cons, List.length_nil, Nat.reduceAdd, Nat.reduceLT, ↓reduceDIte, List.set_toArray, List.set_cons_succ, List.set_cons_zero]
          go_big_quiet_want
          refine ⟨.bool false, fun w' hw => (by go_simp), ?_⟩
          go_big_quiet_on
          simp only [Act.put, Array.setIfInBounds, List.size_toArray, List.length_cons, List.length_nil, Nat.reduceAdd, Nat.reduceLT, ↓reduceDIte, List.set_toArray, List.set_cons_succ, List.set_cons_zero]
          go_big_quiet_want
          refine ⟨.bool false, fun w' hw => (by go_simp), ?_⟩
          go_big_quiet_on
          simp only [Act.put, Array.setIfInBounds, List.size_toArray, List.length_cons, List.length_nil, Nat.reduceAdd, Nat.reduceLT, ↓reduceDIte, List.set_toArray, List.set_cons_succ, List.set_cons_zero]
          go_big_quiet_want
          refine ⟨.bool false, fun w' hw => (by go_simp), ?_⟩
          go_big_quiet_on
          simp only [Act.put, Array.setIfInBounds, List.size_toArray, List.length_cons, List.length_nil, Nat.reduceAdd, Nat.reduceLT, ↓reduceDIte, List.set_toArray, List.set_cons_succ, List.set_cons_zero]
          refine wpQuiet_nil ?_
          intro W1 hk1
          go_wp2
          go_ret
          exact ⟨rfl, HKV.out.trans hk1 (by simp) (by simp)⟩
      · have hb4 : ((b.op : Int) == 4) = false := by rw [beq_eq_false_iff_ne]; omega
        have hD : denyB a b = false := by simp [denyB, hs1, hb]
        obtain ⟨xb, xo, xa, xc, rfl, g0, g1, g2, hx⟩ := kid_of hI hposa
        have HSX : Hid (∀ W, Kept [] V W → Calls Tryd.prog 130 #[.agg #[.int .u8 ((nk0 a).op : Nat), .string (nk0 a).name, .slice xa (nk0 a).kids.length xc], .agg #[.int .u8 (b.op : Nat), .string b.name, .slice lad b.kids.length lcap]] W fun e w' => e = .returned (.bool (sameT (nk0 a) b)) ∧ Kept [] W w') := fun W k => same_any (nk0 a) b _ _ W (IsF.kept hx.isF (kV.trans k (by simp) (by simp))) (IsF.kept hJ (kV.trans k (by simp) (by simp))) (hsk a hsa hposa) hsb
        rw [hs1] at HSX
        have HS : Hid (∀ w', Kept [] V w' → w'.cell? ⟨w.heap.size, 0, none⟩ = some (.int .u8 (a.op : Nat)) ∧ w'.cell? ⟨w.heap.size, 1, none⟩ = some (.string a.name) ∧ w'.cell? ⟨w.heap.size, 2, none⟩ = some (.slice (some ⟨xb, xo, none⟩) a.kids.length kcap) ∧ w'.cell? ⟨w.heap.size + 1, 0, none⟩ = some (.int .u8 (b.op : Nat)) ∧ w'.cell? ⟨w.heap.size + 1, 1, none⟩ = some (.string b.name) ∧ w'.cell? ⟨w.heap.size + 1, 2, none⟩ = some (.slice lad b.kids.length lcap) ∧ w'.cell? ⟨xb, xo, none⟩ = some (.int .u8 ((nk0 a).op : Nat)) ∧ w'.cell? ⟨xb, xo + 1, none⟩ = some (.string (nk0 a).name) ∧ w'.cell? ⟨xb, xo + 2, none⟩ = some (.slice xa (nk0 a).kids.length xc)) := fun w' k => ⟨cell_kept0 k c0, cell_kept0 k c1, cell_kept0 k c2, cell_kept0 k e0, cell_kept0 k e1, cell_kept0 k e2, cell_kept0 (kV.trans k (H := []) (by simp) (by simp)) g0, cell_kept0 (kV.trans k (H := []) (by simp) (by simp)) g1, cell_kept0 (kV.trans k (H := []) (by simp) (by simp)) g2⟩
        rw [hD]
        clear hD hI hJ kV v0 v1 hV hsk ga gb  g0 g1 g2 hx
        (try clear ha); (try clear hb); (try clear hs1); (try clear hs2);
        go_enter Tryd.func131, Tryd.ntmps131
        go_upto_region 1 with (fail)
        rw [HVV.out]
        refine wp_region_quiet (C := fun w' => Kept [] V w') (by kernel_rfl) (by kernel_rfl) (HKS.out.drew) ?_
        simp only []
        go_big_quiet_want
        refine ⟨.pointer (some ⟨w.heap.size, 0, none⟩), fun w' hw => (by go_simp), ?_⟩
        go_big_quiet_on
        simp only [Act.put, Array.setIfInBounds, List.size_toArray, List.length_cons, List.length_nil, Nat.reduceAdd, Nat.reduceLT, ↓reduceDIte, List.set_toArray, List.set_cons_succ, List.set_cons_zero]
        go_big_quiet_want
        refine ⟨.int .u8 (a.op : Nat), fun w' hw => ?_, ?_⟩
        · obtain ⟨f0, f1, f2, f3, f4, f5, f6, f7, f8⟩ := HS.out w' hw
          go_simp
        go_big_quiet_on
        simp only [Act.put, Array.setIfInBounds, List.size_toArray, List.length_cons, List.length_nil, Nat.reduceAdd, Nat.reduceLT, ↓reduceDIte, List.set_toArray, List.set_cons_succ, List.set_cons_zero]
        go_big_quiet_want
        refine ⟨.bool true, fun w' hw => (by go_simp), ?_⟩
        go_big_quiet_on
        simp only [Act.put, Array.setIfInBounds, List.size_toArray, List.length_cons, List.length_nil, Nat.reduceAdd, Nat.reduceLT, ↓reduceDIte, List.set_toArray, List.set_cons_succ, List.set_cons_zero]
        go_big_quiet_want
        refine ⟨.bool true, fun w' hw => (by go_simp), ?_⟩
        go_big_quiet_on
        simp only [Act.put, Array.setIfInBounds, List.size_toArray, List.length_cons, List.length_nil, Nat.reduceAdd, Nat.reduceLT, ↓reduceDIte, List.set_toArray, List.set_cons_succ, List.set_cons_zero]
        go_big_quiet_want
        refine ⟨.pointer (some ⟨w.heap.size, 2, none⟩), fun w' hw => (by go_simp), ?_⟩
        go_big_quiet_on
        simp only [Act.put, Array.setIfInBounds, List.size_toArray, List.length_cons, List.length_nil, Nat.reduceAdd, Nat.reduceLT, ↓reduceDIte, List.set_toArray, List.set_cons_succ, List.set_cons_zero]
        go_big_quiet_want
        refine ⟨.slice (some ⟨xb, xo, none⟩) a.kids.length kcap, fun w' hw => ?_, ?_⟩
        · obtain ⟨f0, f1, f2, f3, f4, f5, f6, f7, f8⟩ := HS.out w' hw
          go_simp
        go_big_quiet_on
        simp only [Act.put, Array.setIfInBounds, List.size_toArray, List.length_cons, List.length_nil, Nat.reduceAdd, Nat.reduceLT, ↓reduceDIte, List.set_toArray, List.set_cons_succ, List.set_cons_zero]
        go_big_quiet_want
        refine ⟨.pointer (some ⟨xb, xo, none⟩), fun w' hw => (by go_simp), ?_⟩
        go_big_quiet_on
        simp only [Act.put, Array.setIfInBounds, List.size_toArray, List.length_cons, List.length_nil, Nat.reduceAdd, Nat.reduceLT, ↓reduceDIte, List.set_toArray, List.set_cons_succ, List.set_cons_zero]
        go_big_quiet_want
        refine ⟨.agg #[.int .u8 ((nk0 a).op : Nat), .string (nk0 a).name, .slice xa (nk0 a).kids.length xc], fun w' hw => ?_, ?_⟩
        · obtain ⟨f0, f1, f2, f3, f4, f5, f6, f7, f8⟩ := HS.out w' hw
          go_simp
        go_big_quiet_on
        simp only [Act.put, Array.setIfInBounds, List.size_toArray, List.length_cons, List.length_nil, Nat.reduceAdd, Nat.reduceLT, ↓reduceDIte, List.set_toArray, List.set_cons_succ, List.set_cons_zero]
        go_big_quiet_want
        refine ⟨.agg #[.int .u8 (b.op : Nat), .string b.name, .slice lad b.kids.length lcap], fun w' hw => ?_, ?_⟩
        · obtain ⟨f0, f1, f2, f3, f4, f5, f6, f7, f8⟩ := HS.out w' hw
          go_simp
        go_big_quiet_on
        simp only [Act.put, Array.setIfInBounds, List.size_toArray, List.length_cons, List.length_nil, Nat.reduceAdd, Nat.reduceLT, ↓reduceDIte, List.set_toArray, List.set_cons_succ, List.set_cons_zero]
        go_big_quiet_want
        refine ⟨.bool false, fun w' hw => ?_, ?_⟩
        · go_simp
          exact (HSX.out w' hw).mono fun e w'' ⟨h1, h2⟩ => ⟨h1, hw.trans h2 (by simp) (by simp)⟩
        go_big_quiet_on
        simp only [Act.put, Array.setIfInBounds, List.size_toArray, List.length_cons, List.length_nil, Nat.reduceAdd, Nat.reduceLT, ↓reduceDIte, List.set_toArray, List.set_cons_succ, List.set_cons_zero]
        go_big_quiet_want
        refine ⟨.bool false, fun w' hw => (by go_simp), ?_⟩
        go_big_quiet_on
        simp only [Act.put, Array.setIfInBounds, List.size_toArray, List.length_cons, List.length_nil, Nat.reduceAdd, Nat.reduceLT, ↓reduceDIte, List.set_toArray, List.set_cons_succ, List.set_cons_zero]
        go_big_quiet_want
        refine ⟨.bool false, fun w' hw => (by go_simp), ?_⟩
        go_big_quiet_on
        simp only [Act.put, Array.setIfInBounds, List.size_toArray, List.length_cons, List.length_nil, Nat.reduceAdd, Nat.reduceLT, ↓reduceDIte, List.set_toArray, List.set_cons_succ, List.set_cons_zero]
        go_big_quiet_want
        refine ⟨.pointer (some ⟨w.heap.size + 1, 0, none⟩), fun w' hw => (by go_simp), ?_⟩
        go_big_quiet_on
        simp only [Act.put, Array.setIfInBounds, List.size_toArray, List.length_cons, List.length_nil, Nat.reduceAdd, Nat.reduceLT, ↓reduceDIte, List.set_toArray, List.set_cons_succ, List.set_cons_zero]
        go_big_quiet_want
        refine ⟨.int .u8 (b.op : Nat), fun w' hw => ?_, ?_⟩
        · obtain ⟨f0, f1, f2, f3, f4, f5, f6, f7, f8⟩ := HS.out w' hw
          go_simp
        go_big_quiet_on
        simp only [Act.put, Array.setIfInBounds, List.size_toArray, List.length_cons, List.length_nil, Nat.reduceAdd, Nat.reduceLT, ↓reduceDIte, List.set_toArray, List.set_cons_succ, List.set_cons_zero]
        go_big_quiet_want
        refine ⟨.bool false, fun w' hw => (by go_simp), ?_⟩
        go_big_quiet_on
        simp only [Act.put, Array.setIfInBounds, List.size_toArray, List.length_cons, List.length_nil, Nat.reduceAdd, Nat.reduceLT, ↓reduceDIte, List.set_toArray, List.set_cons_succ, List.set_cons_zero]
        go_big_quiet_want
        refine ⟨.bool false, fun w' hw => (by go_simp), ?_⟩
        go_big_quiet_on
        simp only [Act.put, Array.setIfInBounds, List.size_toArray, List.length_cons, List.length_nil, Nat.reduceAdd, Nat.reduceLT, ↓reduceDIte, List.set_toArray, List.set_cons_succ, List.set_cons_zero]
        go_big_quiet_skip
        go_big_quiet_skip
        go_big_quiet_skip
        go_big_quiet_skip
        go_big_quiet_skip
        go_big_quiet_skip
        go_big_quiet_want
        refine ⟨.bool false, fun w' hw => (by go_simp), ?_⟩
        go_big_quiet_on
        simp only [Act.put, Array.setIfInBounds, List.size_toArray, List.length_cons, List.length_nil, Nat.reduceAdd, Nat.reduceLT, ↓reduceDIte, List.set_toArray, List.set_cons_succ, List.set_cons_zero]
        go_big_quiet_want
        refine ⟨.bool false, fun w' hw => (by go_simp), ?_⟩
        go_big_quiet_on
        simp only [Act.put, Array.setIfInBounds, List.size_toArray, List.length_cons, List.length_nil, Nat.reduceAdd, Nat.reduceLT, ↓reduceDIte, List.set_toArray, List.set_cons_succ, List.set_cons_zero]
        go_big_quiet_want
        refine ⟨.bool false, fun w' hw => (by go_simp), ?_⟩
        go_big_quiet_on
        simp only [Act.put, Array.setIfInBounds, List.size_toArray, List.length_cons, List.length_nil, Nat.reduceAdd, Nat.reduceLT, ↓reduceDIte, List.set_toArray, List.set_cons_succ, List.set_cons_zero]
        refine wpQuiet_nil ?_
        intro W1 hk1
        go_wp2
        go_ret
        exact ⟨rfl, HKV.out.trans hk1 (by simp) (by simp)⟩
  · have ha4 : ((a.op : Int) == 4) = false := by rw [beq_eq_false_iff_ne]; omega
    by_cases hb : b.op = 4
    · have hb4 : ((b.op : Int) == 4) = true := by rw [beq_iff_eq]; omega
      have hposb : 0 < b.kids.length := by obtain ⟨x, e, _⟩ := good_k hb gb; rw [e]; show 0 < 1; decide
      have hposbi : (0 : Int) < (b.kids.length : Int) := by omega
      cases hs2 : sameT (nk0 b) a with
      | true =>
        have hD : denyB a b = true := by simp [denyB, hb, hs2]
        obtain ⟨yb, yo, ya, yc, rfl, m0, m1, m2, hy⟩ := kid_of hJ hposb
        have HSY : Hid (∀ W, Kept [] V W → Calls Tryd.prog 130 #[.agg #[.int .u8 ((nk0 b).op : Nat), .string (nk0 b).name, .slice ya (nk0 b).kids.length yc], .agg #[.int .u8 (a.op : Nat), .string a.name, .slice kad a.kids.length kcap]] W fun e w' => e = .returned (.bool (sameT (nk0 b) a)) ∧ Kept [] W w') := fun W k => same_any (nk0 b) a _ _ W (IsF.kept hy.isF (kV.trans k (by simp) (by simp))) (IsF.kept hI (kV.trans k (by simp) (by simp))) (hsk b hsb hposb) hsa
        rw [hs2] at HSY
        have HS : Hid (∀ w', Kept [] V w' → w'.cell? ⟨w.heap.size, 0, none⟩ = some (.int .u8 (a.op : Nat)) ∧ w'.cell? ⟨w.heap.size, 1, none⟩ = some (.string a.name) ∧ w'.cell? ⟨w.heap.size, 2, none⟩ = some (.slice kad a.kids.length kcap) ∧ w'.cell? ⟨w.heap.size + 1, 0, none⟩ = some (.int .u8 (b.op : Nat)) ∧ w'.cell? ⟨w.heap.size + 1, 1, none⟩ = some (.string b.name) ∧ w'.cell? ⟨w.heap.size + 1, 2, none⟩ = some (.slice (some ⟨yb, yo, none⟩) b.kids.length lcap) ∧ w'.cell? ⟨yb, yo, none⟩ = some (.int .u8 ((nk0 b).op : Nat)) ∧ w'.cell? ⟨yb, yo + 1, none⟩ = some (.string (nk0 b).name) ∧ w'.cell? ⟨yb, yo + 2, none⟩ = some (.slice ya (nk0 b).kids.length yc)) := fun w' k => ⟨cell_kept0 k c0, cell_kept0 k c1, cell_kept0 k c2, cell_kept0 k e0, cell_kept0 k e1, cell_kept0 k e2, cell_kept0 (kV.trans k (H := []) (by simp) (by simp)) m0, cell_kept0 (kV.trans k (H := []) (by simp) (by simp)) m1, cell_kept0 (kV.trans k (H := []) (by simp) (by simp)) m2⟩
        rw [hD]
        clear hD hI hJ kV v0 v1 hV hsk ga gb  m0 m1 m2 hy
        (try clear ha); (try clear hb); (try clear hs1); (try clear hs2);
        go_enter Tryd.func131, Tryd.ntmps131
        go_upto_region 1 with (fail)
        rw [HVV.out]
        refine wp_region_quiet (C := fun w' => Kept [] V w') (by kernel_rfl) (by kernel_rfl) (HKS.out.drew) ?_
        simp only []
        go_big_quiet_want
        refine ⟨.pointer (some ⟨w.heap.size, 0, none⟩), fun w' hw => (by go_simp), ?_⟩
        go_big_quiet_on
        simp only [Act.put, Array.setIfInBounds, List.size_toArray, List.length_cons, List.length_nil, Nat.reduceAdd, Nat.reduceLT, ↓reduceDIte, List.set_toArray, List.set_cons_succ, List.set_cons_zero]
        go_big_quiet_want
        refine ⟨.int .u8 (a.op : Nat), fun w' hw => ?_, ?_⟩
        · obtain ⟨f0, f1, f2, f3, f4, f5, f6, f7, f8⟩ := HS.out w' hw
          go_simp
        go_big_quiet_on
        simp only [Act.put, Array.setIfInBounds, List.size_toArray, List.length_cons, List.length_nil, Nat.reduceAdd, Nat.reduceLT, ↓reduceDIte, List.set_toArray, List.set_cons_succ, List.set_cons_zero]
        go_big_quiet_want
        refine ⟨.bool false, fun w' hw => (by go_simp), ?_⟩
        go_big_quiet_on
        simp only [Act.put, Array.setIfInBounds, List.size_toArray, List.length_cons, List.length_nil, Nat.reduceAdd, Nat.reduceLT, ↓reduceDIte, List.set_toArray, List.set_cons_succ, List.set_cons_zero]
        go_big_quiet_want
        refine ⟨.bool false, fun w' hw => (by go_simp), ?_⟩
        go_big_quiet_on
        simp only [Act.put, Array.setIfInBounds, List.size_toArray, List.length_cons, List.length_nil, Nat.reduceAdd, Nat.reduceLT, ↓reduceDIte, List.set_toArray, List.set_cons_succ, List.set_cons_zero]
        go_big_quiet_skip
        go_big_quiet_skip
        go_big_quiet_skip
        go_big_quiet_skip
        go_big_quiet_skip
        go_big_quiet_skip
        go_big_quiet_want
        refine ⟨.bool false, fun w' hw => (by go_simp), ?_⟩
        go_big_quiet_on
        simp only [Act.put, Array.setIfInBounds, List.size_toArray, List.length_cons, List.length_nil, Nat.reduceAdd, Nat.reduceLT, ↓reduceDIte, List.set_toArray, List.set_cons_succ, List.set_cons_zero]
        go_big_quiet_want
        refine ⟨.bool false, fun w' hw => (by go_simp), ?_⟩
        go_big_quiet_on
        simp only [Act.put, Array.setIfInBounds, List.size_toArray, List.length_cons, List.length_nil, Nat.reduceAdd, Nat.reduceLT, ↓reduceDIte, List.set_toArray, List.set_cons_succ, List.set_cons_zero]
        go_big_quiet_want
        refine ⟨.pointer (some ⟨w.heap.size + 1, 0, none⟩), fun w' hw => (by go_simp), ?_⟩
        go_big_quiet_on
        simp only [Act.put, Array.setIfInBounds, List.size_toArray, List.length_cons, List.length_nil, Nat.reduceAdd, Nat.reduceLT, ↓reduceDIte, List.set_toArray, List.set_cons_succ, List.set_cons_zero]
        go_big_quiet_want
        refine ⟨.int .u8 (b.op : Nat), fun w' hw => ?_, ?_⟩
        · obtain ⟨f0, f1, f2, f3, f4, f5, f6, f7, f8⟩ := HS.out w' hw
          go_simp
        go_big_quiet_on
        simp only [Act.put, Array.setIfInBounds, List.size_toArray, List.length_cons, List.length_nil, Nat.reduceAdd, Nat.reduceLT, ↓reduceDIte, List.set_toArray, List.set_cons_succ, List.set_cons_zero]
        go_big_quiet_want
        refine ⟨.bool true, fun w' hw => (by go_simp), ?_⟩
        go_big_quiet_on
        simp only [Act.put, Array.setIfInBounds, List.size_toArray, List.length_cons, List.length_nil, Nat.reduceAdd, Nat.reduceLT, ↓reduceDIte, List.set_toArray, List.set_cons_succ, List.set_cons_zero]
        go_big_quiet_want
        refine ⟨.bool true, fun w' hw => (by go_simp), ?_⟩
        go_big_quiet_on
        simp only [Act.put, Array.setIfInBounds, List.size_toArray, List.length_cons, List.length_nil, Nat.reduceAdd, Nat.reduceLT, ↓reduceDIte, List.set_toArray, List.set_cons_succ, List.set_cons_zero]
        go_big_quiet_want
        refine ⟨.pointer (some ⟨w.heap.size + 1, 2, none⟩), fun w' hw => (by go_simp), ?_⟩
        go_big_quiet_on
        simp only [Act.put, Array.setIfInBounds, List.size_toArray, List.length_cons, List.length_nil, Nat.reduceAdd, Nat.reduceLT, ↓reduceDIte, List.set_toArray, List.set_cons_succ, List.set_cons_zero]
        go_big_quiet_want
        refine ⟨.slice (some ⟨yb, yo, none⟩) b.kids.length lcap, fun w' hw => ?_, ?_⟩
        · obtain ⟨f0, f1, f2, f3, f4, f5, f6, f7, f8⟩ := HS.out w' hw
          go_simp
        go_big_quiet_on
        simp only [Act.put, Array.setIfInBounds, List.size_toArray, List.length_cons, List.length_nil, Nat.reduceAdd, Nat.reduceLT, ↓reduceDIte, List.set_toArray, List.set_cons_succ, List.set_cons_zero]
        go_big_quiet_want
        refine ⟨.pointer (some ⟨yb, yo, none⟩), fun w' hw => (by go_simp), ?_⟩
        go_big_quiet_on
        simp only [Act.put, Array.setIfInBounds, List.size_toArray, List.length_cons, List.length_nil, Nat.reduceAdd, Nat.reduceLT, ↓reduceDIte, List.set_toArray, List.set_cons_succ, List.set_cons_zero]
        go_big_quiet_want
        refine ⟨.agg #[.int .u8 ((nk0 b).op : Nat), .string (nk0 b).name, .slice ya (nk0 b).kids.length yc], fun w' hw => ?_, ?_⟩
        · obtain ⟨f0, f1, f2, f3, f4, f5, f6, f7, f8⟩ := HS.out w' hw
          go_simp
        go_big_quiet_on
        simp only [Act.put, Array.setIfInBounds, List.size_toArray, List.length_cons, List.length_nil, Nat.reduceAdd, Nat.reduceLT, ↓reduceDIte, List.set_toArray, List.set_cons_succ, List.set_cons_zero]
        go_big_quiet_want
        refine ⟨.agg #[.int .u8 (a.op : Nat), .string a.name, .slice kad a.kids.length kcap], fun w' hw => ?_, ?_⟩
        · obtain ⟨f0, f1, f2, f3, f4, f5, f6, f7, f8⟩ := HS.out w' hw
          go_simp
        go_big_quiet_on
        simp only [Act.put, Array.setIfInBounds, List.size_toArray, List.length_cons, List.length_nil, Nat.reduceAdd, Nat.reduceLT, ↓reduceDIte, List.set_toArray, List.set_cons_succ, List.set_cons_zero]
        go_big_quiet_want
        refine ⟨.bool true, fun w' hw => ?_, ?_⟩
        · go_simp
          exact (HSY.out w' hw).mono fun e w'' ⟨h1, h2⟩ => ⟨h1, hw.trans h2 (by simp) (by simp)⟩
        go_big_quiet_on
        simp only [Act.put, Array.setIfInBounds, List.size_toArray, List.length_cons, List.length_nil, Nat.reduceAdd, Nat.reduceLT, ↓reduceDIte, List.set_toArray, List.set_cons_succ, List.set_cons_zero]
        go_big_quiet_want
        refine ⟨.bool true, fun w' hw => (by go_simp), ?_⟩
        go_big_quiet_on
        simp only [Act.put, Array.setIfInBounds, List.size_toArray, List.length_cons, List.length_nil, Nat.reduceAdd, Nat.reduceLT, ↓reduceDIte, List.set_toArray, List.set_cons_succ, List.set_cons_zero]
        go_big_quiet_want
        refine ⟨.bool true, fun w' hw => (by go_simp), ?_⟩
        go_big_quiet_on
        simp only [Act.put, Array.setIfInBounds, List.size_toArray, List.length_cons, List.length_nil, Nat.reduceAdd, Nat.reduceLT, ↓reduceDIte, List.set_toArray, List.set_cons_succ, List.set_cons_zero]
        go_big_quiet_want
        refine ⟨.bool true, fun w' hw => (by go_simp), ?_⟩
        go_big_quiet_on
        simp only [Act.put, Array.setIfInBounds, List.size_toArray, List.length_cons, List.length_nil, Nat.reduceAdd, Nat.reduceLT, ↓reduceDIte, List.set_toArray, List.set_cons_succ, List.set_cons_zero]
        refine wpQuiet_nil ?_
        intro W1 hk1
        go_wp2
        go_ret
        exact ⟨rfl, HKV.out.trans hk1 (by simp) (by simp)⟩
      | false =>
        have hD : denyB a b = false := by simp [denyB, ha, hs2]
        obtain ⟨yb, yo, ya, yc, rfl, m0, m1, m2, hy⟩ := kid_of hJ hposb
        have HSY : Hid (∀ W, Kept [] V W → Calls Tryd.prog 130 #[.agg #[.int .u8 ((nk0 b).op : Nat), .string (nk0 b).name, .slice ya (nk0 b).kids.length yc], .agg #[.int .u8 (a.op : Nat), .string a.name, .slice kad a.kids.length kcap]] W fun e w' => e = .returned (.bool (sameT (nk0 b) a)) ∧ Kept [] W w') := fun W k => same_any (nk0 b) a _ _ W (IsF.kept hy.isF (kV.trans k (by simp) (by simp))) (IsF.kept hI (kV.trans k (by simp) (by simp))) (hsk b hsb hposb) hsa
        rw [hs2] at HSY
        have HS : Hid (∀ w', Kept [] V w' → w'.cell? ⟨w.heap.size, 0, none⟩ = some (.int .u8 (a.op : Nat)) ∧ w'.cell? ⟨w.heap.size, 1, none⟩ = some (.string a.name) ∧ w'.cell? ⟨w.heap.size, 2, none⟩ = some (.slice kad a.kids.length kcap) ∧ w'.cell? ⟨w.heap.size + 1, 0, none⟩ = some (.int .u8 (b.op : Nat)) ∧ w'.cell? ⟨w.heap.size + 1, 1, none⟩ = some (.string b.name) ∧ w'.cell? ⟨w.heap.size + 1, 2, none⟩ = some (.slice (some ⟨yb, yo, none⟩) b.kids.length lcap) ∧ w'.cell? ⟨yb, yo, none⟩ = some (.int .u8 ((nk0 b).op : Nat)) ∧ w'.cell? ⟨yb, yo + 1, none⟩ = some (.string (nk0 b).name) ∧ w'.cell? ⟨yb, yo + 2, none⟩ = some (.slice ya (nk0 b).kids.length yc)) := fun w' k => ⟨cell_kept0 k c0, cell_kept0 k c1, cell_kept0 k c2, cell_kept0 k e0, cell_kept0 k e1, cell_kept0 k e2, cell_kept0 (kV.trans k (H := []) (by simp) (by simp)) m0, cell_kept0 (kV.trans k (H := []) (by simp) (by simp)) m1, cell_kept0 (kV.trans k (H := []) (by simp) (by simp)) m2⟩
        rw [hD]
        clear hD hI hJ kV v0 v1 hV hsk ga gb  m0 m1 m2 hy
        (try clear ha); (try clear hb); (try clear hs1); (try clear hs2);
        go_enter Tryd.func131, Tryd.ntmps131
        go_upto_region 1 with (fail)
        rw [HVV.out]
        refine wp_region_quiet (C := fun w' => Kept [] V w') (by kernel_rfl) (by kernel_rfl) (HKS.out.drew) ?_
        simp only []
        go_big_quiet_want
        refine ⟨.pointer (some ⟨w.heap.size, 0, none⟩), fun w' hw => (by go_simp), ?_⟩
        go_big_quiet_on
        simp only [Act.put, Array.setIfInBounds, List.size_toArray, List.length_cons, List.length_nil, Nat.reduceAdd, Nat.reduceLT, ↓reduceDIte, List.set_toArray, List.set_cons_succ, List.set_cons_zero]
        go_big_quiet_want
        refine ⟨.int .u8 (a.op : Nat), fun w' hw => ?_, ?_⟩
        · obtain ⟨f0, f1, f2, f3, f4, f5, f6, f7, f8⟩ := HS.out w' hw
          go_simp
        go_big_quiet_on
        simp only [Act.put, Array.setIfInBounds, List.size_toArray, List.length_cons, List.length_nil, Nat.reduceAdd, Nat.reduceLT, ↓reduceDIte, List.set_toArray, List.set_cons_succ, List.set_cons_zero]
        go_big_quiet_want
        refine ⟨.bool false, fun w' hw => (by go_simp), ?_⟩
        go_big_quiet_on
        simp only [Act.put, Array.setIfInBounds, List.size_toArray, List.length_cons, List.length_nil, Nat.reduceAdd, Nat.reduceLT, ↓reduceDIte, List.set_toArray, List.set_cons_succ, List.set_cons_zero]
        go_big_quiet_want
        refine ⟨.bool false, fun w' hw => (by go_simp), ?_⟩
        go_big_quiet_on
        simp only [Act.put, Array.setIfInBounds, List.size_toArray, List.length_cons, List.length_nil, Nat.reduceAdd, Nat.reduceLT, ↓reduceDIte, List.set_toArray, List.set_cons_succ, List.set_cons_zero]
        go_big_quiet_skip
        go_big_quiet_skip
        go_big_quiet_skip
        go_big_quiet_skip
        go_big_quiet_skip
        go_big_quiet_skip
        go_big_quiet_want
        refine ⟨.bool false, fun w' hw => (by go_simp), ?_⟩
        go_big_quiet_on
        simp only [Act.put, Array.setIfInBounds, List.size_toArray, List.length_cons, List.length_nil, Nat.reduceAdd, Nat.reduceLT, ↓reduceDIte, List.set_toArray, List.set_cons_succ, List.set_cons_zero]
        go_big_quiet_want
        refine ⟨.bool false, fun w' hw => (by go_simp), ?_⟩
        go_big_quiet_on
        simp only [Act.put, Array.setIfInBounds, List.size_toArray, List.length_cons, List.length_nil, Nat.reduceAdd, Nat.reduceLT, ↓reduceDIte, List.set_toArray, List.set_cons_succ, List.set_cons_zero]
        go_big_quiet_want
        refine ⟨.pointer (some ⟨w.heap.size + 1, 0, none⟩), fun w' hw => (by go_simp), ?_⟩
        go_big_quiet_on
        simp only [Act.put, Array.setIfInBounds, List.size_toArray, List.length_cons, List.length_nil, Nat.reduceAdd, Nat.reduceLT, ↓reduceDIte, List.set_toArray, List.set_cons_succ, List.set_cons_zero]
        go_big_quiet_want
        refine ⟨.int .u8 (b.op : Nat), fun w' hw => ?_, ?_⟩
        · obtain ⟨f0, f1, f2, f3, f4, f5, f6, f7, f8⟩ := HS.out w' hw
          go_simp
        go_big_quiet_on
        simp only [Act.put, Array.setIfInBounds, List.size_toArray, List.length_cons, List.length_nil, Nat.reduceAdd, Nat.reduceLT, ↓reduceDIte, List.set_toArray, List.set_cons_succ, List.set_cons_zero]
        go_big_quiet_want
        refine ⟨.bool true, fun w' hw => (by go_simp), ?_⟩
        go_big_quiet_on
        simp only [Act.put, Array.setIfInBounds, List.size_toArray, List.length_cons, List.length_nil, Nat.reduceAdd, Nat.reduceLT, ↓reduceDIte, List.set_toArray, List.set_cons_succ, List.set_cons_zero]
        go_big_quiet_want
        refine ⟨.bool true, fun w' hw => (by go_simp), ?_⟩
        go_big_quiet_on
        simp only [Act.put, Array.setIfInBounds, List.size_toArray, List.length_cons, List.length_nil, Nat.reduceAdd, Nat.reduceLT, ↓reduceDIte, List.set_toArray, List.set_cons_succ, List.set_cons_zero]
        go_big_quiet_want
        refine ⟨.pointer (some ⟨w.heap.size + 1, 2, none⟩), fun w' hw => (by go_simp), ?_⟩
        go_big_quiet_on
        simp only [Act.put, Array.setIfInBounds, List.size_toArray, List.length_cons, List.length_nil, Nat.reduceAdd, Nat.reduceLT, ↓reduceDIte, List.set_toArray, List.set_cons_succ, List.set_cons_zero]
        go_big_quiet_want
        refine ⟨.slice (some ⟨yb, yo, none⟩) b.kids.length lcap, fun w' hw => ?_, ?_⟩
        · obtain ⟨f0, f1, f2, f3, f4, f5, f6, f7, f8⟩ := HS.out w' hw
          go_simp
        go_big_quiet_on
        simp only [Act.put, Array.setIfInBounds, List.size_toArray, List.length_cons, List.length_nil, Nat.reduceAdd, Nat.reduceLT, ↓reduceDIte, List.set_toArray, List.set_cons_succ, List.set_cons_zero]
        go_big_quiet_want
        refine ⟨.pointer (some ⟨yb, yo, none⟩), fun w' hw => (by go_simp), ?_⟩
        go_big_quiet_on
        simp only [Act.put, Array.setIfInBounds, List.size_toArray, List.length_cons, List.length_nil, Nat.reduceAdd, Nat.reduceLT, ↓reduceDIte, List.set_toArray, List.set_cons_succ, List.set_cons_zero]
        go_big_quiet_want
        refine ⟨.agg #[.int .u8 ((nk0 b).op : Nat), .string (nk0 b).name, .slice ya (nk0 b).kids.length yc], fun w' hw => ?_, ?_⟩
        · obtain ⟨f0, f1, f2, f3, f4, f5, f6, f7, f8⟩ := HS.out w' hw
          go_simp
        go_big_quiet_on
        simp only [Act.put, Array.setIfInBounds, List.size_toArray, List.length_cons, List.length_nil, Nat.reduceAdd, Nat.reduceLT, ↓reduceDIte, List.set_toArray, List.set_cons_succ, List.set_cons_zero]
        go_big_quiet_want
        refine ⟨.agg #[.int .u8 (a.op : Nat), .string a.name, .slice kad a.kids.length kcap], fun w' hw => ?_, ?_⟩
        · obtain ⟨f0, f1, f2, f3, f4, f5, f6, f7, f8⟩ := HS.out w' hw
          go_simp
        go_big_quiet_on
        simp only [Act.put, Array.setIfInBounds, List.size_toArray, List.length_cons, List.length_nil, Nat.reduceAdd, Nat.reduceLT, ↓reduceDIte, List.set_toArray, List.set_cons_succ, List.set_cons_zero]
        go_big_quiet_want
        refine ⟨.bool false, fun w' hw => ?_, ?_⟩
        · go_simp
          exact (HSY.out w' hw).mono fun e w'' ⟨h1, h2⟩ => ⟨h1, hw.trans h2 (by simp) (by simp)⟩
        go_big_quiet_on
        simp only [Act.put, Array.setIfInBounds, List.size_toArray, List.length_cons, List.length_nil, Nat.reduceAdd, Nat.reduceLT, ↓reduceDIte, List.set_toArray, List.set_cons_succ, List.set_cons_zero]
        go_big_quiet_want
        refine ⟨.bool false, fun w' hw => (by go_simp), ?_⟩
        go_big_quiet_on
        simp only [Act.put, Array.setIfInBounds, List.size_toArray, List.length_cons, List.length_nil, Nat.reduceAdd, Nat.reduceLT, ↓reduceDIte, List.set_toArray, List.set_cons_succ, List.set_cons_zero]
        go_big_quiet_want
        refine ⟨.bool false, fun w' hw => (by go_simp), ?_⟩
        go_big_quiet_on
        simp only [Act.put, Array.setIfInBounds, List.size_toArray, List.length_cons, List.length_nil, Nat.reduceAdd, Nat.reduceLT, ↓reduceDIte, List.set_toArray, List.set_cons_succ, List.set_cons_zero]
        go_big_quiet_want
        refine ⟨.bool false, fun w' hw => (by go_simp), ?_⟩
        go_big_quiet_on
        simp only [Act.put, Array.setIfInBounds, List.size_toArray, List.length_cons, List.length_nil, Nat.reduceAdd, Nat.reduceLT, ↓reduceDIte, List.set_toArray, List.set_cons_succ, List.set_cons_zero]
        refine wpQuiet_nil ?_
        intro W1 hk1
        go_wp2
        go_ret
        exact ⟨rfl, HKV.out.trans hk1 (by simp) (by simp)⟩
    · have hb4 : ((b.op : Int) == 4) = false := by rw [beq_eq_false_iff_ne]; omega
      have hD : denyB a b = false := by simp [denyB, ha, hb]
      have HS : Hid (∀ w', Kept [] V w' → w'.cell? ⟨w.heap.size, 0, none⟩ = some (.int .u8 (a.op : Nat)) ∧ w'.cell? ⟨w.heap.size, 1, none⟩ = some (.string a.name) ∧ w'.cell? ⟨w.heap.size, 2, none⟩ = some (.slice kad a.kids.length kcap) ∧ w'.cell? ⟨w.heap.size + 1, 0, none⟩ = some (.int .u8 (b.op : Nat)) ∧ w'.cell? ⟨w.heap.size + 1, 1, none⟩ = some (.string b.name) ∧ w'.cell? ⟨w.heap.size + 1, 2, none⟩ = some (.slice lad b.kids.length lcap)) := fun w' k => ⟨cell_kept0 k c0, cell_kept0 k c1, cell_kept0 k c2, cell_kept0 k e0, cell_kept0 k e1, cell_kept0 k e2⟩
      rw [hD]
      clear hD hI hJ kV v0 v1 hV hsk ga gb 
      (try clear ha); (try clear hb); (try clear hs1); (try clear hs2);
      go_enter Tryd.func131, Tryd.ntmps131
      go_upto_region 1 with (fail)
      rw [HVV.out]
      refine wp_region_quiet (C := fun w' => Kept [] V w') (by kernel_rfl) (by kernel_rfl) (HKS.out.drew) ?_
      simp only []
      go_big_quiet_want
      refine ⟨.pointer (some ⟨w.heap.size, 0, none⟩), fun w' hw => (by go_simp), ?_⟩
      go_big_quiet_on
      simp only [Act.put, Array.setIfInBounds, List.size_toArray, List.length_cons, List.length_nil, Nat.reduceAdd, Nat.reduceLT, ↓reduceDIte, List.set_toArray, List.set_cons_succ, List.set_cons_zero]
      go_big_quiet_want
      refine ⟨.int .u8 (a.op : Nat), fun w' hw => ?_, ?_⟩
      · obtain ⟨f0, f1, f2, f3, f4, f5⟩ := HS.out w' hw
        go_simp
      go_big_quiet_on
      simp only [Act.put, Array.setIfInBounds, List.size_toArray, List.length_cons, List.length_nil, Nat.reduceAdd, Nat.reduceLT, ↓reduceDIte, List.set_toArray, List.set_cons_succ, List.set_cons_zero]
      go_big_quiet_want
      refine ⟨.bool false, fun w' hw => (by go_simp), ?_⟩
      go_big_quiet_on
      simp only [Act.put, Array.setIfInBounds, List.size_toArray, List.length_cons, List.length_nil, Nat.reduceAdd, Nat.reduceLT, ↓reduceDIte, List.set_toArray, List.set_cons_succ, List.set_cons_zero]
      go_big_quiet_want
      refine ⟨.bool false, fun w' hw => (by go_simp), ?_⟩
      go_big_quiet_on
      simp only [Act.put, Array.setIfInBounds, List.size_toArray, List.length_cons, List.length_nil, Nat.reduceAdd, Nat.reduceLT, ↓reduceDIte, List.set_toArray, List.set_cons_succ, List.set_cons_zero]
      go_big_quiet_skip
      go_big_quiet_skip
      go_big_quiet_skip
      go_big_quiet_skip
      go_big_quiet_skip
      go_big_quiet_skip
      go_big_quiet_want
      refine ⟨.bool false, fun w' hw => (by go_simp), ?_⟩
      go_big_quiet_on
      simp only [Act.put, Array.setIfInBounds, List.size_toArray, List.length_cons, List.length_nil, Nat.reduceAdd, Nat.reduceLT, ↓reduceDIte, List.set_toArray, List.set_cons_succ, List.set_cons_zero]
      go_big_quiet_want
      refine ⟨.bool false, fun w' hw => (by go_simp), ?_⟩
      go_big_quiet_on
      simp only [Act.put, Array.setIfInBounds, List.size_toArray, List.length_cons, List.length_nil, Nat.reduceAdd, Nat.reduceLT, ↓reduceDIte, List.set_toArray, List.set_cons_succ, List.set_cons_zero]
      go_big_quiet_want
      refine ⟨.pointer (some ⟨w.heap.size + 1, 0, none⟩), fun w' hw => (by go_simp), ?_⟩
      go_big_quiet_on
      simp only [Act.put, Array.setIfInBounds, List.size_toArray, List.length_cons, List.length_nil, Nat.reduceAdd, Nat.reduceLT, ↓reduceDIte, List.set_toArray, List.set_cons_succ, List.set_cons_zero]
      go_big_quiet_want
      refine ⟨.int .u8 (b.op : Nat), fun w' hw => ?_, ?_⟩
      · obtain ⟨f0, f1, f2, f3, f4, f5⟩ := HS.out w' hw
        go_simp
      go_big_quiet_on
      simp only [Act.put, Array.setIfInBounds, List.size_toArray, List.length_cons, List.length_nil, Nat.reduceAdd, Nat.reduceLT, ↓reduceDIte, List.set_toArray, List.set_cons_succ, List.set_cons_zero]
      go_big_quiet_want
      refine ⟨.bool false, fun w' hw => (by go_simp), ?_⟩
      go_big_quiet_on
      simp only [Act.put, Array.setIfInBounds, List.size_toArray, List.length_cons, List.length_nil, Nat.reduceAdd, Nat.reduceLT, ↓reduceDIte, List.set_toArray, List.set_cons_succ, List.set_cons_zero]
      go_big_quiet_want
      refine ⟨.bool false, fun w' hw => (by go_simp), ?_⟩
      go_big_quiet_on
      simp only [Act.put, Array.setIfInBounds, List.size_toArray, List.length_cons, List.length_nil, Nat.reduceAdd, Nat.reduceLT, ↓reduceDIte, List.set_toArray, List.set_cons_succ, List.set_cons_zero]
      go_big_quiet_skip
      go_big_quiet_skip
      go_big_quiet_skip
      go_big_quiet_skip
      go_big_quiet_skip
      go_big_quiet_skip
      go_big_quiet_want
      refine ⟨.bool false, fun w' hw => (by go_simp), ?_⟩
      go_big_quiet_on
      simp only [Act.put, Array.setIfInBounds, List.size_toArray, List.length_cons, List.length_nil, Nat.reduceAdd, Nat.reduceLT, ↓reduceDIte, List.set_toArray, List.set_cons_succ, List.set_cons_zero]
      go_big_quiet_want
      refine ⟨.bool false, fun w' hw => (by go_simp), ?_⟩
      go_big_quiet_on
      simp only [Act.put, Array.setIfInBounds, List.size_toArray, List.length_cons, List.length_nil, Nat.reduceAdd, Nat.reduceLT, ↓reduceDIte, List.set_toArray, List.set_cons_succ, List.set_cons_zero]
      go_big_quiet_want
      refine ⟨.bool false, fun w' hw => (by go_simp), ?_⟩
      go_big_quiet_on
      simp only [Act.put, Array.setIfInBounds, List.size_toArray, List.length_cons, List.length_nil, Nat.reduceAdd, Nat.reduceLT, ↓reduceDIte, List.set_toArray, List.set_cons_succ, List.set_cons_zero]
      refine wpQuiet_nil ?_
      intro W1 hk1
      go_wp2
      go_ret
      exact ⟨rfl, HKV.out.trans hk1 (by simp) (by simp)⟩
end Go.Proofs.YtddgciilcghbaaaDoor
