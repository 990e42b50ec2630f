/- nnf.has, inOrder. -/
import Derived.Test.YtddgciilcghbaaaDoorGH
namespace Go.Proofs.YtddgciilcghbaaaDoor
open Go.RowKit Go.Shelf

set_option maxHeartbeats 2000000 in
set_option maxRecDepth 20000 in
theorem has_any (o : Nat) (ho : o = 5 ∨ o = 6) (a b : Tr) (kv lv : Value) (w : World) (hI : IsF w a kv) (hJ : IsF w b lv) (ga : a.Good) (hsa : a.size ≤ 1099511627776) (hsb : b.size ≤ 1099511627776) :
    Calls Tryd.prog 132 #[.agg #[.int .u8 (a.op : Nat), .string a.name, kv], .int .u8 (o : Nat), .agg #[.int .u8 (b.op : Nat), .string b.name, lv]] w fun e w' => e = .returned (.bool (hasB a o b)) ∧ Kept [] w w' := by
  obtain ⟨kad, kcap, rfl⟩ := hI.slice
  obtain ⟨lad, lcap, rfl⟩ := hJ.slice
  obtain ⟨V, hV⟩ : ∃ V, ((w.alloc (.cells #[.int .u8 (a.op : Nat), .string a.name, .slice kad a.kids.length kcap] 25)).alloc (.cells #[.int .u8 (b.op : Nat), .string b.name, .slice lad b.kids.length lcap] 25)) = V := ⟨_, rfl⟩
  have kV : Kept [] w V := by rw [← hV]; exact ((Kept.refl [] w).alloc _).alloc _
  have v0 : For3 V w.heap.size (.int .u8 (a.op : Nat)) (.string a.name) (.slice kad a.kids.length kcap) := by rw [← hV]; exact alUp (al0 _ _) _
  have v1 : For3 V (w.heap.size + 1) (.int .u8 (b.op : Nat)) (.string b.name) (.slice lad b.kids.length lcap) := by rw [← hV]; exact al1 _ _ _
  have HVV : Hid (_ = V) := hV
  have HKV : Hid (Kept [] w V) := kV
  have HKS : Hid (Kept [] V V) := Kept.refl [] V
  obtain ⟨c0, c1, c2, -⟩ := v0.cells
  obtain ⟨e0, e1, e2, -⟩ := v1.cells
  by_cases ha : a.op = o
  · have hao : ((a.op : Int) == (o : Int)) = true := by rw [beq_iff_eq]; omega
    have hl2 : a.kids.length = 2 := by obtain ⟨x, y, e, _, _⟩ := good_b (a := a) (by unfold Bi; omega) ga; rw [e]; rfl
    have hpos : 0 < a.kids.length := by omega
    have hpos2 : 1 < a.kids.length := by omega
    have hpos2i : (1 : Int) < (a.kids.length : Int) := by omega
    have hs0a : (nk0 a).size ≤ 1099511627776 := by
      have e : nk0 a = a.kids[0] := by unfold nk0; rw [List.getD_eq_getElem?_getD, List.getElem?_eq_getElem hpos]; rfl
      have := Tr.kid_size (t := a) (k := nk0 a) (by rw [e]; exact List.getElem_mem _)
      omega
    have hs1a : (nk1 a).size ≤ 1099511627776 := by
      have e : nk1 a = a.kids[1] := by unfold nk1; rw [List.getD_eq_getElem?_getD, List.getElem?_eq_getElem hpos2]; rfl
      have := Tr.kid_size (t := a) (k := nk1 a) (by rw [e]; exact List.getElem_mem _)
      omega
    clear hl2
    cases hs0 : sameT (nk0 a) b with
    | true =>
      have hD : hasB a o b = true := by simp [hasB, ha, hs0]
      obtain ⟨xb, xo, xa, xc, rfl, g0, g1, g2, hx⟩ := kid_of hI hpos
      obtain ⟨zb, zo, za, zc, ez, m0, m1, m2, hz⟩ := kid_two hI hpos2
      obtain ⟨rfl, rfl⟩ : xb = zb ∧ xo = zo := by simpa using ez
      have HSX : Hid (∀ W, Kept [] V W → Calls Tryd.prog 130 #[.agg #[.int .u8 ((nk0 a).op : Nat), .string (nk0 a).name, .slice xa (nk0 a).kids.length xc], .agg #[.int .u8 (b.op : Nat), .string b.name, .slice lad b.kids.length lcap]] W fun e w' => e = .returned (.bool (sameT (nk0 a) b)) ∧ Kept [] W w') := fun W k => same_any (nk0 a) b _ _ W (IsF.kept hx.isF (kV.trans k (by simp) (by simp))) (IsF.kept hJ (kV.trans k (by simp) (by simp))) hs0a hsb
      rw [hs0] at HSX
      have HS : Hid (∀ w', Kept [] V w' → w'.cell? ⟨w.heap.size, 0, none⟩ = some (.int .u8 (a.op : Nat)) ∧ w'.cell? ⟨w.heap.size, 1, none⟩ = some (.string a.name) ∧ w'.cell? ⟨w.heap.size, 2, none⟩ = some (.slice (some ⟨xb, xo, none⟩) a.kids.length kcap) ∧ w'.cell? ⟨w.heap.size + 1, 0, none⟩ = some (.int .u8 (b.op : Nat)) ∧ w'.cell? ⟨w.heap.size + 1, 1, none⟩ = some (.string b.name) ∧ w'.cell? ⟨w.heap.size + 1, 2, none⟩ = some (.slice lad b.kids.length lcap) ∧ w'.cell? ⟨xb, xo, none⟩ = some (.int .u8 ((nk0 a).op : Nat)) ∧ w'.cell? ⟨xb, xo + 1, none⟩ = some (.string (nk0 a).name) ∧ w'.cell? ⟨xb, xo + 2, none⟩ = some (.slice xa (nk0 a).kids.length xc) ∧ w'.cell? ⟨xb, xo + 3, none⟩ = some (.int .u8 ((nk1 a).op : Nat)) ∧ w'.cell? ⟨xb, xo + 3 + 1, none⟩ = some (.string (nk1 a).name) ∧ w'.cell? ⟨xb, xo + 3 + 2, none⟩ = some (.slice za (nk1 a).kids.length zc)) := fun w' k => ⟨cell_kept0 k c0, cell_kept0 k c1, cell_kept0 k c2, cell_kept0 k e0, cell_kept0 k e1, cell_kept0 k e2, cell_kept0 (kV.trans k (H := []) (by simp) (by simp)) g0, cell_kept0 (kV.trans k (H := []) (by simp) (by simp)) g1, cell_kept0 (kV.trans k (H := []) (by simp) (by simp)) g2, cell_kept0 (kV.trans k (H := []) (by simp) (by simp)) m0, cell_kept0 (kV.trans k (H := []) (by simp) (by simp)) m1, cell_kept0 (kV.trans k (H := []) (by simp) (by simp)) m2⟩
      rw [hD]
      clear hD hI hJ kV v0 v1 hV ga ho  g0 g1 g2 hx m0 m1 m2 hz
      (try clear ha); (try clear hs0); (try clear hs1); (try clear ez)
      go_enter Tryd.func132, Tryd.ntmps132
      go_upto_region 1 with (fail)
      rw [HVV.out]
      refine wp_region_quiet (C := fun w' => Kept [] V w') (by kernel_rfl) (by kernel_rfl) (HKS.out.drew) ?_
      simp only []
      go_big_quiet_want
      refine ⟨.pointer (some ⟨w.heap.size, 0, none⟩), fun w' hw => (by go_simp), ?_⟩
      go_big_quiet_on
      simp only [Act.put, Array.setIfInBounds, List.size_toArray, List.length_cons, List.length_nil, Nat.reduceAdd, Nat.reduceLT, ↓reduceDIte, List.set_toArray, List.set_cons_succ, List.set_cons_zero]
      go_big_quiet_want
      refine ⟨.int .u8 (a.op : Nat), fun w' hw => ?_, ?_⟩
      · obtain ⟨f0, f1, f2, f3, f4, f5, f6, f7, f8, f9, f10, f11⟩ := HS.out w' hw
        go_simp
      go_big_quiet_on
      simp only [Act.put, Array.setIfInBounds, List.size_toArray, List.length_cons, List.length_nil, Nat.reduceAdd, Nat.reduceLT, ↓reduceDIte, List.set_toArray, List.set_cons_succ, List.set_cons_zero]
      go_big_quiet_want
      refine ⟨.int .u8 (o : Nat), fun w' hw => (by go_simp), ?_⟩
      go_big_quiet_on
      simp only [Act.put, Array.setIfInBounds, List.size_toArray, List.length_cons, List.length_nil, Nat.reduceAdd, Nat.reduceLT, ↓reduceDIte, List.set_toArray, List.set_cons_succ, List.set_cons_zero]
      go_big_quiet_want
      refine ⟨.bool true, fun w' hw => (by go_simp), ?_⟩
      go_big_quiet_on
      simp only [Act.put, Array.setIfInBounds, List.size_toArray, List.length_cons, List.length_nil, Nat.reduceAdd, Nat.reduceLT, ↓reduceDIte, List.set_toArray, List.set_cons_succ, List.set_cons_zero]
      go_big_quiet_want
      refine ⟨.bool true, fun w' hw => (by go_simp), ?_⟩
      go_big_quiet_on
      simp only [Act.put, Array.setIfInBounds, List.size_toArray, List.length_cons, List.length_nil, Nat.reduceAdd, Nat.reduceLT, ↓reduceDIte, List.set_toArray, List.set_cons_succ, List.set_cons_zero]
      go_big_quiet_want
      refine ⟨.pointer (some ⟨w.heap.size, 2, none⟩), fun w' hw => (by go_simp), ?_⟩
      go_big_quiet_on
      simp only [Act.put, Array.setIfInBounds, List.size_toArray, List.length_cons, List.length_nil, Nat.reduceAdd, Nat.reduceLT, ↓reduceDIte, List.set_toArray, List.set_cons_succ, List.set_cons_zero]
      go_big_quiet_want
      refine ⟨.slice (some ⟨xb, xo, none⟩) a.kids.length kcap, fun w' hw => ?_, ?_⟩
      · obtain ⟨f0, f1, f2, f3, f4, f5, f6, f7, f8, f9, f10, f11⟩ := HS.out w' hw
        go_simp
      go_big_quiet_on
      simp only [Act.put, Array.setIfInBounds, List.size_toArray, List.length_cons, List.length_nil, Nat.reduceAdd, Nat.reduceLT, ↓reduceDIte, List.set_toArray, List.set_cons_succ, List.set_cons_zero]
      go_big_quiet_want
      refine ⟨.pointer (some ⟨xb, xo, none⟩), fun w' hw => (by go_simp), ?_⟩
      go_big_quiet_on
      simp only [Act.put, Array.setIfInBounds, List.size_toArray, List.length_cons, List.length_nil, Nat.reduceAdd, Nat.reduceLT, ↓reduceDIte, List.set_toArray, List.set_cons_succ, List.set_cons_zero]
      go_big_quiet_want
      refine ⟨.agg #[.int .u8 ((nk0 a).op : Nat), .string (nk0 a).name, .slice xa (nk0 a).kids.length xc], fun w' hw => ?_, ?_⟩
      · obtain ⟨f0, f1, f2, f3, f4, f5, f6, f7, f8, f9, f10, f11⟩ := HS.out w' hw
        go_simp
      go_big_quiet_on
      simp only [Act.put, Array.setIfInBounds, List.size_toArray, List.length_cons, List.length_nil, Nat.reduceAdd, Nat.reduceLT, ↓reduceDIte, List.set_toArray, List.set_cons_succ, List.set_cons_zero]
      go_big_quiet_want
      refine ⟨.agg #[.int .u8 (b.op : Nat), .string b.name, .slice lad b.kids.length lcap], fun w' hw => ?_, ?_⟩
      · obtain ⟨f0, f1, f2, f3, f4, f5, f6, f7, f8, f9, f10, f11⟩ := HS.out w' hw
        go_simp
      go_big_quiet_on
      simp only [Act.put, Array.setIfInBounds, List.size_toArray, List.length_cons, List.length_nil, Nat.reduceAdd, Nat.reduceLT, ↓reduceDIte, List.set_toArray, List.set_cons_succ, List.set_cons_zero]
      go_big_quiet_want
      refine ⟨.bool true, fun w' hw => ?_, ?_⟩
      · go_simp
        exact (HSX.out w' hw).mono fun e w'' ⟨h1, h2⟩ => ⟨h1, hw.trans h2 (by simp) (by simp)⟩
      go_big_quiet_on
      simp only [Act.put, Array.setIfInBounds, List.size_toArray, List.length_cons, List.length_nil, Nat.reduceAdd, Nat.reduceLT, ↓reduceDIte, List.set_toArray, List.set_cons_succ, List.set_cons_zero]
      go_big_quiet_want
      refine ⟨.bool true, fun w' hw => (by go_simp), ?_⟩
      go_big_quiet_on
      simp only [Act.put, Array.setIfInBounds, List.size_toArray, List.length_cons, List.length_nil, Nat.reduceAdd, Nat.reduceLT, ↓reduceDIte, List.set_toArray, List.set_cons_succ, List.set_cons_zero]
      go_big_quiet_skip
      go_big_quiet_skip
      go_big_quiet_skip
      go_big_quiet_skip
      go_big_quiet_skip
      go_big_quiet_skip
      go_big_quiet_want
      refine ⟨.bool true, fun w' hw => (by go_simp), ?_⟩
      go_big_quiet_on
      simp only [Act.put, Array.setIfInBounds, List.size_toArray, List.length_cons, List.length_nil, Nat.reduceAdd, Nat.reduceLT, ↓reduceDIte, List.set_toArray, List.set_cons_succ, List.set_cons_zero]
      go_big_quiet_want
      refine ⟨.bool true, fun w' hw => (by go_simp), ?_⟩
      go_big_quiet_on
      simp only [Act.put, Array.setIfInBounds, List.size_toArray, List.length_cons, List.length_nil, Nat.reduceAdd, Nat.reduceLT, ↓reduceDIte, List.set_toArray, List.set_cons_succ, List.set_cons_zero]
      go_big_quiet_want
      refine ⟨.bool true, fun w' hw => (by go_simp), ?_⟩
      go_big_quiet_on
      simp only [Act.put, Array.setIfInBounds, List.size_toArray, List.length_cons, List.length_nil, Nat.reduceAdd, Nat.reduceLT, ↓reduceDIte, List.set_toArray, List.set_cons_succ, List.set_cons_zero]
      refine wpQuiet_nil ?_
      intro W1 hk1
      go_wp2
      go_ret
      exact ⟨rfl, HKV.out.trans hk1 (by simp) (by simp)⟩
    | false =>
      cases hs1 : sameT (nk1 a) b with
      | true =>
        have hD : hasB a o b = true := by simp [hasB, ha, hs1]
        obtain ⟨xb, xo, xa, xc, rfl, g0, g1, g2, hx⟩ := kid_of hI hpos
        obtain ⟨zb, zo, za, zc, ez, m0, m1, m2, hz⟩ := kid_two hI hpos2
        obtain ⟨rfl, rfl⟩ : xb = zb ∧ xo = zo := by simpa using ez
        have HSX : Hid (∀ W, Kept [] V W → Calls Tryd.prog 130 #[.agg #[.int .u8 ((nk0 a).op : Nat), .string (nk0 a).name, .slice xa (nk0 a).kids.length xc], .agg #[.int .u8 (b.op : Nat), .string b.name, .slice lad b.kids.length lcap]] W fun e w' => e = .returned (.bool (sameT (nk0 a) b)) ∧ Kept [] W w') := fun W k => same_any (nk0 a) b _ _ W (IsF.kept hx.isF (kV.trans k (by simp) (by simp))) (IsF.kept hJ (kV.trans k (by simp) (by simp))) hs0a hsb
        rw [hs0] at HSX
        have HSZ : Hid (∀ W, Kept [] V W → Calls Tryd.prog 130 #[.agg #[.int .u8 ((nk1 a).op : Nat), .string (nk1 a).name, .slice za (nk1 a).kids.length zc], .agg #[.int .u8 (b.op : Nat), .string b.name, .slice lad b.kids.length lcap]] W fun e w' => e = .returned (.bool (sameT (nk1 a) b)) ∧ Kept [] W w') := fun W k => same_any (nk1 a) b _ _ W (IsF.kept hz.isF (kV.trans k (by simp) (by simp))) (IsF.kept hJ (kV.trans k (by simp) (by simp))) hs1a hsb
        rw [hs1] at HSZ
        have HS : Hid (∀ w', Kept [] V w' → w'.cell? ⟨w.heap.size, 0, none⟩ = some (.int .u8 (a.op : Nat)) ∧ w'.cell? ⟨w.heap.size, 1, none⟩ = some (.string a.name) ∧ w'.cell? ⟨w.heap.size, 2, none⟩ = some (.slice (some ⟨xb, xo, none⟩) a.kids.length kcap) ∧ w'.cell? ⟨w.heap.size + 1, 0, none⟩ = some (.int .u8 (b.op : Nat)) ∧ w'.cell? ⟨w.heap.size + 1, 1, none⟩ = some (.string b.name) ∧ w'.cell? ⟨w.heap.size + 1, 2, none⟩ = some (.slice lad b.kids.length lcap) ∧ w'.cell? ⟨xb, xo, none⟩ = some (.int .u8 ((nk0 a).op : Nat)) ∧ w'.cell? ⟨xb, xo + 1, none⟩ = some (.string (nk0 a).name) ∧ w'.cell? ⟨xb, xo + 2, none⟩ = some (.slice xa (nk0 a).kids.length xc) ∧ w'.cell? ⟨xb, xo + 3, none⟩ = some (.int .u8 ((nk1 a).op : Nat)) ∧ w'.cell? ⟨xb, xo + 3 + 1, none⟩ = some (.string (nk1 a).name) ∧ w'.cell? ⟨xb, xo + 3 + 2, none⟩ = some (.slice za (nk1 a).kids.length zc)) := fun w' k => ⟨cell_kept0 k c0, cell_kept0 k c1, cell_kept0 k c2, cell_kept0 k e0, cell_kept0 k e1, cell_kept0 k e2, cell_kept0 (kV.trans k (H := []) (by simp) (by simp)) g0, cell_kept0 (kV.trans k (H := []) (by simp) (by simp)) g1, cell_kept0 (kV.trans k (H := []) (by simp) (by simp)) g2, cell_kept0 (kV.trans k (H := []) (by simp) (by simp)) m0, cell_kept0 (kV.trans k (H := []) (by simp) (by simp)) m1, cell_kept0 (kV.trans k (H := []) (by simp) (by simp)) m2⟩
        rw [hD]
        clear hD hI hJ kV v0 v1 hV ga ho  g0 g1 g2 hx m0 m1 m2 hz
        (try clear ha); (try clear hs0); (try clear hs1); (try clear ez)
        go_enter Tryd.func132, Tryd.ntmps132
        go_upto_region 1 with (fail)
        rw [HVV.out]
        refine wp_region_quiet (C := fun w' => Kept [] V w') (by kernel_rfl) (by kernel_rfl) (HKS.out.drew) ?_
        simp only []
        go_big_quiet_want
        refine ⟨.pointer (some ⟨w.heap.size, 0, none⟩), fun w' hw => (by go_simp), ?_⟩
        go_big_quiet_on
        simp only [Act.put, Array.setIfInBounds, List.size_toArray, List.length_cons, List.length_nil, Nat.reduceAdd, Nat.reduceLT, ↓reduceDIte, List.set_toArray, List.set_cons_succ, List.set_cons_zero]
        go_big_quiet_want
        refine ⟨.int .u8 (a.op : Nat), fun w' hw => ?_, ?_⟩
        · obtain ⟨f0, f1, f2, f3, f4, f5, f6, f7, f8, f9, f10, f11⟩ := HS.out w' hw
          go_simp
        go_big_quiet_on
        simp only [Act.put, Array.setIfInBounds, List.size_toArray, List.length_cons, List.length_nil, Nat.reduceAdd, Nat.reduceLT, ↓reduceDIte, List.set_toArray, List.set_cons_succ, List.set_cons_zero]
        go_big_quiet_want
        refine ⟨.int .u8 (o : Nat), fun w' hw => (by go_simp), ?_⟩
        go_big_quiet_on
        simp only [Act.put, Array.setIfInBounds, List.size_toArray, List.length_cons, List.length_nil, Nat.reduceAdd, Nat.reduceLT, ↓reduceDIte, List.set_toArray, List.set_cons_succ, List.set_cons_zero]
        go_big_quiet_want
        refine ⟨.bool true, fun w' hw => (by go_simp), ?_⟩
        go_big_quiet_on
        simp only [Act.put, Array.setIfInBounds, List.size_toArray, List.length_cons, List.length_nil, Nat.reduceAdd, Nat.reduceLT, ↓reduceDIte, List.set_toArray, List.set_cons_succ, List.set_cons_zero]
        go_big_quiet_want
        refine ⟨.bool true, fun w' hw => (by go_simp), ?_⟩
        go_big_quiet_on
        simp only [Act.put, Array.setIfInBounds, List.size_toArray, List.length_cons, List.length_nil, Nat.reduceAdd, Nat.reduceLT, ↓reduceDIte, List.set_toArray, List.set_cons_succ, List.set_cons_zero]
        go_big_quiet_want
        refine ⟨.pointer (some ⟨w.heap.size, 2, none⟩), fun w' hw => (by go_simp), ?_⟩
        go_big_quiet_on
        simp only [Act.put, Array.setIfInBounds, List.size_toArray, List.length_cons, List.length_nil, Nat.reduceAdd, Nat.reduceLT, ↓reduceDIte, List.set_toArray, List.set_cons_succ, List.set_cons_zero]
        go_big_quiet_want
        refine ⟨.slice (some ⟨xb, xo, none⟩) a.kids.length kcap, fun w' hw => ?_, ?_⟩
        · obtain ⟨f0, f1, f2, f3, f4, f5, f6, f7, f8, f9, f10, f11⟩ := HS.out w' hw
          go_simp
        go_big_quiet_on
        simp only [Act.put, Array.setIfInBounds, List.size_toArray, List.length_cons, List.length_nil, Nat.reduceAdd, Nat.reduceLT, ↓reduceDIte, List.set_toArray, List.set_cons_succ, List.set_cons_zero]
        go_big_quiet_want
        refine ⟨.pointer (some ⟨xb, xo, none⟩), fun w' hw => (by go_simp), ?_⟩
        go_big_quiet_on
        simp only [Act.put, Array.setIfInBounds, List.size_toArray, List.length_cons, List.length_nil, Nat.reduceAdd, Nat.reduceLT, ↓reduceDIte, List.set_toArray, List.set_cons_succ, List.set_cons_zero]
        go_big_quiet_want
        refine ⟨.agg #[.int .u8 ((nk0 a).op : Nat), .string (nk0 a).name, .slice xa (nk0 a).kids.length xc], fun w' hw => ?_, ?_⟩
        · obtain ⟨f0, f1, f2, f3, f4, f5, f6, f7, f8, f9, f10, f11⟩ := HS.out w' hw
          go_simp
        go_big_quiet_on
        simp only [Act.put, Array.setIfInBounds, List.size_toArray, List.length_cons, List.length_nil, Nat.reduceAdd, Nat.reduceLT, ↓reduceDIte, List.set_toArray, List.set_cons_succ, List.set_cons_zero]
        go_big_quiet_want
        refine ⟨.agg #[.int .u8 (b.op : Nat), .string b.name, .slice lad b.kids.length lcap], fun w' hw => ?_, ?_⟩
        · obtain ⟨f0, f1, f2, f3, f4, f5, f6, f7, f8, f9, f10, f11⟩ := HS.out w' hw
          go_simp
        go_big_quiet_on
        simp only [Act.put, Array.setIfInBounds, List.size_toArray, List.length_cons, List.length_nil, Nat.reduceAdd, Nat.reduceLT, ↓reduceDIte, List.set_toArray, List.set_cons_succ, List.set_cons_zero]
        go_big_quiet_want
        refine ⟨.bool false, fun w' hw => ?_, ?_⟩
        · go_simp
          exact (HSX.out w' hw).mono fun e w'' ⟨h1, h2⟩ => ⟨h1, hw.trans h2 (by simp) (by simp)⟩
        go_big_quiet_on
        simp only [Act.put, Array.setIfInBounds, List.size_toArray, List.length_cons, List.length_nil, Nat.reduceAdd, Nat.reduceLT, ↓reduceDIte, List.set_toArray, List.set_cons_succ, List.set_cons_zero]
        go_big_quiet_want
        refine ⟨.bool false, fun w' hw => (by go_simp), ?_⟩
        go_big_quiet_on
        simp only [Act.put, Array.setIfInBounds, List.size_toArray, List.length_cons, List.length_nil, Nat.reduceAdd, Nat.reduceLT, ↓reduceDIte, List.set_toArray, List.set_cons_succ, List.set_cons_zero]
        go_big_quiet_want
        refine ⟨.pointer (some ⟨w.heap.size, 2, none⟩), fun w' hw => (by go_simp), ?_⟩
        go_big_quiet_on
        simp only [Act.put, Array.setIfInBounds, List.size_toArray, List.length_cons, List.length_nil, Nat.reduceAdd, Nat.reduceLT, ↓reduceDIte, List.set_toArray, List.set_cons_succ, List.set_cons_zero]
        go_big_quiet_want
        refine ⟨.slice (some ⟨xb, xo, none⟩) a.kids.length kcap, fun w' hw => ?_, ?_⟩
        · obtain ⟨f0, f1, f2, f3, f4, f5, f6, f7, f8, f9, f10, f11⟩ := HS.out w' hw
          go_simp
        go_big_quiet_on
        simp only [Act.put, Array.setIfInBounds, List.size_toArray, List.length_cons, List.length_nil, Nat.reduceAdd, Nat.reduceLT, ↓reduceDIte, List.set_toArray, List.set_cons_succ, List.set_cons_zero]
        go_big_quiet_want
        refine ⟨.pointer (some ⟨xb, xo + 3, none⟩), fun w' hw => (by go_simp), ?_⟩
        go_big_quiet_on
        simp only [Act.put, Array.setIfInBounds, List.size_toArray, List.length_cons, List.length_nil, Nat.reduceAdd, Nat.reduceLT, ↓reduceDIte, List.set_toArray, List.set_cons_succ, List.set_cons_zero]
        go_big_quiet_want
        refine ⟨.agg #[.int .u8 ((nk1 a).op : Nat), .string (nk1 a).name, .slice za (nk1 a).kids.length zc], fun w' hw => ?_, ?_⟩
        · obtain ⟨f0, f1, f2, f3, f4, f5, f6, f7, f8, f9, f10, f11⟩ := HS.out w' hw
          go_simp
        go_big_quiet_on
        simp only [Act.put, Array.setIfInBounds, List.size_toArray, List.length_cons, List.length_nil, Nat.reduceAdd, Nat.reduceLT, ↓reduceDIte, List.set_toArray, List.set_cons_succ, List.set_cons_zero]
        go_big_quiet_want
        refine ⟨.agg #[.int .u8 (b.op : Nat), .string b.name, .slice lad b.kids.length lcap], fun w' hw => ?_, ?_⟩
        · obtain ⟨f0, f1, f2, f3, f4, f5, f6, f7, f8, f9, f10, f11⟩ := HS.out w' hw
          go_simp
        go_big_quiet_on
        simp only [Act.put, Array.setIfInBounds, List.size_toArray, List.length_cons, List.length_nil, Nat.reduceAdd, Nat.reduceLT, ↓reduceDIte, List.set_toArray, List.set_cons_succ, List.set_cons_zero]
        go_big_quiet_want
        refine ⟨.bool true, fun w' hw => ?_, ?_⟩
        · go_simp
          exact (HSZ.out w' hw).mono fun e w'' ⟨h1, h2⟩ => ⟨h1, hw.trans h2 (by simp) (by simp)⟩
        go_big_quiet_on
        simp only [Act.put, Array.setIfInBounds, List.size_toArray, List.length_cons, List.length_nil, Nat.reduceAdd, Nat.reduceLT, ↓reduceDIte, List.set_toArray, List.set_cons_succ, List.set_cons_zero]
        go_big_quiet_want
        refine ⟨.bool true, fun w' hw => (by go_simp), ?_⟩
        go_big_quiet_on
        simp only [Act.put, Array.setIfInBounds, List.size_toArray, List.length_cons, List.length_nil, Nat.reduceAdd, Nat.reduceLT, ↓reduceDIte, List.set_toArray, List.set_cons_succ, List.set_cons_zero]
        go_big_quiet_want
        refine ⟨.bool true, fun w' hw => (by go_simp), ?_⟩
        go_big_quiet_on
        simp only [Act.put, Array.setIfInBounds, List.size_toArray, List.length_cons, List.length_nil, Nat.reduceAdd, Nat.reduceLT, ↓reduceDIte, List.set_toArray, List.set_cons_succ, List.set_cons_zero]
        go_big_quiet_want
        refine ⟨.bool true, fun w' hw => (by go_simp), ?_⟩
        go_big_quiet_on
        simp only [Act.put, Array.setIfInBounds, List.size_toArray, List.length_cons, List.length_nil, Nat.reduceAdd, Nat.reduceLT, ↓reduceDIte, List.set_toArray, List.set_cons_succ, List.set_cons_zero]
        refine wpQuiet_nil ?_
        intro W1 hk1
        go_wp2
        go_ret
        exact ⟨rfl, HKV.out.trans hk1 (by simp) (by simp)⟩
      | false =>
        have hD : hasB a o b = false := by simp [hasB, hs0, hs1]
        obtain ⟨xb, xo, xa, xc, rfl, g0, g1, g2, hx⟩ := kid_of hI hpos
        obtain ⟨zb, zo, za, zc, ez, m0, m1, m2, hz⟩ := kid_two hI hpos2
        obtain ⟨rfl, rfl⟩ : xb = zb ∧ xo = zo := by simpa using ez
        have HSX : Hid (∀ W, Kept [] V W → Calls Tryd.prog 130 #[.agg #[.int .u8 ((nk0 a).op : Nat), .string (nk0 a).name, .slice xa (nk0 a).kids.length xc], .agg #[.int .u8 (b.op : Nat), .string b.name, .slice lad b.kids.length lcap]] W fun e w' => e = .returned (.bool (sameT (nk0 a) b)) ∧ Kept [] W w') := fun W k => same_any (nk0 a) b _ _ W (IsF.kept hx.isF (kV.trans k (by simp) (by simp))) (IsF.kept hJ (kV.trans k (by simp) (by simp))) hs0a hsb
        rw [hs0] at HSX
        have HSZ : Hid (∀ W, Kept [] V W → Calls Tryd.prog 130 #[.agg #[.int .u8 ((nk1 a).op : Nat), .string (nk1 a).name, .slice za (nk1 a).kids.length zc], .agg #[.int .u8 (b.op : Nat), .string b.name, .slice lad b.kids.length lcap]] W fun e w' => e = .returned (.bool (sameT (nk1 a) b)) ∧ Kept [] W w') := fun W k => same_any (nk1 a) b _ _ W (IsF.kept hz.isF (kV.trans k (by simp) (by simp))) (IsF.kept hJ (kV.trans k (by simp) (by simp))) hs1a hsb
        rw [hs1] at HSZ
        have HS : Hid (∀ w', Kept [] V w' → w'.cell? ⟨w.heap.size, 0, none⟩ = some (.int .u8 (a.op : Nat)) ∧ w'.cell? ⟨w.heap.size, 1, none⟩ = some (.string a.name) ∧ w'.cell? ⟨w.heap.size, 2, none⟩ = some (.slice (some ⟨xb, xo, none⟩) a.kids.length kcap) ∧ w'.cell? ⟨w.heap.size + 1, 0, none⟩ = some (.int .u8 (b.op : Nat)) ∧ w'.cell? ⟨w.heap.size + 1, 1, none⟩ = some (.string b.name) ∧ w'.cell? ⟨w.heap.size + 1, 2, none⟩ = some (.slice lad b.kids.length lcap) ∧ w'.cell? ⟨xb, xo, none⟩ = some (.int .u8 ((nk0 a).op : Nat)) ∧ w'.cell? ⟨xb, xo + 1, none⟩ = some (.string (nk0 a).name) ∧ w'.cell? ⟨xb, xo + 2, none⟩ = some (.slice xa (nk0 a).kids.length xc) ∧ w'.cell? ⟨xb, xo + 3, none⟩ = some (.int .u8 ((nk1 a).op : Nat)) ∧ w'.cell? ⟨xb, xo + 3 + 1, none⟩ = some (.string (nk1 a).name) ∧ w'.cell? ⟨xb, xo + 3 + 2, none⟩ = some (.slice za (nk1 a).kids.length zc)) := fun w' k => ⟨cell_kept0 k c0, cell_kept0 k c1, cell_kept0 k c2, cell_kept0 k e0, cell_kept0 k e1, cell_kept0 k e2, cell_kept0 (kV.trans k (H := []) (by simp) (by simp)) g0, cell_kept0 (kV.trans k (H := []) (by simp) (by simp)) g1, cell_kept0 (kV.trans k (H := []) (by simp) (by simp)) g2, cell_kept0 (kV.trans k (H := []) (by simp) (by simp)) m0, cell_kept0 (kV.trans k (H := []) (by simp) (by simp)) m1, cell_kept0 (kV.trans k (H := []) (by simp) (by simp)) m2⟩
        rw [hD]
        clear hD hI hJ kV v0 v1 hV ga ho  g0 g1 g2 hx m0 m1 m2 hz
        (try clear ha); (try clear hs0); (try clear hs1); (try clear ez)
        go_enter Tryd.func132, Tryd.ntmps132
        go_upto_region 1 with (fail)
        rw [HVV.out]
        refine wp_region_quiet (C := fun w' => Kept [] V w') (by kernel_rfl) (by kernel_rfl) (HKS.out.drew) ?_
        simp only []
        go_big_quiet_want
        refine ⟨.pointer (some ⟨w.heap.size, 0, none⟩), fun w' hw => (by go_simp), ?_⟩
        go_big_quiet_on
        simp only [Act.put, Array.setIfInBounds, List.size_toArray, List.length_cons, List.length_nil, Nat.reduceAdd, Nat.reduceLT, ↓reduceDIte, List.set_toArray, List.set_cons_succ, List.set_cons_zero]
        go_big_quiet_want
        refine ⟨.int .u8 (a.op : Nat), fun w' hw => ?_, ?_⟩
        · obtain ⟨f0, f1, f2, f3, f4, f5, f6, f7, f8, f9, f10, f11⟩ := HS.out w' hw
          go_simp
        go_big_quiet_on
        simp only [Act.put, Array.setIfInBounds, List.size_toArray, List.length_cons, List.length_nil, Nat.reduceAdd, Nat.reduceLT, ↓reduceDIte, List.set_toArray, List.set_cons_succ, List.set_cons_zero]
        go_big_quiet_want
        refine ⟨.int .u8 (o : Nat), fun w' hw => (by go_simp), ?_⟩
        go_big_quiet_on
        simp only [Act.put, Array.setIfInBounds, List.size_toArray, List.length_cons, List.length_nil, Nat.reduceAdd, Nat.reduceLT, ↓reduceDIte, List.set_toArray, List.set_cons_succ, List.set_cons_zero]
        go_big_quiet_want
        refine ⟨.bool true, fun w' hw => (by go_simp), ?_⟩
        go_big_quiet_on
        simp only [Act.put, Array.setIfInBounds, List.size_toArray, List.length_cons, List.length_nil, Nat.reduceAdd, Nat.reduceLT, ↓reduceDIte, List.set_toArray, List.set_cons_succ, List.set_cons_zero]
        go_big_quiet_want
        refine ⟨.bool true, fun w' hw => (by go_simp), ?_⟩
        go_big_quiet_on
        simp only [Act.put, Array.setIfInBounds, List.size_toArray, List.length_cons, List.length_nil, Nat.reduceAdd, Nat.reduceLT, ↓reduceDIte, List.set_toArray, List.set_cons_succ, List.set_cons_zero]
        go_big_quiet_want
        refine ⟨.pointer (some ⟨w.heap.size, 2, none⟩), fun w' hw => (by go_simp), ?_⟩
        go_big_quiet_on
        simp only [Act.put, Array.setIfInBounds, List.size_toArray, List.length_cons, List.length_nil, Nat.reduceAdd, Nat.reduceLT, ↓reduceDIte, List.set_toArray, List.set_cons_succ, List.set_cons_zero]
        go_big_quiet_want
        refine ⟨.slice (some ⟨xb, xo, none⟩) a.kids.length kcap, fun w' hw => ?_, ?_⟩
        · obtain ⟨f0, f1, f2, f3, f4, f5, f6, f7, f8, f9, f10, f11⟩ := HS.out w' hw
          go_simp
        go_big_quiet_on
        simp only [Act.put, Array.setIfInBounds, List.size_toArray, List.length_cons, List.length_nil, Nat.reduceAdd, Nat.reduceLT, ↓reduceDIte, List.set_toArray, List.set_cons_succ, List.set_cons_zero]
        go_big_quiet_want
        refine ⟨.pointer (some ⟨xb, xo, none⟩), fun w' hw => (by go_simp), ?_⟩
        go_big_quiet_on
        simp only [Act.put, Array.setIfInBounds, List.size_toArray, List.length_cons, List.length_nil, Nat.reduceAdd, Nat.reduceLT, ↓reduceDIte, List.set_toArray, List.set_cons_succ, List.set_cons_zero]
        go_big_quiet_want
        refine ⟨.agg #[.int .u8 ((nk0 a).op : Nat), .string (nk0 a).name, .slice xa (nk0 a).kids.length xc], fun w' hw => ?_, ?_⟩
        · obtain ⟨f0, f1, f2, f3, f4, f5, f6, f7, f8, f9, f10, f11⟩ := HS.out w' hw
          go_simp
        go_big_quiet_on
        simp only [Act.put, Array.setIfInBounds, List.size_toArray, List.length_cons, List.length_nil, Nat.reduceAdd, Nat.reduceLT, ↓reduceDIte, List.set_toArray, List.set_cons_succ, List.set_cons_zero]
        go_big_quiet_want
        refine ⟨.agg #[.int .u8 (b.op : Nat), .string b.name, .slice lad b.kids.length lcap], fun w' hw => ?_, ?_⟩
        · obtain ⟨f0, f1, f2, f3, f4, f5, f6, f7, f8, f9, f10, f11⟩ := HS.out w' hw
          go_simp
        go_big_quiet_on
        simp only [Act.put, Array.setIfInBounds, List.size_toArray, List.length_cons, List.length_nil, Nat.reduceAdd, Nat.reduceLT, ↓reduceDIte, List.set_toArray, List.set_cons_succ, List.set_cons_zero]
        go_big_quiet_want
        refine ⟨.bool false, fun w' hw => ?_, ?_⟩
        · go_simp
          exact (HSX.out w' hw).mono fun e w'' ⟨h1, h2⟩ => ⟨h1, hw.trans h2 (by simp) (by simp)⟩
        go_big_quiet_on
        simp only [Act.put, Array.setIfInBounds, List.size_toArray, List.length_cons, List.length_nil, Nat.reduceAdd, Nat.reduceLT, ↓reduceDIte, List.set_toArray, List.set_cons_succ, List.set_cons_zero]
        go_big_quiet_want
        refine ⟨.bool false, fun w' hw => (by go_simp), ?_⟩
        go_big_quiet_on
        simp only [Act.put, Array.setIfInBounds, List.size_toArray, List.length_cons, List.length_nil, Nat.reduceAdd, Nat.reduceLT, ↓reduceDIte, List.set_toArray, List.set_cons_succ, List.set_cons_zero]
        go_big_quiet_want
        refine ⟨.pointer (some ⟨w.heap.size, 2, none⟩), fun w' hw => (by go_simp), ?_⟩
        go_big_quiet_on
        simp only [Act.put, Array.setIfInBounds, List.size_toArray, List.length_cons, List.length_nil, Nat.reduceAdd, Nat.reduceLT, ↓reduceDIte, List.set_toArray, List.set_cons_succ, List.set_cons_zero]
        go_big_quiet_want
        refine ⟨.slice (some ⟨xb, xo, none⟩) a.kids.length kcap, fun w' hw => ?_, ?_⟩
        · obtain ⟨f0, f1, f2, f3, f4, f5, f6, f7, f8, f9, f10, f11⟩ := HS.out w' hw
          go_simp
        go_big_quiet_on
        simp only [Act.put, Array.setIfInBounds, List.size_toArray, List.length_cons, List.length_nil, Nat.reduceAdd, Nat.reduceLT, ↓reduceDIte, List.set_toArray, List.set_cons_succ, List.set_cons_zero]
        go_big_quiet_want
        refine ⟨.pointer (some ⟨xb, xo + 3, none⟩), fun w' hw => (by go_simp), ?_⟩
        go_big_quiet_on
        simp only [Act.put, Array.setIfInBounds, List.size_toArray, List.length_cons, List.length_nil, Nat.reduceAdd, Nat.reduceLT, ↓reduceDIte, List.set_toArray, List.set_cons_succ, List.set_cons_zero]
        go_big_quiet_want
        refine ⟨.agg #[.int .u8 ((nk1 a).op : Nat), .string (nk1 a).name, .slice za (nk1 a).kids.length zc], fun w' hw => ?_, ?_⟩
        · obtain ⟨f0, f1, f2, f3, f4, f5, f6, f7, f8, f9, f10, f11⟩ := HS.out w' hw
          go_simp
        go_big_quiet_on
        simp only [Act.put, Array.setIfInBounds, List.size_toArray, List.length_cons, List.length_nil, Nat.reduceAdd, Nat.reduceLT, ↓reduceDIte, List.set_toArray, List.set_cons_succ, List.set_cons_zero]
        go_big_quiet_want
        refine ⟨.agg #[.int .u8 (b.op : Nat), .string b.name, .slice lad b.kids.length lcap], fun w' hw => ?_, ?_⟩
        · obtain ⟨f0, f1, f2, f3, f4, f5, f6, f7, f8, f9, f10, f11⟩ := HS.out w' hw
          go_simp
        go_big_quiet_on
        simp only [Act.put, Array.setIfInBounds, List.size_toArray, List.length_cons, List.length_nil, Nat.reduceAdd, Nat.reduceLT, ↓reduceDIte, List.set_toArray, List.set_cons_succ, List.set_cons_zero]
        go_big_quiet_want
        refine ⟨.bool false, fun w' hw => ?_, ?_⟩
        · go_simp
          exact (HSZ.out w' hw).mono fun e w'' ⟨h1, h2⟩ => ⟨h1, hw.trans h2 (by simp) (by simp)⟩
        go_big_quiet_on
        simp only [Act.put, Array.setIfInBounds, List.size_toArray, List.length_cons, List.length_nil, Nat.reduceAdd, Nat.reduceLT, ↓reduceDIte, List.set_toArray, List.set_cons_succ, List.set_cons_zero]
        go_big_quiet_want
        refine ⟨.bool false, fun w' hw => (by go_simp), ?_⟩
        go_big_quiet_on
        simp only [Act.put, Array.setIfInBounds, List.size_toArray, List.length_cons, List.length_nil, Nat.reduceAdd, Nat.reduceLT, ↓reduceDIte, List.set_toArray, List.set_cons_succ, List.set_cons_zero]
        go_big_quiet_want
        refine ⟨.bool false, fun w' hw => (by go_simp), ?_⟩
        go_big_quiet_on
        simp only [Act.put, Array.setIfInBounds, List.size_toArray, List.length_cons, List.length_nil, Nat.reduceAdd, Nat.reduceLT, ↓reduceDIte, List.set_toArray, List.set_cons_succ, List.set_cons_zero]
        go_big_quiet_want
        refine ⟨.bool false, fun w' hw => (by go_simp), ?_⟩
        go_big_quiet_on
        simp only [Act.put, Array.setIfInBounds, List.size_toArray, List.length_cons, List.length_nil, Nat.reduceAdd, Nat.reduceLT, ↓reduceDIte, List.set_toArray, List.set_cons_succ, List.set_cons_zero]
        refine wpQuiet_nil ?_
        intro W1 hk1
        go_wp2
        go_ret
        exact ⟨rfl, HKV.out.trans hk1 (by simp) (by simp)⟩
  · have hao : ((a.op : Int) == (o : Int)) = false := by rw [beq_eq_false_iff_ne]; omega
    have hD : hasB a o b = false := by simp [hasB, ha]
    have HS : Hid (∀ w', Kept [] V w' → w'.cell? ⟨w.heap.size, 0, none⟩ = some (.int .u8 (a.op : Nat)) ∧ w'.cell? ⟨w.heap.size, 1, none⟩ = some (.string a.name) ∧ w'.cell? ⟨w.heap.size, 2, none⟩ = some (.slice kad a.kids.length kcap) ∧ w'.cell? ⟨w.heap.size + 1, 0, none⟩ = some (.int .u8 (b.op : Nat)) ∧ w'.cell? ⟨w.heap.size + 1, 1, none⟩ = some (.string b.name) ∧ w'.cell? ⟨w.heap.size + 1, 2, none⟩ = some (.slice lad b.kids.length lcap)) := fun w' k => ⟨cell_kept0 k c0, cell_kept0 k c1, cell_kept0 k c2, cell_kept0 k e0, cell_kept0 k e1, cell_kept0 k e2⟩
    rw [hD]
    clear hD hI hJ kV v0 v1 hV ga ho 
    (try clear ha); (try clear hs0); (try clear hs1); (try clear ez)
    go_enter Tryd.func132, Tryd.ntmps132
    go_upto_region 1 with (fail)
    rw [HVV.out]
    refine wp_region_quiet (C := fun w' => Kept [] V w') (by kernel_rfl) (by kernel_rfl) (HKS.out.drew) ?_
    simp only []
    go_big_quiet_want
    refine ⟨.pointer (some ⟨w.heap.size, 0, none⟩), fun w' hw => (by go_simp), ?_⟩
    go_big_quiet_on
    simp only [Act.put, Array.setIfInBounds, List.size_toArray, List.length_cons, List.length_nil, Nat.reduceAdd, Nat.reduceLT, ↓reduceDIte, List.set_toArray, List.set_cons_succ, List.set_cons_zero]
    go_big_quiet_want
    refine ⟨.int .u8 (a.op : Nat), fun w' hw => ?_, ?_⟩
    · obtain ⟨f0, f1, f2, f3, f4, f5⟩ := HS.out w' hw
      go_simp
    go_big_quiet_on
    simp only [Act.put, Array.setIfInBounds, List.size_toArray, List.length_cons, List.length_nil, Nat.reduceAdd, Nat.reduceLT, ↓reduceDIte, List.set_toArray, List.set_cons_succ, List.set_cons_zero]
    go_big_quiet_want
    refine ⟨.int .u8 (o : Nat), fun w' hw => (by go_simp), ?_⟩
    go_big_quiet_on
    simp only [Act.put, Array.setIfInBounds, List.size_toArray, List.length_cons, List.length_nil, Nat.reduceAdd, Nat.reduceLT, ↓reduceDIte, List.set_toArray, List.set_cons_succ, List.set_cons_zero]
    go_big_quiet_want
    refine ⟨.bool false, fun w' hw => (by go_simp), ?_⟩
    go_big_quiet_on
    simp only [Act.put, Array.setIfInBounds, List.size_toArray, List.length_cons, List.length_nil, Nat.reduceAdd, Nat.reduceLT, ↓reduceDIte, List.set_toArray, List.set_cons_succ, List.set_cons_zero]
    go_big_quiet_want
    refine ⟨.bool false, fun w' hw => (by go_simp), ?_⟩
    go_big_quiet_on
    simp only [Act.put, Array.setIfInBounds, List.size_toArray, List.length_cons, List.length_nil, Nat.reduceAdd, Nat.reduceLT, ↓reduceDIte, List.set_toArray, List.set_cons_succ, List.set_cons_zero]
    go_big_quiet_skip
    go_big_quiet_skip
    go_big_quiet_skip
    go_big_quiet_skip
    go_big_quiet_skip
    go_big_quiet_skip
    go_big_quiet_skip
    go_big_quiet_skip
    go_big_quiet_skip
    go_big_quiet_skip
    go_big_quiet_skip
    go_big_quiet_skip
    go_big_quiet_skip
    go_big_quiet_skip
    go_big_quiet_want
    refine ⟨.bool false, fun w' hw => (by go_simp), ?_⟩
    go_big_quiet_on
    simp only [Act.put, Array.setIfInBounds, List.size_toArray, List.length_cons, List.length_nil, Nat.reduceAdd, Nat.reduceLT, ↓reduceDIte, List.set_toArray, List.set_cons_succ, List.set_cons_zero]
    go_big_quiet_want
    refine ⟨.bool false, fun w' hw => (by go_simp), ?_⟩
    go_big_quiet_on
    simp only [Act.put, Array.setIfInBounds, List.size_toArray, List.length_cons, List.length_nil, Nat.reduceAdd, Nat.reduceLT, ↓reduceDIte, List.set_toArray, List.set_cons_succ, List.set_cons_zero]
    refine wpQuiet_nil ?_
    intro W1 hk1
    go_wp2
    go_ret
    exact ⟨rfl, HKV.out.trans hk1 (by simp) (by simp)⟩
theorem swap_facts {X : Nat → Prop} {w W1 : World} {z0 z1 z2 u v : Value} {a b : Tr} (k1 : Kept [] w W1) (hz : For3 W1 (w.heap.size + 1 + 1) z0 z1 z2) (ia : IsT (fun b => X b ∧ b < w.heap.size) W1 a u) (ib : IsT (fun b => X b ∧ b < w.heap.size) W1 b v) (b0 b1 b2 a0 a1 a2 : Value) :
    Kept [] w ((((((W1.setCell ⟨w.heap.size, 0, none⟩ b0).setCell ⟨w.heap.size, 1, none⟩ b1).setCell ⟨w.heap.size, 2, none⟩ b2).setCell ⟨w.heap.size + 1, 0, none⟩ a0).setCell ⟨w.heap.size + 1, 1, none⟩ a1).setCell ⟨w.heap.size + 1, 2, none⟩ a2) ∧ For3 ((((((W1.setCell ⟨w.heap.size, 0, none⟩ b0).setCell ⟨w.heap.size, 1, none⟩ b1).setCell ⟨w.heap.size, 2, none⟩ b2).setCell ⟨w.heap.size + 1, 0, none⟩ a0).setCell ⟨w.heap.size + 1, 1, none⟩ a1).setCell ⟨w.heap.size + 1, 2, none⟩ a2) (w.heap.size + 1 + 1) z0 z1 z2 ∧ IsT (fun b => X b ∧ b < w.heap.size) ((((((W1.setCell ⟨w.heap.size, 0, none⟩ b0).setCell ⟨w.heap.size, 1, none⟩ b1).setCell ⟨w.heap.size, 2, none⟩ b2).setCell ⟨w.heap.size + 1, 0, none⟩ a0).setCell ⟨w.heap.size + 1, 1, none⟩ a1).setCell ⟨w.heap.size + 1, 2, none⟩ a2) a u ∧ IsT (fun b => X b ∧ b < w.heap.size) ((((((W1.setCell ⟨w.heap.size, 0, none⟩ b0).setCell ⟨w.heap.size, 1, none⟩ b1).setCell ⟨w.heap.size, 2, none⟩ b2).setCell ⟨w.heap.size + 1, 0, none⟩ a0).setCell ⟨w.heap.size + 1, 1, none⟩ a1).setCell ⟨w.heap.size + 1, 2, none⟩ a2) b v ∧ ((((((W1.setCell ⟨w.heap.size, 0, none⟩ b0).setCell ⟨w.heap.size, 1, none⟩ b1).setCell ⟨w.heap.size, 2, none⟩ b2).setCell ⟨w.heap.size + 1, 0, none⟩ a0).setCell ⟨w.heap.size + 1, 1, none⟩ a1).setCell ⟨w.heap.size + 1, 2, none⟩ a2).heap.size = W1.heap.size := by
  have n0 : ¬ (X w.heap.size ∧ w.heap.size < w.heap.size) := fun h => by omega
  have n1 : ¬ (X (w.heap.size + 1) ∧ w.heap.size + 1 < w.heap.size) := fun h => by omega
  refine ⟨(((((k1.setCell (p := ⟨w.heap.size, 0, none⟩) (.inr (Nat.le_refl _)) _).setCell (p := ⟨w.heap.size, 1, none⟩) (.inr (Nat.le_refl _)) _).setCell (p := ⟨w.heap.size, 2, none⟩) (.inr (Nat.le_refl _)) _).setCell (p := ⟨w.heap.size + 1, 0, none⟩) (.inr (Nat.le_succ _)) _).setCell (p := ⟨w.heap.size + 1, 1, none⟩) (.inr (Nat.le_succ _)) _).setCell (p := ⟨w.heap.size + 1, 2, none⟩) (.inr (Nat.le_succ _)) _, ?_, (((((ia.other n0 _ _).other n0 _ _).other n0 _ _).other n1 _ _).other n1 _ _).other n1 _ _, (((((ib.other n0 _ _).other n0 _ _).other n0 _ _).other n1 _ _).other n1 _ _).other n1 _ _, by simp [World.setCell]⟩
  have k : Kept [w.heap.size, w.heap.size + 1] W1 ((((((W1.setCell ⟨w.heap.size, 0, none⟩ b0).setCell ⟨w.heap.size, 1, none⟩ b1).setCell ⟨w.heap.size, 2, none⟩ b2).setCell ⟨w.heap.size + 1, 0, none⟩ a0).setCell ⟨w.heap.size + 1, 1, none⟩ a1).setCell ⟨w.heap.size + 1, 2, none⟩ a2) := ((((((Kept.refl _ W1).setCell (p := ⟨w.heap.size, 0, none⟩) (.inl (by simp)) _).setCell (p := ⟨w.heap.size, 1, none⟩) (.inl (by simp)) _).setCell (p := ⟨w.heap.size, 2, none⟩) (.inl (by simp)) _).setCell (p := ⟨w.heap.size + 1, 0, none⟩) (.inl (by simp)) _).setCell (p := ⟨w.heap.size + 1, 1, none⟩) (.inl (by simp)) _).setCell (p := ⟨w.heap.size + 1, 2, none⟩) (.inl (by simp)) _
  exact k.at hz (by simp; omega)
theorem IsT.old {X : Nat → Prop} {w w' : World} (k : Kept [] w w') {t : Tr} {kv : Value} (h : IsT X w t kv) : IsT (fun b => X b ∧ b < w.heap.size) w' t kv := by
  induction t using Tr.ind generalizing kv with
  | h t ih =>
    obtain ⟨ad, cap, e, h⟩ := (isT_eq t kv).1 h
    refine (isT_eq t kv).2 ⟨ad, cap, e, ?_⟩
    rcases Nat.eq_zero_or_pos t.kids.length with h0 | h0
    · exact .inl h0
    · obtain ⟨b, off, e1, hb, hk⟩ := h.resolve_left (by omega)
      obtain ⟨kv0, c0, _⟩ := hk 0 h0
      refine .inr ⟨b, off, e1, ⟨hb, World.block_lt_of_cell? w _ c0⟩, fun i hi => ?_⟩
      obtain ⟨kv', c0, c1, c2, hr⟩ := hk i hi
      exact ⟨kv', cell_kept0 k c0, cell_kept0 k c1, cell_kept0 k c2, ih _ (List.getElem_mem _) hr⟩
set_option maxHeartbeats 2000000 in
set_option maxRecDepth 20000 in
theorem ord_any (X : Nat → Prop) (o : Nat) (a b : Tr) (kv lv : Value) (w : World) (hX : ∀ k, w.heap.size ≤ k → X k) (hI : IsT X w a kv) (hJ : IsT X w b lv) (hsa : a.size ≤ 1099511627776) (hsb : b.size ≤ 1099511627776) :
    Calls Tryd.prog 133 #[.int .u8 (o : Nat), .agg #[.int .u8 (a.op : Nat), .string a.name, kv], .agg #[.int .u8 (b.op : Nat), .string b.name, lv]] w (GivesX X w (sOrd o a b)) := by
  obtain ⟨kad, kcap, rfl⟩ := hI.slice
  obtain ⟨lad, lcap, rfl⟩ := hJ.slice
  obtain ⟨V, hV⟩ : ∃ V, ((w.alloc (.cells #[.int .u8 (a.op : Nat), .string a.name, .slice kad a.kids.length kcap] 25)).alloc (.cells #[.int .u8 (b.op : Nat), .string b.name, .slice lad b.kids.length lcap] 25)).alloc (.cells #[.int .u8 0, .string ⟨#[]⟩, .slice none 0 0] 25) = V := ⟨_, rfl⟩
  have kV : Kept [] w V := by rw [← hV]; exact (((Kept.refl [] w).alloc _).alloc _).alloc _
  have v0 : For3 V w.heap.size (.int .u8 (a.op : Nat)) (.string a.name) (.slice kad a.kids.length kcap) := by rw [← hV]; exact alUp (alUp (al0 _ _) _) _
  have v1 : For3 V (w.heap.size + 1) (.int .u8 (b.op : Nat)) (.string b.name) (.slice lad b.kids.length lcap) := by rw [← hV]; exact alUp (al1 _ _ _) _
  have v2 : For3 V (w.heap.size + 1 + 1) (.int .u8 0) (.string ⟨#[]⟩) (.slice none 0 0) := by rw [← hV]; exact al2 _ _ _ _
  have HCM : Hid (Calls Tryd.prog 20 #[.agg #[.int .u8 (b.op : Nat), .string b.name, .slice lad b.kids.length lcap], .agg #[.int .u8 (a.op : Nat), .string a.name, .slice kad a.kids.length kcap]] V fun e w' => e = .returned (.int .i64 (cmpT b a)) ∧ Kept [] V w') := by
    refine (cmp_any b a _ _ V (hJ.isF.kept kV) (hI.isF.kept kV) hsb hsa).mono ?_
    rintro e w' ⟨h1, h2⟩
    exact ⟨h1, h2.kept⟩
  have HFO : Hid (∀ (o : Nat) ad n c W, Calls Tryd.prog 129 #[.int .u8 (o : Nat), .slice ad n c] W fun e w' => e = .returned (.agg #[.int .u8 (o : Nat), .string nE, .slice ad n c]) ∧ Kept [] W w') := formulaOf_any
  have HVV : Hid (_ = V) := hV
  have HKV : Hid (Kept [] w V) := kV
  have HIA : Hid (∀ W, Kept [] V W → IsT (fun b => X b ∧ b < w.heap.size) W a (.slice kad a.kids.length kcap)) := fun W k => hI.old (kV.trans k (by simp) (by simp))
  have HIB : Hid (∀ W, Kept [] V W → IsT (fun b => X b ∧ b < w.heap.size) W b (.slice lad b.kids.length lcap)) := fun W k => hJ.old (kV.trans k (by simp) (by simp))
  have HXX : Hid (∀ k, w.heap.size ≤ k → X k) := hX
  have HV0 : Hid (For3 V w.heap.size (.int .u8 (a.op : Nat)) (.string a.name) (.slice kad a.kids.length kcap)) := v0
  have HV1 : Hid (For3 V (w.heap.size + 1) (.int .u8 (b.op : Nat)) (.string b.name) (.slice lad b.kids.length lcap)) := v1
  have HV2 : Hid (For3 V (w.heap.size + 1 + 1) (.int .u8 0) (.string ⟨#[]⟩) (.slice none 0 0)) := v2
  obtain ⟨c0, c1, c2, -⟩ := v0.cells
  obtain ⟨e0, e1, e2, -⟩ := v1.cells
  have hz := lt_of v2
  by_cases hc : cmpT b a < 0
  · have hS : sOrd o a b = nn2 o b a := by unfold sOrd; rw [if_pos hc]
    rw [hS]
    clear hS hI hJ kV v0 v1 v2 hV hX
    generalize cmpT b a = cm at *
    go_enter Tryd.func133, Tryd.ntmps133
    go_upto_region 1 with (fail)
    rw [HVV.out]
    go_wp2_with (first
      | (go_at_call 20; refine HCM.out.mono ?_; rintro e W1 ⟨rfl, k1⟩; have HK1 : Hid (Kept [] V W1) := k1; obtain ⟨x0, x1, x2, xf⟩ := (HV0.out.kept k1).cells; obtain ⟨y0, y1, y2, yf⟩ := (HV1.out.kept k1).cells; have hz1 := k1.size; have n1 : ¬ w.heap.size = W1.heap.size := (by omega); have n2 : ¬ w.heap.size + 1 = W1.heap.size := (by omega); have n3 : ¬ W1.heap.size = w.heap.size := (by omega); have n4 : ¬ W1.heap.size = w.heap.size + 1 := (by omega); clear k1)
      | (go_at_call 129; refine (HFO.out o _ _ _ _).mono ?_; rintro e W2 ⟨rfl, k2⟩; obtain ⟨s1, s2, s3, s4, s5⟩ := swap_facts (HKV.out.trans HK1.out (by simp) (by simp)) (HV2.out.kept HK1.out) (HIA.out _ HK1.out) (HIB.out _ HK1.out) (.int .u8 (b.op : Nat)) (.string b.name) (.slice lad b.kids.length lcap) (.int .u8 (a.op : Nat)) (.string a.name) (.slice kad a.kids.length kcap); have HK2 : Hid (Kept [] w W2) := (s1.alloc _).trans k2 (by simp) (by simp); have hz2 : For3 W2 (w.heap.size + 1 + 1) (.int .u8 0) (.string ⟨#[]⟩) (.slice none 0 0) := (For3.kept s2 ((Kept.refl [] _).alloc _)).kept k2; obtain ⟨u0, u1, u2, uf⟩ := hz2.cells; have HZ2 : Hid (For3 W2 (w.heap.size + 1 + 1) (.int .u8 0) (.string ⟨#[]⟩) (.slice none 0 0)) := hz2; have HT2 : Hid (IsT (fun b => X b ∧ b ≠ w.heap.size + 1 + 1) W2 (nn2 o b a) (.slice (some ⟨W1.heap.size, 0, none⟩) 2 2)) := (isT_two ⟨HXX.out _ (by omega), by omega⟩ (by rw [← s5]; exact al0 _ _) ((s4.keptX ((Kept.refl [] _).alloc _)).mono (fun b hb => ⟨hb.1, by omega⟩)) ((s3.keptX ((Kept.refl [] _).alloc _)).mono (fun b hb => ⟨hb.1, by omega⟩))).keptX k2; clear k2 hz2 s1 s2 s3 s4 s5))
    exact gives_end rfl rfl rfl HZ2.out HT2.out HK2.out (by omega)
  · have hS : sOrd o a b = nn2 o a b := by unfold sOrd; rw [if_neg hc]
    rw [hS]
    clear hS hI hJ kV v0 v1 v2 hV hX
    generalize cmpT b a = cm at *
    go_enter Tryd.func133, Tryd.ntmps133
    go_upto_region 1 with (fail)
    rw [HVV.out]
    go_wp2_with (first
      | (go_at_call 20; refine HCM.out.mono ?_; rintro e W1 ⟨rfl, k1⟩; have HK1 : Hid (Kept [] V W1) := k1; obtain ⟨x0, x1, x2, xf⟩ := (HV0.out.kept k1).cells; obtain ⟨y0, y1, y2, yf⟩ := (HV1.out.kept k1).cells; have hz1 := k1.size; clear k1)
      | (go_at_call 129; refine (HFO.out o _ _ _ _).mono ?_; rintro e W2 ⟨rfl, k2⟩; have HK2 : Hid (Kept [] V W2) := (HK1.out.alloc _).trans k2 (by simp) (by simp); obtain ⟨u0, u1, u2, uf⟩ := (HV2.out.kept HK2.out).cells; have HT2 : Hid (IsT (fun b => X b ∧ b ≠ w.heap.size + 1 + 1) W2 (nn2 o a b) (.slice (some ⟨W1.heap.size, 0, none⟩) 2 2)) := (isT_two ⟨HXX.out _ (by omega), by omega⟩ (al0 W1 _) ((HIA.out _ (HK1.out.alloc _)).mono (fun b hb => ⟨hb.1, by omega⟩)) ((HIB.out _ (HK1.out.alloc _)).mono (fun b hb => ⟨hb.1, by omega⟩))).keptX k2; clear k2))
    exact gives_end rfl rfl rfl (HV2.out.kept HK2.out) HT2.out (HKV.out.trans HK2.out (by simp) (by simp)) (by omega)
end Go.Proofs.YtddgciilcghbaaaDoor
