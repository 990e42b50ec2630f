/- eval.New. -/
import Derived.Test.YtondmjnagkldpaaDoorEvNew
import Derived.Test.YtondmjnagkldpaaDoorEvTab
namespace Go.Proofs.YtondmjnagkldpaaDoor
open Go.RowKit Go.Shelf Go.Maps

def listBool (xs : List ByteArray) : Bool := decide (xs.length ≤ 8) && (List.range xs.length).all fun j => nameB (xs.getD j ⟨#[]⟩).data.toList && !hasN (xs.take j) (xs.getD j ⟨#[]⟩)
theorem listBool_iff (xs : List ByteArray) : listBool xs = true ↔ listB xs := by
  unfold listBool listB listTo
  rw [Bool.and_eq_true, decide_eq_true_eq, List.all_eq_true]
  refine and_congr_right fun _ => ⟨fun h j hj _ => ?_, fun h j hj => ?_⟩
  · have := h j (List.mem_range.2 hj)
    rw [Bool.and_eq_true, List.getD_eq_getElem?_getD, List.getElem?_eq_getElem hj] at this
    exact ⟨this.1, by simpa using this.2⟩
  · have hj' := List.mem_range.1 hj
    have := h j hj' hj'
    rw [Bool.and_eq_true, List.getD_eq_getElem?_getD, List.getElem?_eq_getElem hj']
    exact ⟨this.1, by simpa using this.2⟩
theorem check_zero {q : Wd} {n : Nat} (h : checkE q n = 0) : 0 < q.loop.length := by
  unfold checkE at h
  split at h
  · cases h
  · split at h
    · cases h
    · rename_i h1; omega
/-- What New leaves where it makes a table. -/
def NewPost (w : World) (q : Wd) (xs : List ByteArray) (e : Ending) (w' : World) : Prop :=
  ∃ p m nv sv lv w₁, e = .returned (.tuple #[.pointer (some ⟨p, 0, none⟩), .int .i64 0]) ∧ TabIs w₁ w' p m nv sv lv (.slice none 0 0) q xs [] ∧ Kept [] w w' ∧ w.heap.size ≤ m ∧ w.heap.size ≤ w₁.heap.size
theorem newPost_of {w w₁ : World} {q : Wd} {xs : List ByteArray} {nv su lu : Value} {m P : Nat} (hP : w₁.heap.size = P) (hW : IsW w₁ su lu q) (hN : Strs w₁ nv xs) (hm : w₁.ownsMap Tryd.prog 9 (plainElem Tryd.prog 3) m 0 (.map [] : DataW Unit)) (hk : Kept [] w w₁) (hw : w.heap.size ≤ m) :
    NewPost w q xs (.returned (.tuple #[.pointer (some ⟨P, 0, none⟩), .int .i64 0])) (w₁.alloc (.cells #[nv, su, lu, .slice none 0 0, .map (some m)] 70)) := by
  subst hP
  have hmb : ∃ es c, w₁.heap[m]? = some (.map es c) := by
    obtain ⟨es, c, hb, _⟩ := hm
    exact ⟨es, c, hb⟩
  refine ⟨w₁.heap.size, m, nv, su, lu, w₁, rfl, ⟨hW, hN, hmb, (Kept.refl [m] w₁).alloc _, Nat.le_refl _, heap_alloc_new _ _, ⟨[], World.ownsRow_nil _ _ _ _, fun i hi => by simp at hi⟩, ⟨_, hm.alloc _, KnownOf.nil⟩⟩, hk.alloc _, hw, hk.size⟩

set_option maxHeartbeats 4000000 in
set_option maxRecDepth 20000 in
theorem new_ok (v sv lv : Value) (xs : List ByteArray) (q : Wd) (w : World) (hN : Strs w v xs) (hW : IsW w sv lv q) (hT : KidsTab w) (hl : listBool xs = true) (hc : checkE q xs.length = 0) :
    Calls Tryd.prog 18 #[v, .agg #[sv, lv]] w (NewPost w q xs) := by
  have h8 : xs.length ≤ 8 := ((listBool_iff xs).1 hl).1
  have hmm := @run_makeMap Tryd.prog
  obtain ⟨V, hV⟩ : ∃ V, w.alloc (.cells #[sv, lv] 30) = V := ⟨_, rfl⟩
  have kV : Kept [] w V := by rw [← hV]; exact (Kept.refl [] w).alloc _
  have v0 : Wd2 V w.heap.size sv lv := by rw [← hV]; exact heap_alloc_new w _
  have HL : Hid (Calls Tryd.prog 33 #[v] V fun e w' => e = .returned (.bool true) ∧ Kept [] V w') := isList_any v xs V (hN.kept kV) (hT.kept kV) true (by rw [← listBool_iff, hl])
  have HCH : Hid (∀ W, Kept [] V W → Calls Tryd.prog 34 #[.agg #[sv, lv], .int .i64 (xs.length : Nat)] W fun e w' => e = .returned (.int .i64 0) ∧ Kept [] W w') := fun W k => by
    have := check_good sv lv q xs.length W ((hW.kept kV).kept k) h8
    rw [hc] at this
    exact this
  have HCS : Hid (∀ W, Kept [] V W → Calls Tryd.prog 35 #[v] W fun e w' => ∃ u, e = .returned u ∧ Strs w' u xs ∧ Kept [] W w') := fun W k => cloneS_any v xs W ((hN.kept kV).kept k)
  have HU1 : Hid (∀ W, Kept [] V W → Calls Tryd.prog 36 #[sv] W fun e w' => ∃ u, e = .returned u ∧ Lets w' u q.stem ∧ Kept [] W w') := fun W k => cloneU_any sv q.stem W ((hW.kept kV).kept k).st
  have HU2 : Hid (∀ W, Kept [] V W → Calls Tryd.prog 36 #[lv] W fun e w' => ∃ u, e = .returned u ∧ Lets w' u q.loop ∧ Kept [] W w') := fun W k => cloneU_any lv q.loop W ((hW.kept kV).kept k).lp
  have HFW : Hid _ := hW.few
  obtain ⟨ad, c, rfl, _⟩ := hN.form
  obtain ⟨ast, cs, rfl, _, _⟩ := hW.st.form
  obtain ⟨al, cl, rfl, _, _⟩ := hW.lp.form
  have HKV : Hid (Kept [] w V) := kV
  have HV0 : Hid (Wd2 V w.heap.size (.slice ast q.stem.length cs) (.slice al q.loop.length cl)) := v0
  have HVV : Hid (_ = V) := hV
  rw [← hV] at HL
  clear hN hW hT hl hc kV v0 hV
  go_enter Tryd.func18, Tryd.ntmps18
  go_wp2_with (first
    | (go_at_call 33; refine HL.out.mono ?_; rintro e w1 ⟨rfl, k1⟩; rw [HVV.out] at k1; have HK1 : Hid (Kept [] V w1) := k1; obtain ⟨f0, f1, _, _⟩ := (HV0.out.kept k1).cells; clear k1)
    | (go_at_call 34; refine (HCH.out _ HK1.out).mono ?_; rintro e U ⟨rfl, k2⟩; have HKU : Hid (Kept [] V U) := HK1.out.trans k2 (by simp) (by simp); clear k2))
  have hS : ∀ W, Kept [] U W → (W.cell? ⟨w.heap.size, 0, none⟩ = some (.slice ast q.stem.length cs) ∧ W.cell? ⟨w.heap.size, 1, none⟩ = some (.slice al q.loop.length cl)) := fun W k => by
    obtain ⟨g0, g1, _, _⟩ := ((HV0.out.kept HKU.out).kept k).cells
    exact ⟨g0, g1⟩
  have HS : Hid _ := hS
  obtain ⟨e0, e1⟩ := hS U (Kept.refl [] U)
  have hzU := (HKV.out.trans HKU.out (H := []) (by simp) (by simp)).size
  have HZU : Hid _ := hzU
  clear hS hzU
  go_region_held3 (fun w' => w'.cell? ⟨w.heap.size, 0, none⟩ = some (.slice ast q.stem.length cs) ∧ w'.cell? ⟨w.heap.size, 1, none⟩ = some (.slice al q.loop.length cl))
    ((refine HS.out _ ?_; (repeat (first | exact Kept.refl [] _ | refine Kept.drew ?_ | refine Kept.alloc ?_ _ | refine Kept.trans (F := []) (G := []) (H := []) ?_ HKS.out (by simp) (by simp) | refine Kept.trans (F := []) (G := []) (H := []) ?_ HKA.out (by simp) (by simp) | refine Kept.trans (F := []) (G := []) (H := []) ?_ HKB.out (by simp) (by simp)))))
    (first
    | (go_at_call 35; refine (HCS.out _ (by repeat (first | exact HKU.out | refine Kept.drew ?_ | refine Kept.alloc ?_ _ | refine Kept.trans (F := []) (G := []) (H := []) ?_ HKA.out (by simp) (by simp) | refine Kept.trans (F := []) (G := []) (H := []) ?_ HKB.out (by simp) (by simp)))).mono ?_; rintro e WS ⟨us, rfl, hs, ks⟩; obtain ⟨sad, scp, rfl, _, _⟩ := hs.form; have HKS : Hid _ := ks; have HSS : Hid (Strs WS (.slice sad xs.length scp) xs) := hs; clear ks hs)
    | (go_at_call 36; (with_reducible show Calls _ _ #[.slice ast _ _] _ _); refine (HU1.out _ (by repeat (first | exact HKU.out | refine Kept.drew ?_ | refine Kept.alloc ?_ _ | refine Kept.trans (F := []) (G := []) (H := []) ?_ HKS.out (by simp) (by simp) | refine Kept.trans (F := []) (G := []) (H := []) ?_ HKB.out (by simp) (by simp)))).mono ?_; rintro e WA ⟨ua, rfl, ha, ka⟩; obtain ⟨aad, acp, rfl, _, _⟩ := ha.form; have HKA : Hid _ := ka; have HAA : Hid (Lets WA (.slice aad q.stem.length acp) q.stem) := ha; clear ka ha)
    | (go_at_call 36; (with_reducible show Calls _ _ #[.slice al _ _] _ _); refine (HU2.out _ (by repeat (first | exact HKU.out | refine Kept.drew ?_ | refine Kept.alloc ?_ _ | refine Kept.trans (F := []) (G := []) (H := []) ?_ HKS.out (by simp) (by simp) | refine Kept.trans (F := []) (G := []) (H := []) ?_ HKA.out (by simp) (by simp)))).mono ?_; rintro e WB ⟨ub, rfl, hb, kb⟩; obtain ⟨bad, bcp, rfl, _, _⟩ := hb.form; have HKB : Hid _ := kb; have HBB : Hid (Lets WB (.slice bad q.loop.length bcp) q.loop) := hb; clear kb hb))
  all_goals
    have z1 := HZU.out
    have z2 := HKS.out.size
    have z3 := HKA.out.size
    have z4 := HKB.out.size
    try simp only [drew_heap] at z2 z3 z4
    try simp only [World.size_alloc] at z2 z3 z4
    have HZ : Hid (w.heap.size ≤ U.heap.size ∧ w.heap.size ≤ WS.heap.size ∧ w.heap.size ≤ WA.heap.size ∧ w.heap.size ≤ WB.heap.size) := ⟨by omega, by omega, by omega, by omega⟩
    clear z1 z2 z3 z4
    go_wp2_with fail
    go_ret2
    refine newPost_of (w₁ := _) ?_ ⟨?_, ?_, HFW.out⟩ ?_ ?_ ?_ ?_
    · first | rfl | exact World.size_alloc _ _
    · repeat (first | exact HAA.out | refine Lets.kept ?_ HKB.out | refine Lets.kept ?_ ((Kept.refl [] _).alloc _))
    · repeat (first | exact HBB.out | refine Lets.kept ?_ ((Kept.refl [] _).alloc _))
    · repeat (first | exact HSS.out | refine Strs.kept ?_ HKB.out | refine Strs.kept ?_ HKA.out | refine Strs.kept ?_ ((Kept.refl [] _).alloc _))
    · repeat (first | exact World.ownsMap_made _ _ _ _ | refine World.ownsMap.kept ?_ (grownBy_of_kept HKB.out) (by simp) | refine World.ownsMap.kept ?_ (grownBy_of_kept HKA.out) (by simp) | refine World.ownsMap.kept ?_ (grownBy_of_kept HKS.out) (by simp))
    · repeat (first | exact HKV.out.trans HKU.out (by simp) (by simp) | refine Kept.drew ?_ | refine Kept.alloc ?_ _ | refine Kept.trans (F := []) (G := []) (H := []) ?_ HKB.out (by simp) (by simp) | refine Kept.trans (F := []) (G := []) (H := []) ?_ HKA.out (by simp) (by simp) | refine Kept.trans (F := []) (G := []) (H := []) ?_ HKS.out (by simp) (by simp))
    · obtain ⟨y1, y2, y3, y4⟩ := HZ.out
      assumption

set_option maxHeartbeats 1000000 in
set_option maxRecDepth 20000 in
theorem new_list (v sv lv : Value) (xs : List ByteArray) (q : Wd) (w : World) (hN : Strs w v xs) (hW : IsW w sv lv q) (hT : KidsTab w) (hl : listBool xs = false) :
    Calls Tryd.prog 18 #[v, .agg #[sv, lv]] w fun e w' => e = .returned (.tuple #[.pointer none, .int .i64 60]) ∧ Kept [] w w' := by
  have kV := (Kept.refl [] w).alloc (.cells #[sv, lv] 30)
  have HL : Hid (Calls Tryd.prog 33 #[v] (w.alloc (.cells #[sv, lv] 30)) fun e w' => e = .returned (.bool false) ∧ Kept [] (w.alloc (.cells #[sv, lv] 30)) w') := isList_any v xs _ (hN.kept kV) (hT.kept kV) false (by rw [← listBool_iff, hl])
  obtain ⟨ad, c, rfl, _⟩ := hN.form
  obtain ⟨ast, cs, rfl, _, _⟩ := hW.st.form
  obtain ⟨al, cl, rfl, _, _⟩ := hW.lp.form
  clear hN hW hT hl kV
  go_enter Tryd.func18, Tryd.ntmps18
  go_wp2_with (go_at_call 33; refine HL.out.mono ?_; rintro e w1 ⟨rfl, k1⟩; have HK1 : Hid (Kept [] _ w1) := k1; clear k1)
  go_ret2
  exact ⟨rfl, ((Kept.refl [] w).alloc _).trans HK1.out (by simp) (by simp)⟩
set_option maxHeartbeats 1000000 in
set_option maxRecDepth 20000 in
theorem new_word (v sv lv : Value) (xs : List ByteArray) (q : Wd) (w : World) (hN : Strs w v xs) (hW : IsW w sv lv q) (hT : KidsTab w) (hl : listBool xs = true) (hc : checkE q xs.length ≠ 0) :
    Calls Tryd.prog 18 #[v, .agg #[sv, lv]] w fun e w' => e = .returned (.tuple #[.pointer none, .int .i64 61]) ∧ Kept [] w w' := by
  have h8 : xs.length ≤ 8 := ((listBool_iff xs).1 hl).1
  obtain ⟨V, hV⟩ : ∃ V, w.alloc (.cells #[sv, lv] 30) = V := ⟨_, rfl⟩
  have kV : Kept [] w V := by rw [← hV]; exact (Kept.refl [] w).alloc _
  have v0 : Wd2 V w.heap.size sv lv := by rw [← hV]; exact heap_alloc_new w _
  have HL : Hid (Calls Tryd.prog 33 #[v] V fun e w' => e = .returned (.bool true) ∧ Kept [] V w') := isList_any v xs V (hN.kept kV) (hT.kept kV) true (by rw [← listBool_iff, hl])
  obtain ⟨ce, hce⟩ : ∃ ce, checkE q xs.length = ce := ⟨_, rfl⟩
  have HCH : Hid (∀ W, Kept [] V W → Calls Tryd.prog 34 #[.agg #[sv, lv], .int .i64 (xs.length : Nat)] W fun e w' => e = .returned (.int .i64 (ce : Nat)) ∧ Kept [] W w') := fun W k => by
    have := check_good sv lv q xs.length W ((hW.kept kV).kept k) h8
    rw [hce] at this
    exact this
  rw [hce] at hc
  have hne : ((ce : Int) != 0) = true := by rw [bne_iff_ne]; omega
  obtain ⟨ad, c, rfl, _⟩ := hN.form
  obtain ⟨ast, cs, rfl, _, _⟩ := hW.st.form
  obtain ⟨al, cl, rfl, _, _⟩ := hW.lp.form
  have HKV : Hid (Kept [] w V) := kV
  have HV0 : Hid (Wd2 V w.heap.size (.slice ast q.stem.length cs) (.slice al q.loop.length cl)) := v0
  have HVV : Hid (_ = V) := hV
  rw [← hV] at HL
  clear hN hW hT hl hc kV v0 hV hce
  go_enter Tryd.func18, Tryd.ntmps18
  go_wp2_with (first
    | (go_at_call 33; refine HL.out.mono ?_; rintro e w1 ⟨rfl, k1⟩; rw [HVV.out] at k1; have HK1 : Hid (Kept [] V w1) := k1; obtain ⟨f0, f1, _, _⟩ := (HV0.out.kept k1).cells; clear k1)
    | (go_at_call 34; refine (HCH.out _ HK1.out).mono ?_; rintro e U ⟨rfl, k2⟩; have HKU : Hid (Kept [] V U) := HK1.out.trans k2 (by simp) (by simp); clear k2))
  go_ret2
  exact ⟨rfl, HKV.out.trans HKU.out (by simp) (by simp)⟩
end Go.Proofs.YtondmjnagkldpaaDoor
