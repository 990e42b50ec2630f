/- eval.isList, slices.Clone, eval.New. -/
import Derived.Test.YtddgciilcghbaaaDoorEvFits
import Derived.Test.YtddgciilcghbaaaDoorWdCheck
import Derived.WalkLawsBesides
import Derived.Test.YtddgciilcghbaaaDoorEvRow2
namespace Go.Proofs.YtddgciilcghbaaaDoor
open Go.RowKit Go.Shelf

/-- Is it a list of names. -/
def listTo (xs : List ByteArray) (k : Nat) : Prop := ∀ j (h : j < xs.length), j < k → nameB xs[j].data.toList = true ∧ hasN (xs.take j) xs[j] = false
def listB (xs : List ByteArray) : Prop := xs.length ≤ 8 ∧ listTo xs xs.length
theorem right_name (s : ByteArray) : rightN pastB ⟨3, s, []⟩ = if nameB s.data.toList then 0 else 30 := by
  unfold rightN Tr.every
  rw [Tr.parts_eq]
  have e : kidsParts [] ([] : List Tr) = [] := rfl
  simp only [e, List.all_cons, List.all_nil, Bool.and_true]
  have h1 : rightQ pastB ⟨3, s, []⟩ = nameB s.data.toList := by
    unfold rightQ formedB
    simp [pastB, kidsN, kidsL]
  rw [h1]
  have hs : (⟨3, s, []⟩ : Tr).size = 1 := by rw [Tr.size_eq]; rfl
  have hd : (⟨3, s, []⟩ : Tr).depth = 1 := by rw [Tr.depth_eq]; rfl
  rw [hs, hd]
  cases nameB s.data.toList <;> rfl
theorem Strs.take {W : World} {b o c : Nat} {xs : List ByteArray} (h : Strs W (.slice (some ⟨b, o, none⟩) xs.length c) xs) (n : Nat) (hn : n ≤ xs.length) : Strs W (.slice (some ⟨b, o, none⟩) n c) (xs.take n) := by
  have hl : (xs.take n).length = n := by rw [List.length_take]; omega
  refine ⟨by have := h.few; omega, fun x hx => h.small x (List.mem_of_mem_take hx), .inr ⟨b, o, c, by rw [hl], ?_⟩⟩
  rcases h.lie with ⟨h1, _⟩ | ⟨b', o', c', h1, h2, h3, h4⟩
  · cases h1
  · simp only [Value.slice.injEq, Option.some.injEq, Addr.mk.injEq, and_true, true_and] at h1
    obtain ⟨⟨rfl, rfl⟩, rfl⟩ := h1
    refine ⟨by omega, h3, fun i hi => ?_⟩
    rw [h4 i (by omega)]
    simp
theorem leafF (w : World) (s : ByteArray) : IsF w ⟨3, s, []⟩ (.slice none 0 0) := IsT.leaf _ w rfl none 0

set_option maxHeartbeats 2000000 in
set_option maxRecDepth 20000 in
theorem isList_any (v : Value) (xs : List ByteArray) (w : World) (hx : Strs w v xs) (hT : KidsTab w) (bb : Bool) (hb : bb = true ↔ listB xs) :
    Calls Tryd.prog 60 #[v] w fun e w' => e = .returned (.bool bb) ∧ Kept [] w w' := by
  have fx := hx.few
  by_cases h8 : xs.length ≤ 8
  · have h8i : ¬ (8 : Int) < (xs.length : Int) := by omega
    have HB : Hid (bb = true ↔ listTo xs xs.length) := by show _ ↔ _; rw [hb]; exact ⟨fun h => h.2, fun h => ⟨h8, h⟩⟩
    clear hb
    by_cases h0 : 0 < xs.length
    · obtain ⟨b, o, c, rfl, hc1, hc2, hc⟩ := hx.there h0
      have HC : Hid (∀ i (h : i < xs.length), w.cell? ⟨b, o + i, none⟩ = some (.string xs[i])) := hc
      have HRI : Hid (∀ W (s : ByteArray), Kept [] w W → s.size ≤ maxLen → Calls Tryd.prog 19 #[.agg #[.int .u8 3, .string s, .slice none 0 0]] W fun e w' => e = .returned (.int .i64 ((if nameB s.data.toList then 0 else 30 : Nat) : Nat)) ∧ Kept [] W w') := fun W s k hs => by
        have := right_any ⟨3, s, []⟩ (.slice none 0 0) W (leafF W s) (by rw [show (⟨3, s, []⟩ : Tr).size = 1 from by rw [Tr.size_eq]; rfl]; omega) (by rw [show (⟨3, s, []⟩ : Tr).depth = 1 from by rw [Tr.depth_eq]; rfl]; omega) ((Tr.all_eq _).2 ⟨⟨by show 3 < 256; omega, hs⟩, fun k hk => by cases hk⟩) (hT.kept k)
        rw [right_name] at this
        exact this
      have HCO : Hid (∀ W (n : Nat) (s : ByteArray), Kept [] w W → n ≤ xs.length → Calls Tryd.prog 71 #[.slice (some ⟨b, o, none⟩) n c, .string s] W fun e w' => e = .returned (.bool (hasN (xs.take n) s)) ∧ w' = W) := fun W n s k hn => containsS_any _ _ s W ((hx.kept k).take n hn)
      have HSM : Hid _ := hx.small
      clear hx hT hc
      go_enter Tryd.func60, Tryd.ntmps60
      go_wp2_with fail
      go_loopw [10] (fun v10 wr => ∃ k : Nat, k ≤ xs.length ∧ v10 = .int .i64 (k : Nat) ∧ Hid (Kept [] w wr ∧ listTo xs k)) (fun v10 _ => xs.length - (intOf v10).toNat)
      case atStart => exact ⟨0, Nat.zero_le _, rfl, Kept.refl [] w, fun j _ h => by omega⟩
      case round =>
        obtain ⟨k, hk, rfl, HF⟩ := hrel
        by_cases hlt : k < xs.length
        · have hlt' : (k : Int) < (xs.length : Int) := by omega
          have b0 : (0 : Int) ≤ (k : Int) := by omega
          have d1 := cell_kept0 HF.out.1 (HC.out k hlt)
          have hkc : (k : Int) ≤ (c : Int) := by omega
          have HRK : Hid _ := HRI.out wr xs[k] HF.out.1 (HSM.out _ (List.getElem_mem _))
          have HCK : Hid (∀ W, Kept [] w W → Calls Tryd.prog 71 #[.slice (some ⟨b, o, none⟩) k c, .string xs[k]] W fun e w' => e = .returned (.bool (hasN (xs.take k) xs[k])) ∧ w' = W) := fun W kk => HCO.out W k xs[k] kk hk
          cases hn : nameB xs[k].data.toList with
          | false =>
            have HNO : Hid (bb = false) := by
              show bb = false
              cases hbb : bb with
              | false => rfl
              | true => have := (HB.out.1 hbb k hlt hlt).1; rw [hn] at this; cases this
            have HRK2 : Hid (Calls Tryd.prog 19 #[.agg #[.int .u8 3, .string xs[k], .slice none 0 0]] wr fun e w' => e = .returned (.int .i64 30) ∧ Kept [] wr w') := by have := HRI.out wr xs[k] HF.out.1 (HSM.out _ (List.getElem_mem _)); rw [hn] at this; exact this
            obtain ⟨x, hxk⟩ : ∃ x, xs[k] = x := ⟨_, rfl⟩
            rw [hxk] at d1 HRK2
            clear hxk hn HRK HCK
            go_wp2_with (go_at_call 19; refine HRK2.out.mono ?_; rintro e W2 ⟨rfl, hk2⟩; have HK2 : Hid (Kept [] wr W2) := hk2; clear hk2)
            go_ret
            exact ⟨ret_bool HNO.out.symm, HF.out.1.trans HK2.out (by simp) (by simp)⟩
          | true =>
            have HRK2 : Hid (Calls Tryd.prog 19 #[.agg #[.int .u8 3, .string xs[k], .slice none 0 0]] wr fun e w' => e = .returned (.int .i64 0) ∧ Kept [] wr w') := by have := HRI.out wr xs[k] HF.out.1 (HSM.out _ (List.getElem_mem _)); rw [hn] at this; exact this
            cases hh : hasN (xs.take k) xs[k] with
            | true =>
              have HNO : Hid (bb = false) := by
                show bb = false
                cases hbb : bb with
                | false => rfl
                | true => have := (HB.out.1 hbb k hlt hlt).2; rw [hh] at this; cases this
              rw [hh] at HCK
              obtain ⟨x, hxk⟩ : ∃ x, xs[k] = x := ⟨_, rfl⟩
              rw [hxk] at d1 HRK2 HCK
              clear hxk hn HRK hh
              go_wp2_with (first
                | (go_at_call 19; refine HRK2.out.mono ?_; rintro e W2 ⟨rfl, hk2⟩; have HK2 : Hid (Kept [] wr W2) := hk2; clear hk2)
                | (go_at_call 71; refine (HCK.out _ (HF.out.1.trans HK2.out (by simp) (by simp))).mono ?_; rintro e W3 ⟨rfl, rfl⟩))
              go_ret
              exact ⟨ret_bool HNO.out.symm, HF.out.1.trans HK2.out (by simp) (by simp)⟩
            | false =>
              have HLT : Hid (listTo xs (k + 1)) := fun j hj hjk => by
                rcases Nat.lt_or_ge j k with h' | h'
                · exact HF.out.2 j hj h'
                · obtain rfl : j = k := by omega
                  exact ⟨hn, hh⟩
              rw [hh] at HCK
              obtain ⟨x, hxk⟩ : ∃ x, xs[k] = x := ⟨_, rfl⟩
              rw [hxk] at d1 HRK2 HCK
              clear hxk hn HRK hh
              go_wp2_with (first
                | (go_at_call 19; refine HRK2.out.mono ?_; rintro e W2 ⟨rfl, hk2⟩; have HK2 : Hid (Kept [] wr W2) := hk2; clear hk2)
                | (go_at_call 71; refine (HCK.out _ (HF.out.1.trans HK2.out (by simp) (by simp))).mono ?_; rintro e W3 ⟨rfl, rfl⟩))
              go_roundw
              case rel => exact ⟨k + 1, by omega, by go_num, HF.out.1.trans HK2.out (by simp) (by simp), HLT.out⟩
              case measure => simp [intOf]; omega
        · obtain rfl : k = xs.length := by omega
          have HYES : Hid (bb = true) := HB.out.2 HF.out.2
          go_wp2
          go_ret
          exact ⟨ret_bool HYES.out.symm, HF.out.1⟩
    · obtain rfl : xs = [] := List.length_eq_zero_iff.1 (by omega)
      obtain ⟨ad, c, rfl, _⟩ := hx.form
      have HYES : Hid (bb = true) := HB.out.2 (fun j h => by simp at h)
      clear hx hT
      simp only [List.length_nil]
      go_enter Tryd.func60, Tryd.ntmps60
      go_wp2_with fail
      go_loopw [10] (fun v10 wr => v10 = .int .i64 0 ∧ wr = w) (fun _ _ => 0)
      case atStart => exact ⟨rfl, rfl⟩
      case round =>
        obtain ⟨rfl, rfl⟩ := hrel
        go_wp2
        go_ret
        exact ⟨ret_bool HYES.out.symm, Kept.refl [] _⟩
  · have h8i : (8 : Int) < (xs.length : Int) := by omega
    have HNO : Hid (bb = false) := by
      show bb = false
      cases hbb : bb with
      | false => rfl
      | true => exact absurd (hb.1 hbb).1 h8
    obtain ⟨ad, c, rfl, _⟩ := hx.form
    clear hx hT hb
    go_enter Tryd.func60, Tryd.ntmps60
    go_wp2
    go_ret
    exact ⟨ret_bool HNO.out.symm, Kept.refl [] w⟩

/-- slices.Clone. -/
theorem ownsS_empty (w : World) : (w.alloc (.cells #[] 9)).ownsRow w.heap.size 9 1 (.slice (some ⟨w.heap.size, 0, none⟩) 0 0) 0 [] :=
  ⟨rfl, Or.inr ⟨w.heap.size, 0, #[], rfl, Nat.le_refl _, heap_alloc_new _ _, Nat.le_refl _, by unfold maxLen; omega, rfl, rfl⟩⟩
theorem ownsU_empty (w : World) : (w.alloc (.cells #[] 52)).ownsRow w.heap.size 52 1 (.slice (some ⟨w.heap.size, 0, none⟩) 0 0) 0 [] :=
  ⟨rfl, Or.inr ⟨w.heap.size, 0, #[], rfl, Nat.le_refl _, heap_alloc_new _ _, Nat.le_refl _, by unfold maxLen; omega, rfl, rfl⟩⟩
theorem strs_news {W : World} {b o : Nat} {xs : List ByteArray} (h : ∀ i (h : i < xs.length), W.cell? ⟨b, o + i, none⟩ = some (.string xs[i])) : ∀ j u, (strs xs)[j]? = some u → W.cell? ((⟨b, o, none⟩ : Addr).add j) = some u := by
  intro j u hj
  have hl : j < xs.length := by
    rcases Nat.lt_or_ge j xs.length with h' | h'
    · exact h'
    · rw [List.getElem?_eq_none (by simpa [strs] using h')] at hj; cases hj
  rw [addr_add, h j hl]
  simp [strs, hl] at hj
  rw [← hj]
set_option maxHeartbeats 800000 in
theorem cloneS_any (v : Value) (xs : List ByteArray) (w : World) (hx : Strs w v xs) :
    Calls Tryd.prog 62 #[v] w fun e w' => ∃ u, e = .returned u ∧ Strs w' u xs ∧ Kept [] w w' := by
  have fx := hx.few
  have hsm := hx.small
  rcases hx.lie with ⟨rfl, rfl⟩ | ⟨b, o, c, rfl, h2, h3, h4⟩
  · have heq : ∀ w, (binOp .eql 26 (.slice none 0 0) (.slice none 0 0)).run Tryd.prog w = .ok (.bool true) w := fun w => (Lib.run_eql_slice_nil (P := Tryd.prog) w 26 9 none 0 0 0 0 (by kernel_rfl))
    have HX : Hid _ := hx
    clear hx hsm
    go_enter Tryd.func62, Tryd.ntmps62
    go_wp2
    go_ret
    exact ⟨_, rfl, HX.out, Kept.refl [] w⟩
  · have heq : ∀ w, (binOp .eql 26 (.slice (some ⟨b, o, none⟩) xs.length c) (.slice none 0 0)).run Tryd.prog w = .ok (.bool false) w := fun w => (Lib.run_eql_slice_nil (P := Tryd.prog) w 26 9 (some ⟨b, o, none⟩) xs.length c 0 0 (by kernel_rfl))
    obtain ⟨i0, hi, hz0, hz1, hz2⟩ := info_parts Tryd.infoStr
    have HN : Hid (∀ W, Kept [] w W → ∀ j u, (strs xs)[j]? = some u → W.cell? ((⟨b, o, none⟩ : Addr).add j) = some u) := fun W k => strs_news (fun i h => cell_kept0 k (h4 i h))
    have HSM : Hid _ := hsm
    clear hx h4 hsm
    go_enter Tryd.func62, Tryd.ntmps62
    go_wp2_with (at_builtin; refine wpList_append_own _ rfl (.tmp 5) (.tmp 6) 26 rfl w.heap.size 9 i0 _ 1 16 (by kernel_rfl) hi hz0 hz1 hz2 rfl (by decide) (.slice (some ⟨w.heap.size, 0, none⟩) 0 0) 0 [] rfl (ownsS_empty w) ⟨b, o, none⟩ xs.length c (strs xs) rfl (by simp [strs]) (HN.out _ ((Kept.refl [] w).alloc _)) (fun u hu => by obtain ⟨x, _, rfl⟩ := List.mem_map.1 hu; rfl) (by unfold maxLen; omega) (by omega) (by simp) ?_; intro v' w1 hown hgrow hnil)
    have hk : Kept [] w w1 := ((Kept.refl [] w).alloc _).grown hgrow (fun k hk => by simp [Value.ownBlock] at hk; right; omega)
    go_ret
    exact ⟨_, rfl, strs_own (by simpa using hown) HSM.out fx, hk⟩
set_option maxHeartbeats 800000 in
theorem cloneU_any (v : Value) (xs : List Nat) (w : World) (hx : Lets w v xs) :
    Calls Tryd.prog 63 #[v] w fun e w' => ∃ u, e = .returned u ∧ Lets w' u xs ∧ Kept [] w w' := by
  have fx := hx.few
  have hsm := hx.small
  rcases hx.lie with ⟨rfl, rfl⟩ | ⟨b, o, c, rfl, h2, h3, h4⟩
  · have heq : ∀ w, (binOp .eql 27 (.slice none 0 0) (.slice none 0 0)).run Tryd.prog w = .ok (.bool true) w := fun w => (Lib.run_eql_slice_nil (P := Tryd.prog) w 27 52 none 0 0 0 0 (by kernel_rfl))
    have HX : Hid _ := hx
    clear hx hsm
    go_enter Tryd.func63, Tryd.ntmps63
    go_wp2
    go_ret
    exact ⟨_, rfl, HX.out, Kept.refl [] w⟩
  · have heq : ∀ w, (binOp .eql 27 (.slice (some ⟨b, o, none⟩) xs.length c) (.slice none 0 0)).run Tryd.prog w = .ok (.bool false) w := fun w => (Lib.run_eql_slice_nil (P := Tryd.prog) w 27 52 (some ⟨b, o, none⟩) xs.length c 0 0 (by kernel_rfl))
    obtain ⟨i0, hi, hz0, hz1, hz2⟩ := info_parts Tryd.infoU16
    have HN : Hid (∀ W, Kept [] w W → ∀ j u, (u16s xs)[j]? = some u → W.cell? ((⟨b, o, none⟩ : Addr).add j) = some u) := fun W k => lets_news (fun i h => cell_kept0 k (h4 i h))
    have HSM : Hid _ := hsm
    clear hx h4 hsm
    go_enter Tryd.func63, Tryd.ntmps63
    go_wp2_with (at_builtin; refine wpList_append_own _ rfl (.tmp 5) (.tmp 6) 27 rfl w.heap.size 52 i0 _ 1 2 (by kernel_rfl) hi hz0 hz1 hz2 rfl (by decide) (.slice (some ⟨w.heap.size, 0, none⟩) 0 0) 0 [] rfl (ownsU_empty w) ⟨b, o, none⟩ xs.length c (u16s xs) rfl (by simp [u16s]) (HN.out _ ((Kept.refl [] w).alloc _)) (u16s_one xs) (by unfold maxLen; omega) (by omega) (by simp) ?_; intro v' w1 hown hgrow hnil)
    have hk : Kept [] w w1 := ((Kept.refl [] w).alloc _).grown hgrow (fun k hk => by simp [Value.ownBlock] at hk; right; omega)
    go_ret
    exact ⟨_, rfl, lets_own (by simpa using hown) HSM.out fx, hk⟩
end Go.Proofs.YtddgciilcghbaaaDoor

/- eval.New. -/
namespace Go.Proofs.YtddgciilcghbaaaDoor
open Go.RowKit Go.Shelf Go.Maps

def listBool (xs : List ByteArray) : Bool := decide (xs.length ≤ 8) && (List.range xs.length).all fun j => nameB (xs.getD j ⟨#[]⟩).data.toList && !hasN (xs.take j) (xs.getD j ⟨#[]⟩)
theorem listBool_iff (xs : List ByteArray) : listBool xs = true ↔ listB xs := by
  unfold listBool listB listTo
  rw [Bool.and_eq_true, decide_eq_true_eq, List.all_eq_true]
  refine and_congr_right fun _ => ⟨fun h j hj _ => ?_, fun h j hj => ?_⟩
  · have := h j (List.mem_range.2 hj)
    rw [Bool.and_eq_true, List.getD_eq_getElem?_getD, List.getElem?_eq_getElem hj] at this
    exact ⟨this.1, by simpa using this.2⟩
  · have hj' := List.mem_range.1 hj
    have := h j hj' hj'
    rw [Bool.and_eq_true, List.getD_eq_getElem?_getD, List.getElem?_eq_getElem hj']
    exact ⟨this.1, by simpa using this.2⟩
theorem check_zero {q : Wd} {n : Nat} (h : checkE q n = 0) : 0 < q.loop.length := by
  unfold checkE at h
  split at h
  · cases h
  · split at h
    · cases h
    · rename_i h1; omega
/-- What New leaves where it makes a table. -/
def NewPost (w : World) (q : Wd) (xs : List ByteArray) (e : Ending) (w' : World) : Prop :=
  ∃ p m nv sv lv w₁, e = .returned (.tuple #[.pointer (some ⟨p, 0, none⟩), .int .i64 0]) ∧ TabIs w₁ w' p m nv sv lv (.slice none 0 0) q xs [] ∧ Kept [] w w' ∧ w.heap.size ≤ m ∧ w.heap.size ≤ w₁.heap.size
theorem newPost_of {w w₁ : World} {q : Wd} {xs : List ByteArray} {nv su lu : Value} {m P : Nat} (hP : w₁.heap.size = P) (hW : IsW w₁ su lu q) (hN : Strs w₁ nv xs) (hm : w₁.ownsMap Tryd.prog 9 (plainElem Tryd.prog 3) m 0 (.map [] : DataW Unit)) (hk : Kept [] w w₁) (hw : w.heap.size ≤ m) :
    NewPost w q xs (.returned (.tuple #[.pointer (some ⟨P, 0, none⟩), .int .i64 0])) (w₁.alloc (.cells #[nv, su, lu, .slice none 0 0, .map (some m)] 103)) := by
  subst hP
  have hmb : ∃ es c, w₁.heap[m]? = some (.map es c) := by
    obtain ⟨es, c, hb, _⟩ := hm
    exact ⟨es, c, hb⟩
  refine ⟨w₁.heap.size, m, nv, su, lu, w₁, rfl, ⟨hW, hN, hmb, (Kept.refl [m] w₁).alloc _, Nat.le_refl _, heap_alloc_new _ _, ⟨[], World.ownsRow_nil _ _ _ _, fun i hi => by simp at hi⟩, ⟨_, hm.alloc _, KnownOf.nil⟩⟩, hk.alloc _, hw, hk.size⟩

set_option maxHeartbeats 4000000 in
set_option maxRecDepth 20000 in
theorem new_ok (v sv lv : Value) (xs : List ByteArray) (q : Wd) (w : World) (hN : Strs w v xs) (hW : IsW w sv lv q) (hT : KidsTab w) (hl : listBool xs = true) (hc : checkE q xs.length = 0) :
    Calls Tryd.prog 30 #[v, .agg #[sv, lv]] w (NewPost w q xs) := by
  have h8 : xs.length ≤ 8 := ((listBool_iff xs).1 hl).1
  have hmm := @run_makeMap Tryd.prog
  obtain ⟨V, hV⟩ : ∃ V, w.alloc (.cells #[sv, lv] 29) = V := ⟨_, rfl⟩
  have kV : Kept [] w V := by rw [← hV]; exact (Kept.refl [] w).alloc _
  have v0 : Wd2 V w.heap.size sv lv := by rw [← hV]; exact heap_alloc_new w _
  have HL : Hid (Calls Tryd.prog 60 #[v] V fun e w' => e = .returned (.bool true) ∧ Kept [] V w') := isList_any v xs V (hN.kept kV) (hT.kept kV) true (by rw [← listBool_iff, hl])
  have HCH : Hid (∀ W, Kept [] V W → Calls Tryd.prog 61 #[.agg #[sv, lv], .int .i64 (xs.length : Nat)] W fun e w' => e = .returned (.int .i64 0) ∧ Kept [] W w') := fun W k => by
    have := check_good sv lv q xs.length W ((hW.kept kV).kept k) h8
    rw [hc] at this
    exact this
  have HCS : Hid (∀ W, Kept [] V W → Calls Tryd.prog 62 #[v] W fun e w' => ∃ u, e = .returned u ∧ Strs w' u xs ∧ Kept [] W w') := fun W k => cloneS_any v xs W ((hN.kept kV).kept k)
  have HU1 : Hid (∀ W, Kept [] V W → Calls Tryd.prog 63 #[sv] W fun e w' => ∃ u, e = .returned u ∧ Lets w' u q.stem ∧ Kept [] W w') := fun W k => cloneU_any sv q.stem W ((hW.kept kV).kept k).st
  have HU2 : Hid (∀ W, Kept [] V W → Calls Tryd.prog 63 #[lv] W fun e w' => ∃ u, e = .returned u ∧ Lets w' u q.loop ∧ Kept [] W w') := fun W k => cloneU_any lv q.loop W ((hW.kept kV).kept k).lp
  have HFW : Hid _ := hW.few
  obtain ⟨ad, c, rfl, _⟩ := hN.form
  obtain ⟨ast, cs, rfl, _, _⟩ := hW.st.form
  obtain ⟨al, cl, rfl, _, _⟩ := hW.lp.form
  have HKV : Hid (Kept [] w V) := kV
  have HV0 : Hid (Wd2 V w.heap.size (.slice ast q.stem.length cs) (.slice al q.loop.length cl)) := v0
  have HVV : Hid (_ = V) := hV
  rw [← hV] at HL
  clear hN hW hT hl hc kV v0 hV
  go_enter Tryd.func30, Tryd.ntmps30
  go_wp2_with (first
    | (go_at_call 60; refine HL.out.mono ?_; rintro e w1 ⟨rfl, k1⟩; rw [HVV.out] at k1; have HK1 : Hid (Kept [] V w1) := k1; obtain ⟨f0, f1, _, _⟩ := (HV0.out.kept k1).cells; clear k1)
    | (go_at_call 61; refine (HCH.out _ HK1.out).mono ?_; rintro e U ⟨rfl, k2⟩; have HKU : Hid (Kept [] V U) := HK1.out.trans k2 (by simp) (by simp); clear k2))
  have hS : ∀ W, Kept [] U W → (W.cell? ⟨w.heap.size, 0, none⟩ = some (.slice ast q.stem.length cs) ∧ W.cell? ⟨w.heap.size, 1, none⟩ = some (.slice al q.loop.length cl)) := fun W k => by
    obtain ⟨g0, g1, _, _⟩ := ((HV0.out.kept HKU.out).kept k).cells
    exact ⟨g0, g1⟩
  have HS : Hid _ := hS
  obtain ⟨e0, e1⟩ := hS U (Kept.refl [] U)
  have hzU := (HKV.out.trans HKU.out (H := []) (by simp) (by simp)).size
  have HZU : Hid _ := hzU
  clear hS hzU
  go_region_held3 (fun w' => w'.cell? ⟨w.heap.size, 0, none⟩ = some (.slice ast q.stem.length cs) ∧ w'.cell? ⟨w.heap.size, 1, none⟩ = some (.slice al q.loop.length cl))
    ((refine HS.out _ ?_; (repeat (first | exact Kept.refl [] _ | refine Kept.drew ?_ | refine Kept.alloc ?_ _ | refine Kept.trans (F := []) (G := []) (H := []) ?_ HKS.out (by simp) (by simp) | refine Kept.trans (F := []) (G := []) (H := []) ?_ HKA.out (by simp) (by simp) | refine Kept.trans (F := []) (G := []) (H := []) ?_ HKB.out (by simp) (by simp)))))
    (first
    | (go_at_call 62; refine (HCS.out _ (by repeat (first | exact HKU.out | refine Kept.drew ?_ | refine Kept.alloc ?_ _ | refine Kept.trans (F := []) (G := []) (H := []) ?_ HKA.out (by simp) (by simp) | refine Kept.trans (F := []) (G := []) (H := []) ?_ HKB.out (by simp) (by simp)))).mono ?_; rintro e WS ⟨us, rfl, hs, ks⟩; obtain ⟨sad, scp, rfl, _, _⟩ := hs.form; have HKS : Hid _ := ks; have HSS : Hid (Strs WS (.slice sad xs.length scp) xs) := hs; clear ks hs)
    | (go_at_call 63; (with_reducible show Calls _ _ #[.slice ast _ _] _ _); refine (HU1.out _ (by repeat (first | exact HKU.out | refine Kept.drew ?_ | refine Kept.alloc ?_ _ | refine Kept.trans (F := []) (G := []) (H := []) ?_ HKS.out (by simp) (by simp) | refine Kept.trans (F := []) (G := []) (H := []) ?_ HKB.out (by simp) (by simp)))).mono ?_; rintro e WA ⟨ua, rfl, ha, ka⟩; obtain ⟨aad, acp, rfl, _, _⟩ := ha.form; have HKA : Hid _ := ka; have HAA : Hid (Lets WA (.slice aad q.stem.length acp) q.stem) := ha; clear ka ha)
    | (go_at_call 63; (with_reducible show Calls _ _ #[.slice al _ _] _ _); refine (HU2.out _ (by repeat (first | exact HKU.out | refine Kept.drew ?_ | refine Kept.alloc ?_ _ | refine Kept.trans (F := []) (G := []) (H := []) ?_ HKS.out (by simp) (by simp) | refine Kept.trans (F := []) (G := []) (H := []) ?_ HKA.out (by simp) (by simp)))).mono ?_; rintro e WB ⟨ub, rfl, hb, kb⟩; obtain ⟨bad, bcp, rfl, _, _⟩ := hb.form; have HKB : Hid _ := kb; have HBB : Hid (Lets WB (.slice bad q.loop.length bcp) q.loop) := hb; clear kb hb))
  all_goals
    have z1 := HZU.out
    have z2 := HKS.out.size
    have z3 := HKA.out.size
    have z4 := HKB.out.size
    try simp only [drew_heap] at z2 z3 z4
    try simp only [World.size_alloc] at z2 z3 z4
    have HZ : Hid (w.heap.size ≤ U.heap.size ∧ w.heap.size ≤ WS.heap.size ∧ w.heap.size ≤ WA.heap.size ∧ w.heap.size ≤ WB.heap.size) := ⟨by omega, by omega, by omega, by omega⟩
    clear z1 z2 z3 z4
    go_wp2_with fail
    go_ret2
    refine newPost_of (w₁ := _) ?_ ⟨?_, ?_, HFW.out⟩ ?_ ?_ ?_ ?_
    · first | rfl | exact World.size_alloc _ _
    · repeat (first | exact HAA.out | refine Lets.kept ?_ HKB.out | refine Lets.kept ?_ ((Kept.refl [] _).alloc _))
    · repeat (first | exact HBB.out | refine Lets.kept ?_ ((Kept.refl [] _).alloc _))
    · repeat (first | exact HSS.out | refine Strs.kept ?_ HKB.out | refine Strs.kept ?_ HKA.out | refine Strs.kept ?_ ((Kept.refl [] _).alloc _))
    · repeat (first | exact World.ownsMap_made _ _ _ _ | refine World.ownsMap.kept ?_ (grownBy_of_kept HKB.out) (by simp) | refine World.ownsMap.kept ?_ (grownBy_of_kept HKA.out) (by simp) | refine World.ownsMap.kept ?_ (grownBy_of_kept HKS.out) (by simp))
    · repeat (first | exact HKV.out.trans HKU.out (by simp) (by simp) | refine Kept.drew ?_ | refine Kept.alloc ?_ _ | refine Kept.trans (F := []) (G := []) (H := []) ?_ HKB.out (by simp) (by simp) | refine Kept.trans (F := []) (G := []) (H := []) ?_ HKA.out (by simp) (by simp) | refine Kept.trans (F := []) (G := []) (H := []) ?_ HKS.out (by simp) (by simp))
    · obtain ⟨y1, y2, y3, y4⟩ := HZ.out
      assumption

set_option maxHeartbeats 1000000 in
set_option maxRecDepth 20000 in
theorem new_list (v sv lv : Value) (xs : List ByteArray) (q : Wd) (w : World) (hN : Strs w v xs) (hW : IsW w sv lv q) (hT : KidsTab w) (hl : listBool xs = false) :
    Calls Tryd.prog 30 #[v, .agg #[sv, lv]] w fun e w' => e = .returned (.tuple #[.pointer none, .int .i64 60]) ∧ Kept [] w w' := by
  have kV := (Kept.refl [] w).alloc (.cells #[sv, lv] 29)
  have HL : Hid (Calls Tryd.prog 60 #[v] (w.alloc (.cells #[sv, lv] 29)) fun e w' => e = .returned (.bool false) ∧ Kept [] (w.alloc (.cells #[sv, lv] 29)) w') := isList_any v xs _ (hN.kept kV) (hT.kept kV) false (by rw [← listBool_iff, hl])
  obtain ⟨ad, c, rfl, _⟩ := hN.form
  obtain ⟨ast, cs, rfl, _, _⟩ := hW.st.form
  obtain ⟨al, cl, rfl, _, _⟩ := hW.lp.form
  clear hN hW hT hl kV
  go_enter Tryd.func30, Tryd.ntmps30
  go_wp2_with (go_at_call 60; refine HL.out.mono ?_; rintro e w1 ⟨rfl, k1⟩; have HK1 : Hid (Kept [] _ w1) := k1; clear k1)
  go_ret2
  exact ⟨rfl, ((Kept.refl [] w).alloc _).trans HK1.out (by simp) (by simp)⟩
set_option maxHeartbeats 1000000 in
set_option maxRecDepth 20000 in
theorem new_word (v sv lv : Value) (xs : List ByteArray) (q : Wd) (w : World) (hN : Strs w v xs) (hW : IsW w sv lv q) (hT : KidsTab w) (hl : listBool xs = true) (hc : checkE q xs.length ≠ 0) :
    Calls Tryd.prog 30 #[v, .agg #[sv, lv]] w fun e w' => e = .returned (.tuple #[.pointer none, .int .i64 61]) ∧ Kept [] w w' := by
  have h8 : xs.length ≤ 8 := ((listBool_iff xs).1 hl).1
  obtain ⟨V, hV⟩ : ∃ V, w.alloc (.cells #[sv, lv] 29) = V := ⟨_, rfl⟩
  have kV : Kept [] w V := by rw [← hV]; exact (Kept.refl [] w).alloc _
  have v0 : Wd2 V w.heap.size sv lv := by rw [← hV]; exact heap_alloc_new w _
  have HL : Hid (Calls Tryd.prog 60 #[v] V fun e w' => e = .returned (.bool true) ∧ Kept [] V w') := isList_any v xs V (hN.kept kV) (hT.kept kV) true (by rw [← listBool_iff, hl])
  obtain ⟨ce, hce⟩ : ∃ ce, checkE q xs.length = ce := ⟨_, rfl⟩
  have HCH : Hid (∀ W, Kept [] V W → Calls Tryd.prog 61 #[.agg #[sv, lv], .int .i64 (xs.length : Nat)] W fun e w' => e = .returned (.int .i64 (ce : Nat)) ∧ Kept [] W w') := fun W k => by
    have := check_good sv lv q xs.length W ((hW.kept kV).kept k) h8
    rw [hce] at this
    exact this
  rw [hce] at hc
  have hne : ((ce : Int) != 0) = true := by rw [bne_iff_ne]; omega
  obtain ⟨ad, c, rfl, _⟩ := hN.form
  obtain ⟨ast, cs, rfl, _, _⟩ := hW.st.form
  obtain ⟨al, cl, rfl, _, _⟩ := hW.lp.form
  have HKV : Hid (Kept [] w V) := kV
  have HV0 : Hid (Wd2 V w.heap.size (.slice ast q.stem.length cs) (.slice al q.loop.length cl)) := v0
  have HVV : Hid (_ = V) := hV
  rw [← hV] at HL
  clear hN hW hT hl hc kV v0 hV hce
  go_enter Tryd.func30, Tryd.ntmps30
  go_wp2_with (first
    | (go_at_call 60; refine HL.out.mono ?_; rintro e w1 ⟨rfl, k1⟩; rw [HVV.out] at k1; have HK1 : Hid (Kept [] V w1) := k1; obtain ⟨f0, f1, _, _⟩ := (HV0.out.kept k1).cells; clear k1)
    | (go_at_call 61; refine (HCH.out _ HK1.out).mono ?_; rintro e U ⟨rfl, k2⟩; have HKU : Hid (Kept [] V U) := HK1.out.trans k2 (by simp) (by simp); clear k2))
  go_ret2
  exact ⟨rfl, HKV.out.trans HKU.out (by simp) (by simp)⟩
end Go.Proofs.YtddgciilcghbaaaDoor
