/- eval.isList, slices.Clone, eval.New. -/
import Derived.Test.YtondmjnagkldpaaDoorEvFits
import Derived.Test.YtondmjnagkldpaaDoorWdCheck
import Derived.WalkLawsBesides
namespace Go.Proofs.YtondmjnagkldpaaDoor
open Go.RowKit Go.Shelf

/-- Is it a list of names. -/
def listTo (xs : List ByteArray) (k : Nat) : Prop := ∀ j (h : j < xs.length), j < k → nameB xs[j].data.toList = true ∧ hasN (xs.take j) xs[j] = false
def listB (xs : List ByteArray) : Prop := xs.length ≤ 8 ∧ listTo xs xs.length
theorem right_name (s : ByteArray) : rightN pastB ⟨3, s, []⟩ = if nameB s.data.toList then 0 else 30 := by
  unfold rightN Tr.every
  rw [Tr.parts_eq]
  have e : kidsParts [] ([] : List Tr) = [] := rfl
  simp only [e, List.all_cons, List.all_nil, Bool.and_true]
  have h1 : rightQ pastB ⟨3, s, []⟩ = nameB s.data.toList := by
    unfold rightQ formedB
    simp [pastB, kidsN, kidsL]
  rw [h1]
  have hs : (⟨3, s, []⟩ : Tr).size = 1 := by rw [Tr.size_eq]; rfl
  have hd : (⟨3, s, []⟩ : Tr).depth = 1 := by rw [Tr.depth_eq]; rfl
  rw [hs, hd]
  cases nameB s.data.toList <;> rfl
theorem Strs.take {W : World} {b o c : Nat} {xs : List ByteArray} (h : Strs W (.slice (some ⟨b, o, none⟩) xs.length c) xs) (n : Nat) (hn : n ≤ xs.length) : Strs W (.slice (some ⟨b, o, none⟩) n c) (xs.take n) := by
  have hl : (xs.take n).length = n := by rw [List.length_take]; omega
  refine ⟨by have := h.few; omega, fun x hx => h.small x (List.mem_of_mem_take hx), .inr ⟨b, o, c, by rw [hl], ?_⟩⟩
  rcases h.lie with ⟨h1, _⟩ | ⟨b', o', c', h1, h2, h3, h4⟩
  · cases h1
  · simp only [Value.slice.injEq, Option.some.injEq, Addr.mk.injEq, and_true, true_and] at h1
    obtain ⟨⟨rfl, rfl⟩, rfl⟩ := h1
    refine ⟨by omega, h3, fun i hi => ?_⟩
    rw [h4 i (by omega)]
    simp
theorem leafF (w : World) (s : ByteArray) : IsF w ⟨3, s, []⟩ (.slice none 0 0) := IsT.leaf _ w rfl none 0

set_option maxHeartbeats 2000000 in
set_option maxRecDepth 20000 in
theorem isList_any (v : Value) (xs : List ByteArray) (w : World) (hx : Strs w v xs) (hT : KidsTab w) (bb : Bool) (hb : bb = true ↔ listB xs) :
    Calls Tryd.prog 33 #[v] w fun e w' => e = .returned (.bool bb) ∧ Kept [] w w' := by
  have fx := hx.few
  by_cases h8 : xs.length ≤ 8
  · have h8i : ¬ (8 : Int) < (xs.length : Int) := by omega
    have HB : Hid (bb = true ↔ listTo xs xs.length) := by show _ ↔ _; rw [hb]; exact ⟨fun h => h.2, fun h => ⟨h8, h⟩⟩
    clear hb
    by_cases h0 : 0 < xs.length
    · obtain ⟨b, o, c, rfl, hc1, hc2, hc⟩ := hx.there h0
      have HC : Hid (∀ i (h : i < xs.length), w.cell? ⟨b, o + i, none⟩ = some (.string xs[i])) := hc
      have HRI : Hid (∀ W (s : ByteArray), Kept [] w W → s.size ≤ maxLen → Calls Tryd.prog 44 #[.agg #[.int .u8 3, .string s, .slice none 0 0]] W fun e w' => e = .returned (.int .i64 ((if nameB s.data.toList then 0 else 30 : Nat) : Nat)) ∧ Kept [] W w') := fun W s k hs => by
        have := right_any ⟨3, s, []⟩ (.slice none 0 0) W (leafF W s) (by rw [show (⟨3, s, []⟩ : Tr).size = 1 from by rw [Tr.size_eq]; rfl]; omega) (by rw [show (⟨3, s, []⟩ : Tr).depth = 1 from by rw [Tr.depth_eq]; rfl]; omega) ((Tr.all_eq _).2 ⟨⟨by show 3 < 256; omega, hs⟩, fun k hk => by cases hk⟩) (hT.kept k)
        rw [right_name] at this
        exact this
      have HCO : Hid (∀ W (n : Nat) (s : ByteArray), Kept [] w W → n ≤ xs.length → Calls Tryd.prog 46 #[.slice (some ⟨b, o, none⟩) n c, .string s] W fun e w' => e = .returned (.bool (hasN (xs.take n) s)) ∧ w' = W) := fun W n s k hn => containsS_any _ _ s W ((hx.kept k).take n hn)
      have HSM : Hid _ := hx.small
      clear hx hT hc
      go_enter Tryd.func33, Tryd.ntmps33
      go_wp2_with fail
      go_loopw [10] (fun v10 wr => ∃ k : Nat, k ≤ xs.length ∧ v10 = .int .i64 (k : Nat) ∧ Hid (Kept [] w wr ∧ listTo xs k)) (fun v10 _ => xs.length - (intOf v10).toNat)
      case atStart => exact ⟨0, Nat.zero_le _, rfl, Kept.refl [] w, fun j _ h => by omega⟩
      case round =>
        obtain ⟨k, hk, rfl, HF⟩ := hrel
        by_cases hlt : k < xs.length
        · have hlt' : (k : Int) < (xs.length : Int) := by omega
          have b0 : (0 : Int) ≤ (k : Int) := by omega
          have d1 := cell_kept0 HF.out.1 (HC.out k hlt)
          have hkc : (k : Int) ≤ (c : Int) := by omega
          have HRK : Hid _ := HRI.out wr xs[k] HF.out.1 (HSM.out _ (List.getElem_mem _))
          have HCK : Hid (∀ W, Kept [] w W → Calls Tryd.prog 46 #[.slice (some ⟨b, o, none⟩) k c, .string xs[k]] W fun e w' => e = .returned (.bool (hasN (xs.take k) xs[k])) ∧ w' = W) := fun W kk => HCO.out W k xs[k] kk hk
          cases hn : nameB xs[k].data.toList with
          | false =>
            have HNO : Hid (bb = false) := by
              show bb = false
              cases hbb : bb with
              | false => rfl
              | true => have := (HB.out.1 hbb k hlt hlt).1; rw [hn] at this; cases this
            have HRK2 : Hid (Calls Tryd.prog 44 #[.agg #[.int .u8 3, .string xs[k], .slice none 0 0]] wr fun e w' => e = .returned (.int .i64 30) ∧ Kept [] wr w') := by have := HRI.out wr xs[k] HF.out.1 (HSM.out _ (List.getElem_mem _)); rw [hn] at this; exact this
            obtain ⟨x, hxk⟩ : ∃ x, xs[k] = x := ⟨_, rfl⟩
            rw [hxk] at d1 HRK2
            clear hxk hn HRK HCK
            go_wp2_with (go_at_call 44; refine HRK2.out.mono ?_; rintro e W2 ⟨rfl, hk2⟩; have HK2 : Hid (Kept [] wr W2) := hk2; clear hk2)
            go_ret
            exact ⟨ret_bool HNO.out.symm, HF.out.1.trans HK2.out (by simp) (by simp)⟩
          | true =>
            have HRK2 : Hid (Calls Tryd.prog 44 #[.agg #[.int .u8 3, .string xs[k], .slice none 0 0]] wr fun e w' => e = .returned (.int .i64 0) ∧ Kept [] wr w') := by have := HRI.out wr xs[k] HF.out.1 (HSM.out _ (List.getElem_mem _)); rw [hn] at this; exact this
            cases hh : hasN (xs.take k) xs[k] with
            | true =>
              have HNO : Hid (bb = false) := by
                show bb = false
                cases hbb : bb with
                | false => rfl
                | true => have := (HB.out.1 hbb k hlt hlt).2; rw [hh] at this; cases this
              rw [hh] at HCK
              obtain ⟨x, hxk⟩ : ∃ x, xs[k] = x := ⟨_, rfl⟩
              rw [hxk] at d1 HRK2 HCK
              clear hxk hn HRK hh
              go_wp2_with (first
                | (go_at_call 44; refine HRK2.out.mono ?_; rintro e W2 ⟨rfl, hk2⟩; have HK2 : Hid (Kept [] wr W2) := hk2; clear hk2)
                | (go_at_call 46; refine (HCK.out _ (HF.out.1.trans HK2.out (by simp) (by simp))).mono ?_; rintro e W3 ⟨rfl, rfl⟩))
              go_ret
              exact ⟨ret_bool HNO.out.symm, HF.out.1.trans HK2.out (by simp) (by simp)⟩
            | false =>
              have HLT : Hid (listTo xs (k + 1)) := fun j hj hjk => by
                rcases Nat.lt_or_ge j k with h' | h'
                · exact HF.out.2 j hj h'
                · obtain rfl : j = k := by omega
                  exact ⟨hn, hh⟩
              rw [hh] at HCK
              obtain ⟨x, hxk⟩ : ∃ x, xs[k] = x := ⟨_, rfl⟩
              rw [hxk] at d1 HRK2 HCK
              clear hxk hn HRK hh
              go_wp2_with (first
                | (go_at_call 44; refine HRK2.out.mono ?_; rintro e W2 ⟨rfl, hk2⟩; have HK2 : Hid (Kept [] wr W2) := hk2; clear hk2)
                | (go_at_call 46; refine (HCK.out _ (HF.out.1.trans HK2.out (by simp) (by simp))).mono ?_; rintro e W3 ⟨rfl, rfl⟩))
              go_roundw
              case rel => exact ⟨k + 1, by omega, by go_num, HF.out.1.trans HK2.out (by simp) (by simp), HLT.out⟩
              case measure => simp [intOf]; omega
        · obtain rfl : k = xs.length := by omega
          have HYES : Hid (bb = true) := HB.out.2 HF.out.2
          go_wp2
          go_ret
          exact ⟨ret_bool HYES.out.symm, HF.out.1⟩
    · obtain rfl : xs = [] := List.length_eq_zero_iff.1 (by omega)
      obtain ⟨ad, c, rfl, _⟩ := hx.form
      have HYES : Hid (bb = true) := HB.out.2 (fun j h => by simp at h)
      clear hx hT
      simp only [List.length_nil]
      go_enter Tryd.func33, Tryd.ntmps33
      go_wp2_with fail
      go_loopw [10] (fun v10 wr => v10 = .int .i64 0 ∧ wr = w) (fun _ _ => 0)
      case atStart => exact ⟨rfl, rfl⟩
      case round =>
        obtain ⟨rfl, rfl⟩ := hrel
        go_wp2
        go_ret
        exact ⟨ret_bool HYES.out.symm, Kept.refl [] _⟩
  · have h8i : (8 : Int) < (xs.length : Int) := by omega
    have HNO : Hid (bb = false) := by
      show bb = false
      cases hbb : bb with
      | false => rfl
      | true => exact absurd (hb.1 hbb).1 h8
    obtain ⟨ad, c, rfl, _⟩ := hx.form
    clear hx hT hb
    go_enter Tryd.func33, Tryd.ntmps33
    go_wp2
    go_ret
    exact ⟨ret_bool HNO.out.symm, Kept.refl [] w⟩

/-- slices.Clone. -/
theorem ownsS_empty (w : World) : (w.alloc (.cells #[] 9)).ownsRow w.heap.size 9 1 (.slice (some ⟨w.heap.size, 0, none⟩) 0 0) 0 [] :=
  ⟨rfl, Or.inr ⟨w.heap.size, 0, #[], rfl, Nat.le_refl _, heap_alloc_new _ _, Nat.le_refl _, by unfold maxLen; omega, rfl, rfl⟩⟩
theorem ownsU_empty (w : World) : (w.alloc (.cells #[] 45)).ownsRow w.heap.size 45 1 (.slice (some ⟨w.heap.size, 0, none⟩) 0 0) 0 [] :=
  ⟨rfl, Or.inr ⟨w.heap.size, 0, #[], rfl, Nat.le_refl _, heap_alloc_new _ _, Nat.le_refl _, by unfold maxLen; omega, rfl, rfl⟩⟩
theorem strs_news {W : World} {b o : Nat} {xs : List ByteArray} (h : ∀ i (h : i < xs.length), W.cell? ⟨b, o + i, none⟩ = some (.string xs[i])) : ∀ j u, (strs xs)[j]? = some u → W.cell? ((⟨b, o, none⟩ : Addr).add j) = some u := by
  intro j u hj
  have hl : j < xs.length := by
    rcases Nat.lt_or_ge j xs.length with h' | h'
    · exact h'
    · rw [List.getElem?_eq_none (by simpa [strs] using h')] at hj; cases hj
  rw [addr_add, h j hl]
  simp [strs, hl] at hj
  rw [← hj]
set_option maxHeartbeats 800000 in
theorem cloneS_any (v : Value) (xs : List ByteArray) (w : World) (hx : Strs w v xs) :
    Calls Tryd.prog 35 #[v] w fun e w' => ∃ u, e = .returned u ∧ Strs w' u xs ∧ Kept [] w w' := by
  have fx := hx.few
  have hsm := hx.small
  rcases hx.lie with ⟨rfl, rfl⟩ | ⟨b, o, c, rfl, h2, h3, h4⟩
  · have heq : ∀ w, (binOp .eql 27 (.slice none 0 0) (.slice none 0 0)).run Tryd.prog w = .ok (.bool true) w := fun w => (Lib.run_eql_slice_nil (P := Tryd.prog) w 27 9 none 0 0 0 0 (by kernel_rfl))
    have HX : Hid _ := hx
    clear hx hsm
    go_enter Tryd.func35, Tryd.ntmps35
    go_wp2
    go_ret
    exact ⟨_, rfl, HX.out, Kept.refl [] w⟩
  · have heq : ∀ w, (binOp .eql 27 (.slice (some ⟨b, o, none⟩) xs.length c) (.slice none 0 0)).run Tryd.prog w = .ok (.bool false) w := fun w => (Lib.run_eql_slice_nil (P := Tryd.prog) w 27 9 (some ⟨b, o, none⟩) xs.length c 0 0 (by kernel_rfl))
    obtain ⟨i0, hi, hz0, hz1, hz2⟩ := info_parts Tryd.infoStr
    have HN : Hid (∀ W, Kept [] w W → ∀ j u, (strs xs)[j]? = some u → W.cell? ((⟨b, o, none⟩ : Addr).add j) = some u) := fun W k => strs_news (fun i h => cell_kept0 k (h4 i h))
    have HSM : Hid _ := hsm
    clear hx h4 hsm
    go_enter Tryd.func35, Tryd.ntmps35
    go_wp2_with (at_builtin; refine wpList_append_own _ rfl (.tmp 5) (.tmp 6) 27 rfl w.heap.size 9 i0 _ 1 16 (by kernel_rfl) hi hz0 hz1 hz2 rfl (by decide) (.slice (some ⟨w.heap.size, 0, none⟩) 0 0) 0 [] rfl (ownsS_empty w) ⟨b, o, none⟩ xs.length c (strs xs) rfl (by simp [strs]) (HN.out _ ((Kept.refl [] w).alloc _)) (fun u hu => by obtain ⟨x, _, rfl⟩ := List.mem_map.1 hu; rfl) (by unfold maxLen; omega) (by omega) (by simp) ?_; intro v' w1 hown hgrow hnil)
    have hk : Kept [] w w1 := ((Kept.refl [] w).alloc _).grown hgrow (fun k hk => by simp [Value.ownBlock] at hk; right; omega)
    go_ret
    exact ⟨_, rfl, strs_own (by simpa using hown) HSM.out fx, hk⟩
set_option maxHeartbeats 800000 in
theorem cloneU_any (v : Value) (xs : List Nat) (w : World) (hx : Lets w v xs) :
    Calls Tryd.prog 36 #[v] w fun e w' => ∃ u, e = .returned u ∧ Lets w' u xs ∧ Kept [] w w' := by
  have fx := hx.few
  have hsm := hx.small
  rcases hx.lie with ⟨rfl, rfl⟩ | ⟨b, o, c, rfl, h2, h3, h4⟩
  · have heq : ∀ w, (binOp .eql 28 (.slice none 0 0) (.slice none 0 0)).run Tryd.prog w = .ok (.bool true) w := fun w => (Lib.run_eql_slice_nil (P := Tryd.prog) w 28 45 none 0 0 0 0 (by kernel_rfl))
    have HX : Hid _ := hx
    clear hx hsm
    go_enter Tryd.func36, Tryd.ntmps36
    go_wp2
    go_ret
    exact ⟨_, rfl, HX.out, Kept.refl [] w⟩
  · have heq : ∀ w, (binOp .eql 28 (.slice (some ⟨b, o, none⟩) xs.length c) (.slice none 0 0)).run Tryd.prog w = .ok (.bool false) w := fun w => (Lib.run_eql_slice_nil (P := Tryd.prog) w 28 45 (some ⟨b, o, none⟩) xs.length c 0 0 (by kernel_rfl))
    obtain ⟨i0, hi, hz0, hz1, hz2⟩ := info_parts Tryd.infoU16
    have HN : Hid (∀ W, Kept [] w W → ∀ j u, (u16s xs)[j]? = some u → W.cell? ((⟨b, o, none⟩ : Addr).add j) = some u) := fun W k => lets_news (fun i h => cell_kept0 k (h4 i h))
    have HSM : Hid _ := hsm
    clear hx h4 hsm
    go_enter Tryd.func36, Tryd.ntmps36
    go_wp2_with (at_builtin; refine wpList_append_own _ rfl (.tmp 5) (.tmp 6) 28 rfl w.heap.size 45 i0 _ 1 2 (by kernel_rfl) hi hz0 hz1 hz2 rfl (by decide) (.slice (some ⟨w.heap.size, 0, none⟩) 0 0) 0 [] rfl (ownsU_empty w) ⟨b, o, none⟩ xs.length c (u16s xs) rfl (by simp [u16s]) (HN.out _ ((Kept.refl [] w).alloc _)) (u16s_one xs) (by unfold maxLen; omega) (by omega) (by simp) ?_; intro v' w1 hown hgrow hnil)
    have hk : Kept [] w w1 := ((Kept.refl [] w).alloc _).grown hgrow (fun k hk => by simp [Value.ownBlock] at hk; right; omega)
    go_ret
    exact ⟨_, rfl, lets_own (by simpa using hown) HSM.out fx, hk⟩
end Go.Proofs.YtondmjnagkldpaaDoor
