/- The document's own questions, as the laws of this layer ask them: which lists, words, formulas are right. -/
import Derived.Test.YtddgciilcghbaaaDoorEvAlong
import Derived.Test.YtddgciilcghbaaaDoorTrRefRight
import Derived.Test.YtddgciilcghbaaaDoorTrMuch
namespace Go.Proofs.YtddgciilcghbaaaDoor
open Go.RowKit Go.Shelf

theorem sameN_comm (s x : ByteArray) : sameN s x = sameN x s := by
  unfold sameN
  rw [Bool.eq_iff_iff, beq_iff_eq, beq_iff_eq]
  exact ⟨Eq.symm, Eq.symm⟩
set_option maxHeartbeats 1000000 in
theorem place_any (v : Value) (xs : List ByteArray) (s : ByteArray) (w : World) (hx : Strs w v xs) :
    Calls Tryd.prog 69 #[v, .string s] w fun e w' => e = .returned (.int .i64 (indexI xs s)) ∧ w' = w := by
  have fx := hx.few
  by_cases h0 : 0 < xs.length
  · obtain ⟨b, o, c, rfl, _, _, hc⟩ := hx.there h0
    have HC : Hid (∀ i (h : i < xs.length), w.cell? ⟨b, o + i, none⟩ = some (.string xs[i])) := hc
    obtain ⟨r, hr⟩ : ∃ r, indexI xs s = r := ⟨_, rfl⟩
    rw [hr]
    have HRR : Hid (indexI xs s = r) := hr
    clear hx hc hr
    go_enter Tryd.func69, Tryd.ntmps69
    go_wp2_with fail
    go_loop [5] (fun i => ∃ k : Nat, k ≤ xs.length ∧ i = .int .i64 (k : Nat) ∧ Hid (∀ j (h : j < xs.length), j < k → sameN s xs[j] = false)) (fun i => xs.length - (intOf i).toNat)
    case atStart => exact ⟨0, Nat.zero_le _, rfl, fun j _ h => by omega⟩
    case round =>
      obtain ⟨k, hk, rfl, HF⟩ := hrel
      by_cases hlt : k < xs.length
      · have hlt' : (k : Int) < (xs.length : Int) := by omega
        have b0 : (0 : Int) ≤ (k : Int) := by omega
        have d1 := HC.out k hlt
        have HX : Hid _ := fun h2 => nameAt_first hlt HF.out h2
        cases hq : sameN s xs[k] with
        | true =>
          have hq' := HX.out hq
          have HE : Hid _ := hq'
          obtain ⟨x, hxk⟩ : ∃ x, xs[k] = x := ⟨_, rfl⟩
          rw [hxk] at d1 hq
          rw [sameN_comm] at hq
          have hqq : (x.toList == s.toList) = true := hq
          clear hq hq' hxk HX
          go_wp2
          go_ret
          exact ⟨ret_int (HE.out.symm.trans HRR.out), rfl⟩
        | false =>
          have HQ : Hid _ := hq
          obtain ⟨x, hxk⟩ : ∃ x, xs[k] = x := ⟨_, rfl⟩
          rw [hxk] at d1 hq
          rw [sameN_comm] at hq
          have hqq : (x.toList == s.toList) = false := hq
          clear hq hxk HX
          go_wp2
          go_round
          case rel =>
            refine ⟨k + 1, by omega, by go_num, fun j h hj => ?_⟩
            rcases Nat.lt_or_ge j k with h' | h'
            · exact HF.out j h h'
            · obtain rfl : j = k := by omega
              exact HQ.out
          case measure => simp [intOf]; omega
      · have hlt' : ¬ (k : Int) < (xs.length : Int) := by omega
        go_wp2
        go_ret
        exact ⟨ret_int ((index_none (fun j h => HF.out j h (by omega))).symm.trans HRR.out), rfl⟩
  · obtain rfl : xs = [] := List.length_eq_zero_iff.1 (by omega)
    obtain ⟨ad, c, rfl, _⟩ := hx.form
    clear hx
    simp only [List.length_nil]
    go_enter Tryd.func69, Tryd.ntmps69
    go_wp2_with fail
    go_loop [5] (fun i => i = .int .i64 0) (fun _ => 0)
    case atStart => exact rfl
    case round =>
      subst hrel
      go_wp2
      go_ret
      exact ⟨rfl, rfl⟩
theorem index_lt (xs : List ByteArray) (s : ByteArray) : decide (indexI xs s < 0) = !hasN xs s := by
  unfold indexI
  cases hasN xs s with
  | true => simp
  | false => simp
set_option maxHeartbeats 2000000 in
set_option maxRecDepth 20000 in
theorem refList_any (v : Value) (xs : List ByteArray) (w : World) (hx : Strs w v xs) (bb : Bool) (hb : bb = true ↔ listB xs) :
    Calls Tryd.prog 66 #[v] w fun e w' => e = .returned (.bool bb) ∧ Kept [] w w' := by
  have fx := hx.few
  by_cases h8 : xs.length ≤ 8
  · have h8i : ¬ (8 : Int) < (xs.length : Int) := by omega
    have HB : Hid (bb = true ↔ listTo xs xs.length) := by show _ ↔ _; rw [hb]; exact ⟨fun h => h.2, fun h => ⟨h8, h⟩⟩
    clear hb
    by_cases h0 : 0 < xs.length
    · obtain ⟨b, o, c, rfl, hc1, hc2, hc⟩ := hx.there h0
      have HC : Hid (∀ i (h : i < xs.length), w.cell? ⟨b, o + i, none⟩ = some (.string xs[i])) := hc
      have HRI : Hid (∀ W (s : ByteArray), s.size ≤ maxLen → Calls Tryd.prog 114 #[.string s] W fun e w' => e = .returned (.bool (nameB s.data.toList)) ∧ w' = W) := fun W s hs => refName_any s W hs
      have HCO : Hid (∀ W (n : Nat) (s : ByteArray), Kept [] w W → n ≤ xs.length → Calls Tryd.prog 69 #[.slice (some ⟨b, o, none⟩) n c, .string s] W fun e w' => e = .returned (.int .i64 (indexI (xs.take n) s)) ∧ w' = W) := fun W n s k hn => place_any _ _ s W ((hx.kept k).take n hn)
      have HSM : Hid _ := hx.small
      clear hx hc
      go_enter Tryd.func66, Tryd.ntmps66
      go_wp2_with fail
      go_loopw [3] (fun v3 wr => ∃ k : Nat, k ≤ xs.length ∧ v3 = .int .i64 (k : Nat) ∧ Hid (Kept [] w wr ∧ listTo xs k)) (fun v3 _ => xs.length - (intOf v3).toNat)
      case atStart => exact ⟨0, Nat.zero_le _, rfl, Kept.refl [] w, fun j _ h => by omega⟩
      case round =>
        obtain ⟨k, hk, rfl, HF⟩ := hrel
        by_cases hlt : k < xs.length
        · have hlt' : (k : Int) < (xs.length : Int) := by omega
          have b0 : (0 : Int) ≤ (k : Int) := by omega
          have d1 := cell_kept0 HF.out.1 (HC.out k hlt)
          have hkc : (k : Int) ≤ (c : Int) := by omega
          have HRK : Hid (Calls Tryd.prog 114 #[.string xs[k]] wr fun e w' => e = .returned (.bool (nameB xs[k].data.toList)) ∧ w' = wr) := HRI.out wr xs[k] (HSM.out _ (List.getElem_mem _))
          have HCK : Hid (∀ W, Kept [] w W → Calls Tryd.prog 69 #[.slice (some ⟨b, o, none⟩) k c, .string xs[k]] W fun e w' => e = .returned (.int .i64 (indexI (xs.take k) xs[k])) ∧ w' = W) := fun W kk => HCO.out W k xs[k] kk hk
          have hge := index_ge (xs.take k) xs[k]
          cases hn : nameB xs[k].data.toList with
          | false =>
            have HNO : Hid (bb = false) := by
              show bb = false
              cases hbb : bb with
              | false => rfl
              | true => have := (HB.out.1 hbb k hlt hlt).1; rw [hn] at this; cases this
            rw [hn] at HRK
            obtain ⟨x, hxk⟩ : ∃ x, xs[k] = x := ⟨_, rfl⟩
            rw [hxk] at d1 HRK
            clear hxk hn HCK hge
            go_wp2_with (go_at_call 114; refine HRK.out.mono ?_; rintro e W2 ⟨rfl, hw2⟩; rw [hw2]; clear hw2)
            go_quiet (fail)
            go_wp2
            go_ret
            exact ⟨ret_bool HNO.out.symm, HF.out.1.drewN _⟩
          | true =>
            rw [hn] at HRK
            obtain ⟨r, hr⟩ : ∃ r, indexI (xs.take k) xs[k] = r := ⟨_, rfl⟩
            rw [hr] at HCK hge
            cases hh : hasN (xs.take k) xs[k] with
            | true =>
              have HNO : Hid (bb = false) := by
                show bb = false
                cases hbb : bb with
                | false => rfl
                | true => have := (HB.out.1 hbb k hlt hlt).2; rw [hh] at this; cases this
              rw [hh, decide_eq_true_eq] at hge
              obtain ⟨x, hxk⟩ : ∃ x, xs[k] = x := ⟨_, rfl⟩
              rw [hxk] at d1 HRK HCK
              clear hxk hn hh hr
              go_wp2_with (go_at_call 114; refine HRK.out.mono ?_; rintro e W2 ⟨rfl, hw2⟩; rw [hw2]; clear hw2)
              go_quiet ((go_at_call 69; exact Calls.quiet_of_same (HCK.out _ (by first | exact HF.out.1 | exact HF.out.1.drew | exact HF.out.1.drewN _))))
              go_wp2
              go_ret
              exact ⟨ret_bool HNO.out.symm, HF.out.1.drewN _⟩
            | false =>
              have HLT : Hid (listTo xs (k + 1)) := fun j hj hjk => by
                rcases Nat.lt_or_ge j k with h' | h'
                · exact HF.out.2 j hj h'
                · obtain rfl : j = k := by omega
                  exact ⟨hn, hh⟩
              rw [hh, decide_eq_false_iff_not] at hge
              obtain ⟨x, hxk⟩ : ∃ x, xs[k] = x := ⟨_, rfl⟩
              rw [hxk] at d1 HRK HCK
              clear hxk hn hh hr
              go_wp2_with (go_at_call 114; refine HRK.out.mono ?_; rintro e W2 ⟨rfl, hw2⟩; rw [hw2]; clear hw2)
              go_quiet ((go_at_call 69; exact Calls.quiet_of_same (HCK.out _ (by first | exact HF.out.1 | exact HF.out.1.drew | exact HF.out.1.drewN _))))
              go_wp2
              go_roundw
              case rel => exact ⟨k + 1, by omega, by go_num, HF.out.1.drewN _, HLT.out⟩
              case measure => simp [intOf]; omega
        · obtain rfl : k = xs.length := by omega
          have HYES : Hid (bb = true) := HB.out.2 HF.out.2
          go_wp2
          go_ret
          exact ⟨ret_bool HYES.out.symm, HF.out.1⟩
    · obtain rfl : xs = [] := List.length_eq_zero_iff.1 (by omega)
      obtain ⟨ad, c, rfl, _⟩ := hx.form
      have HYES : Hid (bb = true) := HB.out.2 (fun j h => by simp at h)
      clear hx
      simp only [List.length_nil]
      go_enter Tryd.func66, Tryd.ntmps66
      go_wp2_with fail
      go_loopw [3] (fun v3 wr => v3 = .int .i64 0 ∧ wr = w) (fun _ _ => 0)
      case atStart => exact ⟨rfl, rfl⟩
      case round =>
        obtain ⟨rfl, rfl⟩ := hrel
        go_wp2
        go_ret
        exact ⟨ret_bool HYES.out.symm, Kept.refl [] _⟩
  · have h8i : (8 : Int) < (xs.length : Int) := by omega
    have HNO : Hid (bb = false) := by
      show bb = false
      cases hbb : bb with
      | false => rfl
      | true => exact absurd (hb.1 hbb).1 h8
    obtain ⟨ad, c, rfl, _⟩ := hx.form
    clear hx hb
    go_enter Tryd.func66, Tryd.ntmps66
    go_wp2
    go_ret
    exact ⟨ret_bool HNO.out.symm, Kept.refl [] w⟩
end Go.Proofs.YtddgciilcghbaaaDoor

/- The document's own questions: words. -/
namespace Go.Proofs.YtddgciilcghbaaaDoor
open Go.RowKit Go.Shelf

def wordB (q : Wd) (p : Nat) : Bool := !anyGreat p q.stem && (!anyGreat p q.loop && decide (0 < q.loop.length))
theorem wordB_check {q : Wd} {p : Nat} (hp : p ≤ 8) : wordB q p = true ↔ checkE q p = 0 := by
  unfold wordB checkE
  rw [if_neg (by omega)]
  simp only [Int.toNat_natCast, Bool.and_eq_true, Bool.not_eq_true', decide_eq_true_eq]
  constructor
  · rintro ⟨h1, h2, h3⟩
    rw [if_neg]
    rw [h1, h2]; simp; intro h; rw [h] at h3; simp at h3
  · intro h
    split at h
    · cases h
    · rename_i hn
      simp only [not_or, Bool.not_eq_true] at hn
      exact ⟨hn.2.1, hn.2.2, by omega⟩
theorem shl_small {p : Nat} (hp : p ≤ 8) : IntKind.i64.wrap ((2 : Int) ^ p) = ((2 ^ p : Nat) : Int) := by
  rcases (by omega : p = 0 ∨ p = 1 ∨ p = 2 ∨ p = 3 ∨ p = 4 ∨ p = 5 ∨ p = 6 ∨ p = 7 ∨ p = 8) with rfl | rfl | rfl | rfl | rfl | rfl | rfl | rfl | rfl <;> decide
set_option maxHeartbeats 2000000 in
set_option maxRecDepth 20000 in
theorem refWord_any (sv lv : Value) (q : Wd) (p : Nat) (w : World) (hW : IsW w sv lv q) (hp : p ≤ 8) :
    Calls Tryd.prog 67 #[.agg #[sv, lv], .int .i64 (p : Nat)] w fun e w' => e = .returned (.bool (wordB q p)) ∧ Kept [] w w' := by
  have hf := hW.few
  obtain ⟨ast, cs, rfl, _, _⟩ := hW.st.form
  obtain ⟨al, cl, rfl, _, _⟩ := hW.lp.form
  obtain ⟨V, hV⟩ : ∃ V, w.alloc (.cells #[.slice ast q.stem.length cs, .slice al q.loop.length cl] 29) = V := ⟨_, rfl⟩
  have kV : Kept [] w V := by rw [← hV]; exact (Kept.refl [] w).alloc _
  have v0 : Wd2 V w.heap.size (.slice ast q.stem.length cs) (.slice al q.loop.length cl) := by rw [← hV]; exact heap_alloc_new w _
  have HW : Hid (IsW V (.slice ast q.stem.length cs) (.slice al q.loop.length cl) q) := hW.kept kV
  have HKV : Hid (Kept [] w V) := kV
  have HVV : Hid (_ = V) := hV
  have HV0 : Hid (Wd2 V w.heap.size (.slice ast q.stem.length cs) (.slice al q.loop.length cl)) := v0
  have hsh := shl_small hp
  obtain ⟨r, hr⟩ : ∃ r, wordB q p = r := ⟨_, rfl⟩
  rw [hr]
  have HR : Hid (wordB q p = r) := hr
  obtain ⟨pw, hpw⟩ : ∃ pw, 2 ^ p = pw := ⟨_, rfl⟩
  rw [hpw] at hsh
  have HPW : Hid _ := hpw
  have hp0 : (0 : Int) ≤ (p : Int) := by omega
  clear hW kV v0 hV hr hpw
  go_enter Tryd.func67, Tryd.ntmps67
  go_wp2_with fail
  rw [HVV.out]
  go_loopw [5] (fun vv wr => ∃ k : Nat, k ≤ q.stem.length ∧ vv = .int .i64 (k : Nat) ∧ Hid (Kept [] V wr ∧ anyGreat p (q.stem.take k) = false)) (fun vv _ => q.stem.length - (intOf vv).toNat)
  case atStart => exact ⟨0, Nat.zero_le _, rfl, Kept.refl [] V, rfl⟩
  case round =>
    obtain ⟨k, hk, rfl, HF⟩ := hrel
    rename World => w5
    obtain ⟨c0, c1, _, _⟩ := (HV0.out.kept HF.out.1).cells
    by_cases hlt : k < q.stem.length
    · have hlt' : (k : Int) < (q.stem.length : Int) := by omega
      have b0 : (0 : Int) ≤ (k : Int) := by omega
      obtain ⟨sb, so, sc, hse, _, _, hcs⟩ := (HW.out.kept HF.out.1).st.there (by omega)
      simp only [Value.slice.injEq, true_and] at hse
      obtain ⟨rfl, rfl⟩ := hse
      have d1 := hcs k hlt
      have hsm := getD_small HW.out.st.small k
      have HN : Hid _ := anyGreat_take (p := p) hlt
      have HMEM : Hid (q.stem.getD k 0 ∈ q.stem) := by show q.stem.getD k 0 ∈ q.stem; rw [List.getD_eq_getElem?_getD, List.getElem?_eq_getElem hlt]; exact List.getElem_mem _
      obtain ⟨x, hx⟩ : ∃ x, q.stem.getD k 0 = x := ⟨_, rfl⟩
      rw [hx] at d1 hsm HN HMEM
      have hxw : wrap64 (x : Int) = (x : Int) := by unfold wrap64; omega
      clear hx hcs hsm
      by_cases hle : pw ≤ x
      · have hlei : ¬ ((x : Int) < (pw : Int)) := by omega
        have HE : Hid (false = r) := by
          show false = r
          rw [← HR.out]
          have hg : anyGreat p q.stem = true := by unfold anyGreat; rw [List.any_eq_true]; exact ⟨x, HMEM.out, by rw [HPW.out]; simpa using hle⟩
          unfold wordB
          rw [hg]; simp
        clear hle
        go_wp2
        go_ret
        exact ⟨ret_bool HE.out, HKV.out.trans HF.out.1 (by simp) (by simp)⟩
      · have hlei : (x : Int) < (pw : Int) := by omega
        have HF2 : Hid (anyGreat p (q.stem.take (k + 1)) = false) := by
          show anyGreat p (q.stem.take (k + 1)) = false
          rw [HN.out, HF.out.2, HPW.out]; simpa using hle
        clear hle
        go_wp2
        go_roundw
        case rel => exact ⟨k + 1, by omega, by go_num, HF.out.1, HF2.out⟩
        case measure => simp [intOf]; omega
    · obtain rfl : k = q.stem.length := by omega
      have hlt' : ¬ ((q.stem.length : Int) < (q.stem.length : Int)) := by omega
      have HGstem : Hid (anyGreat p q.stem = false) := by have := HF.out.2; rw [List.take_length] at this; exact this
      have HF5 : Hid _ := HF.out
      clear hk hlt HF
      go_wp2_with fail
      go_loopw [6] (fun vv wr => ∃ k : Nat, k ≤ q.loop.length ∧ vv = .int .i64 (k : Nat) ∧ Hid (Kept [] V wr ∧ anyGreat p (q.loop.take k) = false)) (fun vv _ => q.loop.length - (intOf vv).toNat)
      case atStart => exact ⟨0, Nat.zero_le _, rfl, HF5.out.1, rfl⟩
      case round =>
        obtain ⟨k, hk, rfl, HF⟩ := hrel
        rename World => w6
        obtain ⟨c0, c1, _, _⟩ := (HV0.out.kept HF.out.1).cells
        by_cases hlt : k < q.loop.length
        · have hlt' : (k : Int) < (q.loop.length : Int) := by omega
          have b0 : (0 : Int) ≤ (k : Int) := by omega
          obtain ⟨sb, so, sc, hse, _, _, hcs⟩ := (HW.out.kept HF.out.1).lp.there (by omega)
          simp only [Value.slice.injEq, true_and] at hse
          obtain ⟨rfl, rfl⟩ := hse
          have d1 := hcs k hlt
          have hsm := getD_small HW.out.lp.small k
          have HN : Hid _ := anyGreat_take (p := p) hlt
          have HMEM : Hid (q.loop.getD k 0 ∈ q.loop) := by show q.loop.getD k 0 ∈ q.loop; rw [List.getD_eq_getElem?_getD, List.getElem?_eq_getElem hlt]; exact List.getElem_mem _
          obtain ⟨x, hx⟩ : ∃ x, q.loop.getD k 0 = x := ⟨_, rfl⟩
          rw [hx] at d1 hsm HN HMEM
          have hxw : wrap64 (x : Int) = (x : Int) := by unfold wrap64; omega
          clear hx hcs hsm
          by_cases hle : pw ≤ x
          · have hlei : ¬ ((x : Int) < (pw : Int)) := by omega
            have HE : Hid (false = r) := by
              show false = r
              rw [← HR.out]
              have hg : anyGreat p q.loop = true := by unfold anyGreat; rw [List.any_eq_true]; exact ⟨x, HMEM.out, by rw [HPW.out]; simpa using hle⟩
              unfold wordB
              rw [hg]; simp
            clear hle
            go_wp2
            go_ret
            exact ⟨ret_bool HE.out, HKV.out.trans HF.out.1 (by simp) (by simp)⟩
          · have hlei : (x : Int) < (pw : Int) := by omega
            have HF2 : Hid (anyGreat p (q.loop.take (k + 1)) = false) := by
              show anyGreat p (q.loop.take (k + 1)) = false
              rw [HN.out, HF.out.2, HPW.out]; simpa using hle
            clear hle
            go_wp2
            go_roundw
            case rel => exact ⟨k + 1, by omega, by go_num, HF.out.1, HF2.out⟩
            case measure => simp [intOf]; omega
        · obtain rfl : k = q.loop.length := by omega
          have hlt' : ¬ ((q.loop.length : Int) < (q.loop.length : Int)) := by omega
          have HGloop : Hid (anyGreat p q.loop = false) := by have := HF.out.2; rw [List.take_length] at this; exact this
          clear hk hlt
          go_wp2
          go_ret
          refine ⟨ret_bool ?_, HKV.out.trans HF.out.1 (by simp) (by simp)⟩
          rw [← HR.out]
          unfold wordB
          rw [HGstem.out, HGloop.out]
          simp
end Go.Proofs.YtddgciilcghbaaaDoor

/- The document's own questions: names, and may it be asked at all. -/
namespace Go.Proofs.YtddgciilcghbaaaDoor
open Go.RowKit Go.Shelf

def refNewN (xs : List ByteArray) (q : Wd) : Nat := if listBool xs = false then 60 else if wordB q xs.length = false then 61 else 0
set_option maxHeartbeats 1000000 in
set_option maxRecDepth 20000 in
theorem refNew_any (v sv lv : Value) (xs : List ByteArray) (q : Wd) (w : World) (hN : Strs w v xs) (hW : IsW w sv lv q) :
    Calls Tryd.prog 35 #[v, .agg #[sv, lv]] w fun e w' => e = .returned (.int .i64 (refNewN xs q : Nat)) ∧ Kept [] w w' := by
  obtain ⟨V, hV⟩ : ∃ V, w.alloc (.cells #[sv, lv] 29) = V := ⟨_, rfl⟩
  have kV : Kept [] w V := by rw [← hV]; exact (Kept.refl [] w).alloc _
  have v0 : Wd2 V w.heap.size sv lv := by rw [← hV]; exact heap_alloc_new w _
  have HL : Hid (Calls Tryd.prog 66 #[v] V fun e w' => e = .returned (.bool (listBool xs)) ∧ Kept [] V w') := refList_any v xs V (hN.kept kV) (listBool xs) (listBool_iff xs)
  have HWD : Hid (xs.length ≤ 8 → ∀ W, Kept [] V W → Calls Tryd.prog 67 #[.agg #[sv, lv], .int .i64 (xs.length : Nat)] W fun e w' => e = .returned (.bool (wordB q xs.length)) ∧ Kept [] W w') := fun h W k => refWord_any sv lv q xs.length W ((hW.kept kV).kept k) h
  obtain ⟨ad, c, rfl, _⟩ := hN.form
  obtain ⟨ast, cs, rfl, _, _⟩ := hW.st.form
  obtain ⟨al, cl, rfl, _, _⟩ := hW.lp.form
  have HKV : Hid (Kept [] w V) := kV
  have HV0 : Hid (Wd2 V w.heap.size (.slice ast q.stem.length cs) (.slice al q.loop.length cl)) := v0
  have HVV : Hid (_ = V) := hV
  rw [← hV] at HL
  clear hN hW kV v0 hV
  cases hl : listBool xs with
  | false =>
    rw [show refNewN xs q = 60 from by unfold refNewN; rw [if_pos hl]]
    rw [hl] at HL
    go_enter Tryd.func35, Tryd.ntmps35
    go_wp2_with (go_at_call 66; refine HL.out.mono ?_; rintro e w1 ⟨rfl, k1⟩; rw [HVV.out] at k1; have HK1 : Hid (Kept [] V w1) := k1; clear k1)
    go_ret
    exact ⟨rfl, HKV.out.trans HK1.out (by simp) (by simp)⟩
  | true =>
    have HWE : Hid _ := HWD.out ((listBool_iff xs).1 hl).1
    rw [hl] at HL
    cases hwd : wordB q xs.length with
    | false =>
      rw [show refNewN xs q = 61 from by unfold refNewN; rw [if_neg (by simp [hl]), if_pos hwd]]
      have HWF : Hid (∀ W, Kept [] V W → Calls Tryd.prog 67 #[.agg #[.slice ast q.stem.length cs, .slice al q.loop.length cl], .int .i64 (xs.length : Nat)] W fun e w' => e = .returned (.bool false) ∧ Kept [] W w') := fun W k => by have := HWE.out W k; rw [hwd] at this; exact this
      clear HWE HWD
      go_enter Tryd.func35, Tryd.ntmps35
      go_wp2_with (first
        | (go_at_call 66; refine HL.out.mono ?_; rintro e w1 ⟨rfl, k1⟩; rw [HVV.out] at k1; have HK1 : Hid (Kept [] V w1) := k1; obtain ⟨f0, f1, _, _⟩ := (HV0.out.kept k1).cells; clear k1)
        | (go_at_call 67; refine (HWF.out _ HK1.out).mono ?_; rintro e w2 ⟨rfl, k2⟩; have HK2 : Hid (Kept [] V w2) := HK1.out.trans k2 (by simp) (by simp); clear k2))
      go_ret
      exact ⟨rfl, HKV.out.trans HK2.out (by simp) (by simp)⟩
    | true =>
      rw [show refNewN xs q = 0 from by unfold refNewN; rw [if_neg (by simp [hl]), if_neg (by simp [hwd])]]
      have HWF : Hid (∀ W, Kept [] V W → Calls Tryd.prog 67 #[.agg #[.slice ast q.stem.length cs, .slice al q.loop.length cl], .int .i64 (xs.length : Nat)] W fun e w' => e = .returned (.bool true) ∧ Kept [] W w') := fun W k => by have := HWE.out W k; rw [hwd] at this; exact this
      clear HWE HWD
      go_enter Tryd.func35, Tryd.ntmps35
      go_wp2_with (first
        | (go_at_call 66; refine HL.out.mono ?_; rintro e w1 ⟨rfl, k1⟩; rw [HVV.out] at k1; have HK1 : Hid (Kept [] V w1) := k1; obtain ⟨f0, f1, _, _⟩ := (HV0.out.kept k1).cells; clear k1)
        | (go_at_call 67; refine (HWF.out _ HK1.out).mono ?_; rintro e w2 ⟨rfl, k2⟩; have HK2 : Hid (Kept [] V w2) := HK1.out.trans k2 (by simp) (by simp); clear k2))
      go_ret
      exact ⟨rfl, HKV.out.trans HK2.out (by simp) (by simp)⟩

/-- The names, as the document goes for them. -/
def Tr.nms : Tr → List ByteArray → List ByteArray := Tr.para (fun t rs l => rs.foldl (fun a r => r a) (addName l t))
theorem Tr.nms_eq (t : Tr) (l : List ByteArray) : t.nms l = (t.kids.map Tr.nms).foldl (fun a r => r a) (addName l t) := congrFun (Tr.para_eq _ t) l
def nmsTo (t : Tr) (l : List ByteArray) (i : Nat) : List ByteArray := ((t.kids.take i).map Tr.nms).foldl (fun a r => r a) (addName l t)
theorem nmsTo_succ (t : Tr) (l : List ByteArray) {i : Nat} (h : i < t.kids.length) : nmsTo t l (i + 1) = t.kids[i].nms (nmsTo t l i) := by
  unfold nmsTo
  rw [List.take_succ_eq_append_getElem h, List.map_append, List.foldl_append]
  rfl
theorem nmsTo_all (t : Tr) (l : List ByteArray) : nmsTo t l t.kids.length = t.nms l := by unfold nmsTo; rw [Tr.nms_eq, List.take_length]
theorem nms_keeps (t : Tr) : ∀ {l : List ByteArray} {s : ByteArray}, s ∈ l → s ∈ t.nms l := by
  induction t using Tr.ind with
  | h t ih =>
    intro l s h
    rw [Tr.nms_eq]
    have key : ∀ (ks : List Tr), (∀ k ∈ ks, k ∈ t.kids) → ∀ a, s ∈ a → s ∈ (ks.map Tr.nms).foldl (fun a r => r a) a := by
      intro ks
      induction ks with
      | nil => intro _ a ha; exact ha
      | cons k ks ih2 => intro hk a ha; exact ih2 (fun k' h' => hk k' (by simp [h'])) _ (ih k (hk k (by simp)) ha)
    exact key t.kids (fun _ h => h) _ (addName_keeps h)
theorem nms_named {xs : List ByteArray} (t : Tr) : ∀ {l : List ByteArray}, (∀ s ∈ t.nms l, hasN xs s = true) → t.Named xs := by
  induction t using Tr.ind with
  | h t ih =>
    intro l h
    rw [Tr.nms_eq] at h
    have key : ∀ (ks : List Tr), (∀ k ∈ ks, k ∈ t.kids) → ∀ a, (∀ s ∈ (ks.map Tr.nms).foldl (fun a r => r a) a, hasN xs s = true) → (∀ s ∈ a, hasN xs s = true) ∧ ∀ k ∈ ks, k.Named xs := by
      intro ks
      induction ks with
      | nil => intro _ a ha; exact ⟨ha, by simp⟩
      | cons k ks ih2 =>
        intro hk a ha
        obtain ⟨h1, h2⟩ := ih2 (fun k' h' => hk k' (by simp [h'])) (k.nms a) ha
        refine ⟨fun s hs => h1 s (nms_keeps k hs), fun k' hk' => ?_⟩
        rcases List.mem_cons.1 hk' with e | e
        · rw [e]; exact ih k (hk k (by simp)) h1
        · exact h2 k' e
    obtain ⟨h1, h2⟩ := key t.kids (fun _ h => h) _ h
    refine (Tr.all_eq t).2 ⟨fun h3 => ?_, h2⟩
    obtain ⟨s, hs, e⟩ := addName_has (l := l) h3
    rw [← hasN_congr e]; exact h1 s hs
theorem nms_len (t : Tr) : ∀ l : List ByteArray, (t.nms l).length ≤ l.length + t.size := by
  induction t using Tr.ind with
  | h t ih =>
    intro l
    rw [Tr.nms_eq, Tr.size_eq]
    have key : ∀ (ks : List Tr), (∀ k ∈ ks, k ∈ t.kids) → ∀ a : List ByteArray, ((ks.map Tr.nms).foldl (fun a r => r a) a).length ≤ a.length + (ks.map Tr.size).sum := by
      intro ks
      induction ks with
      | nil => intro _ a; simp
      | cons k ks ih2 =>
        intro hk a
        have h1 := ih2 (fun k' h' => hk k' (by simp [h'])) (k.nms a)
        have h2 := ih k (hk k (by simp)) a
        simp only [List.map_cons, List.foldl_cons, List.sum_cons]
        omega
    have h1 := key t.kids (fun _ h => h) (addName l t)
    have h2 := addName_len l t
    omega
theorem nms_small (t : Tr) : t.Fine → ∀ {l : List ByteArray}, (∀ s ∈ l, s.size ≤ maxLen) → ∀ s ∈ t.nms l, s.size ≤ maxLen := by
  induction t using Tr.ind with
  | h t ih =>
    intro hF l h
    obtain ⟨h1, h2⟩ := (Tr.all_eq t).1 hF
    rw [Tr.nms_eq]
    have key : ∀ (ks : List Tr), (∀ k ∈ ks, k ∈ t.kids) → ∀ a : List ByteArray, (∀ s ∈ a, s.size ≤ maxLen) → ∀ s ∈ (ks.map Tr.nms).foldl (fun a r => r a) a, s.size ≤ maxLen := by
      intro ks
      induction ks with
      | nil => intro _ a ha; exact ha
      | cons k ks ih2 => intro hk a ha; exact ih2 (fun k' h' => hk k' (by simp [h'])) _ (ih k (hk k (by simp)) (h2 k (hk k (by simp))) ha)
    refine key t.kids (fun _ h => h) _ (fun s hs => ?_)
    rcases addName_mem hs with e | ⟨_, e⟩
    · exact h s e
    · rw [e]; exact h1.2
/-- What stands between two calls: the list l, in v. -/
structure NamesAt (B : Nat) (v : Value) (l : List ByteArray) (w : World) : Prop where
  own : w.ownsRow B 9 1 v l.length (strs l)
  size : B ≤ w.heap.size
  small : ∀ s ∈ l, s.size ≤ maxLen
def NamesDoes (t : Tr) : Prop := ∀ (B : Nat) (kv v : Value) (l : List ByteArray) (w : World), IsT (fun k => k < B) w t kv → t.Fine → NamesAt B v l w → l.length + t.size ≤ 1099511627776 →
  Calls Tryd.prog 115 #[.agg #[.int .u8 (t.op : Nat), .string t.name, kv], v] w fun e w' => ∃ v', e = .returned v' ∧ NamesAt B v' (t.nms l) w' ∧ Kept v.ownBlock.toList w w' ∧ (∀ g, v'.ownBlock = some g → v.ownBlock = some g ∨ w.heap.size ≤ g)
theorem NamesAt.strs {B : Nat} {v : Value} {l : List ByteArray} {w : World} (h : NamesAt B v l w) (hl : l.length ≤ 8796093022208) : Strs w v l := strs_own h.own h.small hl
theorem NamesAt.keep0 {B : Nat} {v : Value} {l : List ByteArray} {w w' : World} (h : NamesAt B v l w) (k : Kept [] w w') : NamesAt B v l w' := ⟨row_keptF0 h.own k, Nat.le_trans h.size k.size, h.small⟩
/-- Behind the first statement. -/
structure NmLoop (B : Nat) (w0 : World) (v0 : Value) (l : List ByteArray) (t : Tr) (i : Nat) (v : Value) (wr : World) : Prop where
  nm : NamesAt B v (nmsTo t l i) wr
  kept : Kept v0.ownBlock.toList w0 wr
  grow : ∀ g, v.ownBlock = some g → v0.ownBlock = some g ∨ w0.heap.size ≤ g

theorem nmsTo_len (t : Tr) (l : List ByteArray) : ∀ i, i ≤ t.kids.length → (nmsTo t l i).length ≤ l.length + 1 + ((t.kids.map Tr.size).take i).sum
  | 0, _ => by have := addName_len l t; unfold nmsTo; simpa using this
  | i + 1, h => by
    have ih := nmsTo_len t l i (by omega)
    rw [nmsTo_succ t l (by omega), sum_take _ _ (by simp; omega), List.getElem_map]
    have := nms_len t.kids[i] (nmsTo t l i)
    omega
theorem NmLoop.next {B : Nat} {V : World} {v0 : Value} {l : List ByteArray} {t : Tr} {i : Nat} {u u' : Value} {wr W5 : World} (h : NmLoop B V v0 l t i u wr) (hi : i < t.kids.length) (hn : NamesAt B u' (t.kids[i].nms (nmsTo t l i)) W5) (hk : Kept u.ownBlock.toList wr W5) (hg : ∀ g, u'.ownBlock = some g → u.ownBlock = some g ∨ wr.heap.size ≤ g) : NmLoop B V v0 l t (i + 1) u' W5 := by
  have hz := h.kept.size
  refine ⟨by rw [nmsTo_succ t l hi]; exact hn, h.kept.trans hk (fun x hx => hx) (fun x hx => ?_), fun g e => ?_⟩
  · rcases h.grow x (by simpa using hx) with e | e
    · exact .inl (by simp [e])
    · exact .inr e
  · rcases hg g e with q | q
    · exact h.grow g q
    · exact .inr (by omega)
set_option maxHeartbeats 2000000 in
set_option maxRecDepth 20000 in
theorem refNms_any (t : Tr) : NamesDoes t := by
  induction t using Tr.ind with
  | h t ih =>
    intro B kv v l w hI hF hN hs
    obtain ⟨kad, kcap, rfl⟩ := hI.slice
    have hks := t.kids_size
    have HIH : Hid (∀ k ∈ t.kids, NamesDoes k) := ih
    have HFI : Hid t.Fine := hF
    have HI : Hid (IsT (fun k => k < B) w t (.slice kad t.kids.length kcap)) := hI
    have HN : Hid (NamesAt B v l w) := hN
    obtain ⟨V, hV⟩ : ∃ V, w.alloc (.cells #[.int .u8 (t.op : Nat), .string t.name, .slice kad t.kids.length kcap] 25) = V := ⟨_, rfl⟩
    have kV : Kept [] w V := by rw [← hV]; exact (Kept.refl [] w).alloc _
    have v0 : For3 V w.heap.size (.int .u8 (t.op : Nat)) (.string t.name) (.slice kad t.kids.length kcap) := by rw [← hV]; exact al0 _ _
    have HPL : Hid (Calls Tryd.prog 69 #[v, .string t.name] V fun e w' => e = .returned (.int .i64 (indexI l t.name)) ∧ w' = V) := place_any v l t.name V ((hN.strs (by omega)).kept kV)
    have hzB := hN.size
    have HO : Hid (∀ g, v.ownBlock = some g → B ≤ g ∧ g < w.heap.size) := fun g e => own_lt hN.own e
    have HKV : Hid (Kept [] w V) := kV
    have HV0 : Hid (For3 V w.heap.size (.int .u8 (t.op : Nat)) (.string t.name) (.slice kad t.kids.length kcap)) := v0
    have HVV : Hid (_ = V) := hV
    obtain ⟨vad, vc, rfl⟩ : ∃ vad vc, v = .slice vad l.length vc := by
      rcases hN.own.2 with ⟨rfl, h0⟩ | ⟨g, c', cur, rfl, _⟩
      · exact ⟨none, 0, by rw [h0]⟩
      · exact ⟨_, _, rfl⟩
    obtain ⟨i0, hi0, hz0, hz1, hz2⟩ := info_parts Tryd.infoStr
    have HI0 : Hid _ := hi0
    have HZ0 : Hid _ := hz0
    have HZ1 : Hid _ := hz1
    have HZ2 : Hid _ := hz2
    rw [← hV] at HPL
    have hlen : l.length ≤ 1099511627776 := by omega
    have hsum := hs
    clear ih hI hF hN kV v0 hV hi0 hz0 hz1 hz2 hs
    by_cases h3 : t.op = 3
    · have h3i : ((t.op : Int) == 3) = true := by rw [beq_iff_eq]; omega
      have hlt0 := index_lt l t.name
      obtain ⟨ix, hix⟩ : ∃ ix, indexI l t.name = ix := ⟨_, rfl⟩
      rw [hix] at HPL hlt0
      have HAN : Hid (hasN l t.name = (l.any (fun s => s.data.toList == t.name.data.toList))) := by
        show hasN l t.name = _
        unfold hasN
        congr 1
        funext x
        exact sameN_data _ _
      cases hh : hasN l t.name with
      | true =>
        rw [hh, Bool.not_true, decide_eq_false_iff_not] at hlt0
        have HL0 : Hid (NmLoop B V (.slice vad l.length vc) l t 0 (.slice vad l.length vc) V) := by
          have e : nmsTo t l 0 = l := by unfold nmsTo addName; rw [if_pos h3, if_pos (by rw [← HAN.out]; exact hh)]; rfl
          exact ⟨by rw [e]; exact HN.out.keep0 HKV.out, Kept.refl _ _, fun g e => .inl e⟩
        clear hh h3 hix
        go_enter Tryd.func115, Tryd.ntmps115
        go_wp2_with (go_at_call 69; refine HPL.out.mono ?_; rintro e W1 ⟨rfl, hw1⟩; rw [hw1]; clear hw1)
        rw [HVV.out]
        go_loopw [1, 5] (fun v1 v5 wr => ∃ i : Nat, v5 = .int .i64 (i : Nat) ∧ i ≤ t.kids.length ∧ Hid (NmLoop B V (.slice vad l.length vc) l t i v1 wr)) (fun _ v5 _ => t.kids.length - (intOf v5).toNat)
        case atStart => exact ⟨0, rfl, Nat.zero_le _, HL0.out⟩
        case round =>
          obtain ⟨i, rfl, hi, HR⟩ := hrel
          have hbx : For3 wr w.heap.size (.int .u8 (t.op : Nat)) (.string t.name) (.slice kad t.kids.length kcap) := HR.out.kept.at HV0.out (fun hx => by have := (HO.out _ (show (Value.slice vad l.length vc).ownBlock = some w.heap.size by simpa using hx)).2; omega)
          obtain ⟨f0, f1, f2, _⟩ := hbx.cells
          clear hbx
          by_cases hlt : i < t.kids.length
          · obtain ⟨kb, koff, rfl, hXb, hkid⟩ := IsT.kid HI.out (by omega)
            obtain ⟨kv, c0, c1, c2, hIk⟩ := hkid i hlt
            obtain ⟨ckad, ckcap, rfl⟩ := hIk.slice
            have HNX : Hid _ := fun (u' : Value) (W5 : World) => HR.out.next (u' := u') (W5 := W5) hlt
            have hnl := nmsTo_len t l i hi
            have hsz : ((t.kids.map Tr.size).take (i + 1)).sum ≤ (t.kids.map Tr.size).sum := sum_take_le _ _
            rw [sum_take _ _ (by simpa using hlt), List.getElem_map] at hsz
            have hse := Tr.size_eq t
            obtain ⟨k, hk⟩ : ∃ k, t.kids[i] = k := ⟨_, rfl⟩
            have hkm : k ∈ t.kids := by rw [← hk]; exact List.getElem_mem _
            rw [hk] at c0 c1 c2 hIk hsz
            have hcc : ∀ b o v, b < B → w.cell? ⟨b, o, none⟩ = some v → wr.cell? ⟨b, o, none⟩ = some v := fun b o v hb hv => by
              have h2 := cell_kept0 HKV.out hv
              exact (World.cell?_of_block (w := V) (a := ⟨b, o, none⟩) (HR.out.kept.block b (World.block_lt_of_cell? V _ h2) (fun hx => by have := (HO.out b (by simpa using hx)).1; omega))).trans h2
            have c0 := hcc _ _ _ hXb c0
            have c1 := hcc _ _ _ hXb c1
            have c2 := hcc _ _ _ hXb c2
            have HREC : Hid (Calls Tryd.prog 115 #[.agg #[.int .u8 (k.op : Nat), .string k.name, .slice ckad k.kids.length ckcap], u1] wr fun e w' => ∃ v', e = .returned v' ∧ NamesAt B v' (k.nms (nmsTo t l i)) w' ∧ Kept u1.ownBlock.toList wr w' ∧ (∀ g, v'.ownBlock = some g → u1.ownBlock = some g ∨ wr.heap.size ≤ g)) := HIH.out k hkm B _ u1 (nmsTo t l i) wr (hIk.cells (fun _ h => h) hcc) (((Tr.all_eq t).1 HFI.out).2 k hkm) HR.out.nm (by omega)
            have HHK : Hid (t.kids[i] = k) := hk
            have hii : (i : Int) < (t.kids.length : Int) := by omega
            clear hkid hIk hcc hk hnl hsz hse
            go_wp2_with (go_at_call 115; refine HREC.out.mono ?_; rintro e W5 ⟨v5, rfl, hn5, k5, g5⟩; have HR5 : Hid (NmLoop B V (.slice vad l.length vc) l t (i + 1) v5 W5) := HNX.out v5 W5 (by rw [HHK.out]; exact hn5) k5 g5; clear hn5 k5 g5)
            go_roundw
            case rel => exact ⟨i + 1, by go_num, by omega, HR5.out⟩
            case measure => simp [intOf]; omega
          · obtain rfl : i = t.kids.length := by omega
            have hii : ¬ ((t.kids.length : Int) < (t.kids.length : Int)) := by omega
            clear hlt hi
            go_wp2
            go_ret
            refine ⟨_, rfl, by rw [← nmsTo_all]; exact HR.out.nm, HKV.out.trans HR.out.kept (by simp) (fun x hx => .inl hx), fun g e => (HR.out.grow g e).imp id (fun h => ?_)⟩
            have := HKV.out.size
            omega
      | false =>
        rw [hh, Bool.not_false, decide_eq_true_eq] at hlt0
        have HL0' : Hid (∀ gr cap w3, w3.ownsRow B 9 1 (.slice (some ⟨gr, 0, none⟩) (l.length + 1) cap) (l.length + 1) (strs l ++ [.string t.name]) → (V.alloc (.cells #[.string t.name] 9)).grownBy w3 (Value.slice vad l.length vc).ownBlock → ((Value.slice vad l.length vc).ownBlock = some gr ∨ gr = (V.alloc (.cells #[.string t.name] 9)).heap.size) → NmLoop B V (.slice vad l.length vc) l t 0 (.slice (some ⟨gr, 0, none⟩) (l.length + 1) cap) w3) := fun gr cap w3 o3 g3 a3 => by
          have e : nmsTo t l 0 = l ++ [t.name] := by unfold nmsTo addName; rw [if_pos h3, if_neg (by rw [← HAN.out, hh]; simp)]; rfl
          have hzv := HKV.out.size
          refine ⟨⟨by rw [e, List.length_append, show strs (l ++ [t.name]) = strs l ++ [.string t.name] from by simp [strs]]; exact o3, ?_, ?_⟩, ?_, fun g eg => ?_⟩
          · have := g3.size; rw [World.size_alloc] at this; omega
          · rw [e]
            intro s hs
            rcases List.mem_append.1 hs with q | q
            · exact HN.out.small s q
            · rw [List.mem_singleton.1 q]; exact ((Tr.all_eq t).1 HFI.out).1.2
          · exact ((Kept.refl [] V).alloc _).trans ((Kept.refl (Value.slice vad l.length vc).ownBlock.toList _).grown g3 (fun k e => by rw [e]; simp)) (by simp) (fun x hx => .inl hx)
          · have e1 : gr = g := by simpa [Value.ownBlock] using eg
            subst e1
            rcases a3 with q | q
            · exact .inl q
            · rw [World.size_alloc] at q; exact .inr (by omega)
        have HNV : Hid (V.ownsRow B 9 1 (.slice vad l.length vc) l.length (strs l)) := (HN.out.keep0 HKV.out).own
        obtain ⟨g0, g1, g2, _⟩ := HV0.out.cells
        clear hh h3 hix
        go_enter Tryd.func115, Tryd.ntmps115
        go_wp2_with (first
          | (go_at_call 69; refine HPL.out.mono ?_; rintro e W1 ⟨rfl, hw1⟩; rw [hw1, HVV.out]; clear hw1)
          | (at_builtin; refine wpList_append_lies _ rfl _ _ 26 rfl B 9 i0 _ 1 16 Tryd.underlying26 HI0.out HZ0.out HZ1.out HZ2.out rfl (by decide) _ l.length (strs l) rfl (HNV.out.alloc _) ⟨V.heap.size, 0, none⟩ 1 1 [.string t.name] rfl rfl one_cell (fun u hu => by simp at hu; subst hu; rfl) (by omega) (by unfold maxLen; omega) (by omega) (by rw [World.size_alloc]; have := HKV.out.size; omega) _ rfl ?_; intro gr cap3 w3 o3 g3 a3 _; have HL0 : Hid (NmLoop B V (.slice vad l.length vc) l t 0 (.slice (some ⟨gr, 0, none⟩) (l.length + 1) cap3) w3) := HL0'.out gr cap3 w3 o3 g3 a3; clear o3 g3 a3))
        clear g0 g1 g2
        go_loopw [1, 5] (fun v1 v5 wr => ∃ i : Nat, v5 = .int .i64 (i : Nat) ∧ i ≤ t.kids.length ∧ Hid (NmLoop B V (.slice vad l.length vc) l t i v1 wr)) (fun _ v5 _ => t.kids.length - (intOf v5).toNat)
        case atStart => exact ⟨0, rfl, Nat.zero_le _, HL0.out⟩
        case round =>
          obtain ⟨i, rfl, hi, HR⟩ := hrel
          have hbx : For3 wr w.heap.size (.int .u8 (t.op : Nat)) (.string t.name) (.slice kad t.kids.length kcap) := HR.out.kept.at HV0.out (fun hx => by have := (HO.out _ (show (Value.slice vad l.length vc).ownBlock = some w.heap.size by simpa using hx)).2; omega)
          obtain ⟨f0, f1, f2, _⟩ := hbx.cells
          clear hbx
          by_cases hlt : i < t.kids.length
          · obtain ⟨kb, koff, rfl, hXb, hkid⟩ := IsT.kid HI.out (by omega)
            obtain ⟨kv, c0, c1, c2, hIk⟩ := hkid i hlt
            obtain ⟨ckad, ckcap, rfl⟩ := hIk.slice
            have HNX : Hid _ := fun (u' : Value) (W5 : World) => HR.out.next (u' := u') (W5 := W5) hlt
            have hnl := nmsTo_len t l i hi
            have hsz : ((t.kids.map Tr.size).take (i + 1)).sum ≤ (t.kids.map Tr.size).sum := sum_take_le _ _
            rw [sum_take _ _ (by simpa using hlt), List.getElem_map] at hsz
            have hse := Tr.size_eq t
            obtain ⟨k, hk⟩ : ∃ k, t.kids[i] = k := ⟨_, rfl⟩
            have hkm : k ∈ t.kids := by rw [← hk]; exact List.getElem_mem _
            rw [hk] at c0 c1 c2 hIk hsz
            have hcc : ∀ b o v, b < B → w.cell? ⟨b, o, none⟩ = some v → wr.cell? ⟨b, o, none⟩ = some v := fun b o v hb hv => by
              have h2 := cell_kept0 HKV.out hv
              exact (World.cell?_of_block (w := V) (a := ⟨b, o, none⟩) (HR.out.kept.block b (World.block_lt_of_cell? V _ h2) (fun hx => by have := (HO.out b (by simpa using hx)).1; omega))).trans h2
            have c0 := hcc _ _ _ hXb c0
            have c1 := hcc _ _ _ hXb c1
            have c2 := hcc _ _ _ hXb c2
            have HREC : Hid (Calls Tryd.prog 115 #[.agg #[.int .u8 (k.op : Nat), .string k.name, .slice ckad k.kids.length ckcap], u1] wr fun e w' => ∃ v', e = .returned v' ∧ NamesAt B v' (k.nms (nmsTo t l i)) w' ∧ Kept u1.ownBlock.toList wr w' ∧ (∀ g, v'.ownBlock = some g → u1.ownBlock = some g ∨ wr.heap.size ≤ g)) := HIH.out k hkm B _ u1 (nmsTo t l i) wr (hIk.cells (fun _ h => h) hcc) (((Tr.all_eq t).1 HFI.out).2 k hkm) HR.out.nm (by omega)
            have HHK : Hid (t.kids[i] = k) := hk
            have hii : (i : Int) < (t.kids.length : Int) := by omega
            clear hkid hIk hcc hk hnl hsz hse
            go_wp2_with (go_at_call 115; refine HREC.out.mono ?_; rintro e W5 ⟨v5, rfl, hn5, k5, g5⟩; have HR5 : Hid (NmLoop B V (.slice vad l.length vc) l t (i + 1) v5 W5) := HNX.out v5 W5 (by rw [HHK.out]; exact hn5) k5 g5; clear hn5 k5 g5)
            go_roundw
            case rel => exact ⟨i + 1, by go_num, by omega, HR5.out⟩
            case measure => simp [intOf]; omega
          · obtain rfl : i = t.kids.length := by omega
            have hii : ¬ ((t.kids.length : Int) < (t.kids.length : Int)) := by omega
            clear hlt hi
            go_wp2
            go_ret
            refine ⟨_, rfl, by rw [← nmsTo_all]; exact HR.out.nm, HKV.out.trans HR.out.kept (by simp) (fun x hx => .inl hx), fun g e => (HR.out.grow g e).imp id (fun h => ?_)⟩
            have := HKV.out.size
            omega
    · have h3i : ((t.op : Int) == 3) = false := by rw [beq_eq_false_iff_ne]; omega
      have HL0 : Hid (NmLoop B V (.slice vad l.length vc) l t 0 (.slice vad l.length vc) V) := by
        have e : nmsTo t l 0 = l := by unfold nmsTo addName; rw [if_neg h3]; rfl
        exact ⟨by rw [e]; exact HN.out.keep0 HKV.out, Kept.refl _ _, fun g e => .inl e⟩
      clear h3
      go_enter Tryd.func115, Tryd.ntmps115
      go_wp2_with fail
      rw [HVV.out]
      go_loopw [1, 5] (fun v1 v5 wr => ∃ i : Nat, v5 = .int .i64 (i : Nat) ∧ i ≤ t.kids.length ∧ Hid (NmLoop B V (.slice vad l.length vc) l t i v1 wr)) (fun _ v5 _ => t.kids.length - (intOf v5).toNat)
      case atStart => exact ⟨0, rfl, Nat.zero_le _, HL0.out⟩
      case round =>
        obtain ⟨i, rfl, hi, HR⟩ := hrel
        have hbx : For3 wr w.heap.size (.int .u8 (t.op : Nat)) (.string t.name) (.slice kad t.kids.length kcap) := HR.out.kept.at HV0.out (fun hx => by have := (HO.out _ (show (Value.slice vad l.length vc).ownBlock = some w.heap.size by simpa using hx)).2; omega)
        obtain ⟨f0, f1, f2, _⟩ := hbx.cells
        clear hbx
        by_cases hlt : i < t.kids.length
        · obtain ⟨kb, koff, rfl, hXb, hkid⟩ := IsT.kid HI.out (by omega)
          obtain ⟨kv, c0, c1, c2, hIk⟩ := hkid i hlt
          obtain ⟨ckad, ckcap, rfl⟩ := hIk.slice
          have HNX : Hid _ := fun (u' : Value) (W5 : World) => HR.out.next (u' := u') (W5 := W5) hlt
          have hnl := nmsTo_len t l i hi
          have hsz : ((t.kids.map Tr.size).take (i + 1)).sum ≤ (t.kids.map Tr.size).sum := sum_take_le _ _
          rw [sum_take _ _ (by simpa using hlt), List.getElem_map] at hsz
          have hse := Tr.size_eq t
          obtain ⟨k, hk⟩ : ∃ k, t.kids[i] = k := ⟨_, rfl⟩
          have hkm : k ∈ t.kids := by rw [← hk]; exact List.getElem_mem _
          rw [hk] at c0 c1 c2 hIk hsz
          have hcc : ∀ b o v, b < B → w.cell? ⟨b, o, none⟩ = some v → wr.cell? ⟨b, o, none⟩ = some v := fun b o v hb hv => by
            have h2 := cell_kept0 HKV.out hv
            exact (World.cell?_of_block (w := V) (a := ⟨b, o, none⟩) (HR.out.kept.block b (World.block_lt_of_cell? V _ h2) (fun hx => by have := (HO.out b (by simpa using hx)).1; omega))).trans h2
          have c0 := hcc _ _ _ hXb c0
          have c1 := hcc _ _ _ hXb c1
          have c2 := hcc _ _ _ hXb c2
          have HREC : Hid (Calls Tryd.prog 115 #[.agg #[.int .u8 (k.op : Nat), .string k.name, .slice ckad k.kids.length ckcap], u1] wr fun e w' => ∃ v', e = .returned v' ∧ NamesAt B v' (k.nms (nmsTo t l i)) w' ∧ Kept u1.ownBlock.toList wr w' ∧ (∀ g, v'.ownBlock = some g → u1.ownBlock = some g ∨ wr.heap.size ≤ g)) := HIH.out k hkm B _ u1 (nmsTo t l i) wr (hIk.cells (fun _ h => h) hcc) (((Tr.all_eq t).1 HFI.out).2 k hkm) HR.out.nm (by omega)
          have HHK : Hid (t.kids[i] = k) := hk
          have hii : (i : Int) < (t.kids.length : Int) := by omega
          clear hkid hIk hcc hk hnl hsz hse
          go_wp2_with (go_at_call 115; refine HREC.out.mono ?_; rintro e W5 ⟨v5, rfl, hn5, k5, g5⟩; have HR5 : Hid (NmLoop B V (.slice vad l.length vc) l t (i + 1) v5 W5) := HNX.out v5 W5 (by rw [HHK.out]; exact hn5) k5 g5; clear hn5 k5 g5)
          go_roundw
          case rel => exact ⟨i + 1, by go_num, by omega, HR5.out⟩
          case measure => simp [intOf]; omega
        · obtain rfl : i = t.kids.length := by omega
          have hii : ¬ ((t.kids.length : Int) < (t.kids.length : Int)) := by omega
          clear hlt hi
          go_wp2
          go_ret
          refine ⟨_, rfl, by rw [← nmsTo_all]; exact HR.out.nm, HKV.out.trans HR.out.kept (by simp) (fun x hx => .inl hx), fun g e => (HR.out.grow g e).imp id (fun h => ?_)⟩
          have := HKV.out.size
          omega
end Go.Proofs.YtddgciilcghbaaaDoor

/- Over, and the law's own question: may it be asked at all. -/
namespace Go.Proofs.YtddgciilcghbaaaDoor
open Go.RowKit Go.Shelf

def overB (t : Tr) (xs : List ByteArray) : Bool := !lackN (t.nms []) xs
theorem over_named {t : Tr} {xs : List ByteArray} (h : overB t xs = true) : t.Named xs := by
  refine nms_named t (l := []) (fun s hs => ?_)
  unfold overB lackN at h
  rw [Bool.not_eq_true', List.any_eq_false] at h
  have := h s hs
  simpa using this
set_option maxHeartbeats 1000000 in
theorem refNames_any (t : Tr) (kv : Value) (w : World) (hI : IsF w t kv) (hF : t.Fine) (hs : t.size ≤ 1000000000) :
    Calls Tryd.prog 68 #[.agg #[.int .u8 (t.op : Nat), .string t.name, kv]] w fun e w' => ∃ u, e = .returned u ∧ Strs w' u (t.nms []) ∧ Kept [] w w' := by
  obtain ⟨kad, kcap, rfl⟩ := hI.slice
  have kV := (Kept.refl [] w).alloc (.cells #[.int .u8 (t.op : Nat), .string t.name, .slice kad t.kids.length kcap] 25)
  have hl := nms_len t []
  have HC : Hid (Calls Tryd.prog 115 #[.agg #[.int .u8 (t.op : Nat), .string t.name, .slice kad t.kids.length kcap], .slice none 0 0] (w.alloc (.cells #[.int .u8 (t.op : Nat), .string t.name, .slice kad t.kids.length kcap] 25)) fun e w' => ∃ u, e = .returned u ∧ Strs w' u (t.nms []) ∧ Kept [] w w') :=
    (refNms_any t w.heap.size _ (.slice none 0 0) [] _ (hI.cells (fun _ h => h) (fun _ _ _ _ c => cell_kept0 kV c)) hF ⟨World.ownsRow_nil _ _ _ _, kV.size, by simp⟩ (by simp; omega)).mono (fun e w' ⟨u, h1, h2, h3, _⟩ => ⟨u, h1, h2.strs (by simp at hl; omega), kV.trans h3 (by simp) (fun x hx => by simp [Value.ownBlock] at hx)⟩)
  clear hI hF kV hl
  go_enter Tryd.func68, Tryd.ntmps68
  go_wp2_with (go_at_call 115; refine HC.out.mono ?_; rintro e W ⟨u, rfl, hs2, k⟩; have HS2 : Hid _ := hs2; have HK : Hid _ := k; clear hs2 k)
  go_ret
  exact ⟨_, rfl, HS2.out, HK.out⟩
set_option maxHeartbeats 1000000 in
set_option maxRecDepth 20000 in
theorem over_any (t : Tr) (kv v : Value) (xs : List ByteArray) (w : World) (hI : IsF w t kv) (hF : t.Fine) (hs : t.size ≤ 1000000000) (hN : Strs w v xs) :
    Calls Tryd.prog 36 #[.agg #[.int .u8 (t.op : Nat), .string t.name, kv], v] w fun e w' => e = .returned (.bool (overB t xs)) ∧ Kept [] w w' := by
  obtain ⟨kad, kcap, rfl⟩ := hI.slice
  have kV := (Kept.refl [] w).alloc (.cells #[.int .u8 (t.op : Nat), .string t.name, .slice kad t.kids.length kcap] 25)
  have hl := nms_len t []
  have HC : Hid (Calls Tryd.prog 68 #[.agg #[.int .u8 (t.op : Nat), .string t.name, .slice kad t.kids.length kcap]] (w.alloc (.cells #[.int .u8 (t.op : Nat), .string t.name, .slice kad t.kids.length kcap] 25)) fun e w' => ∃ u, e = .returned u ∧ Strs w' u (t.nms []) ∧ Kept [] (w.alloc (.cells #[.int .u8 (t.op : Nat), .string t.name, .slice kad t.kids.length kcap] 25)) w') := refNames_any t _ _ (hI.kept kV) hF hs
  have HPL : Hid (∀ W s, Kept [] w W → Calls Tryd.prog 69 #[v, .string s] W fun e w' => e = .returned (.int .i64 (indexI xs s)) ∧ w' = W) := fun W s k => place_any v xs s W (hN.kept k)
  obtain ⟨r, hr⟩ : ∃ r, overB t xs = r := ⟨_, rfl⟩
  rw [hr]
  have HR : Hid (overB t xs = r) := hr
  obtain ⟨ns, hns⟩ : ∃ ns, t.nms [] = ns := ⟨_, rfl⟩
  rw [hns] at HC hl
  have HNS : Hid _ := hns
  obtain ⟨ad, c, rfl, _⟩ := hN.form
  have hnl : ns.length ≤ 1000000000 := by simp at hl; omega
  clear hI hF hN kV hr hl hns
  go_enter Tryd.func36, Tryd.ntmps36
  go_wp2_with (go_at_call 68; refine HC.out.mono ?_; rintro e V ⟨u, rfl, hs2, k⟩; have HS2 : Hid (Strs V u ns) := hs2; have HKV : Hid (Kept [] w V) := ((Kept.refl [] w).alloc _).trans k (by simp) (by simp); obtain ⟨uad, uc, hu, _, _⟩ := hs2.form; subst hu; clear hs2 k)
  go_loopw [6] (fun v6 wr => ∃ k : Nat, k ≤ ns.length ∧ v6 = .int .i64 (k : Nat) ∧ Hid (Kept [] V wr ∧ lackN (ns.take k) xs = false)) (fun v6 _ => ns.length - (intOf v6).toNat)
  case atStart => exact ⟨0, Nat.zero_le _, rfl, Kept.refl [] V, rfl⟩
  case round =>
    obtain ⟨k, hk, rfl, HF⟩ := hrel
    by_cases hlt : k < ns.length
    · have hlt' : (k : Int) < (ns.length : Int) := by omega
      have b0 : (0 : Int) ≤ (k : Int) := by omega
      obtain ⟨sb, so, sc, hse, _, _, hcs⟩ := (HS2.out.kept HF.out.1).there (by omega)
      simp only [Value.slice.injEq, true_and] at hse
      obtain ⟨rfl, rfl⟩ := hse
      have d1 := hcs k hlt
      have HN : Hid _ := lackN_take (xs := xs) hlt
      have hlx := index_lt xs ns[k]
      have HPK : Hid (Calls Tryd.prog 69 #[.slice ad xs.length c, .string ns[k]] wr fun e w' => e = .returned (.int .i64 (indexI xs ns[k])) ∧ w' = wr) := HPL.out wr ns[k] (HKV.out.trans HF.out.1 (by simp) (by simp))
      have HMEM : Hid (ns[k] ∈ ns) := List.getElem_mem _
      obtain ⟨ix, hix⟩ : ∃ ix, indexI xs ns[k] = ix := ⟨_, rfl⟩
      rw [hix] at HPK hlx
      cases hh : hasN xs ns[k] with
      | false =>
        rw [hh, Bool.not_false, decide_eq_true_eq] at hlx
        have HE : Hid (false = r) := by
          show false = r
          rw [← HR.out]
          unfold overB
          rw [HNS.out, show lackN ns xs = true from by unfold lackN; rw [List.any_eq_true]; exact ⟨ns[k], HMEM.out, by rw [hh]; rfl⟩]; rfl
        obtain ⟨x, hxk⟩ : ∃ x, ns[k] = x := ⟨_, rfl⟩
        rw [hxk] at d1 HPK
        clear hxk hcs hh hix HN HMEM
        go_wp2_with (go_at_call 69; refine HPK.out.mono ?_; rintro e W1 ⟨rfl, hw1⟩; rw [hw1]; clear hw1)
        go_ret
        exact ⟨ret_bool HE.out, HKV.out.trans HF.out.1 (by simp) (by simp)⟩
      | true =>
        rw [hh, Bool.not_true, decide_eq_false_iff_not] at hlx
        have HF2 : Hid (lackN (ns.take (k + 1)) xs = false) := by show lackN (ns.take (k + 1)) xs = false; rw [HN.out, HF.out.2, hh]; rfl
        obtain ⟨x, hxk⟩ : ∃ x, ns[k] = x := ⟨_, rfl⟩
        rw [hxk] at d1 HPK
        clear hxk hcs hh hix HN HMEM
        go_wp2_with (go_at_call 69; refine HPK.out.mono ?_; rintro e W1 ⟨rfl, hw1⟩; rw [hw1]; clear hw1)
        go_roundw
        case rel => exact ⟨k + 1, by omega, by go_num, HF.out.1, HF2.out⟩
        case measure => simp [intOf]; omega
    · obtain rfl : k = ns.length := by omega
      have hlt' : ¬ ((ns.length : Int) < (ns.length : Int)) := by omega
      have HE : Hid (true = r) := by
        show true = r
        rw [← HR.out]
        have := HF.out.2
        rw [List.take_length] at this
        unfold overB
        rw [HNS.out, this]; rfl
      clear hlt
      go_wp2
      go_ret
      exact ⟨ret_bool HE.out, HKV.out.trans HF.out.1 (by simp) (by simp)⟩
/-- May it be asked. -/
def askB (t : Tr) (xs : List ByteArray) (q : Wd) : Bool := decide (rightN pastB t = 0) && (decide (refNewN xs q = 0) && overB t xs)
theorem ask_along {t : Tr} {xs : List ByteArray} {q : Wd} (h : askB t xs q = true) : t.Good ∧ t.Named xs ∧ listBool xs = true ∧ checkE q xs.length = 0 ∧ t.size ≤ 1000 ∧ t.depth ≤ 100 := by
  unfold askB at h
  simp only [Bool.and_eq_true, decide_eq_true_eq] at h
  obtain ⟨h1, h2, h3⟩ := h
  obtain ⟨g1, g2⟩ := good_of_right h1
  unfold refNewN at h2
  split at h2
  · cases h2
  · rename_i hl
    split at h2
    · cases h2
    · rename_i hw
      have hl' : listBool xs = true := by simpa using hl
      refine ⟨g1, over_named h3, hl', (wordB_check ((listBool_iff xs).1 hl').1).1 (by simpa using hw), g2, ?_⟩
      unfold rightN at h1
      split at h1
      · split at h1
        · rename_i hm
          rw [Bool.and_eq_true, decide_eq_true_eq, decide_eq_true_eq] at hm
          exact hm.2
        · cases h1
      · cases h1
set_option maxHeartbeats 2000000 in
set_option maxRecDepth 20000 in
theorem ask_any (t : Tr) (kv v sv lv : Value) (xs : List ByteArray) (q : Wd) (w : World) (hI : IsF w t kv) (hF : t.Fine) (hs : t.size ≤ 1000000000) (hN : Strs w v xs) (hW : IsW w sv lv q) :
    Calls Tryd.prog 8 #[.agg #[.int .u8 (t.op : Nat), .string t.name, kv], v, .agg #[sv, lv]] w fun e w' => e = .returned (.bool (askB t xs q)) ∧ Kept [] w w' := by
  obtain ⟨kad, kcap, rfl⟩ := hI.slice
  have hdz : t.depth ≤ t.size := Tr.depth_size t
  obtain ⟨V, hV⟩ : ∃ V, (w.alloc (.cells #[.int .u8 (t.op : Nat), .string t.name, .slice kad t.kids.length kcap] 25)).alloc (.cells #[sv, lv] 29) = V := ⟨_, rfl⟩
  have kV : Kept [] w V := by rw [← hV]; exact ((Kept.refl [] w).alloc _).alloc _
  have v0 : For3 V w.heap.size (.int .u8 (t.op : Nat)) (.string t.name) (.slice kad t.kids.length kcap) := by rw [← hV]; exact alUp (al0 _ _) _
  have v1 : Wd2 V (w.heap.size + 1) sv lv := by rw [← hV]; exact al1 _ _ _
  have HRR : Hid (Calls Tryd.prog 34 #[.agg #[.int .u8 (t.op : Nat), .string t.name, .slice kad t.kids.length kcap]] V fun e w' => e = .returned (.int .i64 (rightN pastB t : Nat)) ∧ Kept [] V w') := refRight_any t _ V (hI.kept kV) (by omega) (by omega) hF
  have HNE : Hid (∀ W, Kept [] V W → Calls Tryd.prog 35 #[v, .agg #[sv, lv]] W fun e w' => e = .returned (.int .i64 (refNewN xs q : Nat)) ∧ Kept [] W w') := fun W k => refNew_any v sv lv xs q W ((hN.kept kV).kept k) ((hW.kept kV).kept k)
  have HOV : Hid (∀ W, Kept [] V W → Calls Tryd.prog 36 #[.agg #[.int .u8 (t.op : Nat), .string t.name, .slice kad t.kids.length kcap], v] W fun e w' => e = .returned (.bool (overB t xs)) ∧ Kept [] W w') := fun W k => over_any t _ v xs W ((hI.kept kV).kept k) hF hs ((hN.kept kV).kept k)
  obtain ⟨ad, c, rfl, _⟩ := hN.form
  obtain ⟨ast, cs, rfl, _, _⟩ := hW.st.form
  obtain ⟨al, cl, rfl, _, _⟩ := hW.lp.form
  have HKV : Hid (Kept [] w V) := kV
  have HV0 : Hid (For3 V w.heap.size (.int .u8 (t.op : Nat)) (.string t.name) (.slice kad t.kids.length kcap)) := v0
  have HV1 : Hid (Wd2 V (w.heap.size + 1) (.slice ast q.stem.length cs) (.slice al q.loop.length cl)) := v1
  have HVV : Hid (_ = V) := hV
  rw [← hV] at HRR
  obtain ⟨rn, hrn⟩ : ∃ rn, rightN pastB t = rn := ⟨_, rfl⟩
  obtain ⟨nn, hnn⟩ : ∃ nn, refNewN xs q = nn := ⟨_, rfl⟩
  obtain ⟨ob, hob⟩ : ∃ ob, overB t xs = ob := ⟨_, rfl⟩
  rw [show askB t xs q = (decide (rn = 0) && (decide (nn = 0) && ob)) from by unfold askB; rw [hrn, hnn, hob]]
  rw [hrn] at HRR
  rw [hnn] at HNE
  rw [hob] at HOV
  clear hI hF hN hW kV v0 v1 hV hrn hnn hob hdz
  by_cases h1 : rn = 0
  · subst h1
    by_cases h2 : nn = 0
    · subst h2
      go_enter Tryd.func8, Tryd.ntmps8
      go_wp2_with (first
        | (go_at_call 34; refine HRR.out.mono ?_; rintro e w1 ⟨rfl, k1⟩; rw [HVV.out] at k1; have HK1 : Hid (Kept [] V w1) := k1; obtain ⟨g0, g1, _, _⟩ := (HV1.out.kept k1).cells; clear k1)
        | (go_at_call 35; refine (HNE.out _ HK1.out).mono ?_; rintro e w2 ⟨rfl, k2⟩; have HK2 : Hid (Kept [] V w2) := HK1.out.trans k2 (by simp) (by simp); obtain ⟨f0, f1, f2, _⟩ := (HV0.out.kept HK2.out).cells; clear k2)
        | (go_at_call 36; refine (HOV.out _ HK2.out).mono ?_; rintro e w3 ⟨rfl, k3⟩; have HK3 : Hid (Kept [] V w3) := HK2.out.trans k3 (by simp) (by simp); clear k3))
      go_ret
      exact ⟨ret_bool (by simp), HKV.out.trans HK3.out (by simp) (by simp)⟩
    · have h2i : ((nn : Int) == 0) = false := by rw [beq_eq_false_iff_ne]; omega
      rw [show (decide (0 = 0) && (decide (nn = 0) && ob)) = false from by simp [h2]]
      clear h2
      go_enter Tryd.func8, Tryd.ntmps8
      go_wp2_with (first
        | (go_at_call 34; refine HRR.out.mono ?_; rintro e w1 ⟨rfl, k1⟩; rw [HVV.out] at k1; have HK1 : Hid (Kept [] V w1) := k1; obtain ⟨g0, g1, _, _⟩ := (HV1.out.kept k1).cells; clear k1)
        | (go_at_call 35; refine (HNE.out _ HK1.out).mono ?_; rintro e w2 ⟨rfl, k2⟩; have HK2 : Hid (Kept [] V w2) := HK1.out.trans k2 (by simp) (by simp); clear k2))
      go_ret
      exact ⟨rfl, HKV.out.trans HK2.out (by simp) (by simp)⟩
  · have h1i : ((rn : Int) == 0) = false := by rw [beq_eq_false_iff_ne]; omega
    rw [show (decide (rn = 0) && (decide (nn = 0) && ob)) = false from by simp [h1]]
    clear h1
    go_enter Tryd.func8, Tryd.ntmps8
    go_wp2_with (go_at_call 34; refine HRR.out.mono ?_; rintro e w1 ⟨rfl, k1⟩; rw [HVV.out] at k1; have HK1 : Hid (Kept [] V w1) := k1; clear k1)
    go_ret
    exact ⟨rfl, HKV.out.trans HK1.out (by simp) (by simp)⟩
end Go.Proofs.YtddgciilcghbaaaDoor
