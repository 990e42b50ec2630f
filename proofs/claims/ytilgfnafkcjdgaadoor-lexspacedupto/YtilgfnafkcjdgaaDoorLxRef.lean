/- The chapter's own answer on names: package augurref02's letter, digit, Words, IsWord, IsName, Named, Quote. -/
import Derived.Test.YtilgfnafkcjdgaaDoorLxSmall
namespace Go.Proofs.YtilgfnafkcjdgaaDoor
open Go.RowKit

theorem refLetter_any (b : UInt8) (w : World) :
    Calls Tryd.prog 46 #[.int .u8 (b.toNat : Nat)] w fun e w' => e = .returned (.bool (isLetterB b)) ∧ w' = w := by
  generalize hb : b.toNat = n
  go_enter Tryd.func46, Tryd.ntmps46
  go_wp2
  all_goals go_ret
  all_goals refine ⟨ret_bool ?_, rfl⟩
  all_goals unfold isLetterB
  all_goals rw [hb, Bool.eq_iff_iff]
  all_goals simp
  all_goals omega
theorem refDigit_any (b : UInt8) (w : World) :
    Calls Tryd.prog 47 #[.int .u8 (b.toNat : Nat)] w fun e w' => e = .returned (.bool (isDigitB b)) ∧ w' = w := by
  generalize hb : b.toNat = n
  go_enter Tryd.func47, Tryd.ntmps47
  go_wp2
  all_goals go_ret
  all_goals refine ⟨ret_bool ?_, rfl⟩
  all_goals unfold isDigitB
  all_goals rw [hb, Bool.eq_iff_iff]
  all_goals simp
  all_goals omega

def wordsV : Array Value := (wordsL.map fun l => Value.string ⟨l.toArray⟩).toArray
set_option maxHeartbeats 1000000 in
theorem refWords_any (w : World) :
    Calls Tryd.prog 58 #[] w fun e w' => e = .returned (.slice (some ⟨w.heap.size, 0, none⟩) 15 15) ∧ w' = w.alloc (.cells wordsV 9) := by
  go_enter Tryd.func58, Tryd.ntmps58
  go_wp2
  go_ret
  exact ⟨rfl, rfl⟩
theorem words_at (i : Nat) (h : i < 15) : ∃ l, wordsL[i]? = some l ∧ wordsV[i]? = some (.string ⟨l.toArray⟩) := by
  have h' : i < wordsL.length := h
  exact ⟨wordsL[i], List.getElem?_eq_getElem h', by unfold wordsV; simp [h']⟩
set_option maxHeartbeats 1000000 in
theorem refIsWord_any (s : ByteArray) (w : World) :
    Calls Tryd.prog 45 #[.string s] w fun e w' => e = .returned (.bool (isWordB s.data.toList)) ∧ Kept [] w w' := by
  have HK : Hid (Kept [] w (w.alloc (.cells wordsV 9))) := (Kept.refl [] w).alloc _
  go_enter Tryd.func45, Tryd.ntmps45
  go_wp2_with (go_at_call 58; refine (refWords_any _).mono ?_; rintro e w' ⟨rfl, hw⟩; rw [hw])
  have HC : Hid (∀ i, (w.alloc (.cells wordsV 9)).cell? ⟨w.heap.size, i, none⟩ = wordsV[i]?) := fun i => cell_of (heap_alloc_new w _) i
  generalize (w.alloc (.cells wordsV 9)) = w1 at HK HC ⊢
  go_loop [4] (fun v => ∃ k : Nat, k ≤ 15 ∧ v = .int .i64 (k : Nat) ∧ Hid (∀ (j : Nat) l, j < k → wordsL[j]? = some l → ¬ l = s.data.toList)) (fun v => 15 - (intOf v).toNat)
  case atStart => exact ⟨0, Nat.zero_le _, rfl, fun j l hj => absurd hj (Nat.not_lt_zero _)⟩
  case round =>
    obtain ⟨k, hk, rfl, hall⟩ := hrel
    by_cases h0 : k < 15
    · obtain ⟨l, hl, hv⟩ := words_at k h0
      have hki : (k : Int) < 15 := by omega
      have hc := (HC.out k).trans hv
      have hlt : (⟨l.toArray⟩ : ByteArray).toList = l := by rw [Lib.toList_data]
      have hst : s.toList = s.data.toList := Lib.toList_data s
      generalize hq : (⟨l.toArray⟩ : ByteArray) = t at hc hlt
      have HL : Hid _ := hl
      clear hl hv hq
      cases he : (t.toList == s.toList)
      · have he' : ¬ l = s.data.toList := by rw [← hlt, ← hst]; simpa using he
        have HE : Hid _ := he'
        clear hlt hst he'
        go_wp2
        go_round
        case rel => exact ⟨k + 1, by omega, by go_num, fun j l' hj hjl => by
          by_cases e : j = k
          · subst e; rw [HL.out] at hjl; cases hjl; exact HE.out
          · exact hall.out j l' (by omega) hjl⟩
        case measure => simp [intOf]; omega
      · have he' : l = s.data.toList := by rw [← hlt, ← hst]; simpa using he
        have HE : Hid _ := he'
        clear hlt hst he'
        go_wp2
        go_ret
        refine ⟨ret_bool ?_, HK.out⟩
        unfold isWordB
        rw [← HE.out]
        exact (List.contains_iff_mem.2 (List.mem_of_getElem? HL.out)).symm
    · have hki : ¬ (k : Int) < 15 := by omega
      go_wp2
      go_ret
      refine ⟨ret_bool ?_, HK.out⟩
      unfold isWordB
      symm
      rw [Bool.eq_false_iff]
      intro hc
      obtain ⟨j, hj, hjl⟩ := List.mem_iff_getElem.1 (List.contains_iff_mem.1 hc)
      exact hall.out j _ (by have : wordsL.length = 15 := rfl; omega) (List.getElem?_eq_getElem hj) hjl

theorem name_eq (b : UInt8) (r : List UInt8) : isNameB (b :: r) = (goodLenB (b :: r) && (isLetterB b && r.all isBareB) && !isWordB (b :: r)) := by
  unfold isNameB
  congr 2
  rw [bareN_cons, Bool.eq_iff_iff]
  cases hb : isLetterB b
  · simp
  · simp only [if_true, List.length_cons, decide_eq_true_eq, Bool.true_and, Nat.add_right_cancel_iff]
    have hp := List.takeWhile_prefix (p := isBareB) (l := r)
    constructor
    · intro h
      rw [← hp.eq_of_length h]
      exact List.all_takeWhile
    · intro h
      exact takeWhile_len r r.length (fun j b _ hb => List.all_eq_true.1 h b (List.mem_of_getElem? hb)) (Nat.le_refl _) (fun b hb => by rw [List.getElem?_eq_none (Nat.le_refl _)] at hb; cases hb)
theorem name_nil : isNameB [] = false := rfl

set_option maxHeartbeats 2000000 in
theorem refIsName_any (s : ByteArray) (w : World) (hs : s.size ≤ 9223372036854775807) :
    Calls Tryd.prog 20 #[.string s] w fun e w' => e = .returned (.bool (isNameB s.data.toList)) ∧ Kept [] w w' := by
  have hW := refIsWord_any s w
  by_cases hw : isWordB s.data.toList = true
  · have hn : isNameB s.data.toList = false := by unfold isNameB; rw [hw]; simp
    rw [hn]
    rw [hw] at hW
    go_enter Tryd.func20, Tryd.ntmps20
    go_wp2_with (go_at_call 45; refine hW.mono ?_; rintro e w1 ⟨rfl, hk⟩)
    go_ret
    exact ⟨rfl, hk⟩
  have hw' : isWordB s.data.toList = false := by simpa using hw
  rw [hw'] at hW
  by_cases h0 : s.size = 0
  · have hnil : s.data.toList = [] := List.length_eq_zero_iff.1 (by rw [← Lib.size_eq]; exact h0)
    rw [hnil, name_nil]
    have h0i : (s.size : Int) = 0 := by omega
    go_enter Tryd.func20, Tryd.ntmps20
    go_wp2_with (go_at_call 45; refine hW.mono ?_; rintro e w1 ⟨rfl, hk⟩)
    go_ret
    exact ⟨rfl, hk⟩
  have h0i : ¬ (s.size : Int) = 0 := by omega
  by_cases h32 : 32 < s.size
  · have hn : isNameB s.data.toList = false := by
      unfold isNameB goodLenB
      rw [← Lib.size_eq, decide_eq_false (show ¬ s.size ≤ 32 by omega)]
      simp
    rw [hn]
    have h32i : (32 : Int) < (s.size : Int) := by omega
    go_enter Tryd.func20, Tryd.ntmps20
    go_wp2_with (go_at_call 45; refine hW.mono ?_; rintro e w1 ⟨rfl, hk⟩)
    go_ret
    exact ⟨rfl, hk⟩
  have h32i : ¬ (32 : Int) < (s.size : Int) := by omega
  have hp0 : 0 < s.size := by omega
  have hp0i : (0 : Int) < (s.size : Int) := by omega
  obtain ⟨b, r, hbr⟩ : ∃ b r, s.data.toList = b :: r := by
    cases h : s.data.toList with
    | nil => have h2 : s.size = 0 := by rw [Lib.size_eq, h]; rfl
             omega
    | cons b r => exact ⟨b, r, rfl⟩
  have hb0 : s[0]'hp0 = b := by
    have := Lib.data_getElem? s 0 hp0
    rw [hbr] at this
    simpa using this.symm
  have hgl : goodLenB (b :: r) = true := by
    unfold goodLenB
    rw [← hbr, ← Lib.size_eq]
    simp; omega
  have HN : Hid (isNameB s.data.toList = (isLetterB b && r.all isBareB)) := by
    unfold Hid
    rw [hbr] at hw' ⊢
    rw [name_eq, hgl, hw']
    simp
  rw [HN.out]
  cases hlb : isLetterB b
  · have hl := refLetter_any b
    rw [hlb] at hl
    have HL : Hid _ := hl
    clear hl hlb
    rw [Bool.false_and]
    go_enter Tryd.func20, Tryd.ntmps20
    go_wp2_with (first
      | (go_at_call 45; refine hW.mono ?_; rintro e w1 ⟨rfl, hk⟩)
      | (go_at_call 46; refine (HL.out _).mono ?_; rintro e w2 ⟨rfl, rfl⟩))
    go_ret
    exact ⟨rfl, hk⟩
  have hl := refLetter_any b
  rw [hlb] at hl
  have HL : Hid _ := hl
  have HLB : Hid _ := hlb
  clear hl hlb
  rw [Bool.true_and]
  have HBR : Hid _ := hbr
  clear hbr hgl hw hw' h0 h32
  have h0b : ((s.size : Int) == 0) = false := by simpa using h0i
  have h32b : decide ((32 : Int) < (s.size : Int)) = false := by simpa using h32i
  go_enter Tryd.func20, Tryd.ntmps20
  go_wp2_with (first
    | (go_at_call 45; refine hW.mono ?_; rintro e w1 ⟨rfl, hk⟩; have HK : Hid _ := hk; clear hk)
    | (go_at_call 46; refine (HL.out _).mono ?_; rintro e w2 ⟨rfl, rfl⟩))
  clear hb0
  go_loop [4] (fun v => ∃ k : Nat, k ≤ s.size ∧ v = .int .i64 (k : Nat) ∧ Hid (∀ (j : Nat) b, j < k → s.data.toList[j]? = some b → isBareB b = true)) (fun v => s.size - (intOf v).toNat)
  case atStart => exact ⟨0, Nat.zero_le _, rfl, fun j b hj => absurd hj (Nat.not_lt_zero _)⟩
  case round =>
    obtain ⟨k, hk, rfl, hall⟩ := hrel
    by_cases h0 : k < s.size
    · obtain ⟨x, hx⟩ : ∃ x : UInt8, s[k]'h0 = x := ⟨_, rfl⟩
      have hxl : s.data.toList[k]? = some x := by rw [← hx]; exact Lib.data_getElem? s k h0
      have HX : Hid _ := hxl
      clear hxl
      have hki : (k : Int) < (s.size : Int) := by omega
      go_wp2_with (first
        | (go_at_call 46; refine (refLetter_any x _).mono ?_; rintro e w2 ⟨rfl, rfl⟩)
        | (go_at_call 47; refine (refDigit_any x _).mono ?_; rintro e w2 ⟨rfl, rfl⟩))
      · have h : isLetterB x = true := by assumption
        go_round
        case rel => exact ⟨k + 1, by omega, by go_num, okAll_succ hall.out HX.out (by simp [isBareB, h])⟩
        case measure => simp [intOf]; omega
      · have h : ¬ isLetterB x = true := by assumption
        have h2 : (!isDigitB x) = true := by assumption
        go_ret
        refine ⟨ret_bool ?_, HK.out⟩
        have hf : isBareB x = false := by simp at h2; simp [isBareB, h, h2]
        have h1 : s.data.toList.all isBareB = false := not_all_at _ _ k x HX.out hf
        rw [HBR.out, List.all_cons, show isBareB b = true by simp [isBareB, HLB.out], Bool.true_and] at h1
        exact h1.symm
      · have h2 : (!isDigitB x) = false := by assumption
        go_round
        case rel => exact ⟨k + 1, by omega, by go_num, okAll_succ hall.out HX.out (by simp at h2; simp [isBareB, h2])⟩
        case measure => simp [intOf]; omega
    · have hki : ¬ (k : Int) < (s.size : Int) := by omega
      have hke : k = s.size := by omega
      go_wp2
      go_ret
      refine ⟨ret_bool ?_, HK.out⟩
      symm
      have h1 : s.data.toList.all isBareB = true := all_at _ _ (fun j b hj => hall.out j b (by rw [hke, Lib.size_eq]; exact hj))
      rw [HBR.out, List.all_cons, Bool.and_eq_true] at h1
      exact h1.2

def namedB (l : List UInt8) : Bool := goodLenB l && quotableB l
set_option maxHeartbeats 2000000 in
theorem refNamed_any (s : ByteArray) (w : World) (hs : s.size ≤ 9223372036854775807) :
    Calls Tryd.prog 22 #[.string s] w fun e w' => e = .returned (.bool (namedB s.data.toList)) ∧ w' = w := by
  go_enter Tryd.func22, Tryd.ntmps22
  go_wp2
  go_loop [3] (fun v => ∃ k : Nat, k ≤ s.size ∧ k ≤ 33 ∧ v = .int .i64 (k : Nat) ∧ Hid (∀ (j : Nat) b, j < k → s.data.toList[j]? = some b → okB b = true)) (fun v => s.size - (intOf v).toNat)
  case atStart => exact ⟨0, Nat.zero_le _, by omega, rfl, fun j b hj => absurd hj (Nat.not_lt_zero _)⟩
  case round =>
    obtain ⟨k, hk, hk33, rfl, hall⟩ := hrel
    by_cases h0 : k < s.size ∧ k < 33
    · obtain ⟨h0, h33⟩ := h0
      obtain ⟨x, hx⟩ : ∃ x : UInt8, s[k]'h0 = x := ⟨_, rfl⟩
      have hxl : s.data.toList[k]? = some x := by rw [← hx]; exact Lib.data_getElem? s k h0
      have HX : Hid _ := hxl
      clear hxl
      have hki : (k : Int) < (s.size : Int) := by omega
      have hki3 : (k : Int) < 33 := by omega
      obtain ⟨n, hn⟩ : ∃ n, x.toNat = n := ⟨_, rfl⟩
      have hn2 : s[k].toNat = n := by rw [hx]; exact hn
      have hok : okB x = true ∨ okB x = false := by cases okB x <;> simp
      unfold okB at hok
      rw [hn] at hok
      simp only [Bool.and_eq_true, Bool.and_eq_false_iff, decide_eq_true_eq, decide_eq_false_iff_not, Bool.not_eq_true', Bool.not_eq_false'] at hok
      have HK : Hid _ := hok
      clear hok
      go_wp2
      all_goals first
        | (go_ret
           refine ⟨ret_bool (Eq.symm ?_), rfl⟩
           unfold namedB quotableB
           rw [not_all_at okB _ k x HX.out ?_, Bool.and_false]
           rcases HK.out with h | h
           · exfalso
             simp at *
             omega
           · unfold okB
             rw [hn]
             simp only [Bool.and_eq_false_iff, decide_eq_false_iff_not, Bool.not_eq_false', decide_eq_true_eq]
             exact h)
        | (go_round
           case rel =>
             refine ⟨k + 1, by omega, by omega, by go_num, okAll_succ hall.out HX.out ?_⟩
             rcases HK.out with h | h
             · unfold okB
               rw [hn]
               simp only [Bool.and_eq_true, decide_eq_true_eq, Bool.not_eq_true', decide_eq_false_iff_not]
               exact h
             · exfalso
               simp at *
               omega
           case measure => simp [intOf]; omega)
    · have HR : Hid (namedB s.data.toList = (decide (0 < s.size) && decide (s.size ≤ 32))) := by
        unfold Hid namedB goodLenB
        rw [← Lib.size_eq]
        by_cases h32 : s.size ≤ 32
        · have : quotableB s.data.toList = true := all_at okB _ (fun j b hj => hall.out j b (by rw [← Lib.size_eq] at hj; omega))
          rw [this, Bool.and_true]
        · rw [decide_eq_false h32]; simp
      by_cases h1 : k < s.size
      · have hki : (k : Int) < (s.size : Int) := by omega
        have hki3 : ¬ (k : Int) < 33 := by omega
        go_wp2
        all_goals go_ret
        all_goals refine ⟨ret_bool ?_, rfl⟩
        all_goals rw [HR.out, Bool.eq_iff_iff]
        all_goals simp
        all_goals omega
      · have hki : ¬ (k : Int) < (s.size : Int) := by omega
        go_wp2
        all_goals go_ret
        all_goals refine ⟨ret_bool ?_, rfl⟩
        all_goals rw [HR.out, Bool.eq_iff_iff]
        all_goals simp
        all_goals omega

set_option maxHeartbeats 1000000 in
theorem refQuote_any (s : ByteArray) (w : World) (hs : s.size ≤ 9223372036854775807) :
    Calls Tryd.prog 21 #[.string s] w fun e w' => e = .returned (.string ⟨(quoteL s.data.toList).toArray⟩) ∧ Kept [] w w' := by
  have hI := refIsName_any s w hs
  by_cases h1 : isNameB s.data.toList = true
  · have HQ : Hid ((⟨(quoteL s.data.toList).toArray⟩ : ByteArray) = s) := by unfold Hid quoteL; rw [if_pos h1, Lib.mk_data]
    rw [h1] at hI
    go_enter Tryd.func21, Tryd.ntmps21
    go_wp2_with (go_at_call 20; refine hI.mono ?_; rintro e w1 ⟨rfl, hk⟩)
    go_ret
    rw [HQ.out]
    exact ⟨rfl, hk⟩
  · have h1' : isNameB s.data.toList = false := by simpa using h1
    rw [h1'] at hI
    by_cases h2 : (goodLenB s.data.toList && quotableB s.data.toList) = true
    · have HQ : Hid ((⟨(quoteL s.data.toList).toArray⟩ : ByteArray) = ⟨#[34]⟩ ++ s ++ ⟨#[34]⟩) := by unfold Hid quoteL; rw [if_neg h1, if_pos h2, quoteL_bytes]
      have h5 : namedB s.data.toList = true := h2
      rw [Bool.and_eq_true] at h2
      obtain ⟨h3, h4⟩ := h2
      have hz : s.size ≤ 32 := by unfold goodLenB at h3; rw [← Lib.size_eq] at h3; simp at h3; exact h3.2
      have hq1 : ¬ 9223372036854775807 < 1 + s.size := by omega
      have hq2 : ¬ 9223372036854775807 < 1 + s.size + 1 := by omega
      go_enter Tryd.func21, Tryd.ntmps21
      go_wp2_with (first
        | (go_at_call 20; refine hI.mono ?_; rintro e w1 ⟨rfl, hk⟩)
        | (go_at_call 22; refine (refNamed_any s _ hs).mono ?_; rintro e w' ⟨rfl, rfl⟩))
      go_ret
      rw [HQ.out]
      exact ⟨rfl, hk⟩
    · have HQ : Hid ((⟨(quoteL s.data.toList).toArray⟩ : ByteArray) = ⟨#[]⟩) := by unfold Hid quoteL; rw [if_neg h1, if_neg h2]
      have h5 : namedB s.data.toList = false := by unfold namedB; simpa using h2
      go_enter Tryd.func21, Tryd.ntmps21
      go_wp2_with (first
        | (go_at_call 20; refine hI.mono ?_; rintro e w1 ⟨rfl, hk⟩)
        | (go_at_call 22; refine (refNamed_any s _ hs).mono ?_; rintro e w' ⟨rfl, rfl⟩))
      go_ret
      rw [HQ.out]
      exact ⟨rfl, hk⟩
end Go.Proofs.YtilgfnafkcjdgaaDoor
