/- The small functions of package lex: letters, digits, bare names, words, what may be quoted. -/
import Derived.Test.YtilgfnafkcjdgaaDoorLxSpec
import Derived.Lib.Strings
import Derived.Lib.IndexBytes
import Derived.Laws.Strings3
namespace Go.Proofs.YtilgfnafkcjdgaaDoor
open Go.RowKit

theorem letter_any (b : UInt8) (w : World) :
    Calls Tryd.prog 56 #[.int .u8 (b.toNat : Nat)] w fun e w' => e = .returned (.bool (isLetterB b)) ∧ w' = w := by
  generalize hb : b.toNat = n
  go_enter Tryd.func56, Tryd.ntmps56
  go_wp2
  all_goals go_ret
  all_goals refine ⟨ret_bool ?_, rfl⟩
  all_goals unfold isLetterB
  all_goals rw [hb, Bool.eq_iff_iff]
  all_goals simp
  all_goals omega
theorem digit_any (b : UInt8) (w : World) :
    Calls Tryd.prog 57 #[.int .u8 (b.toNat : Nat)] w fun e w' => e = .returned (.bool (isDigitB b)) ∧ w' = w := by
  generalize hb : b.toNat = n
  go_enter Tryd.func57, Tryd.ntmps57
  go_wp2
  all_goals go_ret
  all_goals refine ⟨ret_bool ?_, rfl⟩
  all_goals unfold isDigitB
  all_goals rw [hb, Bool.eq_iff_iff]
  all_goals simp
  all_goals omega

theorem takeWhile_len {p : UInt8 → Bool} : ∀ (r : List UInt8) (k : Nat), (∀ (j : Nat) b, j < k → r[j]? = some b → p b = true) → k ≤ r.length → (∀ b, r[k]? = some b → p b = false) → (r.takeWhile p).length = k
  | [], k, _, h2, _ => by simp at h2; subst h2; rfl
  | b :: r, 0, _, _, h3 => by rw [List.takeWhile_cons, h3 b rfl]; rfl
  | b :: r, k + 1, h1, h2, h3 => by
    rw [List.takeWhile_cons, h1 0 b (by omega) rfl]
    have := takeWhile_len r k (fun j c hj hc => h1 (j + 1) c (by omega) (by simpa using hc)) (by simpa using h2) (fun c hc => h3 c (by simpa using hc))
    simp [this]
/-- May this byte stand at place j of a bare name? -/
def bareAt (j : Nat) (b : UInt8) : Bool := isLetterB b || (decide (0 < j) && isDigitB b)
theorem bareN_at (l : List UInt8) (k : Nat) (h1 : ∀ (j : Nat) b, j < k → l[j]? = some b → bareAt j b = true) (h2 : k ≤ l.length) (h3 : ∀ b, l[k]? = some b → bareAt k b = false) : bareN l = k := by
  cases l with
  | nil => simp at h2; subst h2; rfl
  | cons b r =>
    rw [bareN_cons]
    cases k with
    | zero =>
      have := h3 b rfl
      simp [bareAt] at this
      rw [this]; rfl
    | succ k =>
      have h0 := h1 0 b (by omega) rfl
      simp [bareAt] at h0
      rw [h0, if_pos rfl, takeWhile_len r k (fun j c hj hc => ?_) (by simpa using h2) (fun c hc => ?_)]
      · have := h1 (j + 1) c (by omega) (by simpa using hc)
        simpa [bareAt, isBareB] using this
      · have := h3 c (by simpa using hc)
        simpa [bareAt, isBareB] using this

theorem bareAll_succ {l : List UInt8} {k : Nat} {x : UInt8} (h : ∀ (j : Nat) b, j < k → l[j]? = some b → bareAt j b = true) (hx : l[k]? = some x) (hb : bareAt k x = true) : ∀ (j : Nat) b, j < k + 1 → l[j]? = some b → bareAt j b = true := fun j b hj hjb => by
  by_cases e : j = k
  · subst e; rw [hx] at hjb; cases hjb; exact hb
  · exact h j b (by omega) hjb

set_option maxHeartbeats 1000000 in
theorem bareLen_any (s : ByteArray) (w : World) (hs : s.size ≤ 9223372036854775807) :
    Calls Tryd.prog 42 #[.string s] w fun e w' => e = .returned (.int .i64 (bareN s.data.toList : Nat)) ∧ w' = w := by
  go_enter Tryd.func42, Tryd.ntmps42
  go_wp2
  go_loop [6] (fun v => ∃ k : Nat, k ≤ s.size ∧ v = .int .i64 (k : Nat) ∧ Hid (∀ (j : Nat) b, j < k → s.data.toList[j]? = some b → bareAt j b = true)) (fun v => s.size - (intOf v).toNat)
  case atStart => exact ⟨0, Nat.zero_le _, rfl, fun j b hj => absurd hj (Nat.not_lt_zero _)⟩
  case round =>
    obtain ⟨k, hk, rfl, hall⟩ := hrel
    by_cases h0 : k < s.size
    · obtain ⟨x, hx⟩ : ∃ x : UInt8, s[k]'h0 = x := ⟨_, rfl⟩
      have hxl : s.data.toList[k]? = some x := by rw [← hx]; exact Lib.data_getElem? s k h0
      have HX : Hid _ := hxl
      clear hxl
      have hki : (k : Int) < (s.size : Int) := by omega
      go_wp2_with (first
        | (go_at_call 56; refine (letter_any x _).mono ?_; rintro e w' ⟨rfl, rfl⟩)
        | (go_at_call 57; refine (digit_any x _).mono ?_; rintro e w' ⟨rfl, rfl⟩))
      · have h : isLetterB x = true := by assumption
        go_round
        case rel => exact ⟨k + 1, by omega, by go_num, bareAll_succ hall.out HX.out (by simp [bareAt, h])⟩
        case measure => simp [intOf]; omega
      · have h : ¬ isLetterB x = true := by assumption
        have hk0 : k = 0 := by assumption
        go_ret
        refine ⟨ret_int ?_, rfl⟩
        rw [bareN_at s.data.toList k hall.out (by rw [← Lib.size_eq]; exact hk) (fun b hb => ?_), hk0]
        · rfl
        rw [HX.out] at hb
        cases hb
        simp [bareAt, h, hk0]
      · have hk0 : ¬ k = 0 := by assumption
        have h : ¬ isLetterB x = true := by assumption
        have h' : ((k : Int) == 0) = true ∨ (!isDigitB x) = true := by assumption
        go_ret
        refine ⟨ret_int ?_, rfl⟩
        rw [bareN_at s.data.toList k hall.out (by rw [← Lib.size_eq]; exact hk) (fun b hb => ?_)]
        rw [HX.out] at hb
        cases hb
        have h2 : isDigitB x = false := by
          rcases h' with h' | h'
          · simp at h'; omega
          · simpa using h'
        simp [bareAt, h, h2]
      · have hk0 : ¬ k = 0 := by assumption
        have h : ((k : Int) == 0) = false ∧ (!isDigitB x) = false := by assumption
        have h2 : isDigitB x = true := by simpa using h.2
        go_round
        case rel => exact ⟨k + 1, by omega, by go_num, bareAll_succ hall.out HX.out (by simp [bareAt, h2]; omega)⟩
        case measure => simp [intOf]; omega
    · have hki : ¬ (k : Int) < (s.size : Int) := by omega
      have hke : k = s.size := by omega
      go_wp2
      go_ret
      refine ⟨ret_int (congrArg _ ?_), rfl⟩
      rw [bareN_at s.data.toList k hall.out (by rw [← Lib.size_eq]; exact hk) (fun b hb => ?_)]
      · exact hke.symm
      · rw [List.getElem?_eq_none (by rw [← Lib.size_eq]; omega)] at hb
        cases hb

theorem isWordB_eq (l : List UInt8) : isWordB l = (l == [116, 114, 117, 101] || (l == [102, 97, 108, 115, 101] || (l == [88] || (l == [70] || (l == [71] || (l == [85] || (l == [82] || (l == [87] || (l == [77] || (l == [89] || (l == [90] || (l == [79] || (l == [72] || (l == [83] || l == [84])))))))))))))) := by
  unfold isWordB wordsL
  simp only [List.contains_cons, List.contains_nil, Bool.or_false]
set_option maxHeartbeats 1000000 in
theorem isWord_any (s : ByteArray) (w : World) :
    Calls Tryd.prog 43 #[.string s] w fun e w' => e = .returned (.bool (isWordB s.data.toList)) ∧ w' = w := by
  go_enter Tryd.func43, Tryd.ntmps43
  go_wp2
  all_goals go_ret
  all_goals refine ⟨ret_bool ?_, rfl⟩
  all_goals rw [← Lib.toList_data, isWordB_eq]
  all_goals generalize s.toList = l at *
  all_goals simp_all only [Bool.or_true, Bool.true_or, Bool.or_false, reduceCtorEq]

theorem goodLen_any (s : ByteArray) (w : World) :
    Calls Tryd.prog 41 #[.string s] w fun e w' => e = .returned (.bool (goodLenB s.data.toList)) ∧ w' = w := by
  go_enter Tryd.func41, Tryd.ntmps41
  go_wp2
  all_goals go_ret
  all_goals refine ⟨ret_bool ?_, rfl⟩
  all_goals unfold goodLenB
  all_goals rw [← Lib.size_eq, Bool.eq_iff_iff]
  all_goals simp
  all_goals omega

theorem all_at (p : UInt8 → Bool) (l : List UInt8) (h : ∀ (j : Nat) b, j < l.length → l[j]? = some b → p b = true) : l.all p = true := by
  rw [List.all_eq_true]
  intro x hx
  obtain ⟨j, hj, rfl⟩ := List.mem_iff_getElem.1 hx
  exact h j _ hj (List.getElem?_eq_getElem hj)
theorem not_all_at (p : UInt8 → Bool) (l : List UInt8) (k : Nat) (x : UInt8) (hx : l[k]? = some x) (h : p x = false) : l.all p = false := by
  rw [List.all_eq_false]
  exact ⟨x, List.mem_of_getElem? hx, by simp [h]⟩
theorem okAll_succ {p : UInt8 → Bool} {l : List UInt8} {k : Nat} {x : UInt8} (h : ∀ (j : Nat) b, j < k → l[j]? = some b → p b = true) (hx : l[k]? = some x) (hb : p x = true) : ∀ (j : Nat) b, j < k + 1 → l[j]? = some b → p b = true := fun j b hj hjb => by
  by_cases e : j = k
  · subst e; rw [hx] at hjb; cases hjb; exact hb
  · exact h j b (by omega) hjb

set_option maxHeartbeats 1000000 in
theorem quotable_any (s : ByteArray) (w : World) (hs : s.size ≤ 9223372036854775807) :
    Calls Tryd.prog 44 #[.string s] w fun e w' => e = .returned (.bool (quotableB s.data.toList)) ∧ w' = w := by
  go_enter Tryd.func44, Tryd.ntmps44
  go_wp2
  go_loop [7] (fun v => ∃ k : Nat, k ≤ s.size ∧ v = .int .i64 (k : Nat) ∧ Hid (∀ (j : Nat) b, j < k → s.data.toList[j]? = some b → okB b = true)) (fun v => s.size - (intOf v).toNat)
  case atStart => exact ⟨0, Nat.zero_le _, rfl, fun j b hj => absurd hj (Nat.not_lt_zero _)⟩
  case round =>
    obtain ⟨k, hk, rfl, hall⟩ := hrel
    by_cases h0 : k < s.size
    · obtain ⟨x, hx⟩ : ∃ x : UInt8, s[k]'h0 = x := ⟨_, rfl⟩
      have hxl : s.data.toList[k]? = some x := by rw [← hx]; exact Lib.data_getElem? s k h0
      have HX : Hid _ := hxl
      clear hxl
      have hki : (k : Int) < (s.size : Int) := by omega
      obtain ⟨n, hn⟩ : ∃ n, x.toNat = n := ⟨_, rfl⟩
      have hn2 : s[k].toNat = n := by rw [hx]; exact hn
      have hok : okB x = true ∨ okB x = false := by cases okB x <;> simp
      unfold okB at hok
      rw [hn] at hok
      simp only [Bool.and_eq_true, Bool.and_eq_false_iff, decide_eq_true_eq, decide_eq_false_iff_not, Bool.not_eq_true', Bool.not_eq_false'] at hok
      have HK : Hid _ := hok
      clear hok
      go_wp2
      all_goals first
        | (go_ret
           refine ⟨ret_bool (Eq.symm (not_all_at okB _ k x HX.out ?_)), rfl⟩
           rcases HK.out with h | h
           · exfalso
             simp at *
             omega
           · unfold okB
             rw [hn]
             simp only [Bool.and_eq_false_iff, decide_eq_false_iff_not, Bool.not_eq_false', decide_eq_true_eq]
             exact h)
        | (go_round
           case rel =>
             refine ⟨k + 1, by omega, by go_num, okAll_succ hall.out HX.out ?_⟩
             rcases HK.out with h | h
             · unfold okB
               rw [hn]
               simp only [Bool.and_eq_true, decide_eq_true_eq, Bool.not_eq_true', decide_eq_false_iff_not]
               exact h
             · exfalso
               simp at *
               omega
           case measure => simp [intOf]; omega)
    · have hki : ¬ (k : Int) < (s.size : Int) := by omega
      have hke : k = s.size := by omega
      go_wp2
      go_ret
      refine ⟨ret_bool ?_, rfl⟩
      exact (all_at okB _ (fun j b hj => hall.out j b (by rw [hke, Lib.size_eq]; exact hj))).symm

set_option maxHeartbeats 1000000 in
theorem isName_any (s : ByteArray) (w : World) (hs : s.size ≤ 9223372036854775807) :
    Calls Tryd.prog 18 #[.string s] w fun e w' => e = .returned (.bool (isNameB s.data.toList)) ∧ w' = w := by
  have e1 : (s.size : Int) = (s.data.toList.length : Nat) := by rw [← Lib.size_eq]
  have HE : Hid _ := e1
  clear e1
  go_enter Tryd.func18, Tryd.ntmps18
  go_wp2_with (first
    | (go_at_call 41; refine (goodLen_any s _).mono ?_; rintro e w' ⟨rfl, rfl⟩)
    | (go_at_call 42; refine (bareLen_any s _ hs).mono ?_; rintro e w' ⟨rfl, rfl⟩)
    | (go_at_call 43; refine (isWord_any s _).mono ?_; rintro e w' ⟨rfl, rfl⟩))
  all_goals go_ret
  all_goals refine ⟨ret_bool ?_, rfl⟩
  all_goals unfold isNameB
  · have h1 : goodLenB s.data.toList = true := by assumption
    have h2 : ((bareN s.data.toList : Nat) : Int) = (s.size : Int) := by assumption
    have h3 : bareN s.data.toList = s.data.toList.length := by rw [← Lib.size_eq]; omega
    rw [h1, decide_eq_true h3]; rfl
  · have h2 : ¬ ((bareN s.data.toList : Nat) : Int) = (s.size : Int) := by assumption
    have h3 : ¬ bareN s.data.toList = s.data.toList.length := by rw [← Lib.size_eq]; omega
    rw [decide_eq_false h3]; simp
  · have h1 : ¬ goodLenB s.data.toList = true := by assumption
    have h2 : goodLenB s.data.toList = false := by simpa using h1
    rw [h2]; rfl
theorem quoteL_bytes (s : ByteArray) : (⟨#[34]⟩ ++ s ++ ⟨#[34]⟩ : ByteArray) = ⟨([34] ++ s.data.toList ++ [34]).toArray⟩ := by
  apply ByteArray.ext
  simp
set_option maxHeartbeats 1000000 in
theorem quote_any (s : ByteArray) (w : World) (hs : s.size ≤ 9223372036854775807) :
    Calls Tryd.prog 19 #[.string s] w fun e w' => e = .returned (.string ⟨(quoteL s.data.toList).toArray⟩) ∧ w' = w := by
  by_cases h1 : isNameB s.data.toList = true
  · have HQ : Hid ((⟨(quoteL s.data.toList).toArray⟩ : ByteArray) = s) := by unfold Hid quoteL; rw [if_pos h1, Lib.mk_data]
    go_enter Tryd.func19, Tryd.ntmps19
    go_wp2_with (go_at_call 18; refine (isName_any s _ hs).mono ?_; rintro e w' ⟨rfl, rfl⟩)
    go_ret
    rw [HQ.out]
    exact ⟨rfl, rfl⟩
  · have h1' : isNameB s.data.toList = false := by simpa using h1
    by_cases h2 : (goodLenB s.data.toList && quotableB s.data.toList) = true
    · have HQ : Hid ((⟨(quoteL s.data.toList).toArray⟩ : ByteArray) = ⟨#[34]⟩ ++ s ++ ⟨#[34]⟩) := by unfold Hid quoteL; rw [if_neg h1, if_pos h2, quoteL_bytes]
      rw [Bool.and_eq_true] at h2
      obtain ⟨h3, h4⟩ := h2
      have hz : s.size ≤ 32 := by unfold goodLenB at h3; rw [← Lib.size_eq] at h3; simp at h3; exact h3.2
      have hq1 : ¬ 9223372036854775807 < 1 + s.size := by omega
      have hq2 : ¬ 9223372036854775807 < 1 + s.size + 1 := by omega
      go_enter Tryd.func19, Tryd.ntmps19
      go_wp2_with (first
        | (go_at_call 18; refine (isName_any s _ hs).mono ?_; rintro e w' ⟨rfl, rfl⟩)
        | (go_at_call 41; refine (goodLen_any s _).mono ?_; rintro e w' ⟨rfl, rfl⟩)
        | (go_at_call 44; refine (quotable_any s _ hs).mono ?_; rintro e w' ⟨rfl, rfl⟩))
      go_ret
      rw [HQ.out]
      exact ⟨rfl, rfl⟩
    · have HQ : Hid ((⟨(quoteL s.data.toList).toArray⟩ : ByteArray) = ⟨#[]⟩) := by unfold Hid quoteL; rw [if_neg h1, if_neg h2]
      cases h3 : goodLenB s.data.toList
      · go_enter Tryd.func19, Tryd.ntmps19
        go_wp2_with (first
          | (go_at_call 18; refine (isName_any s _ hs).mono ?_; rintro e w' ⟨rfl, rfl⟩)
          | (go_at_call 41; refine (goodLen_any s _).mono ?_; rintro e w' ⟨rfl, rfl⟩))
        go_ret
        rw [HQ.out]
        exact ⟨rfl, rfl⟩
      · have h4 : quotableB s.data.toList = false := by rw [h3] at h2; simpa using h2
        go_enter Tryd.func19, Tryd.ntmps19
        go_wp2_with (first
          | (go_at_call 18; refine (isName_any s _ hs).mono ?_; rintro e w' ⟨rfl, rfl⟩)
          | (go_at_call 41; refine (goodLen_any s _).mono ?_; rintro e w' ⟨rfl, rfl⟩)
          | (go_at_call 44; refine (quotable_any s _ hs).mono ?_; rintro e w' ⟨rfl, rfl⟩))
        go_ret
        rw [HQ.out]
        exact ⟨rfl, rfl⟩
end Go.Proofs.YtilgfnafkcjdgaaDoor
