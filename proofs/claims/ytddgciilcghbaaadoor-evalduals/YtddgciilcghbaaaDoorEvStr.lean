/- Lists of names in memory; slices.Index, Contains, IndexFunc, ContainsFunc, Clone of them. -/
import Derived.Test.YtddgciilcghbaaaDoorEvSat
import Derived.Test.YtddgciilcghbaaaDoorTrNames
import Derived.Test.YtddgciilcghbaaaDoorWd
namespace Go.Proofs.YtddgciilcghbaaaDoor
open Go.RowKit Go.Shelf

/-- The names xs are what v tells, in W. -/
structure Strs (W : World) (v : Value) (xs : List ByteArray) : Prop where
  few : xs.length ≤ 8796093022208
  small : ∀ x ∈ xs, x.size ≤ maxLen
  lie : (v = .slice none 0 0 ∧ xs = []) ∨ ∃ b o c, v = .slice (some ⟨b, o, none⟩) xs.length c ∧ xs.length ≤ c ∧ c ≤ maxLen ∧ ∀ i (h : i < xs.length), W.cell? ⟨b, o + i, none⟩ = some (.string xs[i])
theorem Strs.kept {W W' : World} {v : Value} {xs : List ByteArray} (h : Strs W v xs) (k : Kept [] W W') : Strs W' v xs := by
  refine ⟨h.few, h.small, ?_⟩
  rcases h.lie with h1 | ⟨b, o, c, h1, h2, h3, h4⟩
  · exact .inl h1
  · exact .inr ⟨b, o, c, h1, h2, h3, fun i hi => cell_kept0 k (h4 i hi)⟩
theorem Strs.form {W : World} {v : Value} {xs : List ByteArray} (h : Strs W v xs) : ∃ ad c, v = .slice ad xs.length c ∧ xs.length ≤ c ∧ c ≤ maxLen := by
  rcases h.lie with ⟨rfl, rfl⟩ | ⟨b, o, c, rfl, h2, h3, _⟩
  · exact ⟨none, 0, rfl, Nat.le_refl _, by unfold maxLen; omega⟩
  · exact ⟨_, c, rfl, h2, h3⟩
theorem Strs.there {W : World} {v : Value} {xs : List ByteArray} (h : Strs W v xs) (h0 : 0 < xs.length) : ∃ b o c, v = .slice (some ⟨b, o, none⟩) xs.length c ∧ xs.length ≤ c ∧ c ≤ maxLen ∧ ∀ i (h : i < xs.length), W.cell? ⟨b, o + i, none⟩ = some (.string xs[i]) := by
  rcases h.lie with ⟨_, rfl⟩ | h1
  · simp at h0
  · exact h1
theorem strs_own {W : World} {base : Nat} {v : Value} {xs : List ByteArray} (h : W.ownsRow base 9 1 v xs.length (strs xs)) (hs : ∀ x ∈ xs, x.size ≤ maxLen) (hf : xs.length ≤ 8796093022208) : Strs W v xs := by
  refine ⟨hf, hs, ?_⟩
  rcases h.2 with ⟨rfl, h0⟩ | ⟨g, cap, cur, rfl, h1, h2, h3, h4, h5, h6⟩
  · exact .inl ⟨rfl, List.length_eq_zero_iff.1 h0⟩
  · refine .inr ⟨g, 0, cap, rfl, h3, h4, fun i hi => ?_⟩
    rw [Nat.zero_add, h.cellAt i (by omega)]
    simp [strs, hi]
/-- Is a name in the list. -/
def sameN (s x : ByteArray) : Bool := s.toList == x.toList
def hasN (xs : List ByteArray) (s : ByteArray) : Bool := xs.any (fun x => sameN s x)
def indexI (xs : List ByteArray) (s : ByteArray) : Int := if hasN xs s then (nameAt xs s : Nat) else -1
theorem sameN_data (s x : ByteArray) : sameN s x = (x.data.toList == s.data.toList) := by
  unfold sameN
  rw [ByteArray.toList_eq, ByteArray.toList_eq, Bool.eq_iff_iff, beq_iff_eq, beq_iff_eq]
  exact ⟨Eq.symm, Eq.symm⟩
theorem nameAt_first {xs : List ByteArray} {s : ByteArray} {k : Nat} (hk : k < xs.length) (h1 : ∀ j (h : j < xs.length), j < k → sameN s xs[j] = false) (h2 : sameN s xs[k] = true) : indexI xs s = (k : Nat) := by
  unfold indexI
  rw [if_pos (by unfold hasN; rw [List.any_eq_true]; exact ⟨xs[k], List.getElem_mem _, h2⟩)]
  have : nameAt xs s = k := by
    unfold nameAt
    rw [List.findIdx_eq hk]
    refine ⟨by rw [← sameN_data]; exact h2, fun j hj => ?_⟩
    rw [← sameN_data]; exact h1 j (by omega) hj
  rw [this]
theorem index_none {xs : List ByteArray} {s : ByteArray} (h : ∀ j (h : j < xs.length), sameN s xs[j] = false) : indexI xs s = -1 := by
  unfold indexI
  have : hasN xs s = false := by
    unfold hasN
    rw [List.any_eq_false]
    intro x hx
    obtain ⟨j, hj, rfl⟩ := List.getElem_of_mem hx
    simp [h j hj]
  rw [this]; rfl
theorem index_ge (xs : List ByteArray) (s : ByteArray) : decide (0 ≤ indexI xs s) = hasN xs s := by
  unfold indexI
  cases hasN xs s with
  | true => simp
  | false => simp
set_option maxHeartbeats 1000000 in
theorem indexS_any (v : Value) (xs : List ByteArray) (s : ByteArray) (w : World) (hx : Strs w v xs) :
    Calls Tryd.prog 116 #[v, .string s] w fun e w' => e = .returned (.int .i64 (indexI xs s)) ∧ w' = w := by
  have fx := hx.few
  by_cases h0 : 0 < xs.length
  · obtain ⟨b, o, c, rfl, _, _, hc⟩ := hx.there h0
    have HC : Hid (∀ i (h : i < xs.length), w.cell? ⟨b, o + i, none⟩ = some (.string xs[i])) := hc
    obtain ⟨r, hr⟩ : ∃ r, indexI xs s = r := ⟨_, rfl⟩
    rw [hr]
    have HRR : Hid (indexI xs s = r) := hr
    clear hx hc hr
    go_enter Tryd.func116, Tryd.ntmps116
    go_wp2_with fail
    go_loop [8] (fun i => ∃ k : Nat, k ≤ xs.length ∧ i = .int .i64 (k : Nat) ∧ Hid (∀ j (h : j < xs.length), j < k → sameN s xs[j] = false)) (fun i => xs.length - (intOf i).toNat)
    case atStart => exact ⟨0, Nat.zero_le _, rfl, fun j _ h => by omega⟩
    case round =>
      obtain ⟨k, hk, rfl, HF⟩ := hrel
      by_cases hlt : k < xs.length
      · have hlt' : (k : Int) < (xs.length : Int) := by omega
        have b0 : (0 : Int) ≤ (k : Int) := by omega
        have d1 := HC.out k hlt
        have HX : Hid _ := fun h2 => nameAt_first hlt HF.out h2
        cases hq : sameN s xs[k] with
        | true =>
          have hq' := HX.out hq
          have HE : Hid _ := hq'
          obtain ⟨x, hxk⟩ : ∃ x, xs[k] = x := ⟨_, rfl⟩
          rw [hxk] at d1 hq
          have hqq : (s.toList == x.toList) = true := hq
          clear hq hq' hxk HX
          go_wp2
          go_ret
          exact ⟨ret_int (HE.out.symm.trans HRR.out), rfl⟩
        | false =>
          have HQ : Hid _ := hq
          obtain ⟨x, hxk⟩ : ∃ x, xs[k] = x := ⟨_, rfl⟩
          rw [hxk] at d1 hq
          have hqq : (s.toList == x.toList) = false := hq
          clear hq hxk HX
          go_wp2
          go_round
          case rel =>
            refine ⟨k + 1, by omega, by go_num, fun j h hj => ?_⟩
            rcases Nat.lt_or_ge j k with h' | h'
            · exact HF.out j h h'
            · obtain rfl : j = k := by omega
              exact HQ.out
          case measure => simp [intOf]; omega
      · have hlt' : ¬ (k : Int) < (xs.length : Int) := by omega
        go_wp2
        go_ret
        exact ⟨ret_int ((index_none (fun j h => HF.out j h (by omega))).symm.trans HRR.out), rfl⟩
  · obtain rfl : xs = [] := List.length_eq_zero_iff.1 (by omega)
    obtain ⟨ad, c, rfl, _⟩ := hx.form
    clear hx
    simp only [List.length_nil]
    go_enter Tryd.func116, Tryd.ntmps116
    go_wp2_with fail
    go_loop [8] (fun i => i = .int .i64 0) (fun _ => 0)
    case atStart => exact rfl
    case round =>
      subst hrel
      go_wp2
      go_ret
      exact ⟨rfl, rfl⟩
set_option maxHeartbeats 400000 in
theorem containsS_any (v : Value) (xs : List ByteArray) (s : ByteArray) (w : World) (hx : Strs w v xs) :
    Calls Tryd.prog 71 #[v, .string s] w fun e w' => e = .returned (.bool (hasN xs s)) ∧ w' = w := by
  have HI : Hid (Calls Tryd.prog 116 #[v, .string s] w fun e w' => e = .returned (.int .i64 (indexI xs s)) ∧ w' = w) := indexS_any v xs s w hx
  have HG : Hid _ := index_ge xs s
  clear hx
  go_enter Tryd.func71, Tryd.ntmps71
  go_wp2_with (go_at_call 116; refine HI.out.mono ?_; rintro e w' ⟨rfl, rfl⟩)
  go_ret
  exact ⟨ret_bool HG.out, rfl⟩
set_option maxHeartbeats 400000 in
theorem lacking_any (v : Value) (xs : List ByteArray) (s : ByteArray) (B : Nat) (w : World) (hx : Strs w v xs) (hb : w.cell? ⟨B, 0, none⟩ = some v) :
    Calls Tryd.prog 70 #[.string s, .pointer (some ⟨B, 0, none⟩)] w fun e w' => e = .returned (.bool (!hasN xs s)) ∧ w' = w := by
  have HI : Hid (Calls Tryd.prog 71 #[v, .string s] w fun e w' => e = .returned (.bool (hasN xs s)) ∧ w' = w) := containsS_any v xs s w hx
  obtain ⟨ad, c, rfl, _⟩ := hx.form
  clear hx
  go_enter Tryd.func70, Tryd.ntmps70
  go_wp2_with (go_at_call 71; refine HI.out.mono ?_; rintro e w' ⟨rfl, rfl⟩)
  go_ret
  exact ⟨rfl, rfl⟩
def lackN (ns xs : List ByteArray) : Bool := ns.any (fun s => !hasN xs s)
theorem lackN_take {ns xs : List ByteArray} {k : Nat} (hk : k < ns.length) : lackN (ns.take (k + 1)) xs = (lackN (ns.take k) xs || !hasN xs ns[k]) := by
  unfold lackN
  rw [List.take_succ_eq_append_getElem hk, List.any_append]
  simp
set_option maxHeartbeats 1000000 in
theorem indexL_any (u v : Value) (ns xs : List ByteArray) (B : Nat) (w : World) (hn : Strs w u ns) (hx : Strs w v xs) (hb : w.cell? ⟨B, 0, none⟩ = some v) :
    Calls Tryd.prog 117 #[u, .func (.func 70) #[] #[.pointer (some ⟨B, 0, none⟩)]] w fun e w' => ∃ r : Int, e = .returned (.int .i64 r) ∧ decide (0 ≤ r) = lackN ns xs ∧ w' = w := by
  have fx := hn.few
  by_cases h0 : 0 < ns.length
  · obtain ⟨b, o, c, rfl, _, _, hc⟩ := hn.there h0
    have HC : Hid (∀ i (h : i < ns.length), w.cell? ⟨b, o + i, none⟩ = some (.string ns[i])) := hc
    have HT : Hid (∀ s, Calls Tryd.prog 70 #[.string s, .pointer (some ⟨B, 0, none⟩)] w fun e w' => e = .returned (.bool (!hasN xs s)) ∧ w' = w) := fun s => lacking_any v xs s B w hx hb
    clear hn hx hc hb
    go_enter Tryd.func117, Tryd.ntmps117
    go_wp2_with fail
    go_loop [5, 8] (fun _ i => ∃ k : Nat, k ≤ ns.length ∧ i = .int .i64 k ∧ Hid (lackN (ns.take k) xs = false)) (fun _ i => ns.length - (intOf i).toNat)
    case atStart => exact ⟨0, Nat.zero_le _, rfl, rfl⟩
    case round =>
      obtain ⟨k, hk, rfl, HF⟩ := hrel
      by_cases hlt : k < ns.length
      · have hlt' : (k : Int) < (ns.length : Int) := by omega
        have b0 : (0 : Int) ≤ (k : Int) := by omega
        have d1 := HC.out k hlt
        have HN : Hid _ := lackN_take (xs := xs) hlt
        have HT2 : Hid (Calls Tryd.prog 70 #[.string ns[k], .pointer (some ⟨B, 0, none⟩)] w fun e w' => e = .returned (.bool (!hasN xs ns[k])) ∧ w' = w) := HT.out _
        cases hq : hasN xs ns[k] with
        | false =>
          have HR : Hid (lackN ns xs = true) := by
            show lackN ns xs = true
            unfold lackN
            rw [List.any_eq_true]
            exact ⟨ns[k], List.getElem_mem _, by rw [hq]; rfl⟩
          rw [hq, Bool.not_false] at HT2
          clear hq HN
          obtain ⟨x, hxk⟩ : ∃ x, ns[k] = x := ⟨_, rfl⟩
          rw [hxk] at d1 HT2
          clear hxk
          go_wp2_with (go_at_call 70; refine HT2.out.mono ?_; rintro e w' ⟨rfl, rfl⟩)
          go_ret
          exact ⟨_, rfl, by rw [HR.out]; simp, rfl⟩
        | true =>
          have HF2 : Hid (lackN (ns.take (k + 1)) xs = false) := by show lackN (ns.take (k + 1)) xs = false; rw [HN.out, HF.out, hq]; rfl
          rw [hq, Bool.not_true] at HT2
          clear hq HN
          obtain ⟨x, hxk⟩ : ∃ x, ns[k] = x := ⟨_, rfl⟩
          rw [hxk] at d1 HT2
          clear hxk
          go_wp2_with (go_at_call 70; refine HT2.out.mono ?_; rintro e w' ⟨rfl, rfl⟩)
          go_round
          case rel => exact ⟨k + 1, by omega, by go_num, HF2.out⟩
          case measure => simp [intOf]; omega
      · have hlt' : ¬ (k : Int) < (ns.length : Int) := by omega
        have HR : Hid (lackN ns xs = false) := by
          have := HF.out
          rw [List.take_of_length_le (by omega)] at this
          exact this
        go_wp2
        go_ret
        exact ⟨_, rfl, by rw [HR.out]; rfl, rfl⟩
  · obtain rfl : ns = [] := List.length_eq_zero_iff.1 (by omega)
    obtain ⟨ad, c, rfl, _⟩ := hn.form
    clear hn hx hb
    simp only [List.length_nil]
    go_enter Tryd.func117, Tryd.ntmps117
    go_wp2_with fail
    go_loop [5, 8] (fun _ i => i = .int .i64 0) (fun _ _ => 0)
    case atStart => exact rfl
    case round =>
      subst hrel
      go_wp2
      go_ret
      exact ⟨_, rfl, rfl, rfl⟩
set_option maxHeartbeats 400000 in
theorem containsL_any (u v : Value) (ns xs : List ByteArray) (B : Nat) (w : World) (hn : Strs w u ns) (hx : Strs w v xs) (hb : w.cell? ⟨B, 0, none⟩ = some v) :
    Calls Tryd.prog 72 #[u, .func (.func 70) #[] #[.pointer (some ⟨B, 0, none⟩)]] w fun e w' => e = .returned (.bool (lackN ns xs)) ∧ w' = w := by
  have HI : Hid (Calls Tryd.prog 117 #[u, .func (.func 70) #[] #[.pointer (some ⟨B, 0, none⟩)]] w fun e w' => ∃ r : Int, e = .returned (.int .i64 r) ∧ decide (0 ≤ r) = lackN ns xs ∧ w' = w) := indexL_any u v ns xs B w hn hx hb
  clear hn hx hb
  go_enter Tryd.func72, Tryd.ntmps72
  go_wp2_with (go_at_call 117; refine HI.out.mono ?_; rintro e w' ⟨r, rfl, hr, rfl⟩; have HR : Hid _ := hr; clear hr)
  go_ret
  exact ⟨ret_bool HR.out, rfl⟩
end Go.Proofs.YtddgciilcghbaaaDoor
