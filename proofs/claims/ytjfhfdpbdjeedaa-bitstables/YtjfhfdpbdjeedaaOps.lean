/- Set.word, trim, And, Or, Less, Within; slices.Equal; Set.Same. -/
import Derived.Test.YtjfhfdpbdjeedaaLen
namespace Go.Proofs.Ytjfhfdpbdjeedaa
open Go.RowKit
attribute [local go_sem ↓] Go.wp_at_zero Go.wp_at_succ

set_option maxHeartbeats 400000 in
theorem word_any (b g c n : Nat) (ws : List Nat) (k : Nat) (w : World) (hs : IsSet w b g c n ws) :
    Calls Try.prog 25 #[.pointer (some ⟨b, 0, none⟩), .int .i64 k] w fun e w' => e = .returned (.int .u64 (ws.getD k 0 : Nat)) ∧ w' = w := by
  have h1 := hs.c1
  by_cases h : k < ws.length
  · have h2 := hs.cw k h
    rw [getD_get h] at h2
    generalize ws.getD k 0 = x at h2
    have b0 : ¬ (ws.length : Int) ≤ (k : Int) := by omega
    have b1 : (k : Int) < (ws.length : Int) := by omega
    clear hs
    go_enter Try.func25, Try.ntmps25
    go_wp2
    go_ret
    exact ⟨rfl, rfl⟩
  · have e : ws.getD k 0 = 0 := by rw [List.getD_eq_getElem?_getD, List.getElem?_eq_none (by omega)]; rfl
    rw [e]
    have b0 : (ws.length : Int) ≤ (k : Int) := by omega
    clear hs e
    go_enter Try.func25, Try.ntmps25
    go_wp2
    go_ret
    exact ⟨rfl, rfl⟩

/-- Word by word: what the loops of And, Or and Less do. -/
def opW (f : Nat → Nat → Nat) (ws ws2 : List Nat) : List Nat := (List.range ws.length).map fun k => f (ws.getD k 0) (ws2.getD k 0)
theorem opW_len (f : Nat → Nat → Nat) (ws ws2 : List Nat) : (opW f ws ws2).length = ws.length := by simp [opW]
/-- .. as far as word k. -/
def partW (f : Nat → Nat → Nat) (ws ws2 : List Nat) (k : Nat) : List Nat := (opW f ws ws2).take k ++ ws.drop k
theorem partW_zero (f : Nat → Nat → Nat) (ws ws2 : List Nat) : partW f ws ws2 0 = ws := by simp [partW]
theorem partW_all (f : Nat → Nat → Nat) (ws ws2 : List Nat) : partW f ws ws2 ws.length = opW f ws ws2 := by
  unfold partW; rw [List.drop_length, List.append_nil, List.take_of_length_le (by rw [opW_len]; exact Nat.le_refl _)]
theorem partW_len (f : Nat → Nat → Nat) (ws ws2 : List Nat) (k : Nat) (hk : k ≤ ws.length) : (partW f ws ws2 k).length = ws.length := by
  unfold partW; rw [List.length_append, List.length_take, opW_len, List.length_drop]; omega
theorem partW_getD (f : Nat → Nat → Nat) (ws ws2 : List Nat) (k : Nat) (hk : k < ws.length) : (partW f ws ws2 k).getD k 0 = ws.getD k 0 := by
  unfold partW
  have hl : ((opW f ws ws2).take k).length = k := by rw [List.length_take, opW_len]; omega
  rw [List.getD_eq_getElem?_getD, List.getElem?_append_right (by omega), hl, List.getElem?_drop]
  simp
theorem partW_succ (f : Nat → Nat → Nat) (ws ws2 : List Nat) (k : Nat) (hk : k < ws.length) : partW f ws ws2 (k + 1) = (partW f ws ws2 k).set k (f (ws.getD k 0) (ws2.getD k 0)) := by
  unfold partW
  have hl : ((opW f ws ws2).take k).length = k := by rw [List.length_take, opW_len]; omega
  have e1 : (opW f ws ws2).take (k + 1) = (opW f ws ws2).take k ++ [f (ws.getD k 0) (ws2.getD k 0)] := by
    rw [List.take_succ_eq_append_getElem (by rw [opW_len]; exact hk)]
    simp [opW]
  have e2 : ws.drop k = ws[k] :: ws.drop (k + 1) := List.drop_eq_getElem_cons hk
  rw [e1, e2, List.set_append_right _ _ (by omega), hl, Nat.sub_self, List.set_cons_zero, List.append_assoc]
  rfl


theorem ne_of_obj' {w : World} {a b : Nat} {o p : Obj} (h : w.heap[a]? = some o) (k : w.heap[b]? = some p) (hne : o ≠ p) : a ≠ b := by
  intro e; subst e; rw [h] at k; exact hne (by simpa using k)
def fAnd (x y : Nat) : Nat := x &&& y
def fOr (x y : Nat) : Nat := x ||| y
def fLess (x y : Nat) : Nat := x &&& (18446744073709551615 - y)
/-- What trim leaves. -/
def trimW (n : Nat) (ws : List Nat) : List Nat := if n % 64 = 0 then ws else ws.set (ws.length - 1) (ws.getD (ws.length - 1) 0 &&& (bitN n - 1))
theorem opW_or_small {n n2 : Nat} {ws ws2 : List Nat} (hG : Good n ws) (hG2 : Good n2 ws2) : ∀ x ∈ opW fOr ws ws2, x < 18446744073709551616 := by
  intro x hx
  unfold opW at hx
  obtain ⟨k, _, rfl⟩ := List.mem_map.1 hx
  exact or_small (hG.word k) (hG2.word k)

set_option maxHeartbeats 3200000 in
theorem trim_any (b g c n : Nat) (ws : List Nat) (w : World) (hs : IsSet w b g c n ws) (hn : n ≤ 65536) (hl : ws.length = (n + 63) / 64) (hsm : ∀ x ∈ ws, x < 18446744073709551616) :
    Calls Try.prog 26 #[.pointer (some ⟨b, 0, none⟩)] w fun e w' => e = .returned (.tuple #[]) ∧ IsSet w' b g c n (trimW n ws) ∧ Kept [g] w w' := by
  have h0 := hs.c0
  have h1 := hs.c1
  have HS : Hid (IsSet w b g c n ws) := hs
  by_cases hz : n % 64 = 0
  · have HT : Hid (trimW n ws = ws) := by show trimW n ws = ws; unfold trimW; rw [if_pos hz]
    rw [HT.out]
    have q1 : (n : Int).tmod 64 = 0 := by rw [Int.tmod_eq_emod_of_nonneg (by omega)]; omega
    have q2 : (n : Int) % 64 = 0 := by omega
    clear hs HT hl hsm hz
    go_enter Try.func26, Try.ntmps26
    go_wp2
    go_end0
    exact ⟨rfl, HS.out, Kept.refl _ _⟩
  · obtain ⟨m, hm⟩ : ∃ m, ws.length = m + 1 := ⟨ws.length - 1, by omega⟩
    have hm2 : m < 1024 := by omega
    have HT : Hid (trimW n ws = ws.set m (ws.getD m 0 &&& (bitN n - 1))) := by
      show trimW n ws = ws.set m (ws.getD m 0 &&& (bitN n - 1))
      unfold trimW; rw [if_neg hz, hm]; rfl
    rw [HT.out]
    obtain ⟨r, hr0, hr1, q1, q2⟩ : ∃ r : Nat, r ≠ 0 ∧ r < 64 ∧ (n : Int).tmod 64 = (r : Int) ∧ (n : Int) % 64 = (r : Int) := ⟨n % 64, hz, by omega, by rw [Int.tmod_eq_emod_of_nonneg (by omega)]; omega, by omega⟩
    have q3 : ((r : Int) != 0) = true := by simp; omega
    have q4 : IntKind.i64.wrap (r : Int) = (r : Int) := by simp only [IntKind.wrap, IntKind.bits, IntKind.signed]; simp; omega
    have q5 : ((ws.length : Int) - 1) = (m : Int) := by omega
    have q6 : IntKind.i64.wrap (m : Int) = (m : Int) := by simp only [IntKind.wrap, IntKind.bits, IntKind.signed]; simp; omega
    have h2 := hs.cw m (by omega)
    have h3 := hs.fw m
    rw [getD_get (by omega)] at h2
    have hx : ws.getD m 0 < 18446744073709551616 := by rw [← getD_get (by omega)]; exact hsm _ (List.getElem_mem _)
    generalize ws.getD m 0 = x at h2 hx HT
    have hbl := bitN_lt n
    have hbp : 0 < bitN n := Nat.two_pow_pos _
    have HB : Hid (bits .and .u64 (x : Int) (IntKind.u64.wrap ((bitN n : Int) - 1)) = ((x &&& (bitN n - 1) : Nat) : Int)) := by
      have e : IntKind.u64.wrap ((bitN n : Int) - 1) = ((bitN n - 1 : Nat) : Int) := by rw [IntKind.wrap_u64]; omega
      rw [e]; exact bits_and_u64_nat _ _ hx (by omega)
    have b0 : (0 : Int) ≤ (m : Int) := by omega
    have b1 : (m : Int) < (ws.length : Int) := by omega
    have b2 : (n : Int) ≤ 65536 := by omega
    have b3 : (ws.length : Int) ≤ 1024 := by omega
    have HN : Hid (n < 65536) := by
      show n < 65536
      rcases Nat.lt_or_ge n 65536 with h | h
      · exact h
      · have : n = 65536 := by omega
        subst this; exact absurd rfl hz
    have HM : Hid (ws.length = m + 1) := hm
    clear hs hl hsm hz hm hx hbl hbp
    generalize ws.length = L at h1 q5 b1 b3 HM
    go_enter Try.func26, Try.ntmps26
    go_wp2_with fail
    go_region_with (first | (go_at_call 31; refine (bit_any n _ HN.out).mono ?_; rintro e w' ⟨rfl, rfl⟩))
    all_goals go_end0
    all_goals
      rw [HB.out]
      exact ⟨rfl, (HS.out.set m _).drew, ((Kept.refl _ _).setCell (by simp) _).drew⟩

set_option maxHeartbeats 1600000 in
theorem and_loop (b g c n b2 g2 c2 n2 : Nat) (ws ws2 : List Nat) (w : World) (hs : IsSet w b g c n ws) (hG : Good n ws) (hs2 : IsSet w b2 g2 c2 n2 ws2) (hG2 : Good n2 ws2)
    (hal : (b2 = b ∧ g2 = g ∧ c2 = c ∧ n2 = n ∧ ws2 = ws) ∨ g2 ≠ g) :
    Calls Try.prog 9 #[.pointer (some ⟨b, 0, none⟩), .pointer (some ⟨b2, 0, none⟩)] w fun e w' => e = .returned (.tuple #[]) ∧ IsSet w' b g c n (opW fAnd ws ws2) ∧ Kept [g] w w' := by
  have h1 := hs.c1
  have hl : ws.length ≤ 1024 := by have := hG.len; have := hG.top; omega
  have hb2g : b2 ≠ g := by
    obtain ⟨cur, h, _⟩ := hs.row
    exact ne_of_obj' hs2.head h (by simp)
  have HS : Hid (IsSet w b g c n ws) := hs
  have HS2 : Hid (IsSet w b2 g2 c2 n2 ws2) := hs2
  have HG : Hid (Good n ws) := hG
  have HG2 : Hid (Good n2 ws2) := hG2
  have HAL : Hid _ := hal
  clear hs hs2 hG hG2 hal
  go_enter Try.func9, Try.ntmps9
  go_wp2_with fail
  go_loopw [10] (fun i wr => ∃ k : Nat, k ≤ ws.length ∧ i = .int .i64 k ∧ IsSet wr b g c n (partW fAnd ws ws2 k) ∧ Kept [g] w wr) (fun i _ => ws.length - (intOf i).toNat)
  case atStart => exact ⟨0, Nat.zero_le _, rfl, by rw [partW_zero]; exact HS.out, Kept.refl _ _⟩
  case round =>
    obtain ⟨k, hk, rfl, hsr, hkr⟩ := hrel
    by_cases hlt : k < ws.length
    · have hpl := partW_len fAnd ws ws2 k hk
      have hlt' : (k : Int) < (ws.length : Int) := by omega
      have d1 := hsr.c1
      rw [hpl] at d1
      have d2 := hsr.cw k (by omega)
      rw [getD_get (by omega), partW_getD _ _ _ _ hlt] at d2
      have d3 := hsr.fw k
      obtain ⟨ws2', ho, ho2⟩ : ∃ ws2', IsSet wr b2 g2 c2 n2 ws2' ∧ ws2'.getD k 0 = ws2.getD k 0 := by
        rcases HAL.out with ⟨rfl, rfl, rfl, rfl, rfl⟩ | hne
        · exact ⟨_, hsr, partW_getD _ _ _ _ hlt⟩
        · exact ⟨_, HS2.out.kept hkr (by simpa using hb2g) (by simpa using hne), rfl⟩
      have HE : Hid (partW fAnd ws ws2 (k + 1) = (partW fAnd ws ws2 k).set k (fAnd (ws.getD k 0) (ws2.getD k 0))) := partW_succ fAnd ws ws2 k hlt
      have HSR : Hid (IsSet wr b g c n (partW fAnd ws ws2 k)) := hsr
      have HO : Hid (IsSet wr b2 g2 c2 n2 ws2') := ho
      have hx := HG.out.word k
      have hy := HG2.out.word k
      have HO2 : Hid (ws2'.getD k 0 = ws2.getD k 0) := ho2
      generalize ws.getD k 0 = x at d2 HE hx
      generalize ws2.getD k 0 = y at HE HO2 hy
      have HB : Hid (bits .and .u64 (x : Int) (y : Int) = ((fAnd x y : Nat) : Int)) := bits_and_u64_nat _ _ hx hy
      clear hsr ho ho2 hpl h1 hx hy
      go_wp2_with fail
      go_region_with (first | (go_at_call 25; refine (word_any b2 g2 c2 n2 ws2' k _ (by first | exact HO.out.drew | exact HO.out)).mono ?_; rw [HO2.out]; rintro e w' ⟨rfl, rfl⟩))
      all_goals go_wp2
      all_goals go_roundw
      all_goals
        first
          | exact ⟨k + 1, by omega, by go_num, by rw [HB.out, HE.out]; exact (HSR.out.set k _).drew, (hkr.setCell (by simp) _).drew⟩
          | (simp [intOf]; omega)
    · have hlt' : ¬ (k : Int) < (ws.length : Int) := by omega
      have e : k = ws.length := by omega
      have HR : Hid (IsSet wr b g c n (opW fAnd ws ws2)) := by
        show IsSet wr b g c n (opW fAnd ws ws2)
        rw [← partW_all, ← e]; exact hsr
      clear hsr e
      go_wp2
      go_end0
      exact ⟨rfl, HR.out, hkr⟩

set_option maxHeartbeats 1600000 in
theorem less_loop (b g c n b2 g2 c2 n2 : Nat) (ws ws2 : List Nat) (w : World) (hs : IsSet w b g c n ws) (hG : Good n ws) (hs2 : IsSet w b2 g2 c2 n2 ws2) (hG2 : Good n2 ws2)
    (hal : (b2 = b ∧ g2 = g ∧ c2 = c ∧ n2 = n ∧ ws2 = ws) ∨ g2 ≠ g) :
    Calls Try.prog 10 #[.pointer (some ⟨b, 0, none⟩), .pointer (some ⟨b2, 0, none⟩)] w fun e w' => e = .returned (.tuple #[]) ∧ IsSet w' b g c n (opW fLess ws ws2) ∧ Kept [g] w w' := by
  have h1 := hs.c1
  have hl : ws.length ≤ 1024 := by have := hG.len; have := hG.top; omega
  have hb2g : b2 ≠ g := by
    obtain ⟨cur, h, _⟩ := hs.row
    exact ne_of_obj' hs2.head h (by simp)
  have HS : Hid (IsSet w b g c n ws) := hs
  have HS2 : Hid (IsSet w b2 g2 c2 n2 ws2) := hs2
  have HG : Hid (Good n ws) := hG
  have HG2 : Hid (Good n2 ws2) := hG2
  have HAL : Hid _ := hal
  clear hs hs2 hG hG2 hal
  go_enter Try.func10, Try.ntmps10
  go_wp2_with fail
  go_loopw [10] (fun i wr => ∃ k : Nat, k ≤ ws.length ∧ i = .int .i64 k ∧ IsSet wr b g c n (partW fLess ws ws2 k) ∧ Kept [g] w wr) (fun i _ => ws.length - (intOf i).toNat)
  case atStart => exact ⟨0, Nat.zero_le _, rfl, by rw [partW_zero]; exact HS.out, Kept.refl _ _⟩
  case round =>
    obtain ⟨k, hk, rfl, hsr, hkr⟩ := hrel
    by_cases hlt : k < ws.length
    · have hpl := partW_len fLess ws ws2 k hk
      have hlt' : (k : Int) < (ws.length : Int) := by omega
      have d1 := hsr.c1
      rw [hpl] at d1
      have d2 := hsr.cw k (by omega)
      rw [getD_get (by omega), partW_getD _ _ _ _ hlt] at d2
      have d3 := hsr.fw k
      obtain ⟨ws2', ho, ho2⟩ : ∃ ws2', IsSet wr b2 g2 c2 n2 ws2' ∧ ws2'.getD k 0 = ws2.getD k 0 := by
        rcases HAL.out with ⟨rfl, rfl, rfl, rfl, rfl⟩ | hne
        · exact ⟨_, hsr, partW_getD _ _ _ _ hlt⟩
        · exact ⟨_, HS2.out.kept hkr (by simpa using hb2g) (by simpa using hne), rfl⟩
      have HE : Hid (partW fLess ws ws2 (k + 1) = (partW fLess ws ws2 k).set k (fLess (ws.getD k 0) (ws2.getD k 0))) := partW_succ fLess ws ws2 k hlt
      have HSR : Hid (IsSet wr b g c n (partW fLess ws ws2 k)) := hsr
      have HO : Hid (IsSet wr b2 g2 c2 n2 ws2') := ho
      have hx := HG.out.word k
      have hy := HG2.out.word k
      have HO2 : Hid (ws2'.getD k 0 = ws2.getD k 0) := ho2
      generalize ws.getD k 0 = x at d2 HE hx
      generalize ws2.getD k 0 = y at HE HO2 hy
      have HB : Hid (bits .andNot .u64 (x : Int) (y : Int) = ((fLess x y : Nat) : Int)) := u64_andNot_nat _ _ hx hy
      clear hsr ho ho2 hpl h1 hx hy
      go_wp2_with fail
      go_region_with (first | (go_at_call 25; refine (word_any b2 g2 c2 n2 ws2' k _ (by first | exact HO.out.drew | exact HO.out)).mono ?_; rw [HO2.out]; rintro e w' ⟨rfl, rfl⟩))
      all_goals go_wp2
      all_goals go_roundw
      all_goals
        first
          | exact ⟨k + 1, by omega, by go_num, by rw [HB.out, HE.out]; exact (HSR.out.set k _).drew, (hkr.setCell (by simp) _).drew⟩
          | (simp [intOf]; omega)
    · have hlt' : ¬ (k : Int) < (ws.length : Int) := by omega
      have e : k = ws.length := by omega
      have HR : Hid (IsSet wr b g c n (opW fLess ws ws2)) := by
        show IsSet wr b g c n (opW fLess ws ws2)
        rw [← partW_all, ← e]; exact hsr
      clear hsr e
      go_wp2
      go_end0
      exact ⟨rfl, HR.out, hkr⟩

set_option maxHeartbeats 1600000 in
theorem or_loop (b g c n b2 g2 c2 n2 : Nat) (ws ws2 : List Nat) (w : World) (hs : IsSet w b g c n ws) (hG : Good n ws) (hs2 : IsSet w b2 g2 c2 n2 ws2) (hG2 : Good n2 ws2)
    (hal : (b2 = b ∧ g2 = g ∧ c2 = c ∧ n2 = n ∧ ws2 = ws) ∨ g2 ≠ g) :
    Calls Try.prog 8 #[.pointer (some ⟨b, 0, none⟩), .pointer (some ⟨b2, 0, none⟩)] w fun e w' => e = .returned (.tuple #[]) ∧ IsSet w' b g c n (trimW n (opW fOr ws ws2)) ∧ Kept [g] w w' := by
  have h1 := hs.c1
  have hl : ws.length ≤ 1024 := by have := hG.len; have := hG.top; omega
  have hb2g : b2 ≠ g := by
    obtain ⟨cur, h, _⟩ := hs.row
    exact ne_of_obj' hs2.head h (by simp)
  have HS : Hid (IsSet w b g c n ws) := hs
  have HS2 : Hid (IsSet w b2 g2 c2 n2 ws2) := hs2
  have HG : Hid (Good n ws) := hG
  have HG2 : Hid (Good n2 ws2) := hG2
  have HAL : Hid _ := hal
  clear hs hs2 hG hG2 hal
  go_enter Try.func8, Try.ntmps8
  go_wp2_with fail
  go_loopw [10] (fun i wr => ∃ k : Nat, k ≤ ws.length ∧ i = .int .i64 k ∧ IsSet wr b g c n (partW fOr ws ws2 k) ∧ Kept [g] w wr) (fun i _ => ws.length - (intOf i).toNat)
  case atStart => exact ⟨0, Nat.zero_le _, rfl, by rw [partW_zero]; exact HS.out, Kept.refl _ _⟩
  case round =>
    obtain ⟨k, hk, rfl, hsr, hkr⟩ := hrel
    by_cases hlt : k < ws.length
    · have hpl := partW_len fOr ws ws2 k hk
      have hlt' : (k : Int) < (ws.length : Int) := by omega
      have d1 := hsr.c1
      rw [hpl] at d1
      have d2 := hsr.cw k (by omega)
      rw [getD_get (by omega), partW_getD _ _ _ _ hlt] at d2
      have d3 := hsr.fw k
      obtain ⟨ws2', ho, ho2⟩ : ∃ ws2', IsSet wr b2 g2 c2 n2 ws2' ∧ ws2'.getD k 0 = ws2.getD k 0 := by
        rcases HAL.out with ⟨rfl, rfl, rfl, rfl, rfl⟩ | hne
        · exact ⟨_, hsr, partW_getD _ _ _ _ hlt⟩
        · exact ⟨_, HS2.out.kept hkr (by simpa using hb2g) (by simpa using hne), rfl⟩
      have HE : Hid (partW fOr ws ws2 (k + 1) = (partW fOr ws ws2 k).set k (fOr (ws.getD k 0) (ws2.getD k 0))) := partW_succ fOr ws ws2 k hlt
      have HSR : Hid (IsSet wr b g c n (partW fOr ws ws2 k)) := hsr
      have HO : Hid (IsSet wr b2 g2 c2 n2 ws2') := ho
      have hx := HG.out.word k
      have hy := HG2.out.word k
      have HO2 : Hid (ws2'.getD k 0 = ws2.getD k 0) := ho2
      generalize ws.getD k 0 = x at d2 HE hx
      generalize ws2.getD k 0 = y at HE HO2 hy
      have HB : Hid (bits .or .u64 (x : Int) (y : Int) = ((fOr x y : Nat) : Int)) := bits_or_u64_nat _ _ hx hy
      clear hsr ho ho2 hpl h1 hx hy
      go_wp2_with fail
      go_region_with (first | (go_at_call 25; refine (word_any b2 g2 c2 n2 ws2' k _ (by first | exact HO.out.drew | exact HO.out)).mono ?_; rw [HO2.out]; rintro e w' ⟨rfl, rfl⟩))
      all_goals go_wp2
      all_goals go_roundw
      all_goals
        first
          | exact ⟨k + 1, by omega, by go_num, by rw [HB.out, HE.out]; exact (HSR.out.set k _).drew, (hkr.setCell (by simp) _).drew⟩
          | (simp [intOf]; omega)
    · have hlt' : ¬ (k : Int) < (ws.length : Int) := by omega
      have e : k = ws.length := by omega
      have HR : Hid (IsSet wr b g c n (opW fOr ws ws2)) := by
        show IsSet wr b g c n (opW fOr ws ws2)
        rw [← partW_all, ← e]; exact hsr
      clear hsr e
      go_wp2_with fail
      refine (trim_any b g c n (opW fOr ws ws2) _ HR.out HG.out.top (by rw [opW_len]; exact HG.out.len) (opW_or_small HG.out HG2.out)).mono ?_
      rintro e w' ⟨rfl, hst, hkt⟩
      go_wp2
      go_end0
      exact ⟨rfl, hst, hkr.trans (H := [g]) hkt (fun _ h => h) (fun _ h => Or.inl h)⟩
end Go.Proofs.Ytjfhfdpbdjeedaa
