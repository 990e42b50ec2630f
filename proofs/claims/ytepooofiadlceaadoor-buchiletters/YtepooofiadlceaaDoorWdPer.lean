/- words.endless, words.repeats, words.period. -/
import Derived.Test.YtepooofiadlceaaDoorWdEq
namespace Go.Proofs.YtepooofiadlceaaDoor
open Go.RowKit
attribute [local go_sem ↓] Go.wp_at_zero Go.wp_at_succ

set_option maxHeartbeats 400000 in
theorem endless_any (sv : Value) (ad : Option Addr) (n c : Nat) (w : World) :
    Calls Tryd.prog 26 #[.agg #[sv, .slice ad n c]] w fun e w' => e = .returned (.bool (decide (0 < n))) ∧ Kept [] w w' := by
  by_cases h : 0 < n
  · have hi : (0 : Int) < (n : Int) := by omega
    have hd : decide (0 < n) = true := by simpa using h
    rw [hd]
    clear hd
    go_enter Tryd.func26, Tryd.ntmps26
    go_wp2
    go_ret
    exact ⟨rfl, (Kept.refl [] w).alloc _⟩
  · have hi : ¬ (0 : Int) < (n : Int) := by omega
    have hd : decide (0 < n) = false := by simpa using h
    rw [hd]
    clear hd
    go_enter Tryd.func26, Tryd.ntmps26
    go_wp2
    go_ret
    exact ⟨rfl, (Kept.refl [] w).alloc _⟩

/-- Is a row its first n letters, again and again? -/
def repB (xs : List Nat) (n : Nat) : Bool := decide (xs.drop n = xs.take (xs.length - n))
theorem repB_iff (xs : List Nat) (n : Nat) (h : n ≤ xs.length) : repB xs n = true ↔ rep xs n := by
  unfold repB rep
  rw [decide_eq_true_eq]
  constructor
  · intro e i hi
    have := congrArg (fun l => l[i]?) e
    simp only [List.getElem?_drop, List.getElem?_take, if_pos (show i < xs.length - n by omega)] at this
    rw [List.getD_eq_getElem?_getD, List.getD_eq_getElem?_getD, Nat.add_comm i n, this]
  · intro e
    apply ext_getD
    · rw [List.length_drop, List.length_take]; omega
    · intro j hj
      rw [List.length_drop] at hj
      have := e j (by omega)
      rw [List.getD_eq_getElem?_getD, List.getElem?_drop, List.getD_eq_getElem?_getD, List.getElem?_take, if_pos (show j < xs.length - n by omega), ← List.getD_eq_getElem?_getD, ← List.getD_eq_getElem?_getD, Nat.add_comm n j, this]

set_option maxHeartbeats 800000 in
theorem repeats_any (b o c n : Nat) (xs : List Nat) (w : World) (hx : Lets w (.slice (some ⟨b, o, none⟩) xs.length c) xs) (hn : n ≤ xs.length) :
    Calls Tryd.prog 56 #[.slice (some ⟨b, o, none⟩) xs.length c, .int .i64 n] w fun e w' => e = .returned (.bool (repB xs n)) ∧ Quiet w w' := by
  have hf := hx.few
  have hc : xs.length ≤ c ∧ c ≤ maxLen := by
    obtain ⟨_, _, e, h1, h2⟩ := hx.form
    cases e; exact ⟨h1, h2⟩
  obtain ⟨hc1, hc2⟩ := hc
  unfold maxLen at hc2
  obtain ⟨m, hm⟩ : ∃ m, m = xs.length - n := ⟨_, rfl⟩
  have e1 : (xs.length : Int) - (n : Int) = (m : Int) := by omega
  have b1 : (0 : Int) ≤ (n : Int) := by omega
  have b2 : (n : Int) ≤ (xs.length : Int) := by omega
  have b3 : (xs.length : Int) ≤ (c : Int) := by omega
  have b4 : (m : Int) ≤ (c : Int) := by omega
  have b5 : (0 : Int) ≤ (m : Int) := by omega
  have HE : Hid (∀ q ad, (c = n → ad = some ⟨b, o, none⟩) → (¬ c = n → ad = some ⟨b, o + n, none⟩) → Calls Tryd.prog 72 #[.slice ad (xs.length - n) (c - n), .slice (some ⟨b, o, none⟩) m c] (w.drewN q) fun e w' => e = .returned (.bool (repB xs n)) ∧ ∃ k, w' = (w.drewN q).drewN k) := fun q ad ha1 ha2 => by
    have hq := hx.kept ((Kept.refl [] w).drewN q)
    have h1 := hq.dropI n hn
    have ea : ad = if c = n then some ⟨b, o, none⟩ else some ⟨b, o + n, none⟩ := by
      by_cases hcn : c = n
      · rw [if_pos hcn]; exact ha1 hcn
      · rw [if_neg hcn]; exact ha2 hcn
    rw [← ea] at h1
    have h2 := hq.take m (by omega)
    have := equal_any _ _ _ _ _ h1 h2
    have er : repB xs n = decide (xs.drop n = xs.take m) := by unfold repB; rw [hm]
    rw [er]
    exact this
  have HM : Hid (m = xs.length - n) := hm
  clear hx hm hf
  go_enter Tryd.func56, Tryd.ntmps56
  go_wp2_with fail
  go_quiet ((go_at_call 72; exact Calls.quiet_of (HE.out _ _ (fun h => if_pos h) (fun h => if_neg h))))
  go_wp2
  all_goals (go_ret; exact ⟨rfl, _, rfl⟩)

/-- A number is divided: what the walk wants of it. -/
theorem quo_of {a p q : Nat} (h : a = p * q) (hp : 0 < p) : (a : Int).tdiv (p : Int) = (q : Int) ∧ (a : Int) / (p : Int) = (q : Int) ∧ (a : Int).tmod (p : Int) = 0 ∧ (a : Int) % (p : Int) = 0 := by
  subst h
  have hp' : (p : Int) ≠ 0 := by omega
  refine ⟨?_, ?_, ?_, ?_⟩
  · rw [Int.natCast_mul]; exact Int.mul_tdiv_cancel_left _ hp'
  · rw [Int.natCast_mul]; exact Int.mul_ediv_cancel_left _ hp'
  · rw [Int.natCast_mul]; exact Int.mul_tmod_right _ _
  · rw [Int.natCast_mul]; exact Int.mul_emod_right _ _
theorem rem_of {a p : Nat} (h : ¬ p ∣ a) : ∃ r : Nat, (a : Int).tmod (p : Int) = (r : Int) ∧ (a : Int) % (p : Int) = (r : Int) ∧ ((r : Int) == 0) = false ∧ r ≤ a := by
  refine ⟨a % p, by rw [Int.tmod_eq_emod_of_nonneg (by omega)]; rfl, rfl, ?_, Nat.mod_le _ _⟩
  have : a % p ≠ 0 := fun e => h (Nat.dvd_of_mod_eq_zero e)
  simp; omega
theorem wrap_nat (k : Nat) (h : k ≤ 4611686018427387904) : IntKind.i64.wrap (k : Int) = (k : Int) := by
  simp only [IntKind.wrap, IntKind.bits, IntKind.signed]; simp; omega
theorem quiet_trans {a b c : World} (h : Quiet a b) (k : Quiet b c) : Quiet a c := by
  obtain ⟨p, rfl⟩ := h
  obtain ⟨q, rfl⟩ := k
  exact quiet_more _ _ _

set_option maxHeartbeats 2000000 in
theorem period_any (b o c d : Nat) (xs : List Nat) (w : World) (hx : Lets w (.slice (some ⟨b, o, none⟩) xs.length c) xs) (h0 : 0 < xs.length) (hd : Least (cyc xs) 0 d) :
    Calls Tryd.prog 42 #[.slice (some ⟨b, o, none⟩) xs.length c] w fun e w' => e = .returned (.int .i64 (d : Nat)) ∧ Quiet w w' := by
  have hf := hx.few
  have hc : xs.length ≤ c ∧ c ≤ maxLen := by
    obtain ⟨_, _, e, h1, h2⟩ := hx.form
    cases e; exact ⟨h1, h2⟩
  obtain ⟨hc1, hc2⟩ := hc
  unfold maxLen at hc2
  have HX : Hid (Lets w (.slice (some ⟨b, o, none⟩) xs.length c) xs) := hx
  have HD : Hid (Least (cyc xs) 0 d) := hd
  have HS : Hid (PerInv xs d xs.length xs.length 2) := PerInv.start h0 hd
  clear hx hd
  go_enter Tryd.func42, Tryd.ntmps42
  go_wp2_with fail
  go_loopw [3, 4, 5] (fun s l p wr => ∃ sh left q : Nat, s = .int .i64 sh ∧ l = .int .i64 left ∧ p = .int .i64 q ∧ Hid (PerInv xs d sh left q) ∧ Quiet w wr) (fun _ _ p _ => xs.length + 1 - (intOf p).toNat)
  case atStart => exact ⟨_, _, 2, rfl, rfl, rfl, HS.out, Quiet.refl _⟩
  case round =>
    obtain ⟨sh, left, q, rfl, rfl, rfl, HI, qn, rfl⟩ := hrel
    obtain ⟨l1, l2, l3⟩ := HI.out.lens h0
    have l4 := HI.out.pos
    have l5 := HI.out.two
    by_cases h1 : 1 < left
    · have h1' : (1 : Int) < (left : Int) := by omega
      have hq := HI.out.le h1
      go_wp2_with fail
      go_loopw [3, 4] (fun s l wr => ∃ sh left : Nat, s = .int .i64 sh ∧ l = .int .i64 left ∧ Hid (PerInv xs d sh left q) ∧ Hid (Quiet w wr)) (fun _ l _ => (intOf l).toNat)
      case atStart => exact ⟨_, _, rfl, rfl, HI.out, _, rfl⟩
      case round =>
        obtain ⟨sh2, left2, rfl, rfl, HI2, HQ2⟩ := hrel
        obtain ⟨m1, m2, m3⟩ := HI2.out.lens h0
        have m4 := HI2.out.pos
        by_cases hdv : q ∣ left2
        · obtain ⟨a, ha⟩ := hdv
          obtain ⟨s, hs⟩ := Nat.dvd_trans ⟨a, ha⟩ HI2.out.ls
          obtain ⟨x1, x2, x3, x4⟩ := quo_of ha (by omega)
          obtain ⟨y1, y2, y3, y4⟩ := quo_of hs (by omega)
          have ea : left2 / q = a := by rw [ha, Nat.mul_div_cancel_left _ (by omega)]
          have es : sh2 / q = s := by rw [hs, Nat.mul_div_cancel_left _ (by omega)]
          have hal : a < left2 := by
            rw [ha]
            have : 0 < a := by
              rcases Nat.eq_zero_or_pos a with e | e
              · rw [ha, e] at m4; omega
              · exact e
            calc a = 1 * a := (Nat.one_mul a).symm
              _ < q * a := Nat.mul_lt_mul_of_pos_right (by omega) this
          have hsl : s ≤ sh2 := by rw [hs]; exact Nat.le_mul_of_pos_left _ (by omega)
          have HR : Hid (∀ q, Calls Tryd.prog 56 #[.slice (some ⟨b, o, none⟩) sh2 c, .int .i64 s] (wr.drewN q) fun e w' => e = .returned (.bool (repB (xs.take sh2) s)) ∧ ∃ k, w' = (wr.drewN q).drewN k) := fun q => by
            have hl : (xs.take sh2).length = sh2 := by rw [List.length_take]; omega
            have h1 := (HX.out.kept (HQ2.out.kept.drewN q)).take sh2 m3
            have h2 : Lets (wr.drewN q) (.slice (some ⟨b, o, none⟩) (xs.take sh2).length c) (xs.take sh2) := by rw [hl]; exact h1
            have h3 := repeats_any b o c s (xs.take sh2) _ h2 (by rw [hl]; exact hsl)
            rw [hl] at h3
            exact h3
          have hyes : repB (xs.take sh2) s = true → PerInv xs d s a q := fun h => by
            have h1 := (repB_iff (xs.take sh2) s (by rw [List.length_take]; omega)).1 h
            rw [← es] at h1 ⊢
            rw [← ea]
            exact HI2.out.yes ⟨a, ha⟩ ((rep_take_iff h0 HD.out HI2.out.ds HI2.out.sl ⟨s, hs⟩).1 h1)
          have hno : repB (xs.take sh2) s = false → PerInv xs d sh2 a q := fun h => by
            rw [← ea]
            refine HI2.out.no HD.out.1 ⟨a, ha⟩ (fun hdv => ?_)
            have h1 := (rep_take_iff h0 HD.out HI2.out.ds HI2.out.sl ⟨s, hs⟩).2 hdv
            rw [es] at h1
            rw [(repB_iff (xs.take sh2) s (by rw [List.length_take]; omega)).2 h1] at h
            cases h
          have HY : Hid _ := hyes
          have HN : Hid _ := hno
          have HA : Hid _ := ha
          have HS2 : Hid _ := hs
          have b1 : (0 : Int) ≤ (sh2 : Int) := by omega
          have b2 : (sh2 : Int) ≤ (c : Int) := by omega
          have b3 : ¬ ((q : Int) = 0) := by omega
          have b4 : ¬ (q = 0) := by omega
          have b5 : IntKind.i64.wrap (s : Int) = (s : Int) := wrap_nat s (by omega)
          clear hyes hno ha hs ea es HS HI
          cases hb : repB (xs.take sh2) s with
          | true =>
            have HB : Hid _ := hb
            rw [hb] at HR
            clear hb
            go_wp2_with fail
            go_quiet ((go_at_call 56; exact Calls.quiet_of (HR.out _)))
            go_wp2
            go_roundw
            case rel => exact ⟨s, a, rfl, rfl, HY.out HB.out, quiet_trans HQ2.out ⟨_, rfl⟩⟩
            case measure => simp [intOf]; omega
          | false =>
            have HB : Hid _ := hb
            rw [hb] at HR
            clear hb
            go_wp2_with fail
            go_quiet ((go_at_call 56; exact Calls.quiet_of (HR.out _)))
            go_wp2
            go_roundw
            case rel => exact ⟨sh2, a, rfl, rfl, HN.out HB.out, quiet_trans HQ2.out ⟨_, rfl⟩⟩
            case measure => simp [intOf]; omega
        · obtain ⟨r, x1, x2, x3, x4⟩ := rem_of hdv
          have HN : Hid (PerInv xs d sh2 left2 (q + 1)) := HI2.out.next hdv
          clear hdv HS HI
          go_wp2
          go_roundw
          case rel => exact ⟨sh2, left2, q + 1, rfl, rfl, by go_num, HN.out, HQ2.out⟩
          case measure => simp [intOf]; omega
    · have h1' : ¬ (1 : Int) < (left : Int) := by omega
      have HE : Hid (sh = d) := HI.out.done (by omega)
      go_wp2
      go_ret
      exact ⟨ret_int (by rw [HE.out]), _, rfl⟩
end Go.Proofs.YtepooofiadlceaaDoor
