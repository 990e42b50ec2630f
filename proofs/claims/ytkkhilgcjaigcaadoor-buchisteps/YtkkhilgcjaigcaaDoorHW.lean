/- slices.Equal at letters; words.repeats, words.period, words.endless. -/
import Derived.Test.YtkkhilgcjaigcaaDoorWd
import Derived.WalkLawsBesides
import Derived.Deep.RegionHeld3
import Derived.Deep.DrawnRows
import Derived.BigRegion
import Derived.Deep.RegionWith
import Derived.Deep.QuietTactic
import Derived.BigQuiet
import Derived.Lib.AppendZeros
namespace Go.Proofs.YtkkhilgcjaigcaaDoor
open Go.RowKit
attribute [local go_sem ↓] Go.wp_at_zero Go.wp_at_succ

theorem quiet_more (w : World) (q n : Nat) : Quiet w ((w.drewN q).drewN n) := ⟨q + n, by simp [World.drewN, Nat.add_assoc]⟩
theorem ext_getD {xs ys : List Nat} (hl : xs.length = ys.length) (h : ∀ j, j < xs.length → xs.getD j 0 = ys.getD j 0) : xs = ys := by
  apply List.ext_getElem hl
  intro j h1 h2
  have := h j h1
  simpa [List.getD_eq_getElem?_getD, h1, h2] using this

set_option maxHeartbeats 1600000 in
theorem equal_any (v u : Value) (xs ys : List Nat) (w : World) (hx : Lets w v xs) (hy : Lets w u ys) :
    Calls Tryd.prog 98 #[v, u] w fun e w' => e = .returned (.bool (decide (xs = ys))) ∧ Quiet w w' := by
  have fx := hx.few
  have fy := hy.few
  by_cases hlen : xs.length = ys.length
  · by_cases h0 : 0 < xs.length
    · obtain ⟨b, o, c, rfl, _, _, HC⟩ := hx.there h0
      obtain ⟨b2, o2, c2, rfl, _, _, HC2⟩ := hy.there (by omega)
      have hnl : ((xs.length : Int) != (ys.length : Int)) = false := by simp; omega
      have HC' : Hid (∀ i, i < xs.length → w.cell? ⟨b, o + i, none⟩ = some (.int .u16 (xs.getD i 0 : Nat))) := HC
      have HC2' : Hid (∀ i, i < ys.length → w.cell? ⟨b2, o2 + i, none⟩ = some (.int .u16 (ys.getD i 0 : Nat))) := HC2
      have HL : Hid (xs.length = ys.length) := hlen
      clear hx hy HC HC2 hlen
      go_enter Tryd.func98, Tryd.ntmps98
      go_wp2_with fail
      go_loopw [13] (fun i wr => ∃ k : Nat, k ≤ xs.length ∧ i = .int .i64 k ∧ (∀ j, j < k → xs.getD j 0 = ys.getD j 0) ∧ Quiet w wr) (fun i _ => xs.length - (intOf i).toNat)
      case atStart => exact ⟨0, Nat.zero_le _, rfl, fun j hj => by omega, Quiet.refl _⟩
      case round =>
        obtain ⟨k, hk, rfl, hd, q, rfl⟩ := hrel
        have HD : Hid (∀ j, j < k → xs.getD j 0 = ys.getD j 0) := hd
        clear hd
        by_cases hlt : k < xs.length
        · have hlt' : (k : Int) < (xs.length : Int) := by omega
          have hlt2 : (k : Int) < (ys.length : Int) := by have := HL.out; omega
          have d1 := HC'.out k hlt
          have d2 := HC2'.out k (by have := HL.out; omega)
          have b0 : (0 : Int) ≤ (k : Int) := by omega
          by_cases he : xs.getD k 0 = ys.getD k 0
          · have HD2 : Hid (∀ j, j < k + 1 → xs.getD j 0 = ys.getD j 0) := fun j hj => by
              rcases Nat.lt_or_ge j k with h | h
              · exact HD.out j h
              · obtain rfl : j = k := by omega
                exact he
            rw [← he] at d2
            generalize xs.getD k 0 = x at d1 d2
            have hne : ((x : Int) != (x : Int)) = false := by simp
            clear he
            go_wp2_with fail
            go_quiet (fail)
            go_wp2
            go_roundw
            case rel => exact ⟨k + 1, by omega, by go_num, HD2.out, _, rfl⟩
            case measure => simp [intOf]; omega
          · have HF : Hid (decide (xs = ys) = false) := by
              show decide (xs = ys) = false
              simp; intro e; exact he (by rw [e])
            generalize xs.getD k 0 = x at d1 he
            generalize ys.getD k 0 = y at d2 he
            have hne : ((x : Int) != (y : Int)) = true := by simp; omega
            clear he
            go_wp2_with fail
            go_quiet (fail)
            go_wp2
            go_ret
            exact ⟨ret_bool HF.out.symm, quiet_more _ _ _⟩
        · have hlt' : ¬ (k : Int) < (xs.length : Int) := by omega
          have HF : Hid (decide (xs = ys) = true) := by
            show decide (xs = ys) = true
            simp; exact ext_getD HL.out (fun j hj => HD.out j (by omega))
          go_wp2
          go_ret
          exact ⟨ret_bool HF.out.symm, _, rfl⟩
    · obtain rfl : xs = [] := List.length_eq_zero_iff.1 (by omega)
      obtain rfl : ys = [] := List.length_eq_zero_iff.1 (by simpa using hlen.symm)
      obtain ⟨ad, c, rfl, _⟩ := hx.form
      obtain ⟨ad2, c2, rfl, _⟩ := hy.form
      clear hx hy
      have e0 : (([] : List Nat).length : Int) = 0 := rfl
      simp only [List.length_nil]
      go_enter Tryd.func98, Tryd.ntmps98
      go_wp2_with fail
      go_loopw [13] (fun i wr => i = .int .i64 0 ∧ wr = w) (fun _ _ => 0)
      case atStart => exact ⟨rfl, rfl⟩
      case round =>
        obtain ⟨rfl, rfl⟩ := hrel
        go_wp2
        go_ret
        exact ⟨rfl, Quiet.refl _⟩
  · have hnl : ((xs.length : Int) != (ys.length : Int)) = true := by simp; omega
    obtain ⟨ad, c, rfl, _⟩ := hx.form
    obtain ⟨ad2, c2, rfl, _⟩ := hy.form
    have HF : Hid (decide (xs = ys) = false) := by
      show decide (xs = ys) = false
      simp; intro e; exact hlen (by rw [e])
    rw [HF.out]
    clear hx hy hlen HF
    go_enter Tryd.func98, Tryd.ntmps98
    go_wp2
    go_ret
    exact ⟨rfl, Quiet.refl _⟩
end Go.Proofs.YtkkhilgcjaigcaaDoor

/- words.endless, words.repeats, words.period. -/
namespace Go.Proofs.YtkkhilgcjaigcaaDoor
open Go.RowKit
attribute [local go_sem ↓] Go.wp_at_zero Go.wp_at_succ

set_option maxHeartbeats 400000 in
theorem endless_any (sv : Value) (ad : Option Addr) (n c : Nat) (w : World) :
    Calls Tryd.prog 65 #[.agg #[sv, .slice ad n c]] w fun e w' => e = .returned (.bool (decide (0 < n))) ∧ Kept [] w w' := by
  by_cases h : 0 < n
  · have hi : (0 : Int) < (n : Int) := by omega
    have hd : decide (0 < n) = true := by simpa using h
    rw [hd]
    clear hd
    go_enter Tryd.func65, Tryd.ntmps65
    go_wp2
    go_ret
    exact ⟨rfl, (Kept.refl [] w).alloc _⟩
  · have hi : ¬ (0 : Int) < (n : Int) := by omega
    have hd : decide (0 < n) = false := by simpa using h
    rw [hd]
    clear hd
    go_enter Tryd.func65, Tryd.ntmps65
    go_wp2
    go_ret
    exact ⟨rfl, (Kept.refl [] w).alloc _⟩

/-- Is a row its first n letters, again and again? -/
def repB (xs : List Nat) (n : Nat) : Bool := decide (xs.drop n = xs.take (xs.length - n))
theorem repB_iff (xs : List Nat) (n : Nat) (h : n ≤ xs.length) : repB xs n = true ↔ rep xs n := by
  unfold repB rep
  rw [decide_eq_true_eq]
  constructor
  · intro e i hi
    have := congrArg (fun l => l[i]?) e
    simp only [List.getElem?_drop, List.getElem?_take, if_pos (show i < xs.length - n by omega)] at this
    rw [List.getD_eq_getElem?_getD, List.getD_eq_getElem?_getD, Nat.add_comm i n, this]
  · intro e
    apply ext_getD
    · rw [List.length_drop, List.length_take]; omega
    · intro j hj
      rw [List.length_drop] at hj
      have := e j (by omega)
      rw [List.getD_eq_getElem?_getD, List.getElem?_drop, List.getD_eq_getElem?_getD, List.getElem?_take, if_pos (show j < xs.length - n by omega), ← List.getD_eq_getElem?_getD, ← List.getD_eq_getElem?_getD, Nat.add_comm n j, this]

set_option maxHeartbeats 800000 in
theorem repeats_any (b o c n : Nat) (xs : List Nat) (w : World) (hx : Lets w (.slice (some ⟨b, o, none⟩) xs.length c) xs) (hn : n ≤ xs.length) :
    Calls Tryd.prog 90 #[.slice (some ⟨b, o, none⟩) xs.length c, .int .i64 n] w fun e w' => e = .returned (.bool (repB xs n)) ∧ Quiet w w' := by
  have hf := hx.few
  have hc : xs.length ≤ c ∧ c ≤ maxLen := by
    obtain ⟨_, _, e, h1, h2⟩ := hx.form
    cases e; exact ⟨h1, h2⟩
  obtain ⟨hc1, hc2⟩ := hc
  unfold maxLen at hc2
  obtain ⟨m, hm⟩ : ∃ m, m = xs.length - n := ⟨_, rfl⟩
  have e1 : (xs.length : Int) - (n : Int) = (m : Int) := by omega
  have b1 : (0 : Int) ≤ (n : Int) := by omega
  have b2 : (n : Int) ≤ (xs.length : Int) := by omega
  have b3 : (xs.length : Int) ≤ (c : Int) := by omega
  have b4 : (m : Int) ≤ (c : Int) := by omega
  have b5 : (0 : Int) ≤ (m : Int) := by omega
  have HE : Hid (∀ q ad, (c = n → ad = some ⟨b, o, none⟩) → (¬ c = n → ad = some ⟨b, o + n, none⟩) → Calls Tryd.prog 98 #[.slice ad (xs.length - n) (c - n), .slice (some ⟨b, o, none⟩) m c] (w.drewN q) fun e w' => e = .returned (.bool (repB xs n)) ∧ ∃ k, w' = (w.drewN q).drewN k) := fun q ad ha1 ha2 => by
    have hq := hx.kept ((Kept.refl [] w).drewN q)
    have h1 := hq.dropI n hn
    have ea : ad = if c = n then some ⟨b, o, none⟩ else some ⟨b, o + n, none⟩ := by
      by_cases hcn : c = n
      · rw [if_pos hcn]; exact ha1 hcn
      · rw [if_neg hcn]; exact ha2 hcn
    rw [← ea] at h1
    have h2 := hq.take m (by omega)
    have := equal_any _ _ _ _ _ h1 h2
    have er : repB xs n = decide (xs.drop n = xs.take m) := by unfold repB; rw [hm]
    rw [er]
    exact this
  have HM : Hid (m = xs.length - n) := hm
  clear hx hm hf
  go_enter Tryd.func90, Tryd.ntmps90
  go_wp2_with fail
  go_quiet ((go_at_call 98; exact Calls.quiet_of (HE.out _ _ (fun h => if_pos h) (fun h => if_neg h))))
  go_wp2
  all_goals (go_ret; exact ⟨rfl, _, rfl⟩)

/-- A number is divided: what the walk wants of it. -/
theorem quo_of {a p q : Nat} (h : a = p * q) (hp : 0 < p) : (a : Int).tdiv (p : Int) = (q : Int) ∧ (a : Int) / (p : Int) = (q : Int) ∧ (a : Int).tmod (p : Int) = 0 ∧ (a : Int) % (p : Int) = 0 := by
  subst h
  have hp' : (p : Int) ≠ 0 := by omega
  refine ⟨?_, ?_, ?_, ?_⟩
  · rw [Int.natCast_mul]; exact Int.mul_tdiv_cancel_left _ hp'
  · rw [Int.natCast_mul]; exact Int.mul_ediv_cancel_left _ hp'
  · rw [Int.natCast_mul]; exact Int.mul_tmod_right _ _
  · rw [Int.natCast_mul]; exact Int.mul_emod_right _ _
theorem rem_of {a p : Nat} (h : ¬ p ∣ a) : ∃ r : Nat, (a : Int).tmod (p : Int) = (r : Int) ∧ (a : Int) % (p : Int) = (r : Int) ∧ ((r : Int) == 0) = false ∧ r ≤ a := by
  refine ⟨a % p, by rw [Int.tmod_eq_emod_of_nonneg (by omega)]; rfl, rfl, ?_, Nat.mod_le _ _⟩
  have : a % p ≠ 0 := fun e => h (Nat.dvd_of_mod_eq_zero e)
  simp; omega
theorem wrap_nat (k : Nat) (h : k ≤ 4611686018427387904) : IntKind.i64.wrap (k : Int) = (k : Int) := by
  simp only [IntKind.wrap, IntKind.bits, IntKind.signed]; simp; omega
theorem quiet_trans {a b c : World} (h : Quiet a b) (k : Quiet b c) : Quiet a c := by
  obtain ⟨p, rfl⟩ := h
  obtain ⟨q, rfl⟩ := k
  exact quiet_more _ _ _

set_option maxHeartbeats 2000000 in
theorem period_any (b o c d : Nat) (xs : List Nat) (w : World) (hx : Lets w (.slice (some ⟨b, o, none⟩) xs.length c) xs) (h0 : 0 < xs.length) (hd : Least (cyc xs) 0 d) :
    Calls Tryd.prog 79 #[.slice (some ⟨b, o, none⟩) xs.length c] w fun e w' => e = .returned (.int .i64 (d : Nat)) ∧ Quiet w w' := by
  have hf := hx.few
  have hc : xs.length ≤ c ∧ c ≤ maxLen := by
    obtain ⟨_, _, e, h1, h2⟩ := hx.form
    cases e; exact ⟨h1, h2⟩
  obtain ⟨hc1, hc2⟩ := hc
  unfold maxLen at hc2
  have HX : Hid (Lets w (.slice (some ⟨b, o, none⟩) xs.length c) xs) := hx
  have HD : Hid (Least (cyc xs) 0 d) := hd
  have HS : Hid (PerInv xs d xs.length xs.length 2) := PerInv.start h0 hd
  clear hx hd
  go_enter Tryd.func79, Tryd.ntmps79
  go_wp2_with fail
  go_loopw [3, 4, 5] (fun s l p wr => ∃ sh left q : Nat, s = .int .i64 sh ∧ l = .int .i64 left ∧ p = .int .i64 q ∧ Hid (PerInv xs d sh left q) ∧ Quiet w wr) (fun _ _ p _ => xs.length + 1 - (intOf p).toNat)
  case atStart => exact ⟨_, _, 2, rfl, rfl, rfl, HS.out, Quiet.refl _⟩
  case round =>
    obtain ⟨sh, left, q, rfl, rfl, rfl, HI, qn, rfl⟩ := hrel
    obtain ⟨l1, l2, l3⟩ := HI.out.lens h0
    have l4 := HI.out.pos
    have l5 := HI.out.two
    by_cases h1 : 1 < left
    · have h1' : (1 : Int) < (left : Int) := by omega
      have hq := HI.out.le h1
      go_wp2_with fail
      go_loopw [3, 4] (fun s l wr => ∃ sh left : Nat, s = .int .i64 sh ∧ l = .int .i64 left ∧ Hid (PerInv xs d sh left q) ∧ Hid (Quiet w wr)) (fun _ l _ => (intOf l).toNat)
      case atStart => exact ⟨_, _, rfl, rfl, HI.out, _, rfl⟩
      case round =>
        obtain ⟨sh2, left2, rfl, rfl, HI2, HQ2⟩ := hrel
        obtain ⟨m1, m2, m3⟩ := HI2.out.lens h0
        have m4 := HI2.out.pos
        by_cases hdv : q ∣ left2
        · obtain ⟨a, ha⟩ := hdv
          obtain ⟨s, hs⟩ := Nat.dvd_trans ⟨a, ha⟩ HI2.out.ls
          obtain ⟨x1, x2, x3, x4⟩ := quo_of ha (by omega)
          obtain ⟨y1, y2, y3, y4⟩ := quo_of hs (by omega)
          have ea : left2 / q = a := by rw [ha, Nat.mul_div_cancel_left _ (by omega)]
          have es : sh2 / q = s := by rw [hs, Nat.mul_div_cancel_left _ (by omega)]
          have hal : a < left2 := by
            rw [ha]
            have : 0 < a := by
              rcases Nat.eq_zero_or_pos a with e | e
              · rw [ha, e] at m4; omega
              · exact e
            calc a = 1 * a := (Nat.one_mul a).symm
              _ < q * a := Nat.mul_lt_mul_of_pos_right (by omega) this
          have hsl : s ≤ sh2 := by rw [hs]; exact Nat.le_mul_of_pos_left _ (by omega)
          have HR : Hid (∀ q, Calls Tryd.prog 90 #[.slice (some ⟨b, o, none⟩) sh2 c, .int .i64 s] (wr.drewN q) fun e w' => e = .returned (.bool (repB (xs.take sh2) s)) ∧ ∃ k, w' = (wr.drewN q).drewN k) := fun q => by
            have hl : (xs.take sh2).length = sh2 := by rw [List.length_take]; omega
            have h1 := (HX.out.kept (HQ2.out.kept.drewN q)).take sh2 m3
            have h2 : Lets (wr.drewN q) (.slice (some ⟨b, o, none⟩) (xs.take sh2).length c) (xs.take sh2) := by rw [hl]; exact h1
            have h3 := repeats_any b o c s (xs.take sh2) _ h2 (by rw [hl]; exact hsl)
            rw [hl] at h3
            exact h3
          have hyes : repB (xs.take sh2) s = true → PerInv xs d s a q := fun h => by
            have h1 := (repB_iff (xs.take sh2) s (by rw [List.length_take]; omega)).1 h
            rw [← es] at h1 ⊢
            rw [← ea]
            exact HI2.out.yes ⟨a, ha⟩ ((rep_take_iff h0 HD.out HI2.out.ds HI2.out.sl ⟨s, hs⟩).1 h1)
          have hno : repB (xs.take sh2) s = false → PerInv xs d sh2 a q := fun h => by
            rw [← ea]
            refine HI2.out.no HD.out.1 ⟨a, ha⟩ (fun hdv => ?_)
            have h1 := (rep_take_iff h0 HD.out HI2.out.ds HI2.out.sl ⟨s, hs⟩).2 hdv
            rw [es] at h1
            rw [(repB_iff (xs.take sh2) s (by rw [List.length_take]; omega)).2 h1] at h
            cases h
          have HY : Hid _ := hyes
          have HN : Hid _ := hno
          have HA : Hid _ := ha
          have HS2 : Hid _ := hs
          have b1 : (0 : Int) ≤ (sh2 : Int) := by omega
          have b2 : (sh2 : Int) ≤ (c : Int) := by omega
          have b3 : ¬ ((q : Int) = 0) := by omega
          have b4 : ¬ (q = 0) := by omega
          have b5 : IntKind.i64.wrap (s : Int) = (s : Int) := wrap_nat s (by omega)
          clear hyes hno ha hs ea es HS HI
          cases hb : repB (xs.take sh2) s with
          | true =>
            have HB : Hid _ := hb
            rw [hb] at HR
            clear hb
            go_wp2_with fail
            go_quiet ((go_at_call 90; exact Calls.quiet_of (HR.out _)))
            go_wp2
            go_roundw
            case rel => exact ⟨s, a, rfl, rfl, HY.out HB.out, quiet_trans HQ2.out ⟨_, rfl⟩⟩
            case measure => simp [intOf]; omega
          | false =>
            have HB : Hid _ := hb
            rw [hb] at HR
            clear hb
            go_wp2_with fail
            go_quiet ((go_at_call 90; exact Calls.quiet_of (HR.out _)))
            go_wp2
            go_roundw
            case rel => exact ⟨sh2, a, rfl, rfl, HN.out HB.out, quiet_trans HQ2.out ⟨_, rfl⟩⟩
            case measure => simp [intOf]; omega
        · obtain ⟨r, x1, x2, x3, x4⟩ := rem_of hdv
          have HN : Hid (PerInv xs d sh2 left2 (q + 1)) := HI2.out.next hdv
          clear hdv HS HI
          go_wp2
          go_roundw
          case rel => exact ⟨sh2, left2, q + 1, rfl, rfl, by go_num, HN.out, HQ2.out⟩
          case measure => simp [intOf]; omega
    · have h1' : ¬ (1 : Int) < (left : Int) := by omega
      have HE : Hid (sh = d) := HI.out.done (by omega)
      go_wp2
      go_ret
      exact ⟨ret_int (by rw [HE.out]), _, rfl⟩
end Go.Proofs.YtkkhilgcjaigcaaDoor

/- append of letters; words.copied; slices.Grow, slices.Concat of two; words.turned. -/
namespace Go.Proofs.YtkkhilgcjaigcaaDoor
open Go.RowKit
attribute [local go_sem ↓] Go.wp_at_zero Go.wp_at_succ

theorem run_append_lets (w : World) (base : Nat) (v u : Value) (xs ys : List Nat) (hown : w.ownsRow base 27 1 v xs.length (u16s xs)) (hu : Lets w u ys) (hl : xs.length + ys.length ≤ 70368744177664) (hbase : base ≤ w.heap.size) :
    ∃ v' w', (∀ ty, (Builtin.append_ #[33, 33] ty #[v, u]).run Tryd.prog w = .ok v' w') ∧ w'.ownsRow base 27 1 v' (xs ++ ys).length (u16s (xs ++ ys)) ∧ w.grownBy w' v.ownBlock ∧ (v' = .slice none 0 0 ↔ v = .slice none 0 0 ∧ ys = []) ∧ (v'.ownBlock = v.ownBlock ∨ v'.ownBlock = some w.heap.size) := by
  obtain ⟨i0, hi, hz0, hz1, hz2⟩ := info_parts Tryd.infoU16
  rcases hu.lie with ⟨rfl, rfl⟩ | ⟨b, o, c, rfl, h2, h3, h4⟩
  · refine ⟨v, w, fun ty => run_append_owned_none (P := Tryd.prog) (w := w) base 33 ty 27 i0 1 Tryd.underlying33 hi v _ _ hown, by simpa using hown, ⟨rfl, rfl, rfl, Nat.le_refl _, fun _ _ _ => rfl⟩, by simp, .inl rfl⟩
  · obtain ⟨v', w', h5, h6, h7, h8, h9⟩ := run_append_own_at (P := Tryd.prog) w base 33 0 27 i0 _ 1 2 Tryd.underlying33 hi hz0 hz1 hz2 rfl (by decide) v _ _ hown ⟨b, o, none⟩ ys.length c (u16s ys) (by simp [u16s_len]) (lets_news h4) (u16s_one ys) (by unfold maxLen; omega) (by omega) hbase
    exact ⟨v', w', fun _ => h5, by rw [List.length_append, u16s_app]; exact h6, h7, by rw [h8, List.length_eq_zero_iff], h9⟩
theorem own_nil (w : World) (base : Nat) : w.ownsRow base 27 1 (.slice none 0 0) ([] : List Nat).length (u16s []) := ⟨rfl, .inl ⟨rfl, rfl⟩⟩

set_option maxHeartbeats 400000 in
theorem copied_any (v : Value) (xs : List Nat) (w : World) (hx : Lets w v xs) :
    Calls Tryd.prog 80 #[v] w fun e w' => ∃ v', e = .returned v' ∧ w'.ownsRow w.heap.size 27 1 v' xs.length (u16s xs) ∧ Kept [] w w' ∧ (xs = [] → v' = .slice none 0 0) := by
  obtain ⟨v', w', hr, h1, h2, h3, h4⟩ := run_append_lets w w.heap.size (.slice none 0 0) v [] xs (own_nil _ _) hx (by simpa using hx.few) (Nat.le_refl _)
  have hk : Kept [] w w' := (Kept.refl [] w).grown h2 (fun k e => by cases e)
  have HR : Hid _ := hr
  rw [List.nil_append] at h1
  have H3 : Hid (xs = [] → v' = .slice none 0 0) := fun e => h3.2 ⟨rfl, e⟩
  clear hr h3
  go_enter Tryd.func80, Tryd.ntmps80
  go_wp2_with (at_builtin; refine Lib.wpList_append_run _ rfl _ _ _ _ rfl _ _ rfl rfl _ _ (HR.out _) ?_)
  go_ret
  exact ⟨v', rfl, h1, hk, H3.out⟩

theorem zeroCells_size (n : Nat) : (Builtin.zeroCells #[Value.int .u16 0] n).size = n := by simp [Builtin.zeroCells]
set_option maxHeartbeats 400000 in
set_option maxRecDepth 20000 in
theorem grow_any (n : Nat) (w : World) (hn : n ≤ 70368744177664) :
    Calls Tryd.prog 99 #[.slice none 0 0, .int .i64 n] w fun e w' => ∃ v', e = .returned v' ∧ w'.ownsRow w.heap.size 27 1 v' ([] : List Nat).length (u16s []) ∧ Kept [] w w' ∧ (v' = .slice none 0 0 ↔ n = 0) := by
  obtain ⟨i0, hi, hz0, hz1, hz2⟩ := info_parts Tryd.infoU16
  have b0 : ¬ ((n : Int) < 0) := by omega
  by_cases h0 : n = 0
  · subst h0
    go_enter Tryd.func99, Tryd.ntmps99
    go_wp2
    go_ret
    exact ⟨_, rfl, own_nil _ _, Kept.refl [] w, by simp⟩
  · have hr : ∀ ty, (Builtin.append_ #[33, 3] ty #[.slice none 0 0, .int .i64 n]).run Tryd.prog w = _ := fun ty => Lib.run_append_nil_zeros w 33 3 ty 27 i0 _ .i64 .i64 Tryd.underlying33 Tryd.underlying3 hi hz0 n (by omega) (by rw [hz1]; decide) (by omega) (by rw [hz2]; omega)
    have hg := grownCap_ge w n 0 27
    have hg2 := grownCap_le_maxLen w n 0 27 (by unfold maxLen; omega)
    have HR : Hid _ := hr
    obtain ⟨G, hG⟩ : ∃ G, grownCap w n 0 27 = G := ⟨_, rfl⟩
    rw [hG] at hg hg2 HR
    have HG2 : Hid (G ≤ maxLen) := hg2
    unfold maxLen at hg2
    clear hr hG
    have hn0 : (0 : Int) < (n : Int) := by omega
    go_enter Tryd.func99, Tryd.ntmps99
    go_wp2_with (at_builtin; refine Lib.wpList_append_run _ rfl _ _ _ _ rfl _ _ rfl rfl _ _ (HR.out _) ?_)
    go_ret
    refine ⟨_, rfl, ⟨rfl, .inr ⟨w.heap.size, G, _, rfl, Nat.le_refl _, heap_alloc_new _ _, by simp, HG2.out, ?_, by simp [u16s]⟩⟩, (Kept.refl [] w).drew.alloc _, by simp⟩
    rw [Array.size_append, zeroCells_size, zeroCells_size]
    omega

/-- The two slices that Concat is handed. -/
def Two (W : World) (g : Nat) (v u : Value) : Prop := W.heap[g]? = some (.cells #[v, u] 33 (0, 0))
theorem own_base {W : World} {base : Nat} {e : TypeId} {size : Nat} {v : Value} {n g : Nat} {xs : List Value} (h : W.ownsRow base e size v n xs) (hg : v.ownBlock = some g) : base ≤ g := by
  rcases h.2 with ⟨rfl, _⟩ | ⟨g', cap, cur, rfl, hb, hc, _⟩
  · cases hg
  · cases hg; exact hb
theorem val_int {k : IntKind} {a b : Int} (h : a = b) : Value.int k a = .int k b := by rw [h]
/-- An append to letters of one's own, and what it keeps. -/
theorem append_step {w wr : World} {v u : Value} {xs ys : List Nat} (hk : Kept [] w wr) (hown : wr.ownsRow w.heap.size 27 1 v xs.length (u16s xs)) (hu : Lets wr u ys) (hl : xs.length + ys.length ≤ 70368744177664) :
    ∃ v' w', (∀ ty, (Builtin.append_ #[33, 33] ty #[v, u]).run Tryd.prog wr = .ok v' w') ∧ w'.ownsRow w.heap.size 27 1 v' (xs ++ ys).length (u16s (xs ++ ys)) ∧ Kept [] w w' := by
  obtain ⟨v', w', h1, h2, h3, _, _⟩ := run_append_lets wr w.heap.size v u xs ys hown hu hl hk.size
  exact ⟨v', w', h1, h2, hk.grown h3 (fun k e => .inr (own_base hown e))⟩
def pre2 (xs ys : List Nat) (k : Nat) : List Nat := if k = 0 then [] else if k = 1 then xs else xs ++ ys
set_option maxHeartbeats 2000000 in
theorem concat_any (g : Nat) (v u : Value) (xs ys : List Nat) (w : World) (hg : Two w g v u) (hx : Lets w v xs) (hy : Lets w u ys) (hl : xs.length + ys.length ≤ 70368744177664) :
    Calls Tryd.prog 91 #[.slice (some ⟨g, 0, none⟩) 2 2] w fun e w' => ∃ v', e = .returned v' ∧ w'.ownsRow w.heap.size 27 1 v' (xs ++ ys).length (u16s (xs ++ ys)) ∧ Kept [] w w' := by
  have HX : Hid (Lets w v xs) := hx
  have HY : Hid (Lets w u ys) := hy
  have c0 : w.cell? ⟨g, 0, none⟩ = some v := (cell_of hg 0).trans rfl
  have c1 : w.cell? ⟨g, 1, none⟩ = some u := (cell_of hg 1).trans rfl
  have C0 : Hid (w.cell? ⟨g, 0, none⟩ = some v) := c0
  have C1 : Hid (w.cell? ⟨g, 1, none⟩ = some u) := c1
  obtain ⟨ax, cx, hvx, _, _⟩ := hx.form
  obtain ⟨ay, cy, hvy, _, _⟩ := hy.form
  subst hvx hvy
  obtain ⟨N, hN⟩ : ∃ N, N = xs.length + ys.length := ⟨_, rfl⟩
  have HN : Hid (N = xs.length + ys.length) := hN
  have bN : N ≤ 70368744177664 := by omega
  clear hx hy hg hN
  go_enter Tryd.func91, Tryd.ntmps91
  go_wp2_with fail
  go_loopw [3, 5, 11] (fun s _ i wr => ∃ k : Nat, k ≤ 2 ∧ i = .int .i64 k ∧ s = .int .i64 (if k = 0 then 0 else if k = 1 then (xs.length : Int) else (N : Int)) ∧ wr = w) (fun _ _ i _ => 2 - (intOf i).toNat)
  case atStart => exact ⟨0, by omega, rfl, rfl, rfl⟩
  case round =>
    obtain ⟨k, hk, rfl, rfl, rfl⟩ := hrel
    have h3 : k = 0 ∨ k = 1 ∨ k = 2 := by omega
    rcases h3 with rfl | rfl | rfl
    · have n0 : ¬ ((xs.length : Int) < 0) := by omega
      go_wp2
      go_roundw
      case rel => exact ⟨1, by omega, rfl, rfl, trivial⟩
      case measure => simp [intOf]
    · have n0 : ¬ ((xs.length : Int) + (ys.length : Int) < 0) := by omega
      go_wp2
      go_roundw
      case rel => exact ⟨2, by omega, rfl, val_int (by have := HN.out; simp; omega), trivial⟩
      case measure => simp [intOf]
    · clear c0 c1
      rename World => w0
      go_wp2_with (go_at_call 99; refine (grow_any N _ bN).mono ?_; rintro e w1 ⟨v', rfl, ho, hk1, _⟩; have HO : Hid _ := ho; have HK : Hid (Kept [] w0 w1) := hk1; clear ho hk1)
      go_loopw [6, 8, 27] (fun s _ i w2 => ∃ k : Nat, k ≤ 2 ∧ i = .int .i64 k ∧ Hid (w2.ownsRow w0.heap.size 27 1 s (pre2 xs ys k).length (u16s (pre2 xs ys k))) ∧ Hid (Kept [] w0 w2)) (fun _ _ i _ => 2 - (intOf i).toNat)
      case atStart => exact ⟨0, by omega, rfl, HO.out, HK.out⟩
      case round =>
        obtain ⟨k, hk, rfl, HO2, HK2⟩ := hrel
        have d0 := cell_kept0 HK2.out C0.out
        have d1 := cell_kept0 HK2.out C1.out
        have h3 : k = 0 ∨ k = 1 ∨ k = 2 := by omega
        rcases h3 with rfl | rfl | rfl
        · obtain ⟨v2, w2, hr, ho2, hk2⟩ := append_step (xs := []) HK2.out HO2.out (HX.out.kept HK2.out) (by simp; omega)
          have HR : Hid _ := hr
          have HO3 : Hid (w2.ownsRow w0.heap.size 27 1 v2 xs.length (u16s xs)) := ho2
          have HK3 : Hid (Kept [] w0 w2) := hk2
          clear hr ho2 hk2
          go_wp2_with (at_builtin; refine Lib.wpList_append_run _ rfl _ _ _ _ rfl _ _ rfl rfl _ _ (HR.out _) ?_)
          go_roundw
          case rel => exact ⟨1, by omega, rfl, HO3.out, HK3.out⟩
          case measure => simp [intOf]
        · obtain ⟨v2, w2, hr, ho2, hk2⟩ := append_step (xs := xs) HK2.out HO2.out (HY.out.kept HK2.out) hl
          have HR : Hid _ := hr
          have HO3 : Hid (w2.ownsRow w0.heap.size 27 1 v2 (xs ++ ys).length (u16s (xs ++ ys))) := ho2
          have HK3 : Hid (Kept [] w0 w2) := hk2
          clear hr ho2 hk2
          go_wp2_with (at_builtin; refine Lib.wpList_append_run _ rfl _ _ _ _ rfl _ _ rfl rfl _ _ (HR.out _) ?_)
          go_roundw
          case rel => exact ⟨2, by omega, rfl, HO3.out, HK3.out⟩
          case measure => simp [intOf]
        · go_wp2
          go_ret
          exact ⟨_, rfl, HO2.out, HK2.out⟩
end Go.Proofs.YtkkhilgcjaigcaaDoor

/- words.turned; words.Normal. -/
namespace Go.Proofs.YtkkhilgcjaigcaaDoor
open Go.RowKit
attribute [local go_sem ↓] Go.wp_at_zero Go.wp_at_succ

theorem lets_form {W : World} {b o n c : Nat} {xs : List Nat} (h : Lets W (.slice (some ⟨b, o, none⟩) n c) xs) : n = xs.length ∧ xs.length ≤ c ∧ c ≤ 9223372036854775807 := by
  obtain ⟨_, _, e, h1, h2⟩ := h.form
  cases e
  unfold maxLen at h2
  exact ⟨rfl, h1, by omega⟩
set_option maxHeartbeats 1000000 in
theorem turned_any (b o c n : Nat) (xs : List Nat) (w : World) (hx : Lets w (.slice (some ⟨b, o, none⟩) xs.length c) xs) (hn : n ≤ xs.length) :
    Calls Tryd.prog 81 #[.slice (some ⟨b, o, none⟩) xs.length c, .int .i64 n] w fun e w' => ∃ v', e = .returned v' ∧ w'.ownsRow (w.heap.size + 1) 27 1 v' (rot xs n).length (u16s (rot xs n)) ∧ Kept [] w w' := by
  have hf := hx.few
  obtain ⟨_, hc1, hc2⟩ := lets_form hx
  have b1 : (0 : Int) ≤ (n : Int) := by omega
  have b2 : (n : Int) ≤ (xs.length : Int) := by omega
  have b3 : (xs.length : Int) ≤ (c : Int) := by omega
  have b4 : (n : Int) ≤ (c : Int) := by omega
  obtain ⟨ad, had⟩ : ∃ ad : Option Addr, (if c = n then some ⟨b, o, none⟩ else some ⟨b, o + n, none⟩) = ad := ⟨_, rfl⟩
  have HC : Hid (Calls Tryd.prog 91 #[.slice (some ⟨w.heap.size, 0, none⟩) 2 2] (w.alloc (.cells #[.slice ad (xs.length - n) (c - n), .slice (some ⟨b, o, none⟩) n c] 33)).drew fun e w' => ∃ v', e = .returned v' ∧ w'.ownsRow (w.heap.size + 1) 27 1 v' (rot xs n).length (u16s (rot xs n)) ∧ Kept [] w w') := by
    have kq := ((Kept.refl [] w).alloc (.cells #[.slice ad (xs.length - n) (c - n), .slice (some ⟨b, o, none⟩) n c] 33)).drew
    have hq := hx.kept kq
    have h1 := hq.dropI n hn
    have h2 := hq.take n hn
    rw [had] at h1
    have hg : Two (w.alloc (.cells #[.slice ad (xs.length - n) (c - n), .slice (some ⟨b, o, none⟩) n c] 33)).drew w.heap.size (.slice ad (xs.length - n) (c - n)) (.slice (some ⟨b, o, none⟩) n c) := heap_alloc_new w _
    have e : (w.alloc (.cells #[.slice ad (xs.length - n) (c - n), .slice (some ⟨b, o, none⟩) n c] 33)).drew.heap.size = w.heap.size + 1 := World.size_alloc _ _
    refine (concat_any w.heap.size _ _ _ _ _ hg h1 h2 (by rw [List.length_drop, List.length_take]; omega)).mono ?_
    rintro e w' ⟨v', rfl, ho, hk⟩
    refine ⟨v', rfl, ?_, kq.trans hk (by simp) (by simp)⟩
    rw [e] at ho
    exact ho
  clear hx hf
  go_enter Tryd.func81, Tryd.ntmps81
  go_wp2_with fail
  go_region_with (go_at_call 91; refine HC.out.mono ?_; rintro e w1 ⟨v', rfl, ho, hk⟩)
  go_wp2
  go_ret
  exact ⟨v', rfl, ho, hk⟩
end Go.Proofs.YtkkhilgcjaigcaaDoor

/- words.Normal. -/
namespace Go.Proofs.YtkkhilgcjaigcaaDoor
open Go.RowKit
attribute [local go_sem ↓] Go.wp_at_zero Go.wp_at_succ

theorem owns_keptF {F : List Nat} {W W' : World} {base : Nat} {e : TypeId} {size : Nat} {v : Value} {n : Nat} {xs : List Value} (h : W.ownsRow base e size v n xs) (k : Kept F W W') (hF : ∀ g, v.ownBlock = some g → g ∉ F) : W'.ownsRow base e size v n xs := by
  refine ⟨h.1, ?_⟩
  rcases h.2 with hn | ⟨g, cap, cur, rfl, hb, hgg, rest⟩
  · exact .inl hn
  · exact .inr ⟨g, cap, cur, rfl, hb, k.at hgg (hF g rfl), rest⟩
theorem owns_low {W : World} {base base' : Nat} {e : TypeId} {size : Nat} {v : Value} {n : Nat} {xs : List Value} (h : W.ownsRow base e size v n xs) (hb : base' ≤ base) : W.ownsRow base' e size v n xs := by
  refine ⟨h.1, ?_⟩
  rcases h.2 with hn | ⟨g, cap, cur, rfl, hb', rest⟩
  · exact .inl hn
  · exact .inr ⟨g, cap, cur, rfl, Nat.le_trans hb hb', rest⟩
theorem owns_lt {W : World} {base : Nat} {e : TypeId} {size : Nat} {v : Value} {n g : Nat} {xs : List Value} (h : W.ownsRow base e size v n xs) (hg : v.ownBlock = some g) : g < W.heap.size := by
  rcases h.2 with ⟨rfl, _⟩ | ⟨g', cap, cur, rfl, hb, hc, _⟩
  · cases hg
  · cases hg; exact lt_of hc
theorem own_form {W : World} {base : Nat} {e : TypeId} {size : Nat} {v : Value} {n : Nat} {xs : List Value} (h : W.ownsRow base e size v n xs) : ∃ ad c, v = .slice ad n c := by
  rcases h.2 with ⟨rfl, h0⟩ | ⟨g', cap, cur, rfl, _⟩
  · exact ⟨none, 0, by rw [h0]⟩
  · exact ⟨_, _, rfl⟩
/-- A word that a call has made: its letters lie in two rows of its own. -/
structure NewW (n₀ : Nat) (w' : World) (sv lv : Value) (r : Wd) : Prop where
  own1 : w'.ownsRow n₀ 27 1 sv r.stem.length (u16s r.stem)
  own2 : w'.ownsRow n₀ 27 1 lv r.loop.length (u16s r.loop)
  apart : ∀ g, sv.ownBlock = some g → lv.ownBlock ≠ some g
  small1 : ∀ x ∈ r.stem, x < 65536
  small2 : ∀ x ∈ r.loop, x < 65536
  few1 : r.stem.length ≤ 70368744177664
  few2 : r.loop.length ≤ 70368744177664
theorem NewW.lets1 {n₀ : Nat} {w' : World} {sv lv : Value} {r : Wd} (h : NewW n₀ w' sv lv r) : Lets w' sv r.stem := lets_own h.own1 h.small1 h.few1
theorem NewW.lets2 {n₀ : Nat} {w' : World} {sv lv : Value} {r : Wd} (h : NewW n₀ w' sv lv r) : Lets w' lv r.loop := lets_own h.own2 h.small2 h.few2
theorem NewW.keptF {n₀ : Nat} {F : List Nat} {W W' : World} {sv lv : Value} {r : Wd} (h : NewW n₀ W sv lv r) (k : Kept F W W') (hF : ∀ x ∈ F, x < n₀) : NewW n₀ W' sv lv r :=
  ⟨owns_keptF h.own1 k (fun g e hg => by have := own_base h.own1 e; have := hF g hg; omega), owns_keptF h.own2 k (fun g e hg => by have := own_base h.own2 e; have := hF g hg; omega), h.apart, h.small1, h.small2, h.few1, h.few2⟩
theorem NewW.kept {n₀ : Nat} {W W' : World} {sv lv : Value} {r : Wd} (h : NewW n₀ W sv lv r) (k : Kept [] W W') : NewW n₀ W' sv lv r := h.keptF k (by simp)
theorem NewW.low {n₀ n₁ : Nat} {W : World} {sv lv : Value} {r : Wd} (h : NewW n₀ W sv lv r) (hn : n₁ ≤ n₀) : NewW n₁ W sv lv r := ⟨owns_low h.own1 hn, owns_low h.own2 hn, h.apart, h.small1, h.small2, h.few1, h.few2⟩
/-- What Normal makes of a word. -/
def NormOf (q r : Wd) : Prop := (q.loop = [] → r = ⟨[], []⟩) ∧ (q.loop ≠ [] → r.Norm ∧ ∀ i, r.at i = q.at i)
def MadeNorm (w : World) (q : Wd) (e : Ending) (w' : World) : Prop :=
  ∃ sv lv r, e = .returned (.agg #[sv, lv]) ∧ NewW w.heap.size w' sv lv r ∧ NormOf q r ∧ Kept [] w w'
theorem new_zero (n₀ : Nat) (w : World) : NewW n₀ w (.slice none 0 0) (.slice none 0 0) ⟨[], []⟩ :=
  ⟨own_nil _ _, own_nil _ _, (fun g e => by cases e), by simp, by simp, by simp, by simp⟩

theorem two_new (w : World) (a b : Obj) : ((w.alloc a).alloc b).heap[w.heap.size]? = some a ∧ ((w.alloc a).alloc b).heap[w.heap.size + 1]? = some b := by
  refine ⟨by rw [Below.heap_alloc _ _ _ (by simp)]; exact heap_alloc_new _ _, ?_⟩
  have := heap_alloc_new (w.alloc a) b
  rwa [World.size_alloc] at this
/-- A word in a block of its own. -/
def Wd2 (W : World) (B : Nat) (a b : Value) : Prop := W.heap[B]? = some (.cells #[a, b] 35 (0, 0))
theorem Wd2.cells {W : World} {B : Nat} {a b : Value} (h : Wd2 W B a b) : W.cell? ⟨B, 0, none⟩ = some a ∧ W.cell? ⟨B, 1, none⟩ = some b ∧ W.frozen? ⟨B, 0, none⟩ = false ∧ W.frozen? ⟨B, 1, none⟩ = false :=
  ⟨(cell_of h 0).trans rfl, (cell_of h 1).trans rfl, free_of h 0, free_of h 1⟩
theorem Wd2.kept {W W' : World} {B : Nat} {a b : Value} (h : Wd2 W B a b) (k : Kept [] W W') : Wd2 W' B a b := k.at h (by simp)
theorem Wd2.set {W : World} {B : Nat} {a b : Value} (h : Wd2 W B a b) (a' b' : Value) : Wd2 ((W.setCell ⟨B, 0, none⟩ a').setCell ⟨B, 1, none⟩ b') B a' b' := by
  unfold Wd2; rw [row_set (row_set h a') b']; rfl
theorem ret_word {fn : Func} {p : Tmp} {a : Act} {w : World} {g : Nat} {x y : Value} {R : Ending → World → Prop} (h : fn.results = #[.cell p 35]) (hp : a.tmps.getD p undef = .pointer (some ⟨g, 0, none⟩)) (hd : a.defers = []) (hg : Wd2 w g x y) (hR : R (.returned (.agg #[x, y])) w) : bodyPost Tryd.prog fn R .ret a w :=
  bodyPost_ret (results_cell_row h _ w g 35 #[x, y] _ _ hp hg Tryd.underlying35 rfl (by kernel_rfl)) hd hR
theorem kept_set2 {w W : World} {B : Nat} (k : Kept [] w W) (hB : w.heap.size ≤ B) (a b : Value) : Kept [] w ((W.setCell ⟨B, 0, none⟩ a).setCell ⟨B, 1, none⟩ b) := (k.setCell (.inr hB) _).setCell (.inr hB) _
set_option maxHeartbeats 800000 in
theorem normal_none (sv : Value) (ad : Option Addr) (c : Nat) (st : List Nat) (w : World) (hs : Lets w sv st) :
    Calls Tryd.prog 67 #[.agg #[sv, .slice ad 0 c]] w (MadeNorm w ⟨st, []⟩) := by
  obtain ⟨ads, cs, rfl, _, _⟩ := hs.form
  clear hs
  have hN := two_new w (.cells #[.slice ads st.length cs, .slice ad 0 c] 35) (.cells #[.slice none 0 0, .slice none 0 0] 35)
  have HN : Hid _ := hN
  clear hN
  go_enter Tryd.func67, Tryd.ntmps67
  go_wp2_with (go_at_call 65; refine (endless_any _ _ _ _ _).mono ?_; rintro e w1 ⟨rfl, hk⟩; have hR : Wd2 w1 (w.heap.size + 1) (.slice none 0 0) (.slice none 0 0) := hk.at HN.out.2 (by simp); obtain ⟨c0, c1, f0, f1⟩ := hR.cells; have HR : Hid (Wd2 w1 (w.heap.size + 1) (.slice none 0 0) (.slice none 0 0)) := hR; have HK : Hid _ := hk; clear hk hR)
  refine ret_word rfl rfl rfl (HR.out.set _ _) ⟨_, _, ⟨[], []⟩, rfl, new_zero _ _, ⟨fun _ => rfl, fun h => absurd rfl h⟩, ?_⟩
  exact kept_set2 (Kept.trans (F := []) (G := []) (H := []) (((Kept.refl [] w).alloc _).alloc _) HK.out (by simp) (by simp)) (by simp) _ _

def slLen (v : Value) : Nat := match v with | .slice _ n _ => n | _ => 0
theorem Lets.takeA {W : World} {ads : Option Addr} {cs : Nat} {st : List Nat} (h : Lets W (.slice ads st.length cs) st) (m : Nat) (hm : m ≤ st.length) : Lets W (.slice ads m cs) (st.take m) := by
  rcases h.lie with ⟨e, rfl⟩ | ⟨b, o, c, e, _⟩
  · obtain rfl : m = 0 := by simpa using hm
    cases e
    exact Lets.nil W
  · cases e
    exact h.take m hm
theorem new_of {n₁ : Nat} {w2 w3 : World} {sv lv : Value} {r : Wd} (h1 : w2.ownsRow n₁ 27 1 sv r.stem.length (u16s r.stem)) (k : Kept [] w2 w3) (h2 : w3.ownsRow (w2.heap.size + 1) 27 1 lv r.loop.length (u16s r.loop)) (hn : n₁ ≤ w2.heap.size) (s1 : ∀ x ∈ r.stem, x < 65536) (s2 : ∀ x ∈ r.loop, x < 65536) (f1 : r.stem.length ≤ 70368744177664) (f2 : r.loop.length ≤ 70368744177664) : NewW n₁ w3 sv lv r :=
  ⟨owns_keptF h1 k (by simp), owns_low h2 (by omega), fun g e e2 => by have := owns_lt h1 e; have := own_base h2 e2; omega, s1, s2, f1, f2⟩
theorem turned_at {w W : World} {bl ol cl d first : Nat} {lq : List Nat} (k : Kept [] w W) (hl : Lets w (.slice (some ⟨bl, ol, none⟩) d cl) lq) (hd : lq.length = d) (hf : first ≤ d) :
    Calls Tryd.prog 81 #[.slice (some ⟨bl, ol, none⟩) d cl, .int .i64 first] W fun e w' => ∃ v', e = .returned v' ∧ w'.ownsRow (W.heap.size + 1) 27 1 v' (rot lq first).length (u16s (rot lq first)) ∧ Kept [] W w' := by
  subst hd
  exact turned_any bl ol cl first lq W (hl.kept k) hf
theorem rot_small {l : List Nat} {n : Nat} (h : ∀ x ∈ l, x < 65536) : ∀ x ∈ rot l n, x < 65536 := by
  intro x hx
  unfold rot at hx
  rcases List.mem_append.1 hx with h1 | h1
  · exact h x (List.mem_of_mem_drop h1)
  · exact h x (List.mem_of_mem_take h1)
/-- What the walk has come to at its end. -/
theorem made_norm {w wr w2 w3 : World} {st lp lq : List Nat} {m first : Nat} {sv lv : Value} (hC1 : ∀ i, (Wd.mk st lq).at i = (Wd.mk st lp).at i) (hC3 : Least (cyc lq) 0 lq.length) (h0 : 0 < lp.length) (hS : StripInv st lq m first) (he : m = 0 ∨ st.getD (m - 1) 0 ≠ lq.getD ((first + lq.length - 1) % lq.length) 0)
    (hk : Kept [] w wr) (hB : Wd2 wr (w.heap.size + 1) (.slice none 0 0) (.slice none 0 0)) (o1 : w2.ownsRow wr.heap.size 27 1 sv (st.take m).length (u16s (st.take m))) (k1 : Kept [] wr w2) (o2 : w3.ownsRow (w2.heap.size + 1) 27 1 lv (rot lq first).length (u16s (rot lq first))) (k2 : Kept [] w2 w3)
    (s1 : ∀ x ∈ st, x < 65536) (s2 : ∀ x ∈ lq, x < 65536) (f1 : st.length ≤ 70368744177664) (f2 : lq.length ≤ 70368744177664) :
    MadeNorm w ⟨st, lp⟩ (.returned (.agg #[sv, lv])) ((w3.setCell ⟨w.heap.size + 1, 0, none⟩ sv).setCell ⟨w.heap.size + 1, 1, none⟩ lv) ∧ Wd2 ((w3.setCell ⟨w.heap.size + 1, 0, none⟩ sv).setCell ⟨w.heap.size + 1, 1, none⟩ lv) (w.heap.size + 1) sv lv := by
  have k3 : Kept [] wr w3 := k1.trans k2 (by simp) (by simp)
  have hB3 := hB.kept k3
  have hlt : w.heap.size + 1 < wr.heap.size := lt_of hB
  have hn := new_of (r := ⟨st.take m, rot lq first⟩) o1 k2 o2 k1.size (fun x hx => s1 x (List.mem_of_mem_take hx)) (rot_small s2) (by show (st.take m).length ≤ _; rw [List.length_take]; omega) (by show (rot lq first).length ≤ _; rw [rot_length]; exact f2)
  have kF : Kept [w.heap.size + 1] w3 ((w3.setCell ⟨w.heap.size + 1, 0, none⟩ sv).setCell ⟨w.heap.size + 1, 1, none⟩ lv) := ((Kept.refl _ w3).setCell (.inl (by simp)) _).setCell (.inl (by simp)) _
  refine ⟨⟨sv, lv, ⟨st.take m, rot lq first⟩, rfl, (hn.keptF kF (by simpa using hlt)).low hk.size, ⟨fun e => ?_, fun _ => ⟨hS.norm hC3 he, fun i => (hS.same i).trans (hC1 i)⟩⟩, ?_⟩, hB3.set _ _⟩
  · have e' : lp = [] := e
    rw [e'] at h0; simp at h0
  · exact kept_set2 (hk.trans k3 (by simp) (by simp)) (by simp) _ _
theorem rem_last {first d : Nat} (h : first < d) : ∃ la : Nat, la = (first + d - 1) % d ∧ la < d ∧ ((first : Int) + (d : Int) - 1).tmod (d : Int) = (la : Int) ∧ ((first : Int) + (d : Int) - 1) % (d : Int) = (la : Int) := by
  refine ⟨(first + d - 1) % d, rfl, Nat.mod_lt _ (by omega), ?_, ?_⟩
  · rw [Int.tmod_eq_emod_of_nonneg (by omega)]; rw [show (first : Int) + (d : Int) - 1 = ((first + d - 1 : Nat) : Int) by omega]; rfl
  · rw [show (first : Int) + (d : Int) - 1 = ((first + d - 1 : Nat) : Int) by omega]; rfl
set_option maxHeartbeats 4000000 in
set_option maxRecDepth 10000 in
theorem normal_some (ads : Option Addr) (cs bl ol cl : Nat) (st lp : List Nat) (w : World) (hs : Lets w (.slice ads st.length cs) st) (hl : Lets w (.slice (some ⟨bl, ol, none⟩) lp.length cl) lp) (h0 : 0 < lp.length) (hf : st.length + lp.length ≤ 70368744177664) :
    Calls Tryd.prog 67 #[.agg #[.slice ads st.length cs, .slice (some ⟨bl, ol, none⟩) lp.length cl]] w (MadeNorm w ⟨st, lp⟩) := by
  obtain ⟨d, hd⟩ := least_some lp.length h0 (cyc_per lp)
  obtain ⟨hc1, hc2, hc3⟩ := at_cut (st := st) h0 hd
  have hdl : d ≤ lp.length := Nat.le_of_dvd h0 (hd.dvd (cyc_per lp))
  have hd0 := hd.1
  obtain ⟨lq, hlq⟩ : ∃ lq, lp.take d = lq := ⟨_, rfl⟩
  rw [hlq] at hc1 hc2 hc3
  have hN := two_new w (.cells #[.slice ads st.length cs, .slice (some ⟨bl, ol, none⟩) lp.length cl] 35) (.cells #[.slice none 0 0, .slice none 0 0] 35)
  obtain ⟨_, fl1, fl2⟩ := lets_form hl
  have fs : st.length ≤ cs ∧ cs ≤ 9223372036854775807 := by
    obtain ⟨_, _, e, h1, h2⟩ := hs.form
    cases e
    unfold maxLen at h2
    exact ⟨h1, by omega⟩
  obtain ⟨fs1, fs2⟩ := fs
  have HS : Hid (Lets w (.slice ads st.length cs) st) := hs
  have HL : Hid (Lets w (.slice (some ⟨bl, ol, none⟩) lp.length cl) lp) := hl
  have HN : Hid _ := hN
  have HD : Hid (Least (cyc lp) 0 d) := hd
  have HC1 : Hid (∀ i, (Wd.mk st lq).at i = (Wd.mk st lp).at i) := hc1
  have HC2 : Hid (lq.length = d) := hc2
  have HC3 : Hid (Least (cyc lq) 0 lq.length) := hc3
  have HLQ : Hid (lp.take d = lq) := hlq
  have HST : Hid (StripInv st lq st.length 0) := StripInv.start st lq (by rw [hc2]; exact hd0)
  have b1 : (0 : Int) < (lp.length : Int) := by omega
  have b2 : (0 : Int) ≤ (d : Int) := by omega
  have b3 : (d : Int) ≤ (cl : Int) := by omega
  have b4 : decide (0 < lp.length) = true := by simpa using h0
  clear hs hl hN hd hc1 hc2 hc3 hlq
  go_enter Tryd.func67, Tryd.ntmps67
  go_wp2_with (go_at_call 65; refine (endless_any _ _ _ _ _).mono ?_; rintro e w1 ⟨rfl, hk⟩; rw [b4]; have hR := hk.at HN.out.1 (by simp); have c0 : w1.cell? ⟨w.heap.size, 0, none⟩ = some (.slice ads st.length cs) := (cell_of hR 0).trans rfl; have c1 : w1.cell? ⟨w.heap.size, 1, none⟩ = some (.slice (some ⟨bl, ol, none⟩) lp.length cl) := (cell_of hR 1).trans rfl; have HK : Hid (Kept [] w w1) := Kept.trans (F := []) (G := []) (H := []) (((Kept.refl [] w).alloc _).alloc _) hk (by simp) (by simp); have HB : Hid (Wd2 w1 (w.heap.size + 1) (.slice none 0 0) (.slice none 0 0)) := hk.at HN.out.2 (by simp); clear hk hR)
  have HP : Hid (∀ q, Calls Tryd.prog 79 #[.slice (some ⟨bl, ol, none⟩) lp.length cl] (w1.drewN q) fun e w' => e = .returned (.int .i64 (d : Nat)) ∧ ∃ k, w' = (w1.drewN q).drewN k) := fun q => period_any bl ol cl d lp _ (HL.out.kept (HK.out.drewN q)) h0 HD.out
  go_quiet ((go_at_call 79; exact Calls.quiet_of (HP.out _)))
  clear c0 c1 HP
  go_wp2_with fail
  go_loopw [3, 5, 6] (fun s f _ wr => ∃ m first : Nat, s = .slice ads m cs ∧ f = .int .i64 first ∧ Hid (StripInv st lq m first) ∧ Hid (Kept [] w wr) ∧ Hid (Wd2 wr (w.heap.size + 1) (.slice none 0 0) (.slice none 0 0))) (fun s _ _ _ => slLen s)
  case atStart => exact ⟨_, 0, rfl, rfl, HST.out, HK.out.drewN _, HB.out.kept ((Kept.refl [] w1).drewN _)⟩
  case round =>
    obtain ⟨m, first, rfl, rfl, HI, HK2, HB2⟩ := hrel
    have hm := HI.out.le
    have hfl := HI.out.lt
    rw [HC2.out] at hfl
    clear HK HB HST HN
    by_cases h1 : 0 < m
    · obtain ⟨k, rfl⟩ : ∃ k, m = k + 1 := ⟨m - 1, by omega⟩
      obtain ⟨la, hla, hla2, x1, x2⟩ := rem_last hfl
      obtain ⟨bs, os, cs', e, _, _, hcells⟩ := HS.out.there (by omega)
      simp only [Value.slice.injEq] at e
      obtain ⟨e1, _, e2⟩ := e
      subst e1 e2
      have y1 : wr.cell? ⟨bs, os + k, none⟩ = some (.int .u16 (st.getD k 0 : Nat)) := cell_kept0 HK2.out (hcells k (by omega))
      have y2 : wr.cell? ⟨bl, ol + la, none⟩ = some (.int .u16 (lq.getD la 0 : Nat)) := by
        obtain ⟨_, _, _, e, _, _, hc⟩ := HL.out.there h0
        cases e
        rw [← HLQ.out, getD_take _ _ _ hla2]
        exact cell_kept0 HK2.out (hc la (by omega))
      have HLA : Hid (la = (first + lq.length - 1) % lq.length) := by show la = _; rw [HC2.out]; exact hla
      clear hla hcells
      have z1 : (0 : Int) ≤ (k : Int) := by omega
      have z2 : (k : Int) < ((k + 1 : Nat) : Int) := by omega
      have z3 : (0 : Int) ≤ (la : Int) := by omega
      have z4 : (la : Int) < (d : Int) := by omega
      have z5 : (0 : Int) < ((k + 1 : Nat) : Int) := by omega
      have z6 : ¬ ((d : Int) = 0) := by omega
      have z7 : ¬ (d = 0) := by omega
      have z8 : (k : Int) ≤ (cs : Int) := by omega
      by_cases hc : st.getD k 0 = lq.getD la 0
      · have HSN : Hid (StripInv st lq k la) := by
          have := HI.out.step (by omega) (by rw [← HLA.out]; exact hc)
          rw [← HLA.out] at this
          exact this
        rw [← hc] at y2
        generalize st.getD k 0 = x at y1 y2
        have hne : ((x : Int) != (x : Int)) = false := by simp
        clear hc
        go_wp2_with fail
        go_quiet (fail)
        go_wp2
        go_roundw
        case rel => exact ⟨k, la, rfl, rfl, HSN.out, HK2.out.drewN _, HB2.out.kept ((Kept.refl [] wr).drewN _)⟩
        case measure => simp [slLen]
      · have HSE : Hid (st.getD (k + 1 - 1) 0 ≠ lq.getD ((first + lq.length - 1) % lq.length) 0) := by
          show st.getD k 0 ≠ _
          rw [← HLA.out]; exact hc
        generalize st.getD k 0 = x at y1 hc
        generalize lq.getD la 0 = y at y2 hc
        have hne : ((x : Int) != (y : Int)) = true := by simp; omega
        clear hc
        go_wp2_with fail
        go_quiet (fail)
        have HK5 : Hid (Kept [] w (wr.drewN nq)) := HK2.out.drewN nq
        have HB5 : Hid (Wd2 (wr.drewN nq) (w.heap.size + 1) (.slice none 0 0) (.slice none 0 0)) := HB2.out.kept ((Kept.refl [] wr).drewN nq)
        have HE : Hid (Lets (wr.drewN nq) (.slice (some ⟨bs, os, none⟩) (k + 1) cs) (st.take (k + 1))) := (HS.out.takeA (k + 1) (by omega)).kept HK5.out
        go_wp2_with (first | (go_at_call 80; refine (copied_any _ _ _ HE.out).mono ?_; rintro e w2 ⟨v2, rfl, o1, k1, _⟩; obtain ⟨a2, c2, hv2⟩ := own_form o1; subst hv2; have HO1 : Hid _ := o1; have HK1 : Hid (Kept [] (wr.drewN nq) w2) := k1; clear o1 k1) | (go_at_call 81; refine (turned_at (w := w) (lq := lq) (HK5.out.trans HK1.out (by simp) (by simp)) ?_ HC2.out (by omega)).mono ?_; (· rw [← HLQ.out]; exact HL.out.take d (by omega)); rintro e w3 ⟨v3, rfl, o2, k2⟩; obtain ⟨a3, c3, hv3⟩ := own_form o2; subst hv3; have HO2 : Hid _ := o2; have HK3 : Hid (Kept [] w2 w3) := k2; clear o2 k2; obtain ⟨d0, d1, f0, f1⟩ := ((HB5.out.kept HK1.out).kept HK3.out).cells))
        obtain ⟨q1, q2⟩ := made_norm (m := k + 1) HC1.out HC3.out h0 HI.out (.inr HSE.out) HK5.out HB5.out HO1.out HK1.out HO2.out HK3.out HS.out.small (fun x hx => HL.out.small x (by rw [← HLQ.out] at hx; exact List.mem_of_mem_take hx)) (by omega) (by rw [HC2.out]; omega)
        rw [show (st.take (k + 1)).length = k + 1 by rw [List.length_take]; omega] at q1 q2
        exact ret_word rfl rfl rfl q2 q1
    · obtain rfl : m = 0 := by omega
      have HE : Hid (Lets wr (.slice ads 0 cs) (st.take 0)) := (HS.out.takeA 0 (by omega)).kept HK2.out
      go_wp2_with (first | (go_at_call 80; refine (copied_any _ _ _ HE.out).mono ?_; rintro e w2 ⟨v2, rfl, o1, k1, _⟩; obtain ⟨a2, c2, hv2⟩ := own_form o1; subst hv2; have HO1 : Hid _ := o1; have HK1 : Hid (Kept [] wr w2) := k1; clear o1 k1) | (go_at_call 81; refine (turned_at (w := w) (lq := lq) (HK2.out.trans HK1.out (by simp) (by simp)) ?_ HC2.out (by omega)).mono ?_; (· rw [← HLQ.out]; exact HL.out.take d (by omega)); rintro e w3 ⟨v3, rfl, o2, k2⟩; obtain ⟨a3, c3, hv3⟩ := own_form o2; subst hv3; have HO2 : Hid _ := o2; have HK3 : Hid (Kept [] w2 w3) := k2; clear o2 k2; obtain ⟨d0, d1, f0, f1⟩ := ((HB2.out.kept HK1.out).kept HK3.out).cells))
      obtain ⟨q1, q2⟩ := made_norm (m := 0) HC1.out HC3.out h0 HI.out (.inl rfl) HK2.out HB2.out HO1.out HK1.out HO2.out HK3.out HS.out.small (fun x hx => HL.out.small x (by rw [← HLQ.out] at hx; exact List.mem_of_mem_take hx)) (by omega) (by rw [HC2.out]; omega)
      exact ret_word rfl rfl rfl q2 q1

/-- words.Normal, of whatever word. -/
theorem normal_any (sv lv : Value) (q : Wd) (w : World) (hs : Lets w sv q.stem) (hl : Lets w lv q.loop) (hf : q.stem.length + q.loop.length ≤ 70368744177664) :
    Calls Tryd.prog 67 #[.agg #[sv, lv]] w (MadeNorm w q) := by
  obtain ⟨st, lp⟩ := q
  by_cases h0 : 0 < lp.length
  · obtain ⟨b, o, c, rfl, _⟩ := hl.there h0
    obtain ⟨ad, cs, rfl, _⟩ := hs.form
    exact normal_some ad cs b o c st lp w hs hl h0 hf
  · obtain rfl : lp = [] := List.length_eq_zero_iff.1 (by omega)
    obtain ⟨ad, c, rfl, _⟩ := hl.form
    exact normal_none sv ad c st w hs
end Go.Proofs.YtkkhilgcjaigcaaDoor

/- words.Places, Behind, At. -/
namespace Go.Proofs.YtkkhilgcjaigcaaDoor
open Go.RowKit
attribute [local go_sem ↓] Go.wp_at_zero Go.wp_at_succ

/-- A word that is handed in. -/
structure IsW (W : World) (sv lv : Value) (q : Wd) : Prop where
  st : Lets W sv q.stem
  lp : Lets W lv q.loop
  few : q.stem.length + q.loop.length ≤ 70368744177664
theorem IsW.kept {W W' : World} {sv lv : Value} {q : Wd} (h : IsW W sv lv q) (k : Kept [] W W') : IsW W' sv lv q := ⟨h.st.kept k, h.lp.kept k, h.few⟩
def placesN (q : Wd) : Nat := if q.loop.length = 0 then 0 else q.stem.length + q.loop.length
theorem one_new (w : World) (a : Obj) : (w.alloc a).heap[w.heap.size]? = some a := heap_alloc_new w a

def behindI (q : Wd) (i : Int) : Int := if i < 0 ∨ (placesN q : Int) ≤ i then -1 else if i = (placesN q : Int) - 1 then q.stem.length else i + 1
def atI (q : Wd) (i : Int) : Nat := if i < 0 ∨ q.loop.length = 0 then 0 else q.at i.toNat
end Go.Proofs.YtkkhilgcjaigcaaDoor

/- words.Join, Suffix. -/
namespace Go.Proofs.YtkkhilgcjaigcaaDoor
open Go.RowKit
attribute [local go_sem ↓] Go.wp_at_zero Go.wp_at_succ

theorem Wd2.keptF {F : List Nat} {W W' : World} {B : Nat} {a b : Value} (h : Wd2 W B a b) (k : Kept F W W') (hB : B ∉ F) : Wd2 W' B a b := k.at h hB
theorem two_cells {V W' : World} {n : Nat} {a b : Value} (h : Wd2 V n a b) (k : Kept [n + 1] V W') : W'.cell? ⟨n, 0, none⟩ = some a ∧ W'.cell? ⟨n, 1, none⟩ = some b :=
  have h' := (h.keptF k (by simp)).cells
  ⟨h'.1, h'.2.1⟩
theorem lets_cat {W : World} {base : Nat} {v : Value} {xs ys : List Nat} (h : W.ownsRow base 27 1 v (xs ++ ys).length (u16s (xs ++ ys))) (h1 : ∀ x ∈ xs, x < 65536) (h2 : ∀ x ∈ ys, x < 65536) (hl : xs.length + ys.length ≤ 70368744177664) : Lets W v (xs ++ ys) :=
  lets_own h (fun x hx => (List.mem_append.1 hx).elim (h1 x) (h2 x)) (by rw [List.length_append]; exact hl)

/-- A word that was made is stored into the result's block. -/
theorem made_stored {w V W W3 : World} {q : Wd} {s3 l3 : Value} {r : Wd} (kV : Kept [] w V) (hR : Wd2 V (w.heap.size + 1) (.slice none 0 0) (.slice none 0 0)) (kW : Kept [] V W) (hn : NewW W.heap.size W3 s3 l3 r) (ho : NormOf q r) (k3 : Kept [] W W3) :
    MadeNorm w q (.returned (.agg #[s3, l3])) ((W3.setCell ⟨w.heap.size + 1, 0, none⟩ s3).setCell ⟨w.heap.size + 1, 1, none⟩ l3) ∧ Wd2 ((W3.setCell ⟨w.heap.size + 1, 0, none⟩ s3).setCell ⟨w.heap.size + 1, 1, none⟩ l3) (w.heap.size + 1) s3 l3 := by
  have hR3 := (hR.kept kW).kept k3
  have hlt : w.heap.size + 1 < W.heap.size := lt_of (hR.kept kW)
  have kF : Kept [w.heap.size + 1] W3 ((W3.setCell ⟨w.heap.size + 1, 0, none⟩ s3).setCell ⟨w.heap.size + 1, 1, none⟩ l3) := ((Kept.refl _ W3).setCell (.inl (by simp)) _).setCell (.inl (by simp)) _
  have kW' : Kept [] w W := kV.trans kW (by simp) (by simp)
  exact ⟨⟨s3, l3, r, rfl, (hn.keptF kF (by simpa using hlt)).low kW'.size, ho, kept_set2 (kW'.trans k3 (by simp) (by simp)) (by simp) _ _⟩, hR3.set _ _⟩

end Go.Proofs.YtkkhilgcjaigcaaDoor

/- words.Suffix. -/
namespace Go.Proofs.YtkkhilgcjaigcaaDoor
open Go.RowKit
attribute [local go_sem ↓] Go.wp_at_zero Go.wp_at_succ

/-- words.Suffix, from 0 on. -/
def sufW (q : Wd) (k : Nat) : Wd := if q.loop.length = 0 then ⟨[], []⟩ else if k ≤ q.stem.length then ⟨q.stem.drop k, q.loop⟩ else ⟨[], rot q.loop ((k - q.stem.length) % q.loop.length)⟩
end Go.Proofs.YtkkhilgcjaigcaaDoor

/- words.Prefix; words.Same. -/
namespace Go.Proofs.YtkkhilgcjaigcaaDoor
open Go.RowKit
attribute [local go_sem ↓] Go.wp_at_zero Go.wp_at_succ

theorem make_u16 (w : World) (k : Nat) (hk : k ≤ 65536) : Sem.run Tryd.prog (Instr.makeSlice 33 (.int .i64 k) (.int .i64 k)) w = .ok (.slice (some ⟨w.heap.size, 0, none⟩) k k) (w.alloc (.cells (Array.replicate k (.int .u16 0)) 27)) := by
  obtain ⟨i0, hi, hz0, hz1, hz2⟩ := info_parts Tryd.infoU16
  have H := run_make (P := Tryd.prog) w 33 27 i0 _ Tryd.underlying33 hi hz0 .i64 .i64 k k (by omega) (by omega) (by rw [hz2]; omega) (by omega)
  rw [H, hz1]
  have e : madeCells (Value.cells (.int .u16 0)) (k * 1) = Array.replicate k (Value.int .u16 0) := by
    apply Array.toList_inj.1
    rw [show Value.cells (.int .u16 0) = #[Value.int .u16 0] from rfl, toList_madeCells_one]; simp
  simp only [Int.toNat_natCast]
  rw [e]
/-- The first m letters. -/
def prefN (q : Wd) (m : Nat) : List Nat := (List.range m).map q.at
theorem prefN_len (q : Wd) (m : Nat) : (prefN q m).length = m := by simp [prefN]
theorem at_small {q : Wd} (h1 : ∀ x ∈ q.stem, x < 65536) (h2 : ∀ x ∈ q.loop, x < 65536) (i : Nat) : q.at i < 65536 := by
  have key : ∀ (l : List Nat) (j : Nat), (∀ x ∈ l, x < 65536) → l.getD j 0 < 65536 := fun l j h => by
    rw [List.getD_eq_getElem?_getD]
    rcases Nat.lt_or_ge j l.length with hn | hn
    · rw [List.getElem?_eq_getElem hn]; exact h _ (List.getElem_mem _)
    · rw [List.getElem?_eq_none hn]; decide
  unfold Wd.at
  split
  · exact key _ _ h1
  · exact key _ _ h2
/-- A row that is being filled. -/
def Fill (W : World) (g m i : Nat) (q : Wd) : Prop := ∃ arr, W.heap[g]? = some (.cells arr 27 (0, 0)) ∧ arr.size = m ∧ ∀ j, j < i → arr[j]? = some (.int .u16 (q.at j : Nat))
theorem Fill.step {W : World} {g m i : Nat} {q : Wd} (h : Fill W g m i q) (hi : i < m) : Fill (W.setCell ⟨g, i, none⟩ (.int .u16 (q.at i : Nat))) g m (i + 1) q := by
  obtain ⟨arr, h1, h2, h3⟩ := h
  refine ⟨arr.setIfInBounds i (.int .u16 (q.at i : Nat)), row_set h1 _, by simpa using h2, fun j hj => ?_⟩
  rw [Array.getElem?_setIfInBounds]
  split
  · rename_i e; subst e; rw [if_pos (by omega)]
  · exact h3 j (by omega)
theorem Fill.own {W : World} {g m n₀ : Nat} {q : Wd} (h : Fill W g m m q) (hg : n₀ ≤ g) (hm : m ≤ 65536) : W.ownsRow n₀ 27 1 (.slice (some ⟨g, 0, none⟩) m m) (prefN q m).length (u16s (prefN q m)) := by
  obtain ⟨arr, h1, h2, h3⟩ := h
  rw [prefN_len]
  refine ⟨by simp [u16s, prefN], .inr ⟨g, m, arr, rfl, hg, h1, Nat.le_refl _, by unfold maxLen; omega, by simpa using h2, ?_⟩⟩
  apply List.ext_getElem?
  intro j
  rw [List.getElem?_take, Nat.mul_one]
  rcases Nat.lt_or_ge j m with hj | hj
  · rw [if_pos hj, Array.getElem?_toList, h3 j hj]
    simp [u16s, prefN, hj]
  · rw [if_neg (by omega)]
    rw [List.getElem?_eq_none (by rw [u16s_len, prefN_len]; omega)]
end Go.Proofs.YtkkhilgcjaigcaaDoor

/- words.Same. -/
namespace Go.Proofs.YtkkhilgcjaigcaaDoor
open Go.RowKit
attribute [local go_sem ↓] Go.wp_at_zero Go.wp_at_succ

/-- Are they the same infinite word? -/
def sameB (a b : Wd) : Bool := decide (0 < a.loop.length) && decide (0 < b.loop.length) && (List.range (max a.stem.length b.stem.length + a.loop.length + b.loop.length)).all fun i => a.at i == b.at i
theorem sameB_iff {a b : Wd} (ha : 0 < a.loop.length) (hb : 0 < b.loop.length) : sameB a b = true ↔ ∀ i, a.at i = b.at i := by
  unfold sameB
  rw [decide_eq_true ha, decide_eq_true hb, Bool.true_and, Bool.true_and, List.all_eq_true]
  constructor
  · intro h
    exact Wd.agree ha hb (fun i hi => by simpa using h i (by simpa using hi))
  · intro h i _
    simpa using h i
theorem same_norm {a b ra rb : Wd} (ha : 0 < a.loop.length) (hb : 0 < b.loop.length) (h1 : NormOf a ra) (h2 : NormOf b rb) : sameB a b = true ↔ ra = rb := by
  obtain ⟨n1, e1⟩ := h1.2 (fun e => by rw [e] at ha; simp at ha)
  obtain ⟨n2, e2⟩ := h2.2 (fun e => by rw [e] at hb; simp at hb)
  rw [sameB_iff ha hb]
  constructor
  · intro h
    exact n1.unique n2 (fun i => by rw [e1, e2, h])
  · rintro rfl i
    rw [← e1, ← e2]

/-- A word that was made, and where. -/
def MadeAt (W : World) (q : Wd) (e : Ending) (W3 : World) : Prop := ∃ a3 n3 c3 a4 n4 c4 r, e = .returned (.agg #[.slice a3 n3 c3, .slice a4 n4 c4]) ∧ Kept [] W W3 ∧ NewW W.heap.size W3 (.slice a3 n3 c3) (.slice a4 n4 c4) r ∧ NormOf q r
theorem normal_at (sv lv : Value) (q : Wd) (w : World) (h : IsW w sv lv q) : Calls Tryd.prog 67 #[.agg #[sv, lv]] w (MadeAt w q) := by
  refine (normal_any sv lv q w h.st h.lp h.few).mono ?_
  rintro e W3 ⟨s3, l3, r, rfl, hn, ho, k3⟩
  obtain ⟨a3, c3, e3⟩ := own_form hn.own1
  obtain ⟨a4, c4, e4⟩ := own_form hn.own2
  subst e3 e4
  exact ⟨a3, _, c3, a4, _, c4, r, rfl, k3, hn, ho⟩
/-- The two words are stored over the two that came. -/
theorem same_mem {w w2 wb : World} {x1 x2 y1 y2 p q r s : Value} {ra rb : Wd} (hk : Kept [] w w2) (h1 : Wd2 w2 w.heap.size x1 x2) (h2 : Wd2 w2 (w.heap.size + 1) y1 y2) (kb : Kept [] w2 wb) (ha : NewW w2.heap.size wb p q ra) (hb : NewW w2.heap.size wb r s rb) :
    ∃ E, (((wb.setCell ⟨w.heap.size, 0, none⟩ p).setCell ⟨w.heap.size, 1, none⟩ q).setCell ⟨w.heap.size + 1, 0, none⟩ r).setCell ⟨w.heap.size + 1, 1, none⟩ s = E ∧ Wd2 E w.heap.size p q ∧ Wd2 E (w.heap.size + 1) r s ∧ NewW w2.heap.size E p q ra ∧ NewW w2.heap.size E r s rb ∧ Kept [] w E := by
  refine ⟨_, rfl, ?_, ?_, ?_, ?_, ?_⟩
  · have := (h1.kept kb).set p q
    exact this.keptF (F := [w.heap.size + 1]) (((Kept.refl _ _).setCell (.inl (by simp)) _).setCell (.inl (by simp)) _) (by simp)
  · have := (h2.kept kb).keptF (F := [w.heap.size]) (W' := (wb.setCell ⟨w.heap.size, 0, none⟩ p).setCell ⟨w.heap.size, 1, none⟩ q) (((Kept.refl _ _).setCell (.inl (by simp)) _).setCell (.inl (by simp)) _) (by simp)
    exact this.set r s
  · have l2 := lt_of h2
    exact ha.keptF (F := [w.heap.size, w.heap.size + 1]) (((((Kept.refl _ _).setCell (.inl (by simp)) _).setCell (.inl (by simp)) _).setCell (.inl (by simp)) _).setCell (.inl (by simp)) _) (by intro x hx; simp at hx; omega)
  · have l2 := lt_of h2
    exact hb.keptF (F := [w.heap.size, w.heap.size + 1]) (((((Kept.refl _ _).setCell (.inl (by simp)) _).setCell (.inl (by simp)) _).setCell (.inl (by simp)) _).setCell (.inl (by simp)) _) (by intro x hx; simp at hx; omega)
  · exact kept_set2 (kept_set2 (hk.trans kb (by simp) (by simp)) (Nat.le_refl _) _ _) (by simp) _ _
theorem quiet_kept {w W W' : World} (k : Kept [] w W) (q : Quiet W W') : Kept [] w W' := k.trans q.kept (by simp) (by simp)
end Go.Proofs.YtkkhilgcjaigcaaDoor

/- words.Check. -/
namespace Go.Proofs.YtkkhilgcjaigcaaDoor
open Go.RowKit
attribute [local go_sem ↓] Go.wp_at_zero Go.wp_at_succ

set_option maxHeartbeats 400000 in
theorem goodProps_any (n : Int) (w : World) :
    Calls Tryd.prog 63 #[.int .i64 n] w fun e w' => e = .returned (.bool (decide (0 ≤ n) && decide (n ≤ 8))) ∧ w' = w := by
  by_cases h1 : 0 ≤ n
  · by_cases h2 : n ≤ 8
    · rw [decide_eq_true h1, decide_eq_true h2]
      go_enter Tryd.func63, Tryd.ntmps63
      go_wp2
      go_ret
      exact ⟨rfl, rfl⟩
    · rw [decide_eq_true h1, decide_eq_false h2]
      go_enter Tryd.func63, Tryd.ntmps63
      go_wp2
      go_ret
      exact ⟨rfl, rfl⟩
  · rw [decide_eq_false h1]
    go_enter Tryd.func63, Tryd.ntmps63
    go_wp2
    go_ret
    exact ⟨rfl, rfl⟩

theorem shr_bool (x p : Nat) : (((x : Int) / 2 ^ p) != 0) = decide (2 ^ p ≤ x) := by
  have e : (x : Int) / 2 ^ p = ((x / 2 ^ p : Nat) : Int) := by rw [Int.natCast_ediv, Int.natCast_pow]; rfl
  rw [e]
  have hp : 0 < 2 ^ p := Nat.two_pow_pos p
  by_cases h : 2 ^ p ≤ x
  · rw [decide_eq_true h]
    have := Nat.div_pos h hp
    simp; omega
  · rw [decide_eq_false h, Nat.div_eq_of_lt (by omega)]
    rfl
set_option maxHeartbeats 400000 in
theorem tooGreat_any (x p B : Nat) (w : World) (_hx : x < 65536) (hp : p ≤ 8) (hb : w.cell? ⟨B, 0, none⟩ = some (.int .i64 p)) :
    Calls Tryd.prog 64 #[.int .u16 x, .pointer (some ⟨B, 0, none⟩)] w fun e w' => e = .returned (.bool (decide (2 ^ p ≤ x))) ∧ w' = w := by
  have b1 : (0 : Int) ≤ (p : Int) := by omega
  go_enter Tryd.func64, Tryd.ntmps64
  go_wp2
  go_ret
  exact ⟨ret_bool (shr_bool x p), rfl⟩
/-- Is one of them too great? -/
def anyGreat (p : Nat) (xs : List Nat) : Bool := xs.any fun x => decide (2 ^ p ≤ x)
theorem anyGreat_take {p : Nat} {xs : List Nat} {k : Nat} (hk : k < xs.length) : anyGreat p (xs.take (k + 1)) = (anyGreat p (xs.take k) || decide (2 ^ p ≤ xs.getD k 0)) := by
  unfold anyGreat
  rw [List.take_succ_eq_append_getElem hk, List.any_append]
  simp [List.getD_eq_getElem?_getD, hk]
theorem getD_small {xs : List Nat} (h : ∀ x ∈ xs, x < 65536) (j : Nat) : xs.getD j 0 < 65536 := by
  rw [List.getD_eq_getElem?_getD]
  rcases Nat.lt_or_ge j xs.length with hn | hn
  · rw [List.getElem?_eq_getElem hn]; exact h _ (List.getElem_mem _)
  · rw [List.getElem?_eq_none hn]; decide
set_option maxHeartbeats 1000000 in
theorem index_any (v : Value) (xs : List Nat) (p B : Nat) (w : World) (hx : Lets w v xs) (hp : p ≤ 8) (hb : w.cell? ⟨B, 0, none⟩ = some (.int .i64 p)) :
    Calls Tryd.prog 78 #[v, .func (.func 64) #[] #[.pointer (some ⟨B, 0, none⟩)]] w fun e w' => ∃ r : Int, e = .returned (.int .i64 r) ∧ decide (0 ≤ r) = anyGreat p xs ∧ w' = w := by
  have fx := hx.few
  have hsm := hx.small
  by_cases h0 : 0 < xs.length
  · obtain ⟨b, o, c, rfl, _, _, hc⟩ := hx.there h0
    have HC : Hid (∀ i, i < xs.length → w.cell? ⟨b, o + i, none⟩ = some (.int .u16 (xs.getD i 0 : Nat))) := hc
    have HT : Hid (∀ x, x < 65536 → Calls Tryd.prog 64 #[.int .u16 (x : Nat), .pointer (some ⟨B, 0, none⟩)] w fun e w' => e = .returned (.bool (decide (2 ^ p ≤ x))) ∧ w' = w) := fun x h => tooGreat_any x p B w h hp hb
    have HS : Hid (∀ j, xs.getD j 0 < 65536) := getD_small hsm
    clear hx hc hb hsm
    go_enter Tryd.func78, Tryd.ntmps78
    go_wp2_with fail
    go_loop [5, 8] (fun _ i => ∃ k : Nat, k ≤ xs.length ∧ i = .int .i64 k ∧ Hid (anyGreat p (xs.take k) = false)) (fun _ i => xs.length - (intOf i).toNat)
    case atStart => exact ⟨0, Nat.zero_le _, rfl, rfl⟩
    case round =>
      obtain ⟨k, hk, rfl, HF⟩ := hrel
      by_cases hlt : k < xs.length
      · have hlt' : (k : Int) < (xs.length : Int) := by omega
        have b0 : (0 : Int) ≤ (k : Int) := by omega
        have d1 := HC.out k hlt
        have HN : Hid _ := anyGreat_take (p := p) hlt
        have HT2 : Hid (Calls Tryd.prog 64 #[.int .u16 (xs.getD k 0 : Nat), .pointer (some ⟨B, 0, none⟩)] w fun e w' => e = .returned (.bool (decide (2 ^ p ≤ xs.getD k 0))) ∧ w' = w) := HT.out _ (HS.out k)
        cases hq : decide (2 ^ p ≤ xs.getD k 0) with
        | true =>
          have HR : Hid (anyGreat p xs = true) := by
            show anyGreat p xs = true
            unfold anyGreat
            rw [List.any_eq_true]
            refine ⟨xs.getD k 0, ?_, hq⟩
            rw [List.getD_eq_getElem?_getD, List.getElem?_eq_getElem hlt]; exact List.getElem_mem _
          rw [hq] at HT2
          clear hq HN
          obtain ⟨x, hxk⟩ : ∃ x, xs.getD k 0 = x := ⟨_, rfl⟩
          rw [hxk] at d1 HT2
          clear hxk
          go_wp2_with (go_at_call 64; refine HT2.out.mono ?_; rintro e w' ⟨rfl, rfl⟩)
          go_ret
          exact ⟨_, rfl, by rw [HR.out]; simp, rfl⟩
        | false =>
          have HF2 : Hid (anyGreat p (xs.take (k + 1)) = false) := by show anyGreat p (xs.take (k + 1)) = false; rw [HN.out, HF.out, hq]; rfl
          rw [hq] at HT2
          clear hq HN
          obtain ⟨x, hxk⟩ : ∃ x, xs.getD k 0 = x := ⟨_, rfl⟩
          rw [hxk] at d1 HT2
          clear hxk
          go_wp2_with (go_at_call 64; refine HT2.out.mono ?_; rintro e w' ⟨rfl, rfl⟩)
          go_round
          case rel => exact ⟨k + 1, by omega, by go_num, HF2.out⟩
          case measure => simp [intOf]; omega
      · have hlt' : ¬ (k : Int) < (xs.length : Int) := by omega
        have HR : Hid (anyGreat p xs = false) := by
          have := HF.out
          rw [List.take_of_length_le (by omega)] at this
          exact this
        go_wp2
        go_ret
        exact ⟨_, rfl, by rw [HR.out]; rfl, rfl⟩
  · obtain rfl : xs = [] := List.length_eq_zero_iff.1 (by omega)
    obtain ⟨ad, c, rfl, _⟩ := hx.form
    clear hx
    simp only [List.length_nil]
    go_enter Tryd.func78, Tryd.ntmps78
    go_wp2_with fail
    go_loop [5, 8] (fun _ i => i = .int .i64 0) (fun _ _ => 0)
    case atStart => exact rfl
    case round =>
      subst hrel
      go_wp2
      go_ret
      exact ⟨_, rfl, rfl, rfl⟩
set_option maxHeartbeats 400000 in
theorem contains_any (v : Value) (xs : List Nat) (p B : Nat) (w : World) (hx : Lets w v xs) (hp : p ≤ 8) (hb : w.cell? ⟨B, 0, none⟩ = some (.int .i64 p)) :
    Calls Tryd.prog 66 #[v, .func (.func 64) #[] #[.pointer (some ⟨B, 0, none⟩)]] w fun e w' => e = .returned (.bool (anyGreat p xs)) ∧ w' = w := by
  have HI : Hid (Calls Tryd.prog 78 #[v, .func (.func 64) #[] #[.pointer (some ⟨B, 0, none⟩)]] w fun e w' => ∃ r : Int, e = .returned (.int .i64 r) ∧ decide (0 ≤ r) = anyGreat p xs ∧ w' = w) := index_any v xs p B w hx hp hb
  clear hx hb
  go_enter Tryd.func66, Tryd.ntmps66
  go_wp2_with (go_at_call 78; refine HI.out.mono ?_; rintro e w' ⟨r, rfl, hr, rfl⟩; have HR : Hid _ := hr; clear hr)
  go_ret
  exact ⟨ret_bool HR.out, rfl⟩

/-- What Check tells. -/
def checkE (q : Wd) (n : Int) : Nat := if ¬ (0 ≤ n ∧ n ≤ 8) then 1 else if q.loop.length = 0 ∨ anyGreat n.toNat q.stem = true ∨ anyGreat n.toNat q.loop = true then 50 else 0
set_option maxHeartbeats 400000 in
theorem check_bad (sv lv : Value) (q : Wd) (n : Int) (w : World) (h : IsW w sv lv q) (hn : ¬ (0 ≤ n ∧ n ≤ 8)) :
    Calls Tryd.prog 50 #[.agg #[sv, lv], .int .i64 n] w fun e w' => e = .returned (.int .i64 1) ∧ Kept [] w w' := by
  obtain ⟨st, lp⟩ := q
  obtain ⟨ast, cs, rfl, _, _⟩ := h.st.form
  obtain ⟨al, cl, rfl, _, _⟩ := h.lp.form
  have hb : (decide (0 ≤ n) && decide (n ≤ 8)) = false := by simpa using hn
  have HG : Hid (∀ W, Calls Tryd.prog 63 #[.int .i64 n] W fun e w' => e = .returned (.bool false) ∧ w' = W) := fun W => by have := goodProps_any n W; rw [hb] at this; exact this
  clear h hn hb
  go_enter Tryd.func50, Tryd.ntmps50
  go_wp2_with (go_at_call 63; refine (HG.out _).mono ?_; rintro e w1 ⟨rfl, rfl⟩)
  go_ret
  exact ⟨rfl, ((Kept.refl [] w).alloc _).alloc _⟩
set_option maxHeartbeats 1600000 in
theorem check_good (sv lv : Value) (q : Wd) (p : Nat) (w : World) (h : IsW w sv lv q) (hp : p ≤ 8) :
    Calls Tryd.prog 50 #[.agg #[sv, lv], .int .i64 p] w fun e w' => e = .returned (.int .i64 (checkE q p : Nat)) ∧ Kept [] w w' := by
  obtain ⟨st, lp⟩ := q
  have HS : Hid (∀ W, Kept [] w W → W.cell? ⟨w.heap.size + 1, 0, none⟩ = some (.int .i64 (p : Nat)) → Calls Tryd.prog 66 #[sv, .func (.func 64) #[] #[.pointer (some ⟨w.heap.size + 1, 0, none⟩)]] W fun e w' => e = .returned (.bool (anyGreat p st)) ∧ w' = W) := fun W k c => contains_any sv st p _ W (h.st.kept k) hp c
  have HL : Hid (∀ W, Kept [] w W → W.cell? ⟨w.heap.size + 1, 0, none⟩ = some (.int .i64 (p : Nat)) → Calls Tryd.prog 66 #[lv, .func (.func 64) #[] #[.pointer (some ⟨w.heap.size + 1, 0, none⟩)]] W fun e w' => e = .returned (.bool (anyGreat p lp)) ∧ w' = W) := fun W k c => contains_any lv lp p _ W (h.lp.kept k) hp c
  obtain ⟨ast, cs, rfl, _, _⟩ := h.st.form
  obtain ⟨al, cl, rfl, _, _⟩ := h.lp.form
  simp only at HS HL
  have hb : (decide (0 ≤ (p : Int)) && decide ((p : Int) ≤ 8)) = true := by simp; omega
  have HG : Hid (∀ W, Calls Tryd.prog 63 #[.int .i64 p] W fun e w' => e = .returned (.bool true) ∧ w' = W) := fun W => by have := goodProps_any p W; rw [hb] at this; exact this
  have hN := two_new w (.cells #[.slice ast st.length cs, .slice al lp.length cl] 35) (.cells #[.int .i64 (p : Nat)] 3)
  have HN : Hid (((w.alloc (.cells #[.slice ast st.length cs, .slice al lp.length cl] 35)).alloc (.cells #[.int .i64 (p : Nat)] 3)).heap[w.heap.size]? = some (.cells #[.slice ast st.length cs, .slice al lp.length cl] 35 (0, 0)) ∧ ((w.alloc (.cells #[.slice ast st.length cs, .slice al lp.length cl] 35)).alloc (.cells #[.int .i64 (p : Nat)] 3)).heap[w.heap.size + 1]? = some (.cells #[.int .i64 (p : Nat)] 3 (0, 0))) := hN
  have HE : Hid (∀ W, Calls Tryd.prog 65 #[.agg #[.slice ast st.length cs, .slice al lp.length cl]] W fun e w' => e = .returned (.bool (decide (0 < lp.length))) ∧ Kept [] W w') := fun W => endless_any (.slice ast st.length cs) al lp.length cl W
  have hC : checkE ⟨st, lp⟩ p = if lp.length = 0 ∨ anyGreat p st = true ∨ anyGreat p lp = true then 50 else 0 := by
    unfold checkE; rw [if_neg (by omega)]; simp
  rw [hC]
  clear h hN hb hC
  by_cases h0 : lp.length = 0
  · rw [if_pos (.inl h0)]
    rw [show decide (0 < lp.length) = false from decide_eq_false (by omega)] at HE
    clear h0
    go_enter Tryd.func50, Tryd.ntmps50
    go_wp2_with (first
      | (go_at_call 63; refine (HG.out _).mono ?_; rintro e w1 ⟨rfl, rfl⟩)
      | (go_at_call 65; refine (HE.out _).mono ?_; rintro e w1 ⟨rfl, hk⟩; have hkw : Kept [] w w1 := Kept.trans (F := []) (G := []) (H := []) (((Kept.refl [] w).alloc _).alloc _) hk (by simp) (by simp); have HK : Hid (Kept [] w w1) := hkw; have h2 := hk.at HN.out.1 (by simp); have c0 : w1.cell? ⟨w.heap.size, 0, none⟩ = some (.slice ast st.length cs) := (cell_of h2 0).trans rfl; have c1 : w1.cell? ⟨w.heap.size, 1, none⟩ = some (.slice al lp.length cl) := (cell_of h2 1).trans rfl; have h3 := hk.at HN.out.2 (by simp); have HP : Hid (w1.cell? ⟨w.heap.size + 1, 0, none⟩ = some (.int .i64 (p : Nat))) := (cell_of h3 0).trans rfl; clear hk hkw h2 h3)
      | (go_at_call 66; refine (HS.out _ HK.out HP.out).mono ?_; rintro e w2 ⟨rfl, hw2⟩; subst hw2; clear HS)
      | (go_at_call 66; refine (HL.out _ HK.out HP.out).mono ?_; rintro e w2 ⟨rfl, hw2⟩; subst hw2))
    go_ret
    exact ⟨rfl, HK.out⟩
  · rw [show decide (0 < lp.length) = true from decide_eq_true (by omega)] at HE
    by_cases h1 : anyGreat p st = true
    · rw [if_pos (.inr (.inl h1))]
      rw [h1] at HS
      clear h1
      go_enter Tryd.func50, Tryd.ntmps50
      go_wp2_with (first
        | (go_at_call 63; refine (HG.out _).mono ?_; rintro e w1 ⟨rfl, rfl⟩)
        | (go_at_call 65; refine (HE.out _).mono ?_; rintro e w1 ⟨rfl, hk⟩; have hkw : Kept [] w w1 := Kept.trans (F := []) (G := []) (H := []) (((Kept.refl [] w).alloc _).alloc _) hk (by simp) (by simp); have HK : Hid (Kept [] w w1) := hkw; have h2 := hk.at HN.out.1 (by simp); have c0 : w1.cell? ⟨w.heap.size, 0, none⟩ = some (.slice ast st.length cs) := (cell_of h2 0).trans rfl; have c1 : w1.cell? ⟨w.heap.size, 1, none⟩ = some (.slice al lp.length cl) := (cell_of h2 1).trans rfl; have h3 := hk.at HN.out.2 (by simp); have HP : Hid (w1.cell? ⟨w.heap.size + 1, 0, none⟩ = some (.int .i64 (p : Nat))) := (cell_of h3 0).trans rfl; clear hk hkw h2 h3)
        | (go_at_call 66; refine (HS.out _ HK.out HP.out).mono ?_; rintro e w2 ⟨rfl, hw2⟩; subst hw2; clear HS)
        | (go_at_call 66; refine (HL.out _ HK.out HP.out).mono ?_; rintro e w2 ⟨rfl, hw2⟩; subst hw2))
      go_ret
      exact ⟨rfl, HK.out⟩
    · rw [Bool.not_eq_true] at h1
      rw [h1] at HS
      by_cases h2 : anyGreat p lp = true
      · rw [if_pos (.inr (.inr h2))]
        rw [h2] at HL
        clear h1 h2
        go_enter Tryd.func50, Tryd.ntmps50
        go_wp2_with (first
          | (go_at_call 63; refine (HG.out _).mono ?_; rintro e w1 ⟨rfl, rfl⟩)
          | (go_at_call 65; refine (HE.out _).mono ?_; rintro e w1 ⟨rfl, hk⟩; have hkw : Kept [] w w1 := Kept.trans (F := []) (G := []) (H := []) (((Kept.refl [] w).alloc _).alloc _) hk (by simp) (by simp); have HK : Hid (Kept [] w w1) := hkw; have h2 := hk.at HN.out.1 (by simp); have c0 : w1.cell? ⟨w.heap.size, 0, none⟩ = some (.slice ast st.length cs) := (cell_of h2 0).trans rfl; have c1 : w1.cell? ⟨w.heap.size, 1, none⟩ = some (.slice al lp.length cl) := (cell_of h2 1).trans rfl; have h3 := hk.at HN.out.2 (by simp); have HP : Hid (w1.cell? ⟨w.heap.size + 1, 0, none⟩ = some (.int .i64 (p : Nat))) := (cell_of h3 0).trans rfl; clear hk hkw h2 h3)
          | (go_at_call 66; refine (HS.out _ HK.out HP.out).mono ?_; rintro e w2 ⟨rfl, hw2⟩; subst hw2; clear HS)
          | (go_at_call 66; refine (HL.out _ HK.out HP.out).mono ?_; rintro e w2 ⟨rfl, hw2⟩; subst hw2))
        go_ret
        exact ⟨rfl, HK.out⟩
      · rw [if_neg (by rw [h1]; simp [h0, h2])]
        rw [Bool.not_eq_true] at h2
        rw [h2] at HL
        clear h1 h2
        go_enter Tryd.func50, Tryd.ntmps50
        go_wp2_with (first
          | (go_at_call 63; refine (HG.out _).mono ?_; rintro e w1 ⟨rfl, rfl⟩)
          | (go_at_call 65; refine (HE.out _).mono ?_; rintro e w1 ⟨rfl, hk⟩; have hkw : Kept [] w w1 := Kept.trans (F := []) (G := []) (H := []) (((Kept.refl [] w).alloc _).alloc _) hk (by simp) (by simp); have HK : Hid (Kept [] w w1) := hkw; have h2 := hk.at HN.out.1 (by simp); have c0 : w1.cell? ⟨w.heap.size, 0, none⟩ = some (.slice ast st.length cs) := (cell_of h2 0).trans rfl; have c1 : w1.cell? ⟨w.heap.size, 1, none⟩ = some (.slice al lp.length cl) := (cell_of h2 1).trans rfl; have h3 := hk.at HN.out.2 (by simp); have HP : Hid (w1.cell? ⟨w.heap.size + 1, 0, none⟩ = some (.int .i64 (p : Nat))) := (cell_of h3 0).trans rfl; clear hk hkw h2 h3)
          | (go_at_call 66; refine (HS.out _ HK.out HP.out).mono ?_; rintro e w2 ⟨rfl, hw2⟩; subst hw2; clear HS)
          | (go_at_call 66; refine (HL.out _ HK.out HP.out).mono ?_; rintro e w2 ⟨rfl, hw2⟩; subst hw2))
        go_ret
        exact ⟨rfl, HK.out⟩
end Go.Proofs.YtkkhilgcjaigcaaDoor
