/- words.Check. -/
import Derived.Test.YtamfnefnaelgfaaDoorWdSame
namespace Go.Proofs.YtamfnefnaelgfaaDoor
open Go.RowKit
attribute [local go_sem ↓] Go.wp_at_zero Go.wp_at_succ

set_option maxHeartbeats 400000 in
theorem goodProps_any (n : Int) (w : World) :
    Calls Tryd.prog 23 #[.int .i64 n] w fun e w' => e = .returned (.bool (decide (0 ≤ n) && decide (n ≤ 8))) ∧ w' = w := by
  by_cases h1 : 0 ≤ n
  · by_cases h2 : n ≤ 8
    · rw [decide_eq_true h1, decide_eq_true h2]
      go_enter Tryd.func23, Tryd.ntmps23
      go_wp2
      go_ret
      exact ⟨rfl, rfl⟩
    · rw [decide_eq_true h1, decide_eq_false h2]
      go_enter Tryd.func23, Tryd.ntmps23
      go_wp2
      go_ret
      exact ⟨rfl, rfl⟩
  · rw [decide_eq_false h1]
    go_enter Tryd.func23, Tryd.ntmps23
    go_wp2
    go_ret
    exact ⟨rfl, rfl⟩

theorem shr_bool (x p : Nat) : (((x : Int) / 2 ^ p) != 0) = decide (2 ^ p ≤ x) := by
  have e : (x : Int) / 2 ^ p = ((x / 2 ^ p : Nat) : Int) := by rw [Int.natCast_ediv, Int.natCast_pow]; rfl
  rw [e]
  have hp : 0 < 2 ^ p := Nat.two_pow_pos p
  by_cases h : 2 ^ p ≤ x
  · rw [decide_eq_true h]
    have := Nat.div_pos h hp
    simp; omega
  · rw [decide_eq_false h, Nat.div_eq_of_lt (by omega)]
    rfl
set_option maxHeartbeats 400000 in
theorem tooGreat_any (x p B : Nat) (w : World) (_hx : x < 65536) (hp : p ≤ 8) (hb : w.cell? ⟨B, 0, none⟩ = some (.int .i64 p)) :
    Calls Tryd.prog 47 #[.int .u16 x, .pointer (some ⟨B, 0, none⟩)] w fun e w' => e = .returned (.bool (decide (2 ^ p ≤ x))) ∧ w' = w := by
  have b1 : (0 : Int) ≤ (p : Int) := by omega
  go_enter Tryd.func47, Tryd.ntmps47
  go_wp2
  go_ret
  exact ⟨ret_bool (shr_bool x p), rfl⟩
/-- Is one of them too great? -/
def anyGreat (p : Nat) (xs : List Nat) : Bool := xs.any fun x => decide (2 ^ p ≤ x)
theorem anyGreat_take {p : Nat} {xs : List Nat} {k : Nat} (hk : k < xs.length) : anyGreat p (xs.take (k + 1)) = (anyGreat p (xs.take k) || decide (2 ^ p ≤ xs.getD k 0)) := by
  unfold anyGreat
  rw [List.take_succ_eq_append_getElem hk, List.any_append]
  simp [List.getD_eq_getElem?_getD, hk]
theorem getD_small {xs : List Nat} (h : ∀ x ∈ xs, x < 65536) (j : Nat) : xs.getD j 0 < 65536 := by
  rw [List.getD_eq_getElem?_getD]
  rcases Nat.lt_or_ge j xs.length with hn | hn
  · rw [List.getElem?_eq_getElem hn]; exact h _ (List.getElem_mem _)
  · rw [List.getElem?_eq_none hn]; decide
set_option maxHeartbeats 1000000 in
theorem index_any (v : Value) (xs : List Nat) (p B : Nat) (w : World) (hx : Lets w v xs) (hp : p ≤ 8) (hb : w.cell? ⟨B, 0, none⟩ = some (.int .i64 p)) :
    Calls Tryd.prog 63 #[v, .func (.func 47) #[] #[.pointer (some ⟨B, 0, none⟩)]] w fun e w' => ∃ r : Int, e = .returned (.int .i64 r) ∧ decide (0 ≤ r) = anyGreat p xs ∧ w' = w := by
  have fx := hx.few
  have hsm := hx.small
  by_cases h0 : 0 < xs.length
  · obtain ⟨b, o, c, rfl, _, _, hc⟩ := hx.there h0
    have HC : Hid (∀ i, i < xs.length → w.cell? ⟨b, o + i, none⟩ = some (.int .u16 (xs.getD i 0 : Nat))) := hc
    have HT : Hid (∀ x, x < 65536 → Calls Tryd.prog 47 #[.int .u16 (x : Nat), .pointer (some ⟨B, 0, none⟩)] w fun e w' => e = .returned (.bool (decide (2 ^ p ≤ x))) ∧ w' = w) := fun x h => tooGreat_any x p B w h hp hb
    have HS : Hid (∀ j, xs.getD j 0 < 65536) := getD_small hsm
    clear hx hc hb hsm
    go_enter Tryd.func63, Tryd.ntmps63
    go_wp2_with fail
    go_loop [5, 8] (fun _ i => ∃ k : Nat, k ≤ xs.length ∧ i = .int .i64 k ∧ Hid (anyGreat p (xs.take k) = false)) (fun _ i => xs.length - (intOf i).toNat)
    case atStart => exact ⟨0, Nat.zero_le _, rfl, rfl⟩
    case round =>
      obtain ⟨k, hk, rfl, HF⟩ := hrel
      by_cases hlt : k < xs.length
      · have hlt' : (k : Int) < (xs.length : Int) := by omega
        have b0 : (0 : Int) ≤ (k : Int) := by omega
        have d1 := HC.out k hlt
        have HN : Hid _ := anyGreat_take (p := p) hlt
        have HT2 : Hid (Calls Tryd.prog 47 #[.int .u16 (xs.getD k 0 : Nat), .pointer (some ⟨B, 0, none⟩)] w fun e w' => e = .returned (.bool (decide (2 ^ p ≤ xs.getD k 0))) ∧ w' = w) := HT.out _ (HS.out k)
        cases hq : decide (2 ^ p ≤ xs.getD k 0) with
        | true =>
          have HR : Hid (anyGreat p xs = true) := by
            show anyGreat p xs = true
            unfold anyGreat
            rw [List.any_eq_true]
            refine ⟨xs.getD k 0, ?_, hq⟩
            rw [List.getD_eq_getElem?_getD, List.getElem?_eq_getElem hlt]; exact List.getElem_mem _
          rw [hq] at HT2
          clear hq HN
          obtain ⟨x, hxk⟩ : ∃ x, xs.getD k 0 = x := ⟨_, rfl⟩
          rw [hxk] at d1 HT2
          clear hxk
          go_wp2_with (go_at_call 47; refine HT2.out.mono ?_; rintro e w' ⟨rfl, rfl⟩)
          go_ret
          exact ⟨_, rfl, by rw [HR.out]; simp, rfl⟩
        | false =>
          have HF2 : Hid (anyGreat p (xs.take (k + 1)) = false) := by show anyGreat p (xs.take (k + 1)) = false; rw [HN.out, HF.out, hq]; rfl
          rw [hq] at HT2
          clear hq HN
          obtain ⟨x, hxk⟩ : ∃ x, xs.getD k 0 = x := ⟨_, rfl⟩
          rw [hxk] at d1 HT2
          clear hxk
          go_wp2_with (go_at_call 47; refine HT2.out.mono ?_; rintro e w' ⟨rfl, rfl⟩)
          go_round
          case rel => exact ⟨k + 1, by omega, by go_num, HF2.out⟩
          case measure => simp [intOf]; omega
      · have hlt' : ¬ (k : Int) < (xs.length : Int) := by omega
        have HR : Hid (anyGreat p xs = false) := by
          have := HF.out
          rw [List.take_of_length_le (by omega)] at this
          exact this
        go_wp2
        go_ret
        exact ⟨_, rfl, by rw [HR.out]; rfl, rfl⟩
  · obtain rfl : xs = [] := List.length_eq_zero_iff.1 (by omega)
    obtain ⟨ad, c, rfl, _⟩ := hx.form
    clear hx
    simp only [List.length_nil]
    go_enter Tryd.func63, Tryd.ntmps63
    go_wp2_with fail
    go_loop [5, 8] (fun _ i => i = .int .i64 0) (fun _ _ => 0)
    case atStart => exact rfl
    case round =>
      subst hrel
      go_wp2
      go_ret
      exact ⟨_, rfl, rfl, rfl⟩
set_option maxHeartbeats 400000 in
theorem contains_any (v : Value) (xs : List Nat) (p B : Nat) (w : World) (hx : Lets w v xs) (hp : p ≤ 8) (hb : w.cell? ⟨B, 0, none⟩ = some (.int .i64 p)) :
    Calls Tryd.prog 48 #[v, .func (.func 47) #[] #[.pointer (some ⟨B, 0, none⟩)]] w fun e w' => e = .returned (.bool (anyGreat p xs)) ∧ w' = w := by
  have HI : Hid (Calls Tryd.prog 63 #[v, .func (.func 47) #[] #[.pointer (some ⟨B, 0, none⟩)]] w fun e w' => ∃ r : Int, e = .returned (.int .i64 r) ∧ decide (0 ≤ r) = anyGreat p xs ∧ w' = w) := index_any v xs p B w hx hp hb
  clear hx hb
  go_enter Tryd.func48, Tryd.ntmps48
  go_wp2_with (go_at_call 63; refine HI.out.mono ?_; rintro e w' ⟨r, rfl, hr, rfl⟩; have HR : Hid _ := hr; clear hr)
  go_ret
  exact ⟨ret_bool HR.out, rfl⟩

/-- What Check tells. -/
def checkE (q : Wd) (n : Int) : Nat := if ¬ (0 ≤ n ∧ n ≤ 8) then 1 else if q.loop.length = 0 ∨ anyGreat n.toNat q.stem = true ∨ anyGreat n.toNat q.loop = true then 50 else 0
set_option maxHeartbeats 400000 in
theorem check_bad (sv lv : Value) (q : Wd) (n : Int) (w : World) (h : IsW w sv lv q) (hn : ¬ (0 ≤ n ∧ n ≤ 8)) :
    Calls Tryd.prog 16 #[.agg #[sv, lv], .int .i64 n] w fun e w' => e = .returned (.int .i64 1) ∧ Kept [] w w' := by
  obtain ⟨st, lp⟩ := q
  obtain ⟨ast, cs, rfl, _, _⟩ := h.st.form
  obtain ⟨al, cl, rfl, _, _⟩ := h.lp.form
  have hb : (decide (0 ≤ n) && decide (n ≤ 8)) = false := by simpa using hn
  have HG : Hid (∀ W, Calls Tryd.prog 23 #[.int .i64 n] W fun e w' => e = .returned (.bool false) ∧ w' = W) := fun W => by have := goodProps_any n W; rw [hb] at this; exact this
  clear h hn hb
  go_enter Tryd.func16, Tryd.ntmps16
  go_wp2_with (go_at_call 23; refine (HG.out _).mono ?_; rintro e w1 ⟨rfl, rfl⟩)
  go_ret
  exact ⟨rfl, ((Kept.refl [] w).alloc _).alloc _⟩
set_option maxHeartbeats 1600000 in
theorem check_good (sv lv : Value) (q : Wd) (p : Nat) (w : World) (h : IsW w sv lv q) (hp : p ≤ 8) :
    Calls Tryd.prog 16 #[.agg #[sv, lv], .int .i64 p] w fun e w' => e = .returned (.int .i64 (checkE q p : Nat)) ∧ Kept [] w w' := by
  obtain ⟨st, lp⟩ := q
  have HS : Hid (∀ W, Kept [] w W → W.cell? ⟨w.heap.size + 1, 0, none⟩ = some (.int .i64 (p : Nat)) → Calls Tryd.prog 48 #[sv, .func (.func 47) #[] #[.pointer (some ⟨w.heap.size + 1, 0, none⟩)]] W fun e w' => e = .returned (.bool (anyGreat p st)) ∧ w' = W) := fun W k c => contains_any sv st p _ W (h.st.kept k) hp c
  have HL : Hid (∀ W, Kept [] w W → W.cell? ⟨w.heap.size + 1, 0, none⟩ = some (.int .i64 (p : Nat)) → Calls Tryd.prog 48 #[lv, .func (.func 47) #[] #[.pointer (some ⟨w.heap.size + 1, 0, none⟩)]] W fun e w' => e = .returned (.bool (anyGreat p lp)) ∧ w' = W) := fun W k c => contains_any lv lp p _ W (h.lp.kept k) hp c
  obtain ⟨ast, cs, rfl, _, _⟩ := h.st.form
  obtain ⟨al, cl, rfl, _, _⟩ := h.lp.form
  simp only at HS HL
  have hb : (decide (0 ≤ (p : Int)) && decide ((p : Int) ≤ 8)) = true := by simp; omega
  have HG : Hid (∀ W, Calls Tryd.prog 23 #[.int .i64 p] W fun e w' => e = .returned (.bool true) ∧ w' = W) := fun W => by have := goodProps_any p W; rw [hb] at this; exact this
  have hN := two_new w (.cells #[.slice ast st.length cs, .slice al lp.length cl] 47) (.cells #[.int .i64 (p : Nat)] 3)
  have HN : Hid (((w.alloc (.cells #[.slice ast st.length cs, .slice al lp.length cl] 47)).alloc (.cells #[.int .i64 (p : Nat)] 3)).heap[w.heap.size]? = some (.cells #[.slice ast st.length cs, .slice al lp.length cl] 47 (0, 0)) ∧ ((w.alloc (.cells #[.slice ast st.length cs, .slice al lp.length cl] 47)).alloc (.cells #[.int .i64 (p : Nat)] 3)).heap[w.heap.size + 1]? = some (.cells #[.int .i64 (p : Nat)] 3 (0, 0))) := hN
  have HE : Hid (∀ W, Calls Tryd.prog 41 #[.agg #[.slice ast st.length cs, .slice al lp.length cl]] W fun e w' => e = .returned (.bool (decide (0 < lp.length))) ∧ Kept [] W w') := fun W => endless_any (.slice ast st.length cs) al lp.length cl W
  have hC : checkE ⟨st, lp⟩ p = if lp.length = 0 ∨ anyGreat p st = true ∨ anyGreat p lp = true then 50 else 0 := by
    unfold checkE; rw [if_neg (by omega)]; simp
  rw [hC]
  clear h hN hb hC
  by_cases h0 : lp.length = 0
  · rw [if_pos (.inl h0)]
    rw [show decide (0 < lp.length) = false from decide_eq_false (by omega)] at HE
    clear h0
    go_enter Tryd.func16, Tryd.ntmps16
    go_wp2_with (first
      | (go_at_call 23; refine (HG.out _).mono ?_; rintro e w1 ⟨rfl, rfl⟩)
      | (go_at_call 41; refine (HE.out _).mono ?_; rintro e w1 ⟨rfl, hk⟩; have hkw : Kept [] w w1 := Kept.trans (F := []) (G := []) (H := []) (((Kept.refl [] w).alloc _).alloc _) hk (by simp) (by simp); have HK : Hid (Kept [] w w1) := hkw; have h2 := hk.at HN.out.1 (by simp); have c0 : w1.cell? ⟨w.heap.size, 0, none⟩ = some (.slice ast st.length cs) := (cell_of h2 0).trans rfl; have c1 : w1.cell? ⟨w.heap.size, 1, none⟩ = some (.slice al lp.length cl) := (cell_of h2 1).trans rfl; have h3 := hk.at HN.out.2 (by simp); have HP : Hid (w1.cell? ⟨w.heap.size + 1, 0, none⟩ = some (.int .i64 (p : Nat))) := (cell_of h3 0).trans rfl; clear hk hkw h2 h3)
      | (go_at_call 48; refine (HS.out _ HK.out HP.out).mono ?_; rintro e w2 ⟨rfl, hw2⟩; subst hw2; clear HS)
      | (go_at_call 48; refine (HL.out _ HK.out HP.out).mono ?_; rintro e w2 ⟨rfl, hw2⟩; subst hw2))
    go_ret
    exact ⟨rfl, HK.out⟩
  · rw [show decide (0 < lp.length) = true from decide_eq_true (by omega)] at HE
    by_cases h1 : anyGreat p st = true
    · rw [if_pos (.inr (.inl h1))]
      rw [h1] at HS
      clear h1
      go_enter Tryd.func16, Tryd.ntmps16
      go_wp2_with (first
        | (go_at_call 23; refine (HG.out _).mono ?_; rintro e w1 ⟨rfl, rfl⟩)
        | (go_at_call 41; refine (HE.out _).mono ?_; rintro e w1 ⟨rfl, hk⟩; have hkw : Kept [] w w1 := Kept.trans (F := []) (G := []) (H := []) (((Kept.refl [] w).alloc _).alloc _) hk (by simp) (by simp); have HK : Hid (Kept [] w w1) := hkw; have h2 := hk.at HN.out.1 (by simp); have c0 : w1.cell? ⟨w.heap.size, 0, none⟩ = some (.slice ast st.length cs) := (cell_of h2 0).trans rfl; have c1 : w1.cell? ⟨w.heap.size, 1, none⟩ = some (.slice al lp.length cl) := (cell_of h2 1).trans rfl; have h3 := hk.at HN.out.2 (by simp); have HP : Hid (w1.cell? ⟨w.heap.size + 1, 0, none⟩ = some (.int .i64 (p : Nat))) := (cell_of h3 0).trans rfl; clear hk hkw h2 h3)
        | (go_at_call 48; refine (HS.out _ HK.out HP.out).mono ?_; rintro e w2 ⟨rfl, hw2⟩; subst hw2; clear HS)
        | (go_at_call 48; refine (HL.out _ HK.out HP.out).mono ?_; rintro e w2 ⟨rfl, hw2⟩; subst hw2))
      go_ret
      exact ⟨rfl, HK.out⟩
    · rw [Bool.not_eq_true] at h1
      rw [h1] at HS
      by_cases h2 : anyGreat p lp = true
      · rw [if_pos (.inr (.inr h2))]
        rw [h2] at HL
        clear h1 h2
        go_enter Tryd.func16, Tryd.ntmps16
        go_wp2_with (first
          | (go_at_call 23; refine (HG.out _).mono ?_; rintro e w1 ⟨rfl, rfl⟩)
          | (go_at_call 41; refine (HE.out _).mono ?_; rintro e w1 ⟨rfl, hk⟩; have hkw : Kept [] w w1 := Kept.trans (F := []) (G := []) (H := []) (((Kept.refl [] w).alloc _).alloc _) hk (by simp) (by simp); have HK : Hid (Kept [] w w1) := hkw; have h2 := hk.at HN.out.1 (by simp); have c0 : w1.cell? ⟨w.heap.size, 0, none⟩ = some (.slice ast st.length cs) := (cell_of h2 0).trans rfl; have c1 : w1.cell? ⟨w.heap.size, 1, none⟩ = some (.slice al lp.length cl) := (cell_of h2 1).trans rfl; have h3 := hk.at HN.out.2 (by simp); have HP : Hid (w1.cell? ⟨w.heap.size + 1, 0, none⟩ = some (.int .i64 (p : Nat))) := (cell_of h3 0).trans rfl; clear hk hkw h2 h3)
          | (go_at_call 48; refine (HS.out _ HK.out HP.out).mono ?_; rintro e w2 ⟨rfl, hw2⟩; subst hw2; clear HS)
          | (go_at_call 48; refine (HL.out _ HK.out HP.out).mono ?_; rintro e w2 ⟨rfl, hw2⟩; subst hw2))
        go_ret
        exact ⟨rfl, HK.out⟩
      · rw [if_neg (by rw [h1]; simp [h0, h2])]
        rw [Bool.not_eq_true] at h2
        rw [h2] at HL
        clear h1 h2
        go_enter Tryd.func16, Tryd.ntmps16
        go_wp2_with (first
          | (go_at_call 23; refine (HG.out _).mono ?_; rintro e w1 ⟨rfl, rfl⟩)
          | (go_at_call 41; refine (HE.out _).mono ?_; rintro e w1 ⟨rfl, hk⟩; have hkw : Kept [] w w1 := Kept.trans (F := []) (G := []) (H := []) (((Kept.refl [] w).alloc _).alloc _) hk (by simp) (by simp); have HK : Hid (Kept [] w w1) := hkw; have h2 := hk.at HN.out.1 (by simp); have c0 : w1.cell? ⟨w.heap.size, 0, none⟩ = some (.slice ast st.length cs) := (cell_of h2 0).trans rfl; have c1 : w1.cell? ⟨w.heap.size, 1, none⟩ = some (.slice al lp.length cl) := (cell_of h2 1).trans rfl; have h3 := hk.at HN.out.2 (by simp); have HP : Hid (w1.cell? ⟨w.heap.size + 1, 0, none⟩ = some (.int .i64 (p : Nat))) := (cell_of h3 0).trans rfl; clear hk hkw h2 h3)
          | (go_at_call 48; refine (HS.out _ HK.out HP.out).mono ?_; rintro e w2 ⟨rfl, hw2⟩; subst hw2; clear HS)
          | (go_at_call 48; refine (HL.out _ HK.out HP.out).mono ?_; rintro e w2 ⟨rfl, hw2⟩; subst hw2))
        go_ret
        exact ⟨rfl, HK.out⟩
end Go.Proofs.YtamfnefnaelgfaaDoor
