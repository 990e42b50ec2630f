/- words.Join, Suffix. -/
import Derived.Test.YtepooofiadlceaaDoorWdSmall
namespace Go.Proofs.YtepooofiadlceaaDoor
open Go.RowKit
attribute [local go_sem ↓] Go.wp_at_zero Go.wp_at_succ

theorem Wd2.keptF {F : List Nat} {W W' : World} {B : Nat} {a b : Value} (h : Wd2 W B a b) (k : Kept F W W') (hB : B ∉ F) : Wd2 W' B a b := k.at h hB
theorem two_cells {V W' : World} {n : Nat} {a b : Value} (h : Wd2 V n a b) (k : Kept [n + 1] V W') : W'.cell? ⟨n, 0, none⟩ = some a ∧ W'.cell? ⟨n, 1, none⟩ = some b :=
  have h' := (h.keptF k (by simp)).cells
  ⟨h'.1, h'.2.1⟩
theorem lets_cat {W : World} {base : Nat} {v : Value} {xs ys : List Nat} (h : W.ownsRow base 23 1 v (xs ++ ys).length (u16s (xs ++ ys))) (h1 : ∀ x ∈ xs, x < 65536) (h2 : ∀ x ∈ ys, x < 65536) (hl : xs.length + ys.length ≤ 70368744177664) : Lets W v (xs ++ ys) :=
  lets_own h (fun x hx => (List.mem_append.1 hx).elim (h1 x) (h2 x)) (by rw [List.length_append]; exact hl)

/-- A word that was made is stored into the result's block. -/
theorem made_stored {w V W W3 : World} {q : Wd} {s3 l3 : Value} {r : Wd} (kV : Kept [] w V) (hR : Wd2 V (w.heap.size + 1) (.slice none 0 0) (.slice none 0 0)) (kW : Kept [] V W) (hn : NewW W.heap.size W3 s3 l3 r) (ho : NormOf q r) (k3 : Kept [] W W3) :
    MadeNorm w q (.returned (.agg #[s3, l3])) ((W3.setCell ⟨w.heap.size + 1, 0, none⟩ s3).setCell ⟨w.heap.size + 1, 1, none⟩ l3) ∧ Wd2 ((W3.setCell ⟨w.heap.size + 1, 0, none⟩ s3).setCell ⟨w.heap.size + 1, 1, none⟩ l3) (w.heap.size + 1) s3 l3 := by
  have hR3 := (hR.kept kW).kept k3
  have hlt : w.heap.size + 1 < W.heap.size := lt_of (hR.kept kW)
  have kF : Kept [w.heap.size + 1] W3 ((W3.setCell ⟨w.heap.size + 1, 0, none⟩ s3).setCell ⟨w.heap.size + 1, 1, none⟩ l3) := ((Kept.refl _ W3).setCell (.inl (by simp)) _).setCell (.inl (by simp)) _
  have kW' : Kept [] w W := kV.trans kW (by simp) (by simp)
  exact ⟨⟨s3, l3, r, rfl, (hn.keptF kF (by simpa using hlt)).low kW'.size, ho, kept_set2 (kW'.trans k3 (by simp) (by simp)) (by simp) _ _⟩, hR3.set _ _⟩

end Go.Proofs.YtepooofiadlceaaDoor

/- words.Suffix. -/
namespace Go.Proofs.YtepooofiadlceaaDoor
open Go.RowKit
attribute [local go_sem ↓] Go.wp_at_zero Go.wp_at_succ

/-- words.Suffix, from 0 on. -/
def sufW (q : Wd) (k : Nat) : Wd := if q.loop.length = 0 then ⟨[], []⟩ else if k ≤ q.stem.length then ⟨q.stem.drop k, q.loop⟩ else ⟨[], rot q.loop ((k - q.stem.length) % q.loop.length)⟩
end Go.Proofs.YtepooofiadlceaaDoor

/- words.Prefix; words.Same. -/
namespace Go.Proofs.YtepooofiadlceaaDoor
open Go.RowKit
attribute [local go_sem ↓] Go.wp_at_zero Go.wp_at_succ

theorem make_u16 (w : World) (k : Nat) (hk : k ≤ 65536) : Sem.run Tryd.prog (Instr.makeSlice 24 (.int .i64 k) (.int .i64 k)) w = .ok (.slice (some ⟨w.heap.size, 0, none⟩) k k) (w.alloc (.cells (Array.replicate k (.int .u16 0)) 23)) := by
  obtain ⟨i0, hi, hz0, hz1, hz2⟩ := info_parts Tryd.infoU16
  have H := run_make (P := Tryd.prog) w 24 23 i0 _ Tryd.underlying24 hi hz0 .i64 .i64 k k (by omega) (by omega) (by rw [hz2]; omega) (by omega)
  rw [H, hz1]
  have e : madeCells (Value.cells (.int .u16 0)) (k * 1) = Array.replicate k (Value.int .u16 0) := by
    apply Array.toList_inj.1
    rw [show Value.cells (.int .u16 0) = #[Value.int .u16 0] from rfl, toList_madeCells_one]; simp
  simp only [Int.toNat_natCast]
  rw [e]
/-- The first m letters. -/
def prefN (q : Wd) (m : Nat) : List Nat := (List.range m).map q.at
theorem prefN_len (q : Wd) (m : Nat) : (prefN q m).length = m := by simp [prefN]
theorem at_small {q : Wd} (h1 : ∀ x ∈ q.stem, x < 65536) (h2 : ∀ x ∈ q.loop, x < 65536) (i : Nat) : q.at i < 65536 := by
  have key : ∀ (l : List Nat) (j : Nat), (∀ x ∈ l, x < 65536) → l.getD j 0 < 65536 := fun l j h => by
    rw [List.getD_eq_getElem?_getD]
    rcases Nat.lt_or_ge j l.length with hn | hn
    · rw [List.getElem?_eq_getElem hn]; exact h _ (List.getElem_mem _)
    · rw [List.getElem?_eq_none hn]; decide
  unfold Wd.at
  split
  · exact key _ _ h1
  · exact key _ _ h2
/-- A row that is being filled. -/
def Fill (W : World) (g m i : Nat) (q : Wd) : Prop := ∃ arr, W.heap[g]? = some (.cells arr 23 (0, 0)) ∧ arr.size = m ∧ ∀ j, j < i → arr[j]? = some (.int .u16 (q.at j : Nat))
theorem Fill.step {W : World} {g m i : Nat} {q : Wd} (h : Fill W g m i q) (hi : i < m) : Fill (W.setCell ⟨g, i, none⟩ (.int .u16 (q.at i : Nat))) g m (i + 1) q := by
  obtain ⟨arr, h1, h2, h3⟩ := h
  refine ⟨arr.setIfInBounds i (.int .u16 (q.at i : Nat)), row_set h1 _, by simpa using h2, fun j hj => ?_⟩
  rw [Array.getElem?_setIfInBounds]
  split
  · rename_i e; subst e; rw [if_pos (by omega)]
  · exact h3 j (by omega)
theorem Fill.own {W : World} {g m n₀ : Nat} {q : Wd} (h : Fill W g m m q) (hg : n₀ ≤ g) (hm : m ≤ 65536) : W.ownsRow n₀ 23 1 (.slice (some ⟨g, 0, none⟩) m m) (prefN q m).length (u16s (prefN q m)) := by
  obtain ⟨arr, h1, h2, h3⟩ := h
  rw [prefN_len]
  refine ⟨by simp [u16s, prefN], .inr ⟨g, m, arr, rfl, hg, h1, Nat.le_refl _, by unfold maxLen; omega, by simpa using h2, ?_⟩⟩
  apply List.ext_getElem?
  intro j
  rw [List.getElem?_take, Nat.mul_one]
  rcases Nat.lt_or_ge j m with hj | hj
  · rw [if_pos hj, Array.getElem?_toList, h3 j hj]
    simp [u16s, prefN, hj]
  · rw [if_neg (by omega)]
    rw [List.getElem?_eq_none (by rw [u16s_len, prefN_len]; omega)]
end Go.Proofs.YtepooofiadlceaaDoor

/- words.Same. -/
namespace Go.Proofs.YtepooofiadlceaaDoor
open Go.RowKit
attribute [local go_sem ↓] Go.wp_at_zero Go.wp_at_succ

/-- Are they the same infinite word? -/
def sameB (a b : Wd) : Bool := decide (0 < a.loop.length) && decide (0 < b.loop.length) && (List.range (max a.stem.length b.stem.length + a.loop.length + b.loop.length)).all fun i => a.at i == b.at i
theorem sameB_iff {a b : Wd} (ha : 0 < a.loop.length) (hb : 0 < b.loop.length) : sameB a b = true ↔ ∀ i, a.at i = b.at i := by
  unfold sameB
  rw [decide_eq_true ha, decide_eq_true hb, Bool.true_and, Bool.true_and, List.all_eq_true]
  constructor
  · intro h
    exact Wd.agree ha hb (fun i hi => by simpa using h i (by simpa using hi))
  · intro h i _
    simpa using h i
theorem same_norm {a b ra rb : Wd} (ha : 0 < a.loop.length) (hb : 0 < b.loop.length) (h1 : NormOf a ra) (h2 : NormOf b rb) : sameB a b = true ↔ ra = rb := by
  obtain ⟨n1, e1⟩ := h1.2 (fun e => by rw [e] at ha; simp at ha)
  obtain ⟨n2, e2⟩ := h2.2 (fun e => by rw [e] at hb; simp at hb)
  rw [sameB_iff ha hb]
  constructor
  · intro h
    exact n1.unique n2 (fun i => by rw [e1, e2, h])
  · rintro rfl i
    rw [← e1, ← e2]

/-- A word that was made, and where. -/
def MadeAt (W : World) (q : Wd) (e : Ending) (W3 : World) : Prop := ∃ a3 n3 c3 a4 n4 c4 r, e = .returned (.agg #[.slice a3 n3 c3, .slice a4 n4 c4]) ∧ Kept [] W W3 ∧ NewW W.heap.size W3 (.slice a3 n3 c3) (.slice a4 n4 c4) r ∧ NormOf q r
theorem normal_at (sv lv : Value) (q : Wd) (w : World) (h : IsW w sv lv q) : Calls Tryd.prog 28 #[.agg #[sv, lv]] w (MadeAt w q) := by
  refine (normal_any sv lv q w h.st h.lp h.few).mono ?_
  rintro e W3 ⟨s3, l3, r, rfl, hn, ho, k3⟩
  obtain ⟨a3, c3, e3⟩ := own_form hn.own1
  obtain ⟨a4, c4, e4⟩ := own_form hn.own2
  subst e3 e4
  exact ⟨a3, _, c3, a4, _, c4, r, rfl, k3, hn, ho⟩
/-- The two words are stored over the two that came. -/
theorem same_mem {w w2 wb : World} {x1 x2 y1 y2 p q r s : Value} {ra rb : Wd} (hk : Kept [] w w2) (h1 : Wd2 w2 w.heap.size x1 x2) (h2 : Wd2 w2 (w.heap.size + 1) y1 y2) (kb : Kept [] w2 wb) (ha : NewW w2.heap.size wb p q ra) (hb : NewW w2.heap.size wb r s rb) :
    ∃ E, (((wb.setCell ⟨w.heap.size, 0, none⟩ p).setCell ⟨w.heap.size, 1, none⟩ q).setCell ⟨w.heap.size + 1, 0, none⟩ r).setCell ⟨w.heap.size + 1, 1, none⟩ s = E ∧ Wd2 E w.heap.size p q ∧ Wd2 E (w.heap.size + 1) r s ∧ NewW w2.heap.size E p q ra ∧ NewW w2.heap.size E r s rb ∧ Kept [] w E := by
  refine ⟨_, rfl, ?_, ?_, ?_, ?_, ?_⟩
  · have := (h1.kept kb).set p q
    exact this.keptF (F := [w.heap.size + 1]) (((Kept.refl _ _).setCell (.inl (by simp)) _).setCell (.inl (by simp)) _) (by simp)
  · have := (h2.kept kb).keptF (F := [w.heap.size]) (W' := (wb.setCell ⟨w.heap.size, 0, none⟩ p).setCell ⟨w.heap.size, 1, none⟩ q) (((Kept.refl _ _).setCell (.inl (by simp)) _).setCell (.inl (by simp)) _) (by simp)
    exact this.set r s
  · have l2 := lt_of h2
    exact ha.keptF (F := [w.heap.size, w.heap.size + 1]) (((((Kept.refl _ _).setCell (.inl (by simp)) _).setCell (.inl (by simp)) _).setCell (.inl (by simp)) _).setCell (.inl (by simp)) _) (by intro x hx; simp at hx; omega)
  · have l2 := lt_of h2
    exact hb.keptF (F := [w.heap.size, w.heap.size + 1]) (((((Kept.refl _ _).setCell (.inl (by simp)) _).setCell (.inl (by simp)) _).setCell (.inl (by simp)) _).setCell (.inl (by simp)) _) (by intro x hx; simp at hx; omega)
  · exact kept_set2 (kept_set2 (hk.trans kb (by simp) (by simp)) (Nat.le_refl _) _ _) (by simp) _ _
theorem quiet_kept {w W W' : World} (k : Kept [] w W) (q : Quiet W W') : Kept [] w W' := k.trans q.kept (by simp) (by simp)
end Go.Proofs.YtepooofiadlceaaDoor

/- words.Check. -/
namespace Go.Proofs.YtepooofiadlceaaDoor
open Go.RowKit
attribute [local go_sem ↓] Go.wp_at_zero Go.wp_at_succ

set_option maxHeartbeats 400000 in
theorem goodProps_any (n : Int) (w : World) :
    Calls Tryd.prog 24 #[.int .i64 n] w fun e w' => e = .returned (.bool (decide (0 ≤ n) && decide (n ≤ 8))) ∧ w' = w := by
  by_cases h1 : 0 ≤ n
  · by_cases h2 : n ≤ 8
    · rw [decide_eq_true h1, decide_eq_true h2]
      go_enter Tryd.func24, Tryd.ntmps24
      go_wp2
      go_ret
      exact ⟨rfl, rfl⟩
    · rw [decide_eq_true h1, decide_eq_false h2]
      go_enter Tryd.func24, Tryd.ntmps24
      go_wp2
      go_ret
      exact ⟨rfl, rfl⟩
  · rw [decide_eq_false h1]
    go_enter Tryd.func24, Tryd.ntmps24
    go_wp2
    go_ret
    exact ⟨rfl, rfl⟩

theorem shr_bool (x p : Nat) : (((x : Int) / 2 ^ p) != 0) = decide (2 ^ p ≤ x) := by
  have e : (x : Int) / 2 ^ p = ((x / 2 ^ p : Nat) : Int) := by rw [Int.natCast_ediv, Int.natCast_pow]; rfl
  rw [e]
  have hp : 0 < 2 ^ p := Nat.two_pow_pos p
  by_cases h : 2 ^ p ≤ x
  · rw [decide_eq_true h]
    have := Nat.div_pos h hp
    simp; omega
  · rw [decide_eq_false h, Nat.div_eq_of_lt (by omega)]
    rfl
set_option maxHeartbeats 400000 in
theorem tooGreat_any (x p B : Nat) (w : World) (_hx : x < 65536) (hp : p ≤ 8) (hb : w.cell? ⟨B, 0, none⟩ = some (.int .i64 p)) :
    Calls Tryd.prog 25 #[.int .u16 x, .pointer (some ⟨B, 0, none⟩)] w fun e w' => e = .returned (.bool (decide (2 ^ p ≤ x))) ∧ w' = w := by
  have b1 : (0 : Int) ≤ (p : Int) := by omega
  go_enter Tryd.func25, Tryd.ntmps25
  go_wp2
  go_ret
  exact ⟨ret_bool (shr_bool x p), rfl⟩
/-- Is one of them too great? -/
def anyGreat (p : Nat) (xs : List Nat) : Bool := xs.any fun x => decide (2 ^ p ≤ x)
theorem anyGreat_take {p : Nat} {xs : List Nat} {k : Nat} (hk : k < xs.length) : anyGreat p (xs.take (k + 1)) = (anyGreat p (xs.take k) || decide (2 ^ p ≤ xs.getD k 0)) := by
  unfold anyGreat
  rw [List.take_succ_eq_append_getElem hk, List.any_append]
  simp [List.getD_eq_getElem?_getD, hk]
theorem getD_small {xs : List Nat} (h : ∀ x ∈ xs, x < 65536) (j : Nat) : xs.getD j 0 < 65536 := by
  rw [List.getD_eq_getElem?_getD]
  rcases Nat.lt_or_ge j xs.length with hn | hn
  · rw [List.getElem?_eq_getElem hn]; exact h _ (List.getElem_mem _)
  · rw [List.getElem?_eq_none hn]; decide
set_option maxHeartbeats 1000000 in
theorem index_any (v : Value) (xs : List Nat) (p B : Nat) (w : World) (hx : Lets w v xs) (hp : p ≤ 8) (hb : w.cell? ⟨B, 0, none⟩ = some (.int .i64 p)) :
    Calls Tryd.prog 41 #[v, .func (.func 25) #[] #[.pointer (some ⟨B, 0, none⟩)]] w fun e w' => ∃ r : Int, e = .returned (.int .i64 r) ∧ decide (0 ≤ r) = anyGreat p xs ∧ w' = w := by
  have fx := hx.few
  have hsm := hx.small
  by_cases h0 : 0 < xs.length
  · obtain ⟨b, o, c, rfl, _, _, hc⟩ := hx.there h0
    have HC : Hid (∀ i, i < xs.length → w.cell? ⟨b, o + i, none⟩ = some (.int .u16 (xs.getD i 0 : Nat))) := hc
    have HT : Hid (∀ x, x < 65536 → Calls Tryd.prog 25 #[.int .u16 (x : Nat), .pointer (some ⟨B, 0, none⟩)] w fun e w' => e = .returned (.bool (decide (2 ^ p ≤ x))) ∧ w' = w) := fun x h => tooGreat_any x p B w h hp hb
    have HS : Hid (∀ j, xs.getD j 0 < 65536) := getD_small hsm
    clear hx hc hb hsm
    go_enter Tryd.func41, Tryd.ntmps41
    go_wp2_with fail
    go_loop [5, 8] (fun _ i => ∃ k : Nat, k ≤ xs.length ∧ i = .int .i64 k ∧ Hid (anyGreat p (xs.take k) = false)) (fun _ i => xs.length - (intOf i).toNat)
    case atStart => exact ⟨0, Nat.zero_le _, rfl, rfl⟩
    case round =>
      obtain ⟨k, hk, rfl, HF⟩ := hrel
      by_cases hlt : k < xs.length
      · have hlt' : (k : Int) < (xs.length : Int) := by omega
        have b0 : (0 : Int) ≤ (k : Int) := by omega
        have d1 := HC.out k hlt
        have HN : Hid _ := anyGreat_take (p := p) hlt
        have HT2 : Hid (Calls Tryd.prog 25 #[.int .u16 (xs.getD k 0 : Nat), .pointer (some ⟨B, 0, none⟩)] w fun e w' => e = .returned (.bool (decide (2 ^ p ≤ xs.getD k 0))) ∧ w' = w) := HT.out _ (HS.out k)
        cases hq : decide (2 ^ p ≤ xs.getD k 0) with
        | true =>
          have HR : Hid (anyGreat p xs = true) := by
            show anyGreat p xs = true
            unfold anyGreat
            rw [List.any_eq_true]
            refine ⟨xs.getD k 0, ?_, hq⟩
            rw [List.getD_eq_getElem?_getD, List.getElem?_eq_getElem hlt]; exact List.getElem_mem _
          rw [hq] at HT2
          clear hq HN
          obtain ⟨x, hxk⟩ : ∃ x, xs.getD k 0 = x := ⟨_, rfl⟩
          rw [hxk] at d1 HT2
          clear hxk
          go_wp2_with (go_at_call 25; refine HT2.out.mono ?_; rintro e w' ⟨rfl, rfl⟩)
          go_ret
          exact ⟨_, rfl, by rw [HR.out]; simp, rfl⟩
        | false =>
          have HF2 : Hid (anyGreat p (xs.take (k + 1)) = false) := by show anyGreat p (xs.take (k + 1)) = false; rw [HN.out, HF.out, hq]; rfl
          rw [hq] at HT2
          clear hq HN
          obtain ⟨x, hxk⟩ : ∃ x, xs.getD k 0 = x := ⟨_, rfl⟩
          rw [hxk] at d1 HT2
          clear hxk
          go_wp2_with (go_at_call 25; refine HT2.out.mono ?_; rintro e w' ⟨rfl, rfl⟩)
          go_round
          case rel => exact ⟨k + 1, by omega, by go_num, HF2.out⟩
          case measure => simp [intOf]; omega
      · have hlt' : ¬ (k : Int) < (xs.length : Int) := by omega
        have HR : Hid (anyGreat p xs = false) := by
          have := HF.out
          rw [List.take_of_length_le (by omega)] at this
          exact this
        go_wp2
        go_ret
        exact ⟨_, rfl, by rw [HR.out]; rfl, rfl⟩
  · obtain rfl : xs = [] := List.length_eq_zero_iff.1 (by omega)
    obtain ⟨ad, c, rfl, _⟩ := hx.form
    clear hx
    simp only [List.length_nil]
    go_enter Tryd.func41, Tryd.ntmps41
    go_wp2_with fail
    go_loop [5, 8] (fun _ i => i = .int .i64 0) (fun _ _ => 0)
    case atStart => exact rfl
    case round =>
      subst hrel
      go_wp2
      go_ret
      exact ⟨_, rfl, rfl, rfl⟩
set_option maxHeartbeats 400000 in
theorem contains_any (v : Value) (xs : List Nat) (p B : Nat) (w : World) (hx : Lets w v xs) (hp : p ≤ 8) (hb : w.cell? ⟨B, 0, none⟩ = some (.int .i64 p)) :
    Calls Tryd.prog 27 #[v, .func (.func 25) #[] #[.pointer (some ⟨B, 0, none⟩)]] w fun e w' => e = .returned (.bool (anyGreat p xs)) ∧ w' = w := by
  have HI : Hid (Calls Tryd.prog 41 #[v, .func (.func 25) #[] #[.pointer (some ⟨B, 0, none⟩)]] w fun e w' => ∃ r : Int, e = .returned (.int .i64 r) ∧ decide (0 ≤ r) = anyGreat p xs ∧ w' = w) := index_any v xs p B w hx hp hb
  clear hx hb
  go_enter Tryd.func27, Tryd.ntmps27
  go_wp2_with (go_at_call 41; refine HI.out.mono ?_; rintro e w' ⟨r, rfl, hr, rfl⟩; have HR : Hid _ := hr; clear hr)
  go_ret
  exact ⟨ret_bool HR.out, rfl⟩

/-- What Check tells. -/
def checkE (q : Wd) (n : Int) : Nat := if ¬ (0 ≤ n ∧ n ≤ 8) then 1 else if q.loop.length = 0 ∨ anyGreat n.toNat q.stem = true ∨ anyGreat n.toNat q.loop = true then 50 else 0
set_option maxHeartbeats 400000 in
theorem check_bad (sv lv : Value) (q : Wd) (n : Int) (w : World) (h : IsW w sv lv q) (hn : ¬ (0 ≤ n ∧ n ≤ 8)) :
    Calls Tryd.prog 17 #[.agg #[sv, lv], .int .i64 n] w fun e w' => e = .returned (.int .i64 1) ∧ Kept [] w w' := by
  obtain ⟨st, lp⟩ := q
  obtain ⟨ast, cs, rfl, _, _⟩ := h.st.form
  obtain ⟨al, cl, rfl, _, _⟩ := h.lp.form
  have hb : (decide (0 ≤ n) && decide (n ≤ 8)) = false := by simpa using hn
  have HG : Hid (∀ W, Calls Tryd.prog 24 #[.int .i64 n] W fun e w' => e = .returned (.bool false) ∧ w' = W) := fun W => by have := goodProps_any n W; rw [hb] at this; exact this
  clear h hn hb
  go_enter Tryd.func17, Tryd.ntmps17
  go_wp2_with (go_at_call 24; refine (HG.out _).mono ?_; rintro e w1 ⟨rfl, rfl⟩)
  go_ret
  exact ⟨rfl, ((Kept.refl [] w).alloc _).alloc _⟩
set_option maxHeartbeats 1600000 in
theorem check_good (sv lv : Value) (q : Wd) (p : Nat) (w : World) (h : IsW w sv lv q) (hp : p ≤ 8) :
    Calls Tryd.prog 17 #[.agg #[sv, lv], .int .i64 p] w fun e w' => e = .returned (.int .i64 (checkE q p : Nat)) ∧ Kept [] w w' := by
  obtain ⟨st, lp⟩ := q
  have HS : Hid (∀ W, Kept [] w W → W.cell? ⟨w.heap.size + 1, 0, none⟩ = some (.int .i64 (p : Nat)) → Calls Tryd.prog 27 #[sv, .func (.func 25) #[] #[.pointer (some ⟨w.heap.size + 1, 0, none⟩)]] W fun e w' => e = .returned (.bool (anyGreat p st)) ∧ w' = W) := fun W k c => contains_any sv st p _ W (h.st.kept k) hp c
  have HL : Hid (∀ W, Kept [] w W → W.cell? ⟨w.heap.size + 1, 0, none⟩ = some (.int .i64 (p : Nat)) → Calls Tryd.prog 27 #[lv, .func (.func 25) #[] #[.pointer (some ⟨w.heap.size + 1, 0, none⟩)]] W fun e w' => e = .returned (.bool (anyGreat p lp)) ∧ w' = W) := fun W k c => contains_any lv lp p _ W (h.lp.kept k) hp c
  obtain ⟨ast, cs, rfl, _, _⟩ := h.st.form
  obtain ⟨al, cl, rfl, _, _⟩ := h.lp.form
  simp only at HS HL
  have hb : (decide (0 ≤ (p : Int)) && decide ((p : Int) ≤ 8)) = true := by simp; omega
  have HG : Hid (∀ W, Calls Tryd.prog 24 #[.int .i64 p] W fun e w' => e = .returned (.bool true) ∧ w' = W) := fun W => by have := goodProps_any p W; rw [hb] at this; exact this
  have hN := two_new w (.cells #[.slice ast st.length cs, .slice al lp.length cl] 41) (.cells #[.int .i64 (p : Nat)] 3)
  have HN : Hid (((w.alloc (.cells #[.slice ast st.length cs, .slice al lp.length cl] 41)).alloc (.cells #[.int .i64 (p : Nat)] 3)).heap[w.heap.size]? = some (.cells #[.slice ast st.length cs, .slice al lp.length cl] 41 (0, 0)) ∧ ((w.alloc (.cells #[.slice ast st.length cs, .slice al lp.length cl] 41)).alloc (.cells #[.int .i64 (p : Nat)] 3)).heap[w.heap.size + 1]? = some (.cells #[.int .i64 (p : Nat)] 3 (0, 0))) := hN
  have HE : Hid (∀ W, Calls Tryd.prog 26 #[.agg #[.slice ast st.length cs, .slice al lp.length cl]] W fun e w' => e = .returned (.bool (decide (0 < lp.length))) ∧ Kept [] W w') := fun W => endless_any (.slice ast st.length cs) al lp.length cl W
  have hC : checkE ⟨st, lp⟩ p = if lp.length = 0 ∨ anyGreat p st = true ∨ anyGreat p lp = true then 50 else 0 := by
    unfold checkE; rw [if_neg (by omega)]; simp
  rw [hC]
  clear h hN hb hC
  by_cases h0 : lp.length = 0
  · rw [if_pos (.inl h0)]
    rw [show decide (0 < lp.length) = false from decide_eq_false (by omega)] at HE
    clear h0
    go_enter Tryd.func17, Tryd.ntmps17
    go_wp2_with (first
      | (go_at_call 24; refine (HG.out _).mono ?_; rintro e w1 ⟨rfl, rfl⟩)
      | (go_at_call 26; refine (HE.out _).mono ?_; rintro e w1 ⟨rfl, hk⟩; have hkw : Kept [] w w1 := Kept.trans (F := []) (G := []) (H := []) (((Kept.refl [] w).alloc _).alloc _) hk (by simp) (by simp); have HK : Hid (Kept [] w w1) := hkw; have h2 := hk.at HN.out.1 (by simp); have c0 : w1.cell? ⟨w.heap.size, 0, none⟩ = some (.slice ast st.length cs) := (cell_of h2 0).trans rfl; have c1 : w1.cell? ⟨w.heap.size, 1, none⟩ = some (.slice al lp.length cl) := (cell_of h2 1).trans rfl; have h3 := hk.at HN.out.2 (by simp); have HP : Hid (w1.cell? ⟨w.heap.size + 1, 0, none⟩ = some (.int .i64 (p : Nat))) := (cell_of h3 0).trans rfl; clear hk hkw h2 h3)
      | (go_at_call 27; refine (HS.out _ HK.out HP.out).mono ?_; rintro e w2 ⟨rfl, hw2⟩; subst hw2; clear HS)
      | (go_at_call 27; refine (HL.out _ HK.out HP.out).mono ?_; rintro e w2 ⟨rfl, hw2⟩; subst hw2))
    go_ret
    exact ⟨rfl, HK.out⟩
  · rw [show decide (0 < lp.length) = true from decide_eq_true (by omega)] at HE
    by_cases h1 : anyGreat p st = true
    · rw [if_pos (.inr (.inl h1))]
      rw [h1] at HS
      clear h1
      go_enter Tryd.func17, Tryd.ntmps17
      go_wp2_with (first
        | (go_at_call 24; refine (HG.out _).mono ?_; rintro e w1 ⟨rfl, rfl⟩)
        | (go_at_call 26; refine (HE.out _).mono ?_; rintro e w1 ⟨rfl, hk⟩; have hkw : Kept [] w w1 := Kept.trans (F := []) (G := []) (H := []) (((Kept.refl [] w).alloc _).alloc _) hk (by simp) (by simp); have HK : Hid (Kept [] w w1) := hkw; have h2 := hk.at HN.out.1 (by simp); have c0 : w1.cell? ⟨w.heap.size, 0, none⟩ = some (.slice ast st.length cs) := (cell_of h2 0).trans rfl; have c1 : w1.cell? ⟨w.heap.size, 1, none⟩ = some (.slice al lp.length cl) := (cell_of h2 1).trans rfl; have h3 := hk.at HN.out.2 (by simp); have HP : Hid (w1.cell? ⟨w.heap.size + 1, 0, none⟩ = some (.int .i64 (p : Nat))) := (cell_of h3 0).trans rfl; clear hk hkw h2 h3)
        | (go_at_call 27; refine (HS.out _ HK.out HP.out).mono ?_; rintro e w2 ⟨rfl, hw2⟩; subst hw2; clear HS)
        | (go_at_call 27; refine (HL.out _ HK.out HP.out).mono ?_; rintro e w2 ⟨rfl, hw2⟩; subst hw2))
      go_ret
      exact ⟨rfl, HK.out⟩
    · rw [Bool.not_eq_true] at h1
      rw [h1] at HS
      by_cases h2 : anyGreat p lp = true
      · rw [if_pos (.inr (.inr h2))]
        rw [h2] at HL
        clear h1 h2
        go_enter Tryd.func17, Tryd.ntmps17
        go_wp2_with (first
          | (go_at_call 24; refine (HG.out _).mono ?_; rintro e w1 ⟨rfl, rfl⟩)
          | (go_at_call 26; refine (HE.out _).mono ?_; rintro e w1 ⟨rfl, hk⟩; have hkw : Kept [] w w1 := Kept.trans (F := []) (G := []) (H := []) (((Kept.refl [] w).alloc _).alloc _) hk (by simp) (by simp); have HK : Hid (Kept [] w w1) := hkw; have h2 := hk.at HN.out.1 (by simp); have c0 : w1.cell? ⟨w.heap.size, 0, none⟩ = some (.slice ast st.length cs) := (cell_of h2 0).trans rfl; have c1 : w1.cell? ⟨w.heap.size, 1, none⟩ = some (.slice al lp.length cl) := (cell_of h2 1).trans rfl; have h3 := hk.at HN.out.2 (by simp); have HP : Hid (w1.cell? ⟨w.heap.size + 1, 0, none⟩ = some (.int .i64 (p : Nat))) := (cell_of h3 0).trans rfl; clear hk hkw h2 h3)
          | (go_at_call 27; refine (HS.out _ HK.out HP.out).mono ?_; rintro e w2 ⟨rfl, hw2⟩; subst hw2; clear HS)
          | (go_at_call 27; refine (HL.out _ HK.out HP.out).mono ?_; rintro e w2 ⟨rfl, hw2⟩; subst hw2))
        go_ret
        exact ⟨rfl, HK.out⟩
      · rw [if_neg (by rw [h1]; simp [h0, h2])]
        rw [Bool.not_eq_true] at h2
        rw [h2] at HL
        clear h1 h2
        go_enter Tryd.func17, Tryd.ntmps17
        go_wp2_with (first
          | (go_at_call 24; refine (HG.out _).mono ?_; rintro e w1 ⟨rfl, rfl⟩)
          | (go_at_call 26; refine (HE.out _).mono ?_; rintro e w1 ⟨rfl, hk⟩; have hkw : Kept [] w w1 := Kept.trans (F := []) (G := []) (H := []) (((Kept.refl [] w).alloc _).alloc _) hk (by simp) (by simp); have HK : Hid (Kept [] w w1) := hkw; have h2 := hk.at HN.out.1 (by simp); have c0 : w1.cell? ⟨w.heap.size, 0, none⟩ = some (.slice ast st.length cs) := (cell_of h2 0).trans rfl; have c1 : w1.cell? ⟨w.heap.size, 1, none⟩ = some (.slice al lp.length cl) := (cell_of h2 1).trans rfl; have h3 := hk.at HN.out.2 (by simp); have HP : Hid (w1.cell? ⟨w.heap.size + 1, 0, none⟩ = some (.int .i64 (p : Nat))) := (cell_of h3 0).trans rfl; clear hk hkw h2 h3)
          | (go_at_call 27; refine (HS.out _ HK.out HP.out).mono ?_; rintro e w2 ⟨rfl, hw2⟩; subst hw2; clear HS)
          | (go_at_call 27; refine (HL.out _ HK.out HP.out).mono ?_; rintro e w2 ⟨rfl, hw2⟩; subst hw2))
        go_ret
        exact ⟨rfl, HK.out⟩
end Go.Proofs.YtepooofiadlceaaDoor
