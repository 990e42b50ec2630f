/- The reader: word; words.Read. -/
import Derived.Test.YtamfnefnaelgfaaDoorWdLets
namespace Go.Proofs.YtamfnefnaelgfaaDoor
open Go.RowKit
attribute [local go_sem ↓] Go.wp_at_zero Go.wp_at_succ

/-- What word answers. -/
def WordEnds (w : World) (R : Nat) (s : ByteArray) (e : Ending) (w' : World) : Prop :=
  ∃ a1 n1 c1 a2 n2 c2, e = .returned (.tuple #[.agg #[.slice a1 n1 c1, .slice a2 n2 c2], .bool (wordF (rest s 0)).1.isSome]) ∧ Kept [R] w w' ∧ Rd w' R s (wordF (rest s 0)).2 ∧ ∀ q, (wordF (rest s 0)).1 = some q → NewW w.heap.size w' (.slice a1 n1 c1) (.slice a2 n2 c2) q
theorem results_word {fn : Func} {p u : Tmp} (h : fn.results = #[.cell p 47, .tmp u]) (tmps : Array Value) (w : World) (g : Nat) (x y : Value) (hp : tmps.getD p undef = .pointer (some ⟨g, 0, none⟩)) (hg : Wd2 w g x y) :
    (results fn tmps).run Tryd.prog w = .ok (.tuple #[.agg #[x, y], tmps.getD u undef]) w := by
  have hp' : tmps[p]?.getD undef = .pointer (some ⟨g, 0, none⟩) := by simpa using hp
  have hl := run_loadVar_row (P := Tryd.prog) w g 47 47 #[x, y] _ _ hg Tryd.underlying47 rfl (by kernel_rfl)
  simp [results, h, hp', asAddr, hl]
theorem ret_word2 {fn : Func} {p u : Tmp} {a : Act} {w : World} {g : Nat} {x y v : Value} {R : Ending → World → Prop} (h : fn.results = #[.cell p 47, .tmp u]) (hp : a.tmps.getD p undef = .pointer (some ⟨g, 0, none⟩)) (hv : a.tmps.getD u undef = v) (hd : a.defers = []) (hg : Wd2 w g x y) (hR : R (.returned (.tuple #[.agg #[x, y], v])) w) : bodyPost Tryd.prog fn R .ret a w :=
  bodyPost_ret (results_word h _ w g _ _ hp hg) hd (by rw [hv]; exact hR)
/-- What letters answers, as the walk wants it. -/
theorem letters_at (R k : Nat) (s : ByteArray) (w : World) (h : Rd w R s k) (hk : k ≤ s.size) (hs : s.size ≤ 65536) (xs : List Nat) (n : Nat) (he : lettersOf (rest s k) = (xs, n)) :
    Calls Tryd.prog 60 #[.pointer (some ⟨R, 0, none⟩)] w fun e w' => ∃ ad c, e = .returned (.slice ad xs.length c) ∧ Hid (w'.ownsRow w.heap.size 51 1 (.slice ad xs.length c) xs.length (u16s xs)) ∧ Hid (Kept [R] w w') ∧ Hid (Rd w' R s (k + n)) ∧ Hid ((∀ x ∈ xs, x < 65536) ∧ xs.length ≤ s.size ∧ k + n ≤ s.size) := by
  refine (letters_any R k s w h hk hs).mono ?_
  rintro e w' ⟨v, rfl, h1, h2, h3, h4, h5, h6⟩
  rw [he] at h1 h2 h3 h5 h6
  obtain ⟨ad, c, hv⟩ := own_form h1
  simp only at hv h1 h2 h3 h5 h6
  subst hv
  exact ⟨ad, c, rfl, h1, h4, h5, h2, h3, h6⟩
theorem take_yes (R k : Nat) (s : ByteArray) (c : UInt8) (w : World) (h : Rd w R s k) (hk : k ≤ s.size) (hs : s.size ≤ 65536) (hq : headIs (rest s k) c = true) :
    Calls Tryd.prog 61 #[.pointer (some ⟨R, 0, none⟩), .int .u8 (c.toNat : Nat)] w fun e w' => e = .returned (.bool true) ∧ Hid (Kept [R] w w') ∧ Hid (Rd w' R s (k + 1)) ∧ Hid (k + 1 ≤ s.size) := by
  have hlt : k < s.size := by
    rcases Nat.lt_or_ge k s.size with hlt | hge
    · exact hlt
    · rw [rest_end hge] at hq; cases hq
  refine (take_any R k s c w h hk hs).mono ?_
  rintro e w' ⟨rfl, h1, h2⟩
  unfold tookN at h2
  rw [hq, if_pos rfl] at h2
  exact ⟨by rw [hq], h1, h2, by show k + 1 ≤ _; omega⟩
theorem take_no (R k : Nat) (s : ByteArray) (c : UInt8) (w : World) (h : Rd w R s k) (hk : k ≤ s.size) (hs : s.size ≤ 65536) (hq : headIs (rest s k) c = false) :
    Calls Tryd.prog 61 #[.pointer (some ⟨R, 0, none⟩), .int .u8 (c.toNat : Nat)] w fun e w' => e = .returned (.bool false) ∧ Hid (Kept [R] w w') ∧ Hid (Rd w' R s k) := by
  refine (take_any R k s c w h hk hs).mono ?_
  rintro e w' ⟨rfl, h1, h2⟩
  unfold tookN at h2
  rw [hq, if_neg (by simp)] at h2
  exact ⟨by rw [hq], h1, h2⟩
/-- What is stored into the result's block, and what it leaves. -/
theorem word_mem {w V W : World} {R n : Nat} {s : ByteArray} (kV : Kept [] w V) (hZ : Wd2 V w.heap.size (.slice none 0 0) (.slice none 0 0)) (hR : R < w.heap.size) (k : Kept [R] V W) (r : Rd W R s n) (x y : Value) :
    Kept [R] w ((W.setCell ⟨w.heap.size, 0, none⟩ x).setCell ⟨w.heap.size, 1, none⟩ y) ∧ Rd ((W.setCell ⟨w.heap.size, 0, none⟩ x).setCell ⟨w.heap.size, 1, none⟩ y) R s n ∧ Wd2 ((W.setCell ⟨w.heap.size, 0, none⟩ x).setCell ⟨w.heap.size, 1, none⟩ y) w.heap.size x y := by
  have kw : Kept [R] w W := (kV.mono (by simp)).trans k (fun _ h => h) (fun _ h => .inl h)
  refine ⟨(kw.setCell (.inr (Nat.le_refl _)) _).setCell (.inr (Nat.le_refl _)) _, ?_, (hZ.keptF k (by simp; omega)).set x y⟩
  exact Kept.at (F := [w.heap.size]) (((Kept.refl _ W).setCell (.inl (by simp)) _).setCell (.inl (by simp)) _) r (by simp; omega)
theorem word_bad {w V W : World} {R n : Nat} {s : ByteArray} (kV : Kept [] w V) (hZ : Wd2 V w.heap.size (.slice none 0 0) (.slice none 0 0)) (hR : R < w.heap.size) (k : Kept [R] V W) (r : Rd W R s n) (he : wordF (rest s 0) = (none, n)) (a1 a2 : Option Addr) (n1 c1 n2 c2 : Nat) :
    WordEnds w R s (.returned (.tuple #[.agg #[.slice a1 n1 c1, .slice a2 n2 c2], .bool false])) ((W.setCell ⟨w.heap.size, 0, none⟩ (.slice a1 n1 c1)).setCell ⟨w.heap.size, 1, none⟩ (.slice a2 n2 c2)) ∧ Wd2 ((W.setCell ⟨w.heap.size, 0, none⟩ (.slice a1 n1 c1)).setCell ⟨w.heap.size, 1, none⟩ (.slice a2 n2 c2)) w.heap.size (.slice a1 n1 c1) (.slice a2 n2 c2) := by
  obtain ⟨h1, h2, h3⟩ := word_mem kV hZ hR k r (.slice a1 n1 c1) (.slice a2 n2 c2)
  refine ⟨⟨a1, n1, c1, a2, n2, c2, by rw [he]; rfl, h1, by rw [he]; exact h2, fun q hq => by rw [he] at hq; cases hq⟩, h3⟩
theorem word_good {w V w1 w3 W : World} {R n : Nat} {s : ByteArray} {xs ys : List Nat} (kV : Kept [] w V) (hZ : Wd2 V w.heap.size (.slice none 0 0) (.slice none 0 0)) (hR : R < w.heap.size) (r : Rd W R s n) (he : wordF (rest s 0) = (some ⟨xs, ys⟩, n)) {a1 a2 : Option Addr} {n1 c1 n2 c2 : Nat} {w2 : World}
    (o1 : w1.ownsRow V.heap.size 51 1 (.slice a1 n1 c1) xs.length (u16s xs)) (k1 : Kept [R] V w1) (k2 : Kept [R] w1 w2) (o2 : w3.ownsRow w2.heap.size 51 1 (.slice a2 n2 c2) ys.length (u16s ys)) (k3 : Kept [R] w2 w3) (k4 : Kept [R] w3 W)
    (s1 : ∀ x ∈ xs, x < 65536) (s2 : ∀ x ∈ ys, x < 65536) (f1 : xs.length ≤ 65536) (f2 : ys.length ≤ 65536) :
    WordEnds w R s (.returned (.tuple #[.agg #[.slice a1 n1 c1, .slice a2 n2 c2], .bool true])) ((W.setCell ⟨w.heap.size, 0, none⟩ (.slice a1 n1 c1)).setCell ⟨w.heap.size, 1, none⟩ (.slice a2 n2 c2)) ∧ Wd2 ((W.setCell ⟨w.heap.size, 0, none⟩ (.slice a1 n1 c1)).setCell ⟨w.heap.size, 1, none⟩ (.slice a2 n2 c2)) w.heap.size (.slice a1 n1 c1) (.slice a2 n2 c2) := by
  have kVW : Kept [R] V W := kept_same (kept_same (kept_same k1 k2) k3) k4
  obtain ⟨h1, h2, h3⟩ := word_mem kV hZ hR kVW r (.slice a1 n1 c1) (.slice a2 n2 c2)
  have hzV : w.heap.size < V.heap.size := lt_of hZ
  have h12 := kept_same k1 k2
  refine ⟨⟨a1, n1, c1, a2, n2, c2, by rw [he]; rfl, h1, by rw [he]; exact h2, fun q hq => ?_⟩, h3⟩
  rw [he] at hq
  cases hq
  have hF : ∀ x ∈ [R, w.heap.size], x < V.heap.size := by intro x hx; simp at hx; omega
  have kF : Kept [R, w.heap.size] w1 ((W.setCell ⟨w.heap.size, 0, none⟩ (.slice a1 n1 c1)).setCell ⟨w.heap.size, 1, none⟩ (.slice a2 n2 c2)) := (((kept_same (kept_same k2 k3) k4).mono (G := [R, w.heap.size]) (by simp)).setCell (.inl (by simp)) _).setCell (.inl (by simp)) _
  have kF3 : Kept [R, w.heap.size] w3 ((W.setCell ⟨w.heap.size, 0, none⟩ (.slice a1 n1 c1)).setCell ⟨w.heap.size, 1, none⟩ (.slice a2 n2 c2)) := ((k4.mono (G := [R, w.heap.size]) (by simp)).setCell (.inl (by simp)) _).setCell (.inl (by simp)) _
  have hsz := h12.size
  refine ⟨owns_low (owns_keptF o1 kF (fun g e hg => by have := own_base o1 e; have := hF g hg; omega)) (by omega), owns_low (owns_keptF o2 kF3 (fun g e hg => by have := own_base o2 e; have := hF g hg; omega)) (by omega), fun g e e2 => ?_, s1, s2, by show xs.length ≤ _; omega, by show ys.length ≤ _; omega⟩
  have q1 := owns_lt o1 e
  have q2 := own_base o2 e2
  have q3 := k2.size
  omega
theorem rd_cells {W W' : World} {R Z p : Nat} {s : ByteArray} (h : Rd W R s p) (k : Kept [Z] W W') (hne : R ≠ Z) : W'.cell? ⟨R, 0, none⟩ = some (.string s) ∧ W'.cell? ⟨R, 1, none⟩ = some (.int .i64 (p : Nat)) :=
  have h' := Rd.cells (k.at h (by simp; exact hne))
  ⟨h'.1, h'.2.1⟩
set_option maxHeartbeats 4000000 in
theorem word_any (R : Nat) (s : ByteArray) (w : World) (h : Rd w R s 0) (hs : s.size ≤ 65536) :
    Calls Tryd.prog 46 #[.pointer (some ⟨R, 0, none⟩)] w (WordEnds w R s) := by
  have hRl : R < w.heap.size := lt_of h
  obtain ⟨xs, n1, ha⟩ : ∃ xs n, lettersOf (rest s 0) = (xs, n) := ⟨_, _, rfl⟩
  obtain ⟨V, hV⟩ : ∃ V, w.alloc (.cells #[.slice none 0 0, .slice none 0 0] 47) = V := ⟨_, rfl⟩
  have kV : Kept [] w V := by rw [← hV]; exact (Kept.refl [] w).alloc _
  have zV : V.heap.size = w.heap.size + 1 := by rw [← hV]; simp
  have hZ : Wd2 V w.heap.size (.slice none 0 0) (.slice none 0 0) := by rw [← hV]; exact heap_alloc_new w _
  have H1 : Hid (Calls Tryd.prog 60 #[.pointer (some ⟨R, 0, none⟩)] V fun e w' => ∃ ad c, e = .returned (.slice ad xs.length c) ∧ Hid (w'.ownsRow V.heap.size 51 1 (.slice ad xs.length c) xs.length (u16s xs)) ∧ Hid (Kept [R] V w') ∧ Hid (Rd w' R s n1) ∧ Hid ((∀ x ∈ xs, x < 65536) ∧ xs.length ≤ s.size ∧ n1 ≤ s.size)) := by
    have := letters_at R 0 s V (h.kept kV) (Nat.zero_le _) hs xs n1 ha
    rw [Nat.zero_add] at this
    exact this
  have HKV : Hid (Kept [] w V) := kV
  have HZ : Hid (Wd2 V w.heap.size (.slice none 0 0) (.slice none 0 0)) := hZ
  have HV : Hid _ := hV
  have HZV : Hid (V.heap.size = w.heap.size + 1) := zV
  have hdr : (rest s 0).drop n1 = rest s n1 := by rw [rest_drop, Nat.zero_add]
  clear h kV hZ hV zV
  cases hq1 : headIs (rest s n1) 40 with
  | false =>
    have HE : Hid (wordF (rest s 0) = (none, n1)) := by
      show _ = _
      unfold wordF
      rw [ha]
      simp only
      rw [hdr, if_neg (by rw [hq1]; simp)]
    have H2 : Hid (∀ W, Rd W R s n1 → n1 ≤ s.size → Calls Tryd.prog 61 #[.pointer (some ⟨R, 0, none⟩), .int .u8 40] W fun e w' => e = .returned (.bool false) ∧ Hid (Kept [R] W w') ∧ Hid (Rd w' R s n1)) := fun W hr ht => take_no R n1 s 40 W hr ht hs hq1
    clear hq1 hdr ha
    go_enter Tryd.func46, Tryd.ntmps46
    go_wp2_with (first | (go_at_call 60; rw [HV.out]; refine H1.out.mono ?_; rintro e w1 ⟨a1, c1, rfl, HO1, HK1, HR1, HS1⟩) | (go_at_call 61; refine (H2.out _ HR1.out HS1.out.2.2).mono ?_; rintro e w2 ⟨rfl, HK2, HR2⟩; obtain ⟨z0, z1, z2, z3⟩ := (HZ.out.keptF (kept_same HK1.out HK2.out) (by simp; omega)).cells))
    obtain ⟨q1, q2⟩ := word_bad HKV.out HZ.out hRl (kept_same HK1.out HK2.out) HR2.out HE.out none none 0 0 0 0
    exact ret_word2 rfl rfl rfl rfl q2 q1
  | true =>
    obtain ⟨ys, n2, hb⟩ : ∃ ys n, lettersOf (rest s (n1 + 1)) = (ys, n) := ⟨_, _, rfl⟩
    obtain ⟨p2, hp2⟩ : ∃ p2, n1 + 1 + n2 = p2 := ⟨_, rfl⟩
    have hdr2 : (rest s n1).drop 1 = rest s (n1 + 1) := by rw [rest_drop]
    have hdr3 : (rest s (n1 + 1)).drop n2 = rest s p2 := by rw [rest_drop, hp2]
    have H2 : Hid (∀ W, Rd W R s n1 → n1 ≤ s.size → Calls Tryd.prog 61 #[.pointer (some ⟨R, 0, none⟩), .int .u8 40] W fun e w' => e = .returned (.bool true) ∧ Hid (Kept [R] W w') ∧ Hid (Rd w' R s (n1 + 1)) ∧ Hid (n1 + 1 ≤ s.size)) := fun W hr ht => take_yes R n1 s 40 W hr ht hs hq1
    have H3 : Hid (∀ W, Rd W R s (n1 + 1) → n1 + 1 ≤ s.size → Calls Tryd.prog 60 #[.pointer (some ⟨R, 0, none⟩)] W fun e w' => ∃ ad c, e = .returned (.slice ad ys.length c) ∧ Hid (w'.ownsRow W.heap.size 51 1 (.slice ad ys.length c) ys.length (u16s ys)) ∧ Hid (Kept [R] W w') ∧ Hid (Rd w' R s p2) ∧ Hid ((∀ x ∈ ys, x < 65536) ∧ ys.length ≤ s.size ∧ p2 ≤ s.size)) := fun W hr ht => by
      have := letters_at R (n1 + 1) s W hr ht hs ys n2 hb
      rw [hp2] at this
      exact this
    by_cases h0 : ys = []
    · have HE : Hid (wordF (rest s 0) = (none, p2)) := by
        show _ = _
        unfold wordF
        rw [ha]
        simp only
        rw [hdr, if_pos hq1, hdr2, hb]
        simp only
        rw [if_pos h0, hp2]
      subst h0
      clear hq1 hdr ha hdr2 hdr3 hb hp2
      simp only [List.length_nil] at H3
      go_enter Tryd.func46, Tryd.ntmps46
      go_wp2_with (first | (go_at_call 60; rw [HV.out]; refine H1.out.mono ?_; rintro e w1 ⟨a1, c1, rfl, HO1, HK1, HR1, HS1⟩; clear H1) | (go_at_call 61; refine (H2.out _ HR1.out HS1.out.2.2).mono ?_; rintro e w2 ⟨rfl, HK2, HR2, HT2⟩; clear H2) | (go_at_call 60; refine (H3.out _ HR2.out HT2.out).mono ?_; rintro e w3 ⟨a3, c3, rfl, HO3, HK3, HR3, HS3⟩; obtain ⟨z0, z1, z2, z3⟩ := (HZ.out.keptF (kept_same (kept_same HK1.out HK2.out) HK3.out) (by simp; omega)).cells; clear H3))
      obtain ⟨q1, q2⟩ := word_bad HKV.out HZ.out hRl (kept_same (kept_same HK1.out HK2.out) HK3.out) HR3.out HE.out none none 0 0 0 0
      exact ret_word2 rfl rfl rfl rfl q2 q1
    · have hy0 : 0 < ys.length := by
        rcases Nat.eq_zero_or_pos ys.length with e | e
        · exact absurd (List.length_eq_zero_iff.1 e) h0
        · exact e
      have hyi : ((ys.length : Int) == 0) = false := by simp; exact h0
      cases hq2 : headIs (rest s p2) 41 with
      | false =>
        have HE : Hid (wordF (rest s 0) = (none, p2)) := by
          show _ = _
          unfold wordF
          rw [ha]
          simp only
          rw [hdr, if_pos hq1, hdr2, hb]
          simp only
          rw [if_neg h0, hdr3, if_neg (by rw [hq2]; simp), hp2]
        have H4 : Hid (∀ W, Rd W R s p2 → p2 ≤ s.size → Calls Tryd.prog 61 #[.pointer (some ⟨R, 0, none⟩), .int .u8 41] W fun e w' => e = .returned (.bool false) ∧ Hid (Kept [R] W w') ∧ Hid (Rd w' R s p2)) := fun W hr ht => take_no R p2 s 41 W hr ht hs hq2
        clear hq1 hdr ha hdr2 hdr3 hb hp2 hq2 h0
        go_enter Tryd.func46, Tryd.ntmps46
        go_wp2_with (first | (go_at_call 60; rw [HV.out]; refine H1.out.mono ?_; rintro e w1 ⟨a1, c1, rfl, HO1, HK1, HR1, HS1⟩; clear H1) | (go_at_call 61; refine (H2.out _ HR1.out HS1.out.2.2).mono ?_; rintro e w2 ⟨rfl, HK2, HR2, HT2⟩; clear H2) | (go_at_call 60; refine (H3.out _ HR2.out HT2.out).mono ?_; rintro e w3 ⟨a3, c3, rfl, HO3, HK3, HR3, HS3⟩; clear H3) | (go_at_call 61; refine (H4.out _ HR3.out HS3.out.2.2).mono ?_; rintro e w4 ⟨rfl, HK4, HR4⟩; obtain ⟨z0, z1, z2, z3⟩ := (HZ.out.keptF (kept_same (kept_same (kept_same HK1.out HK2.out) HK3.out) HK4.out) (by simp; omega)).cells))
        obtain ⟨q1, q2⟩ := word_bad HKV.out HZ.out hRl (kept_same (kept_same (kept_same HK1.out HK2.out) HK3.out) HK4.out) HR4.out HE.out none none 0 0 0 0
        exact ret_word2 rfl rfl rfl rfl q2 q1
      | true =>
        obtain ⟨p3, hp3⟩ : ∃ p3, p2 + 1 + blanksN (rest s (p2 + 1)) = p3 := ⟨_, rfl⟩
        have hdr4 : (rest s p2).drop 1 = rest s (p2 + 1) := by rw [rest_drop]
        have hW : wordF (rest s 0) = (if p3 = s.size then some ⟨xs, ys⟩ else none, p3) := by
          unfold wordF
          rw [ha]
          simp only
          rw [hdr, if_pos hq1, hdr2, hb]
          simp only
          rw [if_neg h0, hdr3, if_pos hq2, hdr4, hp2, hp3, rest_len, Nat.sub_zero]
        have H4 : Hid (∀ W, Rd W R s p2 → p2 ≤ s.size → Calls Tryd.prog 61 #[.pointer (some ⟨R, 0, none⟩), .int .u8 41] W fun e w' => e = .returned (.bool true) ∧ Hid (Kept [R] W w') ∧ Hid (Rd w' R s (p2 + 1)) ∧ Hid (p2 + 1 ≤ s.size)) := fun W hr ht => take_yes R p2 s 41 W hr ht hs hq2
        have H5 : Hid (∀ W, Rd W R s (p2 + 1) → p2 + 1 ≤ s.size → Calls Tryd.prog 62 #[.pointer (some ⟨R, 0, none⟩)] W fun e w' => e = .returned (.tuple #[]) ∧ Hid (Kept [R] W w') ∧ Hid (Rd w' R s p3)) := fun W hr ht => (blanks_any R (p2 + 1) s W hr ht hs).mono fun e w' ⟨h1, h2, h3⟩ => ⟨h1, h2, by rw [hp3] at h3; exact h3⟩
        have hne : R ≠ w.heap.size := by omega
        clear hq1 hdr ha hdr2 hdr3 hb hp2 hq2 h0 hdr4 hp3
        by_cases h9 : p3 = s.size
        · rw [if_pos h9] at hW
          have HE : Hid (wordF (rest s 0) = (some ⟨xs, ys⟩, p3)) := hW
          have e9 : ((p3 : Int) == (s.size : Int)) = true := by simp; omega
          clear hW h9
          go_enter Tryd.func46, Tryd.ntmps46
          go_wp2_with (first | (go_at_call 60; rw [HV.out]; refine H1.out.mono ?_; rintro e w1 ⟨a1, c1, rfl, HO1, HK1, HR1, HS1⟩; clear H1) | (go_at_call 61; refine (H2.out _ HR1.out HS1.out.2.2).mono ?_; rintro e w2 ⟨rfl, HK2, HR2, HT2⟩; clear H2) | (go_at_call 60; refine (H3.out _ HR2.out HT2.out).mono ?_; rintro e w3 ⟨a3, c3, rfl, HO3, HK3, HR3, HS3⟩; clear H3) | (go_at_call 61; refine (H4.out _ HR3.out HS3.out.2.2).mono ?_; rintro e w4 ⟨rfl, HK4, HR4, HT4⟩; clear H4) | (go_at_call 62; refine (H5.out _ HR4.out HT4.out).mono ?_; rintro e w5 ⟨rfl, HK5, HR5⟩; obtain ⟨z0, z1, z2, z3⟩ := (HZ.out.keptF (kept_same (kept_same (kept_same (kept_same HK1.out HK2.out) HK3.out) HK4.out) HK5.out) (by simp; omega)).cells; obtain ⟨y0, y1, _⟩ := HR5.out.cells))
          go_region_held3 (fun w' => w'.cell? ⟨R, 0, none⟩ = some (.string s) ∧ w'.cell? ⟨R, 1, none⟩ = some (.int .i64 (p3 : Nat)))
            ((refine rd_cells (Z := w.heap.size) HR5.out ?_ hne; (repeat (first | exact Kept.refl _ _ | refine Kept.drew ?_ | refine Kept.alloc ?_ _ | refine Kept.setCell ?_ (Or.inl (by simp)) _))))
            (fail)
          go_wp2
          obtain ⟨q1, q2⟩ := word_good HKV.out HZ.out hRl (HR5.out.kept ((Kept.refl [] w5).drew)) HE.out HO1.out HK1.out HK2.out HO3.out HK3.out (kept_same HK4.out (HK5.out.drew)) HS1.out.1 HS3.out.1 (by have := HS1.out.2.1; omega) (by have := HS3.out.2.1; omega)
          exact ret_word2 rfl rfl rfl rfl q2 q1
        · rw [if_neg h9] at hW
          have HE : Hid (wordF (rest s 0) = (none, p3)) := hW
          have e9 : ((p3 : Int) == (s.size : Int)) = false := by simp; omega
          clear hW h9
          go_enter Tryd.func46, Tryd.ntmps46
          go_wp2_with (first | (go_at_call 60; rw [HV.out]; refine H1.out.mono ?_; rintro e w1 ⟨a1, c1, rfl, HO1, HK1, HR1, HS1⟩; clear H1) | (go_at_call 61; refine (H2.out _ HR1.out HS1.out.2.2).mono ?_; rintro e w2 ⟨rfl, HK2, HR2, HT2⟩; clear H2) | (go_at_call 60; refine (H3.out _ HR2.out HT2.out).mono ?_; rintro e w3 ⟨a3, c3, rfl, HO3, HK3, HR3, HS3⟩; clear H3) | (go_at_call 61; refine (H4.out _ HR3.out HS3.out.2.2).mono ?_; rintro e w4 ⟨rfl, HK4, HR4, HT4⟩; clear H4) | (go_at_call 62; refine (H5.out _ HR4.out HT4.out).mono ?_; rintro e w5 ⟨rfl, HK5, HR5⟩; obtain ⟨z0, z1, z2, z3⟩ := (HZ.out.keptF (kept_same (kept_same (kept_same (kept_same HK1.out HK2.out) HK3.out) HK4.out) HK5.out) (by simp; omega)).cells; obtain ⟨y0, y1, _⟩ := HR5.out.cells))
          go_region_held3 (fun w' => w'.cell? ⟨R, 0, none⟩ = some (.string s) ∧ w'.cell? ⟨R, 1, none⟩ = some (.int .i64 (p3 : Nat)))
            ((refine rd_cells (Z := w.heap.size) HR5.out ?_ hne; (repeat (first | exact Kept.refl _ _ | refine Kept.drew ?_ | refine Kept.alloc ?_ _ | refine Kept.setCell ?_ (Or.inl (by simp)) _))))
            (fail)
          go_wp2
          obtain ⟨q1, q2⟩ := word_bad HKV.out HZ.out hRl (kept_same (kept_same (kept_same (kept_same HK1.out HK2.out) HK3.out) HK4.out) (HK5.out.drew)) (HR5.out.kept ((Kept.refl [] w5).drew)) HE.out a1 a3 xs.length c1 ys.length c3
          exact ret_word2 rfl rfl rfl rfl q2 q1
end Go.Proofs.YtamfnefnaelgfaaDoor
