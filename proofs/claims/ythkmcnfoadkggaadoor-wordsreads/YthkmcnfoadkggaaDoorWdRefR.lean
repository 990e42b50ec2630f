/- The document's Read: augurref05.Read. -/
import Derived.Test.YthkmcnfoadkggaaDoorWdRefL
import Derived.Test.YthkmcnfoadkggaaDoorWdRead
namespace Go.Proofs.YthkmcnfoadkggaaDoor
open Go.RowKit
attribute [local go_sem ↓] Go.wp_at_zero Go.wp_at_succ

theorem lettersF_le : ∀ (n : Nat) (t : List UInt8), (lettersF n t).2 ≤ t.length := by
  intro n
  induction n with
  | zero => intro t; simp [lettersF]
  | succ n ih =>
    intro t
    have h1 := blanksN_le t
    have h2 := letterN_le (t.drop (blanksN t)) 0 true
    have h3 := ih ((t.drop (blanksN t)).drop (letterN 0 true (t.drop (blanksN t))).2)
    rw [List.length_drop] at h2
    rw [List.length_drop, List.length_drop] at h3
    simp only [lettersF]
    split
    · split
      · simp only; omega
      · simp only; omega
    · exact h1
theorem letters_end {s : ByteArray} {k n : Nat} {xs : List Nat} (hk : k ≤ s.size) (ha : lettersOf (rest s k) = (xs, n)) : k + n ≤ s.size := by
  have h := lettersF_le ((rest s k).length + 1) (rest s k)
  have e : lettersF ((rest s k).length + 1) (rest s k) = (xs, n) := ha
  rw [e, rest_len] at h
  have h' : n ≤ s.size - k := h
  omega
theorem dig_not {s : ByteArray} {p : Nat} {c : UInt8} (h : headDig (rest s p) = true) (hc : isDig c = false) : headIs (rest s p) c = false := by
  cases hr : rest s p with
  | nil => rfl
  | cons b r =>
    rw [hr] at h
    show decide (b = c) = false
    simp
    rintro rfl
    have h' : isDig b = true := h
    rw [hc] at h'
    cases h'
theorem is_not_dig {s : ByteArray} {p : Nat} {c : UInt8} (h : headIs (rest s p) c = true) (hc : isDig c = false) : headDig (rest s p) = false := by
  cases hd : headDig (rest s p) with
  | false => rfl
  | true => rw [dig_not hd hc] at h; cases h
theorem is_char {s : ByteArray} {p : Nat} {c : UInt8} (h : headIs (rest s p) c = true) : ∃ hl : p < s.size, (s[p]'hl).toNat = c.toNat := by
  rcases Nat.lt_or_ge p s.size with hl | hl
  · refine ⟨hl, ?_⟩
    rw [rest_cons hl] at h
    have : s[p] = c := by simpa [headIs] using h
    rw [this]
  · rw [rest_end hl] at h; cases h
theorem not_char {s : ByteArray} {p : Nat} {c : UInt8} (h : headIs (rest s p) c = false) (hl : p < s.size) : (s[p]'hl).toNat ≠ c.toNat := by
  rw [rest_cons hl] at h
  have h' : s[p] ≠ c := by simpa [headIs] using h
  exact fun e => h' (UInt8.toNat_inj.1 e)
theorem Wd2.set0 {W : World} {B : Nat} {a b : Value} (h : Wd2 W B a b) (a' : Value) : Wd2 (W.setCell ⟨B, 0, none⟩ a') B a' b := by unfold Wd2; rw [row_set h]; rfl
theorem Wd2.set1 {W : World} {B : Nat} {a b : Value} (h : Wd2 W B a b) (b' : Value) : Wd2 (W.setCell ⟨B, 1, none⟩ b') B a b' := by unfold Wd2; rw [row_set h]; rfl
theorem readF_short {s : ByteArray} (hs : s.size ≤ 65536) {o : Option Wd} {n : Nat} (h : wordF (rest s 0) = (o, n)) : readF s.data.toList = (o, if o.isSome then 0 else n) := by
  unfold readF
  rw [if_neg (by simp; omega), show s.data.toList = rest s 0 from rfl, h]
  cases o <;> rfl
set_option maxHeartbeats 400000 in
theorem refRead_long (s : ByteArray) (w : World) (hs : 65536 < s.size) :
    Calls Tryd.prog 40 #[.string s] w (ReadEnds w s.data.toList) := by
  have hF : readF s.data.toList = (none, 65536) := by unfold readF; rw [if_pos (by simpa using hs)]
  have HF : Hid (readF s.data.toList = (none, 65536)) := hF
  have b1 : (65536 : Int) < (s.size : Int) := by omega
  clear hF
  go_enter Tryd.func40, Tryd.ntmps40
  go_wp2
  refine ret_word3 rfl rfl rfl rfl rfl (one_new w _) ⟨none, 0, 0, none, 0, 0, ?_, (Kept.refl [] w).alloc _, ?_⟩
  · rw [HF.out]; rfl
  · rw [HF.out]; exact new_zero _ _
/-- Nothing is read. -/
theorem refRead_none {w W : World} {t : List UInt8} {n : Nat} (hF : readF t = (none, n)) (kW : Kept [] w W) : ReadEnds w t (.returned (.tuple #[.agg #[.slice none 0 0, .slice none 0 0], .int .i64 51, .int .i64 (n : Nat)])) W := by
  refine ⟨none, 0, 0, none, 0, 0, ?_, kW, ?_⟩
  · rw [hF]; rfl
  · rw [hF]; exact new_zero _ _
theorem after1 {V w1 : World} {Z : Nat} (hZ : Wd2 V Z (.slice none 0 0) (.slice none 0 0)) (hY : Wd2 V (Z + 1) (.slice none 0 0) (.slice none 0 0)) (k : Kept [] V w1) (x : Value) : Wd2 (w1.setCell ⟨Z + 1, 0, none⟩ x) Z (.slice none 0 0) (.slice none 0 0) ∧ Wd2 (w1.setCell ⟨Z + 1, 0, none⟩ x) (Z + 1) x (.slice none 0 0) :=
  ⟨(hZ.kept k).keptF ((Kept.refl [Z + 1] w1).setCell (.inl (by simp)) _) (by simp), (hY.kept k).set0 x⟩
theorem after2 {w V w1 w3 : World} {x : Value} (kV : Kept [] w V) (k1 : Kept [] V w1) (q : Wd2 (w1.setCell ⟨w.heap.size + 1, 0, none⟩ x) w.heap.size (.slice none 0 0) (.slice none 0 0) ∧ Wd2 (w1.setCell ⟨w.heap.size + 1, 0, none⟩ x) (w.heap.size + 1) x (.slice none 0 0)) (k3 : Kept [] (w1.setCell ⟨w.heap.size + 1, 0, none⟩ x) w3) (y : Value) :
    Kept [] w (w3.setCell ⟨w.heap.size + 1, 1, none⟩ y) ∧ Wd2 (w3.setCell ⟨w.heap.size + 1, 1, none⟩ y) w.heap.size (.slice none 0 0) (.slice none 0 0) ∧ Wd2 (w3.setCell ⟨w.heap.size + 1, 1, none⟩ y) (w.heap.size + 1) x y := by
  refine ⟨?_, (q.1.kept k3).keptF ((Kept.refl [w.heap.size + 1] w3).setCell (.inl (by simp)) _) (by simp), (q.2.kept k3).set1 y⟩
  exact ((((kV.trans k1 (H := []) (by simp) (by simp)).setCell (.inr (by simp)) _).trans k3 (H := []) (by simp) (by simp))).setCell (.inr (by simp)) _
theorem refRead_some {w V w1 w3 : World} {t : List UInt8} {xs ys : List Nat} {r1 r3 : Option Addr} {c1 c3 N : Nat} (hF : readF t = (some ⟨xs, ys⟩, 0)) (kV : Kept [] w V) (zV : V.heap.size = w.heap.size + 1 + 1) (k1 : Kept [] V w1) (o1 : w1.ownsRow V.heap.size 54 1 (.slice r1 xs.length c1) xs.length (u16s xs)) (s1 : (∀ x ∈ xs, x < 65536) ∧ xs.length ≤ N)
    (k3 : Kept [] (w1.setCell ⟨w.heap.size + 1, 0, none⟩ (.slice r1 xs.length c1)) w3) (o3 : w3.ownsRow (w1.setCell ⟨w.heap.size + 1, 0, none⟩ (.slice r1 xs.length c1)).heap.size 54 1 (.slice r3 ys.length c3) ys.length (u16s ys)) (s3 : (∀ x ∈ ys, x < 65536) ∧ ys.length ≤ N) (hN : N ≤ 65536) :
    ReadEnds w t (.returned (.tuple #[.agg #[.slice r1 xs.length c1, .slice r3 ys.length c3], .int .i64 0, .int .i64 0])) (((w3.setCell ⟨w.heap.size + 1, 1, none⟩ (.slice r3 ys.length c3)).setCell ⟨w.heap.size, 0, none⟩ (.slice r1 xs.length c1)).setCell ⟨w.heap.size, 1, none⟩ (.slice r3 ys.length c3)) := by
  have z1 := k1.size
  have z2 : (w1.setCell ⟨w.heap.size + 1, 0, none⟩ (.slice r1 xs.length c1)).heap.size = w1.heap.size := by simp
  rw [z2] at o3
  have k13 : Kept [w.heap.size, w.heap.size + 1] w1 w3 := ((Kept.refl [w.heap.size, w.heap.size + 1] w1).setCell (p := ⟨w.heap.size + 1, 0, none⟩) (.inl (by simp)) (.slice r1 xs.length c1)).trans k3 (fun _ h => h) (by simp)
  have k3e : Kept [w.heap.size, w.heap.size + 1] w3 (((w3.setCell ⟨w.heap.size + 1, 1, none⟩ (.slice r3 ys.length c3)).setCell ⟨w.heap.size, 0, none⟩ (.slice r1 xs.length c1)).setCell ⟨w.heap.size, 1, none⟩ (.slice r3 ys.length c3)) := (((Kept.refl _ w3).setCell (.inl (by simp)) _).setCell (.inl (by simp)) _).setCell (.inl (by simp)) _
  have far : ∀ (b n : Nat) (u : Value) (W : World) (zs : List Value), V.heap.size ≤ b → W.ownsRow b 54 1 u n zs → ∀ g, u.ownBlock = some g → g ∉ [w.heap.size, w.heap.size + 1] := fun b n u W zs hb ho g hg hm => by
    have h1 := own_base ho hg
    simp at hm
    omega
  refine ⟨r1, xs.length, c1, r3, ys.length, c3, by rw [hF]; rfl, ?_, ?_⟩
  · have ka : Kept [] w w3 := ((kV.trans k1 (H := []) (by simp) (by simp)).setCell (p := ⟨w.heap.size + 1, 0, none⟩) (.inr (by simp)) (.slice r1 xs.length c1)).trans k3 (by simp) (by simp)
    exact kept_set2 (ka.setCell (.inr (by simp)) _) (Nat.le_refl _) _ _
  · rw [hF]
    have f1 := far _ _ _ _ _ (Nat.le_refl _) o1
    have f3 := far _ _ _ _ _ z1 o3
    have kw := kV.size
    exact ⟨owns_low (owns_keptF (owns_keptF o1 k13 f1) k3e f1) kw, owns_low (owns_keptF o3 k3e f3) (by omega), fun g h1 h2 => by have q1 := owns_lt o1 h1; have q2 := own_base o3 h2; omega, s1.1, s3.1, by show xs.length ≤ _; omega, by show ys.length ≤ _; omega⟩
set_option maxHeartbeats 4000000 in
set_option maxRecDepth 10000 in
theorem refRead_short (s : ByteArray) (w : World) (hs : s.size ≤ 65536) :
    Calls Tryd.prog 40 #[.string s] w (ReadEnds w s.data.toList) := by
  have t1 : ¬ (65536 : Int) < (s.size : Int) := by omega
  have hN := two_new w (.cells #[.slice none 0 0, .slice none 0 0] 24) (.cells #[.slice none 0 0, .slice none 0 0] 24)
  obtain ⟨V, hV⟩ : ∃ V, ((w.alloc (.cells #[.slice none 0 0, .slice none 0 0] 24)).alloc (.cells #[.slice none 0 0, .slice none 0 0] 24)) = V := ⟨_, rfl⟩
  rw [hV] at hN
  have kV : Kept [] w V := by rw [← hV]; exact ((Kept.refl [] w).alloc _).alloc _
  have zV : V.heap.size = w.heap.size + 1 + 1 := by rw [← hV]; simp
  have HZ : Hid (Wd2 V w.heap.size (.slice none 0 0) (.slice none 0 0)) := hN.1
  have HY : Hid (Wd2 V (w.heap.size + 1) (.slice none 0 0) (.slice none 0 0)) := hN.2
  have HKV : Hid (Kept [] w V) := kV
  have HZV : Hid (V.heap.size = w.heap.size + 1 + 1) := zV
  have HV : Hid _ := hV
  have ne1 : w.heap.size ≠ w.heap.size + 1 := by omega
  have ne2 : w.heap.size + 1 ≠ w.heap.size := by omega
  clear hN kV hV zV
  obtain ⟨xs, n1, ha⟩ : ∃ xs n, lettersOf (rest s 0) = (xs, n) := ⟨_, _, rfl⟩
  have hn1 : n1 ≤ s.size := by have := letters_end (Nat.zero_le _) ha; omega
  have hdr : (rest s 0).drop n1 = rest s n1 := by rw [rest_drop, Nat.zero_add]
  cases hd1 : headDig (rest s n1) with
  | true =>
    have HF : Hid (readF s.data.toList = (none, n1)) := readF_short hs (by unfold wordF; rw [ha]; simp only; rw [hdr, if_neg (by rw [dig_not hd1 (by decide)]; simp)])
    have H1 : Hid (Calls Tryd.prog 70 #[.string s, .int .i64 0] V fun e w' => ∃ a b c, e = .returned (.tuple #[.slice a b c, .int .i64 (-1 - (n1 : Int))]) ∧ Hid (Kept [] V w')) := refLetters_bad 0 n1 n1 xs s V (Nat.zero_le _) hs ha (by omega) hd1
    have a1 : -1 - (n1 : Int) < 0 := by omega
    have a2 : IntKind.i64.wrap (-1 - (-1 - (n1 : Int))) = (n1 : Int) := by rw [IntKind.wrap_i64]; omega
    have a3 : -1 - (-1 - (n1 : Int)) = (n1 : Int) := by omega
    clear hd1 ha hdr
    go_enter Tryd.func40, Tryd.ntmps40
    go_wp2_with (go_at_call 70; rw [HV.out]; refine H1.out.mono ?_; rintro e w1 ⟨r1, m1, c1, rfl, HK1⟩; obtain ⟨z0, z1, z2, z3⟩ := (HZ.out.kept HK1.out).cells; obtain ⟨y0, y1, y2, y3⟩ := (HY.out.kept HK1.out).cells)
    have k1 : Kept [] w (w1.setCell ⟨w.heap.size + 1, 0, none⟩ (.slice r1 m1 c1)) := (HKV.out.trans HK1.out (H := []) (by simp) (by simp)).setCell (.inr (by simp)) _
    have q1 : Wd2 (w1.setCell ⟨w.heap.size + 1, 0, none⟩ (.slice r1 m1 c1)) w.heap.size (.slice none 0 0) (.slice none 0 0) := (HZ.out.kept HK1.out).keptF ((Kept.refl [w.heap.size + 1] w1).setCell (.inl (by simp)) _) (by simp)
    refine ret_word3 rfl rfl rfl rfl rfl (q1.set _ _) (refRead_none HF.out (kept_set2 k1 (Nat.le_refl _) _ _))
  | false =>
    have H1 : Hid (Calls Tryd.prog 70 #[.string s, .int .i64 0] V fun e w' => ∃ a c, e = .returned (.tuple #[.slice a xs.length c, .int .i64 (n1 : Nat)]) ∧ Hid (Kept [] V w') ∧ Hid (w'.ownsRow V.heap.size 54 1 (.slice a xs.length c) xs.length (u16s xs)) ∧ Hid ((∀ x ∈ xs, x < 65536) ∧ xs.length ≤ s.size)) := refLetters_good 0 n1 n1 xs s V (Nat.zero_le _) hs ha (by omega) hd1
    have a1 : ¬ (n1 : Int) < 0 := by omega
    have b0 : (0 : Int) ≤ (n1 : Int) := by omega
    cases hq : headIs (rest s n1) 40 with
    | false =>
      have HF : Hid (readF s.data.toList = (none, n1)) := readF_short hs (by unfold wordF; rw [ha]; simp only; rw [hdr, if_neg (by rw [hq]; simp)])
      rcases Nat.lt_or_ge n1 s.size with hlt | hge
      · have b1 : (n1 : Int) < (s.size : Int) := by omega
        have b2 : ((n1 : Int) == (s.size : Int)) = false := by simp; omega
        obtain ⟨m, hm⟩ : ∃ m, (s[n1]'hlt).toNat = m := ⟨_, rfl⟩
        have hne : ((m : Int) != 40) = true := by have h := not_char hq hlt; rw [hm] at h; have h2 : m ≠ 40 := h; simp; omega
        clear hd1 ha hdr hq
        go_enter Tryd.func40, Tryd.ntmps40
        go_wp2_with (go_at_call 70; rw [HV.out]; refine H1.out.mono ?_; rintro e w1 ⟨r1, c1, rfl, HK1, HO1, HS1⟩; clear H1; have HQ1 : Hid _ := after1 HZ.out HY.out HK1.out (.slice r1 xs.length c1); obtain ⟨z0, z1, z2, z3⟩ := (HZ.out.kept HK1.out).cells; obtain ⟨y0, y1, y2, y3⟩ := (HY.out.kept HK1.out).cells)
        have k1 : Kept [] w (w1.setCell ⟨w.heap.size + 1, 0, none⟩ (.slice r1 xs.length c1)) := (HKV.out.trans HK1.out (H := []) (by simp) (by simp)).setCell (.inr (by simp)) _
        exact ret_word3 rfl rfl rfl rfl rfl (HQ1.out.1.set _ _) (refRead_none HF.out (kept_set2 k1 (Nat.le_refl _) _ _))
      · obtain rfl : n1 = s.size := by omega
        have b2 : ((s.size : Int) == (s.size : Int)) = true := by simp
        clear hd1 ha hdr hq
        go_enter Tryd.func40, Tryd.ntmps40
        go_wp2_with (go_at_call 70; rw [HV.out]; refine H1.out.mono ?_; rintro e w1 ⟨r1, c1, rfl, HK1, HO1, HS1⟩; clear H1; have HQ1 : Hid _ := after1 HZ.out HY.out HK1.out (.slice r1 xs.length c1); obtain ⟨z0, z1, z2, z3⟩ := (HZ.out.kept HK1.out).cells; obtain ⟨y0, y1, y2, y3⟩ := (HY.out.kept HK1.out).cells)
        have k1 : Kept [] w (w1.setCell ⟨w.heap.size + 1, 0, none⟩ (.slice r1 xs.length c1)) := (HKV.out.trans HK1.out (H := []) (by simp) (by simp)).setCell (.inr (by simp)) _
        exact ret_word3 rfl rfl rfl rfl rfl (HQ1.out.1.set _ _) (refRead_none HF.out (kept_set2 k1 (Nat.le_refl _) _ _))
    | true =>
      obtain ⟨hlt, hm⟩ := is_char hq
      have hm : (s[n1]'hlt).toNat = 40 := hm
      have b1 : (n1 : Int) < (s.size : Int) := by omega
      have b2 : ((n1 : Int) == (s.size : Int)) = false := by simp; omega
      obtain ⟨kk, hkk⟩ : ∃ kk, n1 + 1 = kk := ⟨_, rfl⟩
      have a4 : IntKind.i64.wrap ((n1 : Int) + 1) = (kk : Int) := by rw [IntKind.wrap_i64]; omega
      have a5 : (n1 : Int) + 1 = (kk : Int) := by omega
      obtain ⟨ys, n2, hb⟩ : ∃ ys n, lettersOf (rest s kk) = (ys, n) := ⟨_, _, rfl⟩
      obtain ⟨p2, hp2⟩ : ∃ p2, kk + n2 = p2 := ⟨_, rfl⟩
      have hkt : kk ≤ s.size := by omega
      have hp2t : p2 ≤ s.size := by have := letters_end hkt hb; omega
      have hdr2 : (rest s n1).drop 1 = rest s kk := by rw [rest_drop, hkk]
      have hdr3 : (rest s kk).drop n2 = rest s p2 := by rw [rest_drop, hp2]
      have hp2' : n1 + 1 + n2 = p2 := by omega
      have c0 : (0 : Int) ≤ (p2 : Int) := by omega
      cases hd2 : headDig (rest s p2) with
      | true =>
        have HF : Hid (readF s.data.toList = (none, p2)) := readF_short hs (by
          unfold wordF; rw [ha]; simp only; rw [hdr, if_pos hq, hdr2, hb]; simp only; rw [hdr3]
          by_cases h0 : ys = []
          · rw [if_pos h0, hp2']
          · rw [if_neg h0, if_neg (by rw [dig_not hd2 (by decide)]; simp), hp2'])
        have H2 : Hid (∀ W, Calls Tryd.prog 70 #[.string s, .int .i64 (kk : Nat)] W fun e w' => ∃ a b c, e = .returned (.tuple #[.slice a b c, .int .i64 (-1 - (p2 : Int))]) ∧ Hid (Kept [] W w')) := fun W => refLetters_bad kk p2 n2 ys s W hkt hs hb hp2 hd2
        have a6 : -1 - (p2 : Int) < 0 := by omega
        have a7 : IntKind.i64.wrap (-1 - (-1 - (p2 : Int))) = (p2 : Int) := by rw [IntKind.wrap_i64]; omega
        have a8 : -1 - (-1 - (p2 : Int)) = (p2 : Int) := by omega
        clear hd1 hd2 ha hb hdr hdr2 hdr3 hq hp2 hp2' hkk
        go_enter Tryd.func40, Tryd.ntmps40
        go_wp2_with (first | (go_at_call 70; rw [HV.out]; refine H1.out.mono ?_; rintro e w1 ⟨r1, c1, rfl, HK1, HO1, HS1⟩; clear H1; have HQ1 : Hid _ := after1 HZ.out HY.out HK1.out (.slice r1 xs.length c1); obtain ⟨z0, z1, z2, z3⟩ := (HZ.out.kept HK1.out).cells; obtain ⟨y0, y1, y2, y3⟩ := (HY.out.kept HK1.out).cells) | (go_at_call 70; refine (H2.out _).mono ?_; rintro e w3 ⟨r3, m3, c3, rfl, HK3⟩; clear H2 z0 z1 z2 z3 y0 y1 y2 y3; obtain ⟨z0, z1, z2, z3⟩ := (HQ1.out.1.kept HK3.out).cells; obtain ⟨y0, y1, y2, y3⟩ := (HQ1.out.2.kept HK3.out).cells))
        obtain ⟨k9, q9, _⟩ := after2 HKV.out HK1.out HQ1.out HK3.out (.slice r3 m3 c3)
        exact ret_word3 rfl rfl rfl rfl rfl (q9.set _ _) (refRead_none HF.out (kept_set2 k9 (Nat.le_refl _) _ _))
      | false =>
        have H2 : Hid (∀ W, Calls Tryd.prog 70 #[.string s, .int .i64 (kk : Nat)] W fun e w' => ∃ a c, e = .returned (.tuple #[.slice a ys.length c, .int .i64 (p2 : Nat)]) ∧ Hid (Kept [] W w') ∧ Hid (w'.ownsRow W.heap.size 54 1 (.slice a ys.length c) ys.length (u16s ys)) ∧ Hid ((∀ x ∈ ys, x < 65536) ∧ ys.length ≤ s.size)) := fun W => refLetters_good kk p2 n2 ys s W hkt hs hb hp2 hd2
        have a6 : ¬ (p2 : Int) < 0 := by omega
        cases hq2 : headIs (rest s p2) 41 with
        | false =>
          have HF : Hid (readF s.data.toList = (none, p2)) := readF_short hs (by
            unfold wordF; rw [ha]; simp only; rw [hdr, if_pos hq, hdr2, hb]; simp only; rw [hdr3]
            by_cases h0 : ys = []
            · rw [if_pos h0, hp2']
            · rw [if_neg h0, if_neg (by rw [hq2]; simp), hp2'])
          rcases Nat.lt_or_ge p2 s.size with hlt2 | hge2
          · have b3 : (p2 : Int) < (s.size : Int) := by omega
            have b4 : ((p2 : Int) == (s.size : Int)) = false := by simp; omega
            obtain ⟨m2, hm2⟩ : ∃ m, (s[p2]'hlt2).toNat = m := ⟨_, rfl⟩
            have hne2 : ((m2 : Int) != 41) = true := by have h := not_char hq2 hlt2; rw [hm2] at h; have h2 : m2 ≠ 41 := h; simp; omega
            clear hd1 hd2 ha hb hdr hdr2 hdr3 hq hq2 hp2 hp2' hkk
            go_enter Tryd.func40, Tryd.ntmps40
            go_wp2_with (first | (go_at_call 70; rw [HV.out]; refine H1.out.mono ?_; rintro e w1 ⟨r1, c1, rfl, HK1, HO1, HS1⟩; clear H1; have HQ1 : Hid _ := after1 HZ.out HY.out HK1.out (.slice r1 xs.length c1); obtain ⟨z0, z1, z2, z3⟩ := (HZ.out.kept HK1.out).cells; obtain ⟨y0, y1, y2, y3⟩ := (HY.out.kept HK1.out).cells) | (go_at_call 70; refine (H2.out _).mono ?_; rintro e w3 ⟨r3, c3, rfl, HK3, HO3, HS3⟩; clear H2 z0 z1 z2 z3 y0 y1 y2 y3; obtain ⟨z0, z1, z2, z3⟩ := (HQ1.out.1.kept HK3.out).cells; obtain ⟨y0, y1, y2, y3⟩ := (HQ1.out.2.kept HK3.out).cells))
            obtain ⟨k9, q9, _⟩ := after2 HKV.out HK1.out HQ1.out HK3.out (.slice r3 ys.length c3)
            exact ret_word3 rfl rfl rfl rfl rfl (q9.set _ _) (refRead_none HF.out (kept_set2 k9 (Nat.le_refl _) _ _))
          · obtain rfl : p2 = s.size := by omega
            have b4 : ((s.size : Int) == (s.size : Int)) = true := by simp
            clear hd1 hd2 ha hb hdr hdr2 hdr3 hq hq2 hp2 hp2' hkk
            go_enter Tryd.func40, Tryd.ntmps40
            go_wp2_with (first | (go_at_call 70; rw [HV.out]; refine H1.out.mono ?_; rintro e w1 ⟨r1, c1, rfl, HK1, HO1, HS1⟩; clear H1; have HQ1 : Hid _ := after1 HZ.out HY.out HK1.out (.slice r1 xs.length c1); obtain ⟨z0, z1, z2, z3⟩ := (HZ.out.kept HK1.out).cells; obtain ⟨y0, y1, y2, y3⟩ := (HY.out.kept HK1.out).cells) | (go_at_call 70; refine (H2.out _).mono ?_; rintro e w3 ⟨r3, c3, rfl, HK3, HO3, HS3⟩; clear H2 z0 z1 z2 z3 y0 y1 y2 y3; obtain ⟨z0, z1, z2, z3⟩ := (HQ1.out.1.kept HK3.out).cells; obtain ⟨y0, y1, y2, y3⟩ := (HQ1.out.2.kept HK3.out).cells))
            obtain ⟨k9, q9, _⟩ := after2 HKV.out HK1.out HQ1.out HK3.out (.slice r3 ys.length c3)
            exact ret_word3 rfl rfl rfl rfl rfl (q9.set _ _) (refRead_none HF.out (kept_set2 k9 (Nat.le_refl _) _ _))
        | true =>
          obtain ⟨hlt2, hm2⟩ := is_char hq2
          have hm2 : (s[p2]'hlt2).toNat = 41 := hm2
          have b3 : (p2 : Int) < (s.size : Int) := by omega
          have b4 : ((p2 : Int) == (s.size : Int)) = false := by simp; omega
          by_cases h0 : ys = []
          · have HF : Hid (readF s.data.toList = (none, p2)) := readF_short hs (by
              unfold wordF; rw [ha]; simp only; rw [hdr, if_pos hq, hdr2, hb]; simp only; rw [hdr3]
              rw [if_pos h0, hp2'])
            have g1 : ((ys.length : Int) == 0) = true := by rw [h0]; rfl
            clear hd1 hd2 ha hb hdr hdr2 hdr3 hq hq2 hp2 hp2' hkk h0
            go_enter Tryd.func40, Tryd.ntmps40
            go_wp2_with (first | (go_at_call 70; rw [HV.out]; refine H1.out.mono ?_; rintro e w1 ⟨r1, c1, rfl, HK1, HO1, HS1⟩; clear H1; have HQ1 : Hid _ := after1 HZ.out HY.out HK1.out (.slice r1 xs.length c1); obtain ⟨z0, z1, z2, z3⟩ := (HZ.out.kept HK1.out).cells; obtain ⟨y0, y1, y2, y3⟩ := (HY.out.kept HK1.out).cells) | (go_at_call 70; refine (H2.out _).mono ?_; rintro e w3 ⟨r3, c3, rfl, HK3, HO3, HS3⟩; clear H2 z0 z1 z2 z3 y0 y1 y2 y3; obtain ⟨z0, z1, z2, z3⟩ := (HQ1.out.1.kept HK3.out).cells; obtain ⟨y0, y1, y2, y3⟩ := (HQ1.out.2.kept HK3.out).cells))
            obtain ⟨k9, q9, _⟩ := after2 HKV.out HK1.out HQ1.out HK3.out (.slice r3 ys.length c3)
            exact ret_word3 rfl rfl rfl rfl rfl (q9.set _ _) (refRead_none HF.out (kept_set2 k9 (Nat.le_refl _) _ _))
          · have g1 : ((ys.length : Int) == 0) = false := by
              have : 0 < ys.length := List.length_pos_iff.2 h0
              simp; omega
            have hdr4 : (rest s p2).drop 1 = rest s (p2 + 1) := by rw [rest_drop]
            have HWF : Hid (wordF (rest s 0) = (if p2 + 1 + blanksN (rest s (p2 + 1)) = s.size then some ⟨xs, ys⟩ else none, p2 + 1 + blanksN (rest s (p2 + 1)))) := by
              show _ = _
              unfold wordF; rw [ha]; simp only; rw [hdr, if_pos hq, hdr2, hb]; simp only; rw [hdr3]
              rw [if_neg h0, if_pos hq2, hdr4, hp2', rest_len, Nat.sub_zero]
            clear hd1 hd2 ha hb hdr hdr2 hdr3 hdr4 hq hq2 hp2 hp2' hkk h0
            go_enter Tryd.func40, Tryd.ntmps40
            go_wp2_with (first | (go_at_call 70; rw [HV.out]; refine H1.out.mono ?_; rintro e w1 ⟨r1, c1, rfl, HK1, HO1, HS1⟩; clear H1; have HQ1 : Hid _ := after1 HZ.out HY.out HK1.out (.slice r1 xs.length c1); obtain ⟨z0, z1, z2, z3⟩ := (HZ.out.kept HK1.out).cells; obtain ⟨y0, y1, y2, y3⟩ := (HY.out.kept HK1.out).cells) | (go_at_call 70; refine (H2.out _).mono ?_; rintro e w3 ⟨r3, c3, rfl, HK3, HO3, HS3⟩; clear H2 z0 z1 z2 z3 y0 y1 y2 y3; obtain ⟨z0, z1, z2, z3⟩ := (HQ1.out.1.kept HK3.out).cells; obtain ⟨y0, y1, y2, y3⟩ := (HQ1.out.2.kept HK3.out).cells))
            go_loopw [6] (fun v6 wr => ∃ q : Nat, v6 = .int .i64 (q : Nat) ∧ p2 < q ∧ q ≤ s.size ∧ Hid (wr = w3.setCell ⟨w.heap.size + 1, 1, none⟩ (.slice r3 ys.length c3)) ∧ Hid (p2 + 1 + blanksN (rest s (p2 + 1)) = q + blanksN (rest s q))) (fun v6 _ => s.size - (intOf v6).toNat)
            case atStart => exact ⟨p2 + 1, by go_num, by omega, by omega, by first | exact rfl | exact trivial, rfl⟩
            case round =>
              obtain ⟨q, rfl, hpq, hqt, HW, HB⟩ := hrel
              rename World => w5
              obtain rfl : w5 = w3.setCell ⟨w.heap.size + 1, 1, none⟩ (.slice r3 ys.length c3) := HW.out
              have e0 : (0 : Int) ≤ (q : Int) := by omega
              cases hq3 : headIs (rest s q) 32 with
              | true =>
                obtain ⟨q1, q2⟩ := headIs_blank hq3
                obtain ⟨_, hx⟩ := is_char hq3
                have hx : (s[q]'q1).toNat = 32 := hx
                have e1 : (q : Int) < (s.size : Int) := by omega
                have HB2 : Hid (p2 + 1 + blanksN (rest s (p2 + 1)) = q + 1 + blanksN (rest s (q + 1))) := by show _ = _; rw [HB.out, q2]; omega
                clear hq3 q2 HB
                go_wp2
                go_roundw
                case rel => exact ⟨q + 1, by go_num, by omega, by omega, by first | exact rfl | exact trivial, HB2.out⟩
                case measure => simp [intOf]; omega
              | false =>
                have hQ : p2 + 1 + blanksN (rest s (p2 + 1)) = q := by rw [HB.out, headIs_not hq3]; rfl
                rcases Nat.lt_or_ge q s.size with hlt3 | hge3
                · have HF : Hid (readF s.data.toList = (none, q)) := readF_short hs (by rw [HWF.out, hQ, if_neg (by omega)])
                  have e1 : (q : Int) < (s.size : Int) := by omega
                  obtain ⟨m3, hm3⟩ : ∃ m, (s[q]'hlt3).toNat = m := ⟨_, rfl⟩
                  have hne3 : ((m3 : Int) == 32) = false := by have h := not_char hq3 hlt3; rw [hm3] at h; have h2 : m3 ≠ 32 := h; simp; omega
                  clear hq3 hQ HB
                  go_wp2
                  obtain ⟨k9, q9, _⟩ := after2 HKV.out HK1.out HQ1.out HK3.out (.slice r3 ys.length c3)
                  exact ret_word3 rfl rfl rfl rfl rfl (q9.set _ _) (refRead_none HF.out (kept_set2 k9 (Nat.le_refl _) _ _))
                · obtain rfl : q = s.size := by omega
                  have HF : Hid (readF s.data.toList = (some ⟨xs, ys⟩, 0)) := readF_short hs (by rw [HWF.out, hQ, if_pos rfl])
                  have e1 : ¬ (s.size : Int) < (s.size : Int) := by omega
                  have e2 : decide ((s.size : Int) < (s.size : Int)) = false := by simp
                  clear hq3 hQ HB
                  go_wp2
                  obtain ⟨_, q9, _⟩ := after2 HKV.out HK1.out HQ1.out HK3.out (.slice r3 ys.length c3)
                  exact ret_word3 rfl rfl rfl rfl rfl (q9.set _ _) (refRead_some HF.out HKV.out HZV.out HK1.out HO1.out HS1.out HK3.out HO3.out HS3.out hs)
/-- The document's Read, of whatever text. -/
theorem refRead_any (s : ByteArray) (w : World) : Calls Tryd.prog 40 #[.string s] w (ReadEnds w s.data.toList) := by
  rcases Nat.lt_or_ge 65536 s.size with h | h
  · exact refRead_long s w h
  · exact refRead_short s w h
end Go.Proofs.YthkmcnfoadkggaaDoor
