/- Weight, told exactly: which trees are found small. -/
import Derived.Test.YtddgciilcghbaaaDoorTrMuch
import Derived.Test.YtddgciilcghbaaaDoorEvLike
namespace Go.Proofs.YtddgciilcghbaaaDoor
open Go.RowKit Go.Shelf

/-- No deeper than weight goes. -/
def Tr.shal : Tr → Nat → Prop := Tr.para (fun _ rs d => d ≤ 2000 ∧ ∀ r ∈ rs, r (d + 1))
theorem Tr.shal_eq (t : Tr) (d : Nat) : t.shal d ↔ d ≤ 2000 ∧ ∀ k ∈ t.kids, k.shal (d + 1) := by
  have h : t.shal d = (d ≤ 2000 ∧ ∀ r ∈ t.kids.map Tr.shal, r (d + 1)) := congrFun (Tr.para_eq _ t) d
  rw [h]
  simp
theorem mem_le_sum {l : List Nat} {x : Nat} (h : x ∈ l) : x ≤ l.sum := by
  induction l with
  | nil => cases h
  | cons y r ih =>
    rw [List.sum_cons]
    rcases List.mem_cons.1 h with rfl | h
    · omega
    · have := ih h; omega
theorem take_le_sum (l : List Nat) (i : Nat) : (l.take i).sum ≤ l.sum := by
  have : l.sum = (l.take i).sum + (l.drop i).sum := by rw [← List.sum_append, List.take_append_drop]
  omega
theorem Tr.kid_wsum {t k : Tr} (h : k ∈ t.kids) : k.wsum ≤ t.wsum := by
  rw [t.wsum_eq]
  have := mem_le_sum (List.mem_map_of_mem (f := Tr.wsum) h)
  omega
/-- Small enough to be weighed. -/
def Tr.lite (t : Tr) (d : Nat) : Prop := t.wsum ≤ 2147483647 ∧ t.shal d
def WeightDoesD (t : Tr) : Prop := ∀ (d : Nat) (x : Int) (kv : Value) (w : World), x = (d : Int) → d ≤ 2001 → IsF w t kv → t.Modest →
  Calls Tryd.prog 44 #[.agg #[.int .u8 (t.op : Nat), .string t.name, kv], .int .i64 x] w fun e w' => ∃ n : Nat, e = .returned (.int .i64 (n : Nat)) ∧ 1 ≤ n ∧ n ≤ 140737488351233 + (2002 - d) * 2147483648 ∧ ((n ≤ 2147483647 → t.wsum = n ∧ t.shal d) ∧ (2147483647 < n → ¬ t.lite d)) ∧ Kept [] w w'

set_option maxHeartbeats 1000000 in
set_option maxRecDepth 20000 in
theorem weightD_any (t : Tr) : WeightDoesD t := by
  induction t using Tr.ind with
  | h t ih =>
    intro d x kv w hx hd hI hM
    subst hx
    obtain ⟨kad, kcap, rfl⟩ := hI.slice
    obtain ⟨hn, hMk⟩ := (Tr.all_eq t).1 hM
    have HI : Hid (IsT (fun k => k < w.heap.size) w t (.slice kad t.kids.length kcap)) := hI
    have HIH : Hid _ := fun k hk => ih k hk
    have HMK : Hid _ := hMk
    have HWS : Hid _ := t.wsum_eq
    have hnI : (t.name.size : Int) ≤ 140737488351232 := by omega
    clear hI ih hM hMk
    by_cases hd0 : d = 2001
    · subst hd0
      go_enter Tryd.func44, Tryd.ntmps44
      go_wp2
      go_ret
      exact ⟨2147483648, rfl, by omega, by omega, ⟨fun h => by omega, fun _ h => by have := ((Tr.shal_eq t _).1 h.2).1; omega⟩, (Kept.refl [] w).alloc _⟩
    · have hdI : ¬ ((d : Int) > 2000) := by omega
      have hdI2 : ¬ (2000 < (d : Int)) := by omega
      go_enter Tryd.func44, Tryd.ntmps44
      go_wp2
      obtain ⟨V, hV⟩ : ∃ V, w.alloc (.cells #[.int .u8 (t.op : Nat), .string t.name, .slice kad t.kids.length kcap] 25) = V := ⟨_, rfl⟩
      have kV : Kept [] w V := by rw [← hV]; exact (Kept.refl [] w).alloc _
      have v0 : For3 V w.heap.size (.int .u8 (t.op : Nat)) (.string t.name) (.slice kad t.kids.length kcap) := by rw [← hV]; exact al0 _ _
      rw [hV]
      have HKV : Hid (Kept [] w V) := kV
      have HV0 : Hid (For3 V w.heap.size (.int .u8 (t.op : Nat)) (.string t.name) (.slice kad t.kids.length kcap)) := v0
      clear hV kV v0
      go_loopw [5, 6] (fun v5 v6 wr => ∃ n i : Nat, v5 = .int .i64 (n : Nat) ∧ v6 = .int .i64 (i : Nat) ∧ i ≤ t.kids.length ∧ i < n ∧ n ≤ 140737488351233 + (2002 - d) * 2147483648 ∧ Hid (Kept [] V wr ∧ (n ≤ 2147483647 → n = 1 + t.name.size + ((t.kids.map Tr.wsum).take i).sum ∧ ∀ j (h : j < t.kids.length), j < i → (t.kids[j]).shal (d + 1)) ∧ (2147483647 < n → ¬ t.lite d))) (fun _ v6 _ => t.kids.length - (intOf v6).toNat)
      case atStart => exact ⟨1 + t.name.size, 0, by simp, rfl, Nat.zero_le _, by omega, by omega, Kept.refl [] V, (fun _ => ⟨by simp, fun j _ hj => absurd hj (Nat.not_lt_zero _)⟩), fun h hs => by have := HWS.out; have := hs.1; omega⟩
      case round =>
        obtain ⟨n, i, rfl, rfl, hi, hin, hnb, HR⟩ := hrel
        obtain ⟨b0, b1, b2, _⟩ := (HV0.out.kept HR.out.1).cells
        by_cases hlt : i < t.kids.length
        · have hli : (i : Int) < (t.kids.length : Int) := by omega
          by_cases hnB : n ≤ 2147483647
          · have hnBI : (n : Int) ≤ 2147483647 := by omega
            obtain ⟨kb, koff, rfl, _, hkid⟩ := HI.out.kid (by omega)
            obtain ⟨kv, c0, c1, c2, hIk⟩ := hkid i hlt
            obtain ⟨ckad, ckcap, rfl⟩ := hIk.slice
            obtain ⟨k, hk⟩ : ∃ k, t.kids[i] = k := ⟨_, rfl⟩
            have hkm : k ∈ t.kids := by rw [← hk]; exact List.getElem_mem _
            rw [hk] at c0 c1 c2 hIk
            have kw : Kept [] w wr := HKV.out.trans HR.out.1 (by simp) (by simp)
            have c0 := cell_kept0 kw c0
            have c1 := cell_kept0 kw c1
            have c2 := cell_kept0 kw c2
            have hrec := fun (_ : Unit) => HIH.out k hkm (d + 1) ((d : Int) + 1) (.slice ckad k.kids.length ckcap) wr rfl (by omega) (IsF.kept hIk kw) (HMK.out k hkm)
            have HREC : Hid _ := hrec
            have HKK : Hid _ := hk
            have hn0 := HR.out.2.1 hnB
            have HN0 : Hid _ := hn0
            clear hkid hrec hk hIk hkm hn0
            go_wp2_with (go_at_call 44; refine (HREC.out ()).mono ?_; rintro e W5 ⟨m, rfl, hm1, hm2, hm3, hk5⟩)
            go_roundw
            case rel =>
              have hkm : k ∈ t.kids := by rw [← HKK.out]; exact List.getElem_mem _
              refine ⟨n + m, i + 1, by go_num, by go_num, by omega, by omega, by omega, HR.out.1.trans hk5 (by simp) (by simp), (fun hb => ?_), fun hb hs => ?_⟩
              · obtain ⟨hw, hsk⟩ := hm3.1 (by omega)
                refine ⟨?_, fun j hj hji => ?_⟩
                · rw [sum_take _ _ (by simpa using hlt), List.getElem_map, HKK.out, hw]
                  have := HN0.out.1
                  omega
                · rcases Nat.lt_or_ge j i with h | h
                  · exact HN0.out.2 j hj h
                  · obtain rfl : j = i := by omega
                    rw [HKK.out]; exact hsk
              · by_cases hm : m ≤ 2147483647
                · have hw := (hm3.1 hm).1
                  have h1 := HN0.out.1
                  have h2 := sum_take (t.kids.map Tr.wsum) i (by simpa using hlt)
                  rw [List.getElem_map, HKK.out, hw] at h2
                  have h3 := take_le_sum (t.kids.map Tr.wsum) (i + 1)
                  have h4 := HWS.out
                  have h5 := hs.1
                  omega
                · exact hm3.2 (by omega) ⟨Nat.le_trans (Tr.kid_wsum hkm) hs.1, ((Tr.shal_eq t d).1 hs.2).2 k hkm⟩
            case measure => simp [intOf]; omega
          · have hnBI : ¬ ((n : Int) ≤ 2147483647) := by omega
            go_wp2
            go_ret
            exact ⟨n, rfl, by omega, hnb, ⟨fun h => by omega, HR.out.2.2⟩, HKV.out.trans HR.out.1 (by simp) (by simp)⟩
        · obtain rfl : i = t.kids.length := by omega
          have hli : ¬ ((t.kids.length : Int) < (t.kids.length : Int)) := by omega
          go_wp2
          go_ret
          refine ⟨n, rfl, by omega, hnb, ⟨fun h => ?_, HR.out.2.2⟩, HKV.out.trans HR.out.1 (by simp) (by simp)⟩
          obtain ⟨h1, h2⟩ := HR.out.2.1 h
          rw [List.take_of_length_le (by simp)] at h1
          refine ⟨by rw [HWS.out, h1], (Tr.shal_eq t d).2 ⟨by omega, fun k hk => ?_⟩⟩
          obtain ⟨j, hj, rfl⟩ := List.getElem_of_mem hk
          exact h2 j hj hj
set_option maxHeartbeats 400000 in
theorem weightAllD_any (t : Tr) (kv : Value) (w : World) (hI : IsF w t kv) (hM : t.Modest) :
    Calls Tryd.prog 16 #[.agg #[.int .u8 (t.op : Nat), .string t.name, kv]] w fun e w' => ∃ n : Nat, e = .returned (.int .i64 (n : Nat)) ∧ n ≤ 145036750680577 ∧ ((n ≤ 2147483647 → t.wsum = n ∧ t.shal 0) ∧ (2147483647 < n → ¬ t.lite 0)) ∧ Kept [] w w' := by
  obtain ⟨kad, kcap, rfl⟩ := hI.slice
  have HW : Hid _ := fun W (k : Kept [] w W) => weightD_any t 0 0 _ W rfl (by omega) (hI.kept k) hM
  clear hI hM
  go_enter Tryd.func16, Tryd.ntmps16
  go_wp2_with (go_at_call 44; refine (HW.out _ ((Kept.refl [] w).alloc _)).mono ?_; rintro e W5 ⟨n, rfl, h1, h2, h3, hk⟩)
  go_ret
  exact ⟨n, rfl, by omega, h3, ((Kept.refl [] w).alloc _).trans hk (by simp) (by simp)⟩

end Go.Proofs.YtddgciilcghbaaaDoor

/- far, told exactly. -/
namespace Go.Proofs.YtddgciilcghbaaaDoor
open Go.RowKit Go.Shelf

/-- Is more handed in than there is room for. -/
def farP (t : Tr) (xs : List ByteArray) (q : Wd) : Prop := ¬ (t.wsum ≤ 65536 ∧ t.shal 0) ∨ 4194304 < ot 0 xs ∨ 65536 < 1 + q.stem.length + q.loop.length ∨ 4194304 < t.wsum * (1 + q.stem.length + q.loop.length)
theorem farP_no {t : Tr} {xs : List ByteArray} {q : Wd} {m o pl mp : Nat} (h : t.wsum = m ∧ t.shal 0) (ho : ot 0 xs = o) (hp : 1 + q.stem.length + q.loop.length = pl) (hm : m * pl = mp) (h1 : m ≤ 65536) (h2 : o ≤ 4194304) (h3 : pl ≤ 65536) (h4 : mp ≤ 4194304) : ¬ farP t xs q := by
  obtain ⟨e, s⟩ := h
  subst e ho hp hm
  rintro (h | h | h | h)
  · exact h ⟨h1, s⟩
  · omega
  · omega
  · omega
theorem farP_wide {t : Tr} {m : Nat} (h : (m ≤ 2147483647 → t.wsum = m ∧ t.shal 0) ∧ (2147483647 < m → ¬ t.lite 0)) (h1 : 65536 < m) : ¬ (t.wsum ≤ 65536 ∧ t.shal 0) := by
  rintro ⟨h2, h3⟩
  by_cases hm : m ≤ 2147483647
  · have := (h.1 hm).1; omega
  · exact h.2 (by omega) ⟨by omega, h3⟩
theorem farP_not {t : Tr} {xs : List ByteArray} {q : Wd} (h : ¬ farP t xs q) : t.wsum ≤ 65536 ∧ q.stem.length + q.loop.length ≤ 65535 := by
  refine ⟨?_, ?_⟩
  · apply Nat.le_of_not_lt; intro hl; exact h (.inl (fun h2 => by omega))
  · apply Nat.le_of_not_lt; intro hl; exact h (.inr (.inr (.inl (by omega))))
set_option maxHeartbeats 1000000 in
set_option maxRecDepth 20000 in
theorem farD_any (t : Tr) (kv v sv lv : Value) (xs : List ByteArray) (q : Wd) (w : World) (hI : IsF w t kv) (hM : t.Modest) (hN : Strs w v xs) (hXM : ∀ x ∈ xs, x.size ≤ 140737488351232) (hS : Lets w sv q.stem) (hL : Lets w lv q.loop) :
    Calls Tryd.prog 7 #[.agg #[.int .u8 (t.op : Nat), .string t.name, kv], v, .agg #[sv, lv]] w fun e w' => ∃ n : Nat, e = .returned (.bool (decide (0 < n))) ∧ (n = 0 ↔ ¬ farP t xs q) ∧ Kept [] w w' := by
  obtain ⟨kad, kcap, rfl⟩ := hI.slice
  have hfs := hS.few
  have hfl := hL.few
  obtain ⟨V, hV⟩ : ∃ V, (w.alloc (.cells #[.int .u8 (t.op : Nat), .string t.name, .slice kad t.kids.length kcap] 25)).alloc (.cells #[sv, lv] 29) = V := ⟨_, rfl⟩
  have kV : Kept [] w V := by rw [← hV]; exact ((Kept.refl [] w).alloc _).alloc _
  have v1 : Wd2 V (w.heap.size + 1) sv lv := by rw [← hV]; exact al1 _ _ _
  have HWT : Hid (Calls Tryd.prog 16 #[.agg #[.int .u8 (t.op : Nat), .string t.name, .slice kad t.kids.length kcap]] V fun e w' => ∃ n : Nat, e = .returned (.int .i64 (n : Nat)) ∧ n ≤ 145036750680577 ∧ ((n ≤ 2147483647 → t.wsum = n ∧ t.shal 0) ∧ (2147483647 < n → ¬ t.lite 0)) ∧ Kept [] V w') := weightAllD_any t _ V (hI.kept kV) hM
  have HOT : Hid (∀ W, Kept [] V W → Calls Tryd.prog 33 #[v] W fun e w' => e = .returned (.int .i64 (ot 0 xs : Nat)) ∧ w' = W) := fun W k => ofTexts_any v xs W ((hN.kept kV).kept k) hXM
  obtain ⟨ad, c, rfl, _⟩ := hN.form
  obtain ⟨ast, cs, rfl, _, _⟩ := hS.form
  obtain ⟨al, cl, rfl, _, _⟩ := hL.form
  have HKV : Hid (Kept [] w V) := kV
  have HV1 : Hid (Wd2 V (w.heap.size + 1) (.slice ast q.stem.length cs) (.slice al q.loop.length cl)) := v1
  have HVV : Hid (_ = V) := hV
  rw [← hV] at HWT
  obtain ⟨o, ho⟩ : ∃ o, ot 0 xs = o := ⟨_, rfl⟩
  rw [ho] at HOT
  have HO : Hid (ot 0 xs = o) := ho
  clear hI hM hN hS hL kV v1 hV ho hXM
  go_enter Tryd.func7, Tryd.ntmps7
  go_upto_region 3 with (go_at_call 16; refine HWT.out.mono ?_; rintro e w1 ⟨m, rfl, hm1, hm2, k1⟩; rw [HVV.out] at k1; have HK1 : Hid (Kept [] V w1) := k1; have HM2 : Hid ((m ≤ 2147483647 → t.wsum = m ∧ t.shal 0) ∧ (2147483647 < m → ¬ t.lite 0)) := hm2; obtain ⟨g0, g1, _, _⟩ := (HV1.out.kept k1).cells; clear k1 hm2)
  obtain ⟨pl, hpl⟩ : ∃ pl : Nat, 1 + (q.stem.length : Int) + (q.loop.length : Int) = (pl : Int) := ⟨1 + q.stem.length + q.loop.length, by omega⟩
  try rw [hpl]
  have hplb : pl ≤ 140737488355329 := by omega
  have HPQ : Hid (1 + q.stem.length + q.loop.length = pl) := by show _ = _; omega
  clear hpl HWT
  by_cases h1 : m ≤ 65536
  · have h1i : ¬ ((65536 : Int) < (m : Int)) := by omega
    by_cases h2 : o ≤ 4194304
    · have h2i : ¬ ((4194304 : Int) < (o : Int)) := by omega
      by_cases h3 : pl ≤ 65536
      · have h3i : ¬ ((65536 : Int) < (pl : Int)) := by omega
        obtain ⟨mp, hmp⟩ : ∃ mp : Nat, m * pl = mp := ⟨_, rfl⟩
        have HMP : Hid (m * pl = mp) := hmp
        have hmpb : mp ≤ 4294967296 := by rw [← hmp]; exact Nat.le_trans (Nat.mul_le_mul h1 h3) (by decide)
        have hmpi : (m : Int) * (pl : Int) = (mp : Int) := by rw [← hmp]; exact (Int.natCast_mul m pl).symm
        by_cases h4 : mp ≤ 4194304
        · have h4i : ¬ ((4194304 : Int) < (mp : Int)) := by omega
          clear h2 h4 hmp
          go_wp2_with (go_at_call 33; refine (HOT.out _ HK1.out).mono ?_; rintro e w2 ⟨rfl, hw2⟩; rw [hw2]; clear hw2)
          go_ret
          exact ⟨0, (by first | rfl | exact ret_bool (by rw [Bool.eq_iff_iff]; simp; omega)), iff_of_true rfl (farP_no (HM2.out.1 (by omega)) HO.out HPQ.out HMP.out h1 (by omega) h3 (by omega)), HKV.out.trans HK1.out (by simp) (by simp)⟩
        · have h4i : (4194304 : Int) < (mp : Int) := by omega
          clear h2 h4 hmp
          go_wp2_with (go_at_call 33; refine (HOT.out _ HK1.out).mono ?_; rintro e w2 ⟨rfl, hw2⟩; rw [hw2]; clear hw2)
          go_ret
          exact ⟨1, (by first | rfl | exact ret_bool (by rw [Bool.eq_iff_iff]; simp; omega)), iff_of_false (by decide) (fun hn => hn (.inr (.inr (.inr (by rw [(HM2.out.1 (by omega)).1, HPQ.out, HMP.out]; omega))))), HKV.out.trans HK1.out (by simp) (by simp)⟩
      · have h3i : (65536 : Int) < (pl : Int) := by omega
        clear h2 h3
        go_wp2_with (go_at_call 33; refine (HOT.out _ HK1.out).mono ?_; rintro e w2 ⟨rfl, hw2⟩; rw [hw2]; clear hw2)
        go_ret
        exact ⟨1, (by first | rfl | exact ret_bool (by rw [Bool.eq_iff_iff]; simp; omega)), iff_of_false (by decide) (fun hn => hn (.inr (.inr (.inl (by have := HPQ.out; omega))))), HKV.out.trans HK1.out (by simp) (by simp)⟩
    · have h2i : (4194304 : Int) < (o : Int) := by omega
      clear h2
      go_wp2_with (go_at_call 33; refine (HOT.out _ HK1.out).mono ?_; rintro e w2 ⟨rfl, hw2⟩; rw [hw2]; clear hw2)
      go_ret
      exact ⟨1, (by first | rfl | exact ret_bool (by rw [Bool.eq_iff_iff]; simp; omega)), iff_of_false (by decide) (fun hn => hn (.inr (.inl (by rw [HO.out]; omega)))), HKV.out.trans HK1.out (by simp) (by simp)⟩
  · have h1i : (65536 : Int) < (m : Int) := by omega
    clear h1
    go_wp2
    go_ret
    exact ⟨1, (by first | rfl | exact ret_bool (by rw [Bool.eq_iff_iff]; simp; omega)), iff_of_false (by decide) (fun hn => hn (.inl (farP_wide HM2.out (by omega)))), HKV.out.trans HK1.out (by simp) (by simp)⟩
end Go.Proofs.YtddgciilcghbaaaDoor
