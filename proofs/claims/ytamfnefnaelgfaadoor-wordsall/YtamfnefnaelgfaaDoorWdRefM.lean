/- The document's normal form: Normal. -/
import Derived.Test.YtamfnefnaelgfaaDoorHE
import Derived.Deep.CutRange
namespace Go.Proofs.YtamfnefnaelgfaaDoor
open Go.RowKit Go.Shelf
attribute [local go_sem ↓] Go.wp_at_zero Go.wp_at_succ

theorem rot_map (l : List Nat) {k : Nat} (hk : k < l.length) : rot l k = (List.range l.length).map fun i => cyc l (k + i) := by
  apply List.ext_getElem
  · rw [rot_length]; simp
  · intro i h1 h2
    rw [List.getElem_map, List.getElem_range, ← cyc_rot l k i hk]
    unfold cyc
    rw [Nat.mod_eq_of_lt h1, List.getD_eq_getElem?_getD, List.getElem?_eq_getElem h1]
    rfl
/-- The loop's letters that are written. -/
def upN (l : List Nat) (k i : Nat) : List Nat := (List.range i).map fun j => cyc l (k + j)
theorem upN_succ (l : List Nat) (k i : Nat) : upN l k (i + 1) = upN l k i ++ [cyc l (k + i)] := by unfold upN; rw [List.range_succ, List.map_append]; rfl
theorem upN_len (l : List Nat) (k i : Nat) : (upN l k i).length = i := by simp [upN]
/-- Where the loop begins behind t turns. -/
theorem first_step {d t : Nat} (hd : 0 < d) : ((d - t % d) % d + d - 1) % d = (d - (t + 1) % d) % d := by
  have h1 := Nat.mod_lt t hd
  obtain ⟨r, hr⟩ : ∃ r, t % d = r := ⟨_, rfl⟩
  have h2 : (t + 1) % d = if r + 1 = d then 0 else r + 1 := by
    rw [Nat.add_mod, hr]
    by_cases h1d : d = 1
    · subst h1d
      have : r = 0 := by omega
      subst this
      simp
    · rw [Nat.mod_eq_of_lt (show 1 < d by omega)]
      split
      · rename_i e; rw [e, Nat.mod_self]
      · exact Nat.mod_eq_of_lt (by omega)
  rw [hr] at h1 ⊢
  rw [h2]
  rcases Nat.eq_zero_or_pos r with rfl | hr0
  · rw [Nat.sub_zero, Nat.mod_self, Nat.zero_add]
    split
    · have : d = 1 := by omega
      subst this; rfl
    · rw [Nat.mod_eq_of_lt (by omega)]
  · rw [Nat.mod_eq_of_lt (show d - r < d by omega), show d - r + d - 1 = (d - r - 1) + d by omega, Nat.add_mod_right, Nat.mod_eq_of_lt (by omega)]
    split
    · rw [Nat.sub_zero, Nat.mod_self]; omega
    · rw [Nat.mod_eq_of_lt (by omega)]; omega
/-- The numbers of a turn. -/
theorem turn_base {d : Nat} (t : Nat) (hd : 0 < d) : ∃ tr fi : Nat, tr = t % d ∧ fi = (d - t % d) % d ∧ tr < d ∧ fi < d ∧ fi = (d - tr) % d ∧ (t : Int).tmod (d : Int) = (tr : Int) ∧ (t : Int) % (d : Int) = (tr : Int) := by
  refine ⟨t % d, (d - t % d) % d, rfl, rfl, Nat.mod_lt _ hd, Nat.mod_lt _ hd, rfl, ?_, rfl⟩
  rw [Int.tmod_eq_emod_of_nonneg (by omega)]; rfl
theorem turn_idx {d tr fi : Nat} (i : Nat) (htr : tr < d) (hfi : fi = (d - tr) % d) : ∃ la : Nat, la = (fi + i) % d ∧ la < d ∧ ((i : Int) - (tr : Int) + (d : Int)).tmod (d : Int) = (la : Int) ∧ ((i : Int) - (tr : Int) + (d : Int)) % (d : Int) = (la : Int) := by
  have e : ((i : Int) - (tr : Int) + (d : Int)) = ((i + d - tr : Nat) : Int) := by omega
  have e2 : (i + d - tr) % d = (fi + i) % d := by
    rw [hfi, Nat.mod_add_mod, show i + d - tr = d - tr + i by omega]
  refine ⟨(fi + i) % d, rfl, Nat.mod_lt _ (by omega), ?_, ?_⟩
  · rw [e, Int.tmod_eq_emod_of_nonneg (by omega), ← e2]; rfl
  · rw [e, ← e2]; rfl
theorem ref_end {U wr : World} {B : Nat} {xs ys : List Nat} {v1 v2 : Value} (h : Oth U xs ys wr v1 v2) (hB : B < U.heap.size) (h1 : ∀ x ∈ xs, x < 65536) (h2 : ∀ x ∈ ys, x < 65536) (hl : xs.length + ys.length ≤ 1000000000) (a b : Value) : IsW ((wr.setCell ⟨B, 0, none⟩ a).setCell ⟨B, 1, none⟩ b) v1 v2 ⟨xs, ys⟩ := by
  have kF : Kept [B] wr ((wr.setCell ⟨B, 0, none⟩ a).setCell ⟨B, 1, none⟩ b) := ((Kept.refl _ wr).setCell (.inl (by simp)) _).setCell (.inl (by simp)) _
  refine ⟨lets_own (owns_keptF h.own1 kF (fun g e hg => ?_)) h1 (by show xs.length ≤ _; omega), lets_own (owns_keptF h.own2 kF (fun g e hg => ?_)) h2 (by show ys.length ≤ _; omega), by show xs.length + ys.length ≤ _; omega⟩
  · have := own_base h.own1 e; simp at hg; omega
  · have := own_base h.own2 e; simp at hg; omega
theorem lets_one {W : World} {b x : Nat} (h : W.heap[b]? = some (.cells #[.int .u16 (x : Nat)] 51 (0, 0))) (hx : x < 65536) : Lets W (.slice (some ⟨b, 0, none⟩) 1 1) [x] :=
  ⟨fun y hy => by rw [List.mem_singleton.1 hy]; exact hx, by simp, .inr ⟨b, 0, 1, rfl, by simp, by unfold maxLen; omega, fun i hi => by
    obtain rfl : i = 0 := by simpa using hi
    exact (cell_of h 0).trans rfl⟩⟩
/-- What Normal makes. -/
def RefMade (w : World) (q : Wd) (e : Ending) (w' : World) : Prop := ∃ a1 n1 c1 a2 n2 c2 r, e = .returned (.agg #[.slice a1 n1 c1, .slice a2 n2 c2]) ∧ Hid (IsW w' (.slice a1 n1 c1) (.slice a2 n2 c2) r) ∧ Hid (NormOf q r) ∧ Hid (Kept [] w w')
/-- The same, and where it lies: in new rows. -/
def RefMadeN (w : World) (q : Wd) (e : Ending) (w' : World) : Prop := ∃ a1 n1 c1 a2 n2 c2 r, e = .returned (.agg #[.slice a1 n1 c1, .slice a2 n2 c2]) ∧ Hid (IsW w' (.slice a1 n1 c1) (.slice a2 n2 c2) r) ∧ Hid (NormOf q r) ∧ Hid (Kept [] w w') ∧ Hid (NewW w.heap.size w' (.slice a1 n1 c1) (.slice a2 n2 c2) r)
theorem RefMadeN.made {w : World} {q : Wd} {e : Ending} {w' : World} : RefMadeN w q e w' → RefMade w q e w' := fun ⟨a1, n1, c1, a2, n2, c2, r, h1, h2, h3, h4, _⟩ => ⟨a1, n1, c1, a2, n2, c2, r, h1, h2, h3, h4⟩
theorem ref_new {U wr : World} {B n₀ : Nat} {xs ys : List Nat} {v1 v2 : Value} (h : Oth U xs ys wr v1 v2) (hB : B < U.heap.size) (hn : n₀ ≤ U.heap.size + 1) (h1 : ∀ x ∈ xs, x < 65536) (h2 : ∀ x ∈ ys, x < 65536) (hl : xs.length + ys.length ≤ 1000000000) (a b : Value) : NewW n₀ ((wr.setCell ⟨B, 0, none⟩ a).setCell ⟨B, 1, none⟩ b) v1 v2 ⟨xs, ys⟩ := by
  have kF : Kept [B] wr ((wr.setCell ⟨B, 0, none⟩ a).setCell ⟨B, 1, none⟩ b) := ((Kept.refl _ wr).setCell (.inl (by simp)) _).setCell (.inl (by simp)) _
  refine ⟨owns_low (owns_keptF h.own1 kF (fun g e hg => ?_)) hn, owns_low (owns_keptF h.own2 kF (fun g e hg => ?_)) hn, h.apart, h1, h2, by show xs.length ≤ _; omega, by show ys.length ≤ _; omega⟩
  · have := own_base h.own1 e; simp at hg; omega
  · have := own_base h.own2 e; simp at hg; omega
set_option maxHeartbeats 800000 in
theorem refNormal_noneN (ads : Option Addr) (cs : Nat) (ad : Option Addr) (c : Nat) (st : List Nat) (w : World) :
    Calls Tryd.prog 52 #[.agg #[.slice ads st.length cs, .slice ad 0 c]] w (RefMadeN w ⟨st, []⟩) := by
  have hN := two_new w (.cells #[.slice ads st.length cs, .slice ad 0 c] 47) (.cells #[.slice none 0 0, .slice none 0 0] 47)
  have HN : Hid _ := hN
  clear hN
  go_enter Tryd.func52, Tryd.ntmps52
  go_wp2
  refine ret_word rfl rfl rfl HN.out.2 ⟨none, 0, 0, none, 0, 0, ⟨[], []⟩, rfl, ⟨Lets.nil _, Lets.nil _, by simp⟩, ⟨fun _ => rfl, fun h => absurd rfl h⟩, ?_, new_zero _ _⟩
  exact ((Kept.refl [] w).alloc _).alloc _
/-- What its loops carry. -/
structure RnC (w wr : World) (ads : Option Addr) (ns cs bl ol nl cl : Nat) : Prop where
  kept : Kept [] w wr
  box : Wd2 wr w.heap.size (.slice ads ns cs) (.slice (some ⟨bl, ol, none⟩) nl cl)
  res : Wd2 wr (w.heap.size + 1) (.slice none 0 0) (.slice none 0 0)
theorem RnC.go {w wr W : World} {ads : Option Addr} {ns cs bl ol nl cl : Nat} (h : RnC w wr ads ns cs bl ol nl cl) (k : Kept [] wr W) : RnC w W ads ns cs bl ol nl cl := ⟨h.kept.trans k (by simp) (by simp), h.box.kept k, h.res.kept k⟩
set_option maxHeartbeats 4000000 in
set_option maxRecDepth 20000 in
theorem refNormal_someN (ads : Option Addr) (cs bl ol cl : Nat) (st lp : List Nat) (w : World) (hs : Lets w (.slice ads st.length cs) st) (hl : Lets w (.slice (some ⟨bl, ol, none⟩) lp.length cl) lp) (h0 : 0 < lp.length) (hf : st.length + lp.length ≤ 100000000) :
    Calls Tryd.prog 52 #[.agg #[.slice ads st.length cs, .slice (some ⟨bl, ol, none⟩) lp.length cl]] w (RefMadeN w ⟨st, lp⟩) := by
  obtain ⟨d, hd⟩ := least_some lp.length h0 (cyc_per lp)
  obtain ⟨hc1, hc2, hc3⟩ := at_cut (st := st) h0 hd
  have hdl : d ≤ lp.length := Nat.le_of_dvd h0 (hd.dvd (cyc_per lp))
  have hd0 := hd.1
  obtain ⟨lq, hlq⟩ : ∃ lq, lp.take d = lq := ⟨_, rfl⟩
  rw [hlq] at hc1 hc2 hc3
  obtain ⟨V, hV⟩ : ∃ V, (w.alloc (.cells #[.slice ads st.length cs, .slice (some ⟨bl, ol, none⟩) lp.length cl] 47)).alloc (.cells #[.slice none 0 0, .slice none 0 0] 47) = V := ⟨_, rfl⟩
  have hC : RnC w V ads st.length cs bl ol lp.length cl := ⟨by rw [← hV]; exact ((Kept.refl [] w).alloc _).alloc _, by rw [← hV]; exact alUp (al0 _ _) _, by rw [← hV]; exact al1 _ _ _⟩
  obtain ⟨_, _, e, hcs, _⟩ := hs.form
  cases e
  have HC : Hid (RnC w V ads st.length cs bl ol lp.length cl) := hC
  have HS : Hid (Lets w (.slice ads st.length cs) st) := hs
  have HL : Hid (Lets w (.slice (some ⟨bl, ol, none⟩) lp.length cl) lp) := hl
  have HC1 : Hid (∀ i, (Wd.mk st lq).at i = (Wd.mk st lp).at i) := hc1
  have HC2 : Hid (lq.length = d) := hc2
  have HC3 : Hid (Least (cyc lq) 0 lq.length) := hc3
  have HLQ : Hid (lp.take d = lq) := hlq
  have HST : Hid (StripInv st lq st.length ((d - 0 % d) % d)) := by show StripInv _ _ _ _; rw [Nat.zero_mod, Nat.sub_zero, Nat.mod_self]; exact StripInv.start st lq (by rw [hc2]; exact hd0)
  have HAG : Hid (∀ W (n : Nat), Kept [] w W → 0 < n → n ≤ d → Calls Tryd.prog 66 #[.slice (some ⟨bl, ol, none⟩) lp.length cl, .int .i64 (n : Nat)] W fun e w' => e = .returned (.bool (decide (n = d))) ∧ Kept [] W w') := fun W n k h1 h2 => again_any bl ol cl n lp (decide (n = d)) W (hl.kept k) h1 (by omega) (by rw [decide_eq_true_iff]; exact (again_least h0 hd h1 h2).symm)
  have HV : Hid (_ = V) := hV
  have b2 : ((lp.length : Int) == 0) = false := by rw [beq_eq_false_iff_ne]; omega
  clear hs hl hd hc1 hc2 hc3 hlq hC hV
  go_enter Tryd.func52, Tryd.ntmps52
  go_wp2_with fail
  rw [HV.out]
  clear HV
  go_loopw [3, 4] (fun v3 _ wr => ∃ n : Nat, v3 = .int .i64 (n : Nat) ∧ 1 ≤ n ∧ n ≤ d ∧ Hid (Kept [] V wr)) (fun v3 _ _ => d - (intOf v3).toNat)
  case atStart => exact ⟨1, rfl, Nat.le_refl _, hd0, Kept.refl [] V⟩
  case round =>
    obtain ⟨n, rfl, hn1, hnd, HK⟩ := hrel
    obtain ⟨c0, c1, _, _⟩ := (HC.out.go HK.out).box.cells
    have HAN : Hid (Calls Tryd.prog 66 #[.slice (some ⟨bl, ol, none⟩) lp.length cl, .int .i64 (n : Nat)] wr fun e w' => e = .returned (.bool (decide (n = d))) ∧ Kept [] wr w') := HAG.out wr n (HC.out.go HK.out).kept hn1 hnd
    by_cases he : n = d
    rotate_left
    · rw [show decide (n = d) = false from decide_eq_false he] at HAN
      go_wp2_with (go_at_call 66; refine Calls.mono HAN.out ?_; rintro e W1 ⟨rfl, k1⟩; have HK1 : Hid (Kept [] V W1) := HK.out.trans k1 (by simp) (by simp); clear k1)
      go_roundw
      case rel => exact ⟨n + 1, by go_num, by omega, by omega, HK1.out⟩
      case measure => simp [intOf]; omega
    · subst he
      rw [show decide (n = n) = true from decide_eq_true rfl] at HAN
      clear c0 c1
      have c1 := (HC.out.go HK.out).box.cells.2.1
      go_wp2_with (go_at_call 66; refine Calls.mono HAN.out ?_; rintro e W1 ⟨rfl, k1⟩; have HK1 : Hid (Kept [] V W1) := HK.out.trans k1 (by simp) (by simp); have HD : Hid (RnC w W1 ads st.length cs bl ol lp.length cl) := HC.out.go HK1.out; have d0 := HD.out.box.cells.1; clear k1)
      clear HAN HAG HK HC HK1 c1 d0
      go_loopw [5, 6] (fun v5 v6 wr => ∃ m t : Nat, v5 = .int .i64 (m : Nat) ∧ v6 = .int .i64 (t : Nat) ∧ t + m = st.length ∧ Hid (StripInv st lq m ((n - t % n) % n)) ∧ Hid (Kept [] W1 wr)) (fun v5 _ _ => (intOf v5).toNat)
      case atStart => exact ⟨st.length, 0, rfl, rfl, by omega, HST.out, Kept.refl [] W1⟩
      case round =>
        rename World => w2
        obtain ⟨m, t, rfl, rfl, htm, HI0, HK2⟩ := hrel
        have HE : Hid (RnC w w2 ads st.length cs bl ol lp.length cl) := HD.out.go HK2.out
        obtain ⟨c0, c1, _, _⟩ := HE.out.box.cells
        obtain ⟨tr, fi, htr, hfi, htr2, hfi2, hfi3, t1, t2⟩ := turn_base (d := n) t hd0
        have HI : Hid (StripInv st lq m fi) := by show StripInv _ _ _ _; rw [hfi]; exact HI0.out
        have HNX : Hid ((fi + n - 1) % n = (n - (t + 1) % n) % n) := by show _ = _; rw [hfi]; exact first_step hd0
        have hml := HI.out.le
        clear HI0 htr hfi
        by_cases h1 : 0 < m
        · obtain ⟨k, rfl⟩ : ∃ k, m = k + 1 := ⟨m - 1, by omega⟩
          obtain ⟨la, hla, hla2, x1, x2⟩ := turn_idx (n - 1) htr2 hfi3
          rw [show ((n - 1 : Nat) : Int) = (n : Int) - 1 by omega] at x1 x2
          obtain ⟨bs, os, cs', e, _, _, hcells⟩ := HS.out.there (by omega)
          simp only [Value.slice.injEq] at e
          obtain ⟨e1, _, e2⟩ := e
          subst e1 e2
          have y1 : w2.cell? ⟨bs, os + k, none⟩ = some (.int .u16 (st.getD k 0 : Nat)) := cell_kept0 HE.out.kept (hcells k (by omega))
          have y2 : w2.cell? ⟨bl, ol + la, none⟩ = some (.int .u16 (lq.getD la 0 : Nat)) := by
            obtain ⟨_, _, _, e, _, _, hc⟩ := HL.out.there h0
            cases e
            rw [← HLQ.out, getD_take _ _ _ hla2]
            exact cell_kept0 HE.out.kept (hc la (by omega))
          have HLA : Hid (la = (fi + lq.length - 1) % lq.length) := by show la = _; rw [HC2.out, hla, show fi + (n - 1) = fi + n - 1 by omega]
          clear hla hcells
          have z1 : (0 : Int) ≤ (k : Int) := by omega
          have z2 : (k : Int) < (st.length : Int) := by omega
          have z3 : (0 : Int) ≤ (la : Int) := by omega
          have z4 : (la : Int) < (lp.length : Int) := by omega
          have z5 : (0 : Int) < ((k + 1 : Nat) : Int) := by omega
          have z5' : (0 : Int) < (k : Int) + 1 := by omega
          have z6 : ¬ ((n : Int) = 0) := by omega
          have z7 : ¬ (n = 0) := by omega
          have z8 : IntKind.i64.wrap ((n : Int) - 1) = (n : Int) - 1 := by rw [IntKind.wrap_i64]; omega
          have z9 : IntKind.i64.wrap ((n : Int) - 1 - (tr : Int)) = (n : Int) - 1 - (tr : Int) := by rw [IntKind.wrap_i64]; omega
          have za : IntKind.i64.wrap ((n : Int) - 1 - (tr : Int) + (n : Int)) = (n : Int) - 1 - (tr : Int) + (n : Int) := by rw [IntKind.wrap_i64]; omega
          have zb : IntKind.i64.wrap (tr : Int) = (tr : Int) := by rw [IntKind.wrap_i64]; omega
          have zc : IntKind.i64.wrap (la : Int) = (la : Int) := by rw [IntKind.wrap_i64]; omega
          by_cases hc : st.getD k 0 = lq.getD la 0
          · have HSN : Hid (StripInv st lq k ((n - (t + 1) % n) % n)) := by
              have := HI.out.step (by omega) (by rw [← HLA.out]; exact hc)
              rw [HC2.out, HNX.out] at this
              exact this
            rw [← hc] at y2
            generalize st.getD k 0 = x at y1 y2
            have hne : ((x : Int) == (x : Int)) = true := by simp
            clear hc
            go_wp2_with fail
            go_quiet (fail)
            go_wp2
            go_roundw
            case rel => exact ⟨k, t + 1, by go_num, by go_num, by omega, HSN.out, HK2.out.drewN _⟩
            case measure => simp [intOf]
          · have HSE : Hid ((k + 1) = 0 ∨ st.getD ((k + 1) - 1) 0 ≠ lq.getD ((fi + lq.length - 1) % lq.length) 0) := by
              show _ ∨ _
              rw [← HLA.out]; exact .inr hc
            generalize st.getD k 0 = x at y1 hc
            generalize lq.getD la 0 = y at y2 hc
            have hne : ((x : Int) == (y : Int)) = false := by rw [beq_eq_false_iff_ne]; omega
            clear hc
            go_wp2_with fail
            go_quiet (fail)
            clear y1 y2 hne x1 x2 z1 z2 z3 z4 z5 z5' z8 z9 za zb zc HLA
            obtain ⟨mm, hmm⟩ : ∃ mm : Nat, (k : Int) + 1 = (mm : Int) := ⟨k + 1, by omega⟩
            have hmk : k + 1 = mm := by omega
            rw [hmk] at HI HSE hml htm
            first | rw [hmm] | rw [hmk]
            clear hmm hmk
            obtain ⟨U, hU⟩ : ∃ U, w2.drewN nq = U := ⟨_, rfl⟩
            have HF : Hid (RnC w U (some ⟨bs, os, none⟩) st.length cs bl ol lp.length cl) := by show RnC _ _ _ _ _ _ _ _ _; rw [← hU]; exact HE.out.go ((Kept.refl [] w2).drewN nq)
            rw [hU]
            clear hU HE c0 c1
            have HSU : Hid (Lets U (.slice (some ⟨bs, os, none⟩) mm cs) (st.take mm)) := (HS.out.takeA mm (by omega)).kept HF.out.kept
            have lw1 : w.heap.size + 1 < U.heap.size := lt_of HF.out.res
            have lw0 : w.heap.size < U.heap.size := by omega
            have hmc : (mm : Int) ≤ (cs : Int) := by omega
            have hmz : (0 : Int) ≤ (mm : Int) := by omega
            obtain ⟨c0, c1, _, _⟩ := (HF.out.go ((Kept.refl [] U).alloc (.cells #[.slice none 0 0, .slice none 0 0] 47))).box.cells
            go_wp2_with fail
            clear c0 c1
            obtain ⟨Y, hY⟩ : ∃ Y, U.alloc (.cells #[.slice none 0 0, .slice none 0 0] 47) = Y := ⟨_, rfl⟩
            have HO0 : Hid (Oth U [] [] Y (.slice none 0 0) (.slice none 0 0)) := by show Oth _ _ _ _ _ _; rw [← hY]; exact Oth.new U
            rw [hY]
            clear hY
            obtain ⟨c0, c1, _, _⟩ := (HF.out.go HO0.out.kept).box.cells
            obtain ⟨d0, d1, e0, e1⟩ := HO0.out.box.cells
            have kd0 : Kept [] Y Y.drew := (Kept.refl [] Y).drew
            obtain ⟨ya, yn, yc, w3, hrun, hbx, ho⟩ := HO0.out.put (U := Y.drew) kd0 (zs := st.take mm) (u := .slice (some ⟨bs, os, none⟩) mm cs) ((HSU.out.kept HO0.out.kept).kept kd0) (by rw [List.length_take]; simp only [List.length_nil]; omega)
            obtain ⟨u0, u1, u2, u3⟩ := hbx.cells
            have HRUN : Hid (∀ ty, (Builtin.append_ #[45, 45] ty #[.slice none 0 0, .slice (some ⟨bs, os, none⟩) mm cs]).run Tryd.prog Y.drew = .ok (.slice ya yn yc) w3) := hrun
            have HO4 : Hid (Oth U (st.take mm) [] (w3.setCell ⟨U.heap.size, 0, none⟩ (.slice ya yn yc)) (.slice ya yn yc) (.slice none 0 0)) := ho
            clear hrun hbx ho kd0
            go_cut [5] from 53 to 60 (fun s5 wx => s5 = .int .i64 (mm : Nat) ∧ ∃ xa xn xc, Hid (Oth U (st.take mm) [] wx (.slice xa xn xc) (.slice none 0 0)))
            case first =>
              go_region_law (refine step_append_run rfl _ _ _ rfl _ _ _ _ rfl rfl (HRUN.out _) ?_)
              all_goals go_wp2_with fail
              all_goals go_meet
              all_goals exact ⟨rfl, _, _, _, HO4.out⟩
            case rest =>
              obtain ⟨rfl, xa, xn, xc, HO5⟩ := hcut
              rename World => V6
              clear c0 c1 d0 d1 e0 e1 u0 u1 u2 u3 HO0 HO4 HRUN
              have HO6 : Hid (Oth U (st.take mm) (upN lq fi 0) V6 (.slice xa xn xc) (.slice none 0 0)) := HO5.out
              clear HO5
              go_wp2_with fail
              go_loopw [8] (fun v wr => ∃ i : Nat, v = .int .i64 (i : Nat) ∧ i ≤ n ∧ ∃ ya yn yc, Hid (Oth U (st.take mm) (upN lq fi i) wr (.slice xa xn xc) (.slice ya yn yc))) (fun v _ => n - (intOf v).toNat)
              case atStart => exact ⟨0, rfl, Nat.zero_le _, _, _, _, HO6.out⟩
              case round =>
                rename World => w5
                obtain ⟨i, rfl, hi, ya, yn, yc, HO⟩ := hrel
                by_cases hlt : i < n
                · have l1 : (i : Int) < (n : Int) := by omega
                  have HLT : Hid (i < n) := hlt
                  obtain ⟨lb, hlb, hlb2, x3, x4⟩ := turn_idx i htr2 hfi3
                  obtain ⟨x, hx⟩ : ∃ x, cyc lq (fi + i) = x := ⟨_, rfl⟩
                  have c2 : w5.cell? ⟨bl, ol + lb, none⟩ = some (.int .u16 (x : Nat)) := by
                    obtain ⟨_, _, _, e, _, _, hc⟩ := HL.out.there h0
                    cases e
                    have h2 := cell_kept0 (HF.out.go HO.out.kept).kept (hc lb (by omega))
                    rw [← getD_take lp n lb hlb2, HLQ.out] at h2
                    rw [← hx]
                    unfold cyc
                    rw [HC2.out, ← hlb]
                    exact h2
                  have HXS : Hid (x < 65536) := by rw [← hx]; exact cyc_small (fun y hy => HL.out.small y (by rw [← HLQ.out] at hy; exact List.mem_of_mem_take hy)) _
                  have HUP : Hid (upN lq fi (i + 1) = upN lq fi i ++ [x]) := by show upN lq fi (i + 1) = _; rw [upN_succ, hx]
                  have HUL : Hid ((upN lq fi i).length + 1 ≤ 1000000000) := by show (upN lq fi i).length + 1 ≤ _; rw [upN_len]; omega
                  obtain ⟨c0, c1, _, _⟩ := (HF.out.go HO.out.kept).box.cells
                  obtain ⟨d0, d1, e0, e1⟩ := HO.out.box.cells
                  have lw2 := lt_of HO.out.box
                  have hnb : ¬ (w5.heap.size = U.heap.size) := by omega
                  have q0 : (0 : Int) ≤ (lb : Int) := by omega
                  have q1 : (lb : Int) < (lp.length : Int) := by omega
                  have q2 : ¬ ((n : Int) = 0) := by omega
                  have q3 : ¬ (n = 0) := by omega
                  have q4 : IntKind.i64.wrap ((i : Int) - (tr : Int)) = (i : Int) - (tr : Int) := by rw [IntKind.wrap_i64]; omega
                  have q5 : IntKind.i64.wrap ((i : Int) - (tr : Int) + (n : Int)) = (i : Int) - (tr : Int) + (n : Int) := by rw [IntKind.wrap_i64]; omega
                  have q6 : IntKind.i64.wrap (tr : Int) = (tr : Int) := by rw [IntKind.wrap_i64]; omega
                  have q7 : IntKind.i64.wrap (lb : Int) = (lb : Int) := by rw [IntKind.wrap_i64]; omega
                  obtain ⟨za, zn, zc, w3, hrun, hbx, ho⟩ := HO.out.put2 (U := (w5.alloc (.cells #[.int .u16 (x : Nat)] 51)).drew) ((Kept.refl [] w5).alloc _).drew (zs := [x]) (u := .slice (some ⟨w5.heap.size, 0, none⟩) 1 1) (lets_one (heap_alloc_new w5 _) HXS.out) HUL.out
                  obtain ⟨g0, g1, k0, k1⟩ := hbx.cells
                  have HRUN : Hid (∀ ty, (Builtin.append_ #[45, 45] ty #[.slice ya yn yc, .slice (some ⟨w5.heap.size, 0, none⟩) 1 1]).run Tryd.prog (w5.alloc (.cells #[.int .u16 (x : Nat)] 51)).drew = .ok (.slice za zn zc) w3) := hrun
                  have HO4 : Hid (Oth U (st.take mm) (upN lq fi (i + 1)) (w3.setCell ⟨U.heap.size, 1, none⟩ (.slice za zn zc)) (.slice xa xn xc) (.slice za zn zc)) := by show Oth _ _ _ _ _ _; rw [HUP.out]; exact ho
                  clear hx hlb hlt hrun hbx ho
                  go_wp2_with fail
                  go_region_law (refine step_append_run rfl _ _ _ rfl _ _ _ _ rfl rfl (HRUN.out _) ?_)
                  all_goals go_wp2
                  all_goals go_roundw
                  all_goals (have hlt := HLT.out)
                  all_goals first | exact ⟨i + 1, by go_num, by omega, _, _, _, HO4.out⟩ | (simp [intOf]; omega)
                · obtain rfl : i = n := by omega
                  have l1 : ¬ ((i : Int) < (i : Int)) := by omega
                  clear hlt hi
                  obtain ⟨d0, d1, e0, e1⟩ := HO.out.box.cells
                  have HW5 : Hid (RnC w w5 (some ⟨bs, os, none⟩) st.length cs bl ol lp.length cl) := HF.out.go HO.out.kept
                  obtain ⟨r0, r1, s0, s1⟩ := HW5.out.res.cells
                  have hrl : upN lq fi i = rot lq fi := by
                    rw [rot_map lq (by rw [HC2.out]; exact hfi2), HC2.out]
                    rfl
                  have HIW := ref_end HO.out (B := w.heap.size + 1) lw1 (fun x hx => HS.out.small x (List.mem_of_mem_take hx)) (fun x hx => by rw [hrl] at hx; exact rot_small (fun y hy => HL.out.small y (by rw [← HLQ.out] at hy; exact List.mem_of_mem_take hy)) x hx) (by rw [upN_len, List.length_take]; omega) (.slice xa xn xc) (.slice ya yn yc)
                  have HNW0 := ref_new HO.out (B := w.heap.size + 1) (n₀ := w.heap.size) lw1 (by omega) (fun x hx => HS.out.small x (List.mem_of_mem_take hx)) (fun x hx => by rw [hrl] at hx; exact rot_small (fun y hy => HL.out.small y (by rw [← HLQ.out] at hy; exact List.mem_of_mem_take hy)) x hx) (by rw [upN_len, List.length_take]; omega) (.slice xa xn xc) (.slice ya yn yc)
                  rw [hrl] at HIW HNW0
                  have HNF : Hid (NormOf ⟨st, lp⟩ ⟨st.take mm, rot lq fi⟩) := ⟨fun e => by have e' : lp = [] := e; rw [e'] at h0; simp at h0, fun _ => ⟨HI.out.norm HC3.out HSE.out, fun i => (HI.out.same i).trans (HC1.out i)⟩⟩
                  have HIH : Hid (IsW ((w5.setCell ⟨w.heap.size + 1, 0, none⟩ (.slice xa xn xc)).setCell ⟨w.heap.size + 1, 1, none⟩ (.slice ya yn yc)) (.slice xa xn xc) (.slice ya yn yc) ⟨st.take mm, rot lq fi⟩) := HIW
                  have HNW : Hid (NewW _ _ _ _ _) := HNW0
                  clear hrl HIW HNW0
                  go_wp2
                  exact ret_word rfl rfl rfl (HW5.out.res.set _ _) ⟨_, _, _, _, _, _, _, rfl, HIH.out, HNF.out, kept_set2 HW5.out.kept (by omega) _ _, HNW.out⟩
        · have ng : ¬ ((0 : Int) < (m : Int)) := by omega
          have ng2 : decide ((0 : Int) < (m : Int)) = false := decide_eq_false ng
          have ng3 : decide (0 < m) = false := decide_eq_false h1
          have HM0 : Hid (m = 0) := by show m = 0; omega
          clear h1 ng
          go_wp2_with fail
          go_quiet (fail)
          obtain ⟨U, hU⟩ : ∃ U, w2.drewN nq = U := ⟨_, rfl⟩
          have HF : Hid (RnC w U ads st.length cs bl ol lp.length cl) := by show RnC _ _ _ _ _ _ _ _ _; rw [← hU]; exact HE.out.go ((Kept.refl [] w2).drewN nq)
          rw [hU]
          clear hU HE c0 c1
          have HSU : Hid (Lets U (.slice ads m cs) (st.take m)) := (HS.out.takeA m (by omega)).kept HF.out.kept
          have lw1 : w.heap.size + 1 < U.heap.size := lt_of HF.out.res
          have lw0 : w.heap.size < U.heap.size := by omega
          have hmc : (m : Int) ≤ (cs : Int) := by omega
          have hmz : (0 : Int) ≤ (m : Int) := by omega
          obtain ⟨c0, c1, _, _⟩ := (HF.out.go ((Kept.refl [] U).alloc (.cells #[.slice none 0 0, .slice none 0 0] 47))).box.cells
          go_wp2_with fail
          clear c0 c1
          obtain ⟨Y, hY⟩ : ∃ Y, U.alloc (.cells #[.slice none 0 0, .slice none 0 0] 47) = Y := ⟨_, rfl⟩
          have HO0 : Hid (Oth U [] [] Y (.slice none 0 0) (.slice none 0 0)) := by show Oth _ _ _ _ _ _; rw [← hY]; exact Oth.new U
          rw [hY]
          clear hY
          obtain ⟨c0, c1, _, _⟩ := (HF.out.go HO0.out.kept).box.cells
          obtain ⟨d0, d1, e0, e1⟩ := HO0.out.box.cells
          have kd0 : Kept [] Y Y.drew := (Kept.refl [] Y).drew
          obtain ⟨ya, yn, yc, w3, hrun, hbx, ho⟩ := HO0.out.put (U := Y.drew) kd0 (zs := st.take m) (u := .slice ads m cs) ((HSU.out.kept HO0.out.kept).kept kd0) (by rw [List.length_take]; simp only [List.length_nil]; omega)
          obtain ⟨u0, u1, u2, u3⟩ := hbx.cells
          have HRUN : Hid (∀ ty, (Builtin.append_ #[45, 45] ty #[.slice none 0 0, .slice ads m cs]).run Tryd.prog Y.drew = .ok (.slice ya yn yc) w3) := hrun
          have HO4 : Hid (Oth U (st.take m) [] (w3.setCell ⟨U.heap.size, 0, none⟩ (.slice ya yn yc)) (.slice ya yn yc) (.slice none 0 0)) := ho
          clear hrun hbx ho kd0
          go_cut [5] from 53 to 60 (fun s5 wx => s5 = .int .i64 (m : Nat) ∧ ∃ xa xn xc, Hid (Oth U (st.take m) [] wx (.slice xa xn xc) (.slice none 0 0)))
          case first =>
            go_region_law (refine step_append_run rfl _ _ _ rfl _ _ _ _ rfl rfl (HRUN.out _) ?_)
            all_goals go_wp2_with fail
            all_goals go_meet
            all_goals exact ⟨rfl, _, _, _, HO4.out⟩
          case rest =>
            obtain ⟨rfl, xa, xn, xc, HO5⟩ := hcut
            rename World => V6
            clear c0 c1 d0 d1 e0 e1 u0 u1 u2 u3 HO0 HO4 HRUN
            have HO6 : Hid (Oth U (st.take m) (upN lq fi 0) V6 (.slice xa xn xc) (.slice none 0 0)) := HO5.out
            clear HO5
            go_wp2_with fail
            go_loopw [8] (fun v wr => ∃ i : Nat, v = .int .i64 (i : Nat) ∧ i ≤ n ∧ ∃ ya yn yc, Hid (Oth U (st.take m) (upN lq fi i) wr (.slice xa xn xc) (.slice ya yn yc))) (fun v _ => n - (intOf v).toNat)
            case atStart => exact ⟨0, rfl, Nat.zero_le _, _, _, _, HO6.out⟩
            case round =>
              rename World => w5
              obtain ⟨i, rfl, hi, ya, yn, yc, HO⟩ := hrel
              by_cases hlt : i < n
              · have l1 : (i : Int) < (n : Int) := by omega
                have HLT : Hid (i < n) := hlt
                obtain ⟨lb, hlb, hlb2, x3, x4⟩ := turn_idx i htr2 hfi3
                obtain ⟨x, hx⟩ : ∃ x, cyc lq (fi + i) = x := ⟨_, rfl⟩
                have c2 : w5.cell? ⟨bl, ol + lb, none⟩ = some (.int .u16 (x : Nat)) := by
                  obtain ⟨_, _, _, e, _, _, hc⟩ := HL.out.there h0
                  cases e
                  have h2 := cell_kept0 (HF.out.go HO.out.kept).kept (hc lb (by omega))
                  rw [← getD_take lp n lb hlb2, HLQ.out] at h2
                  rw [← hx]
                  unfold cyc
                  rw [HC2.out, ← hlb]
                  exact h2
                have HXS : Hid (x < 65536) := by rw [← hx]; exact cyc_small (fun y hy => HL.out.small y (by rw [← HLQ.out] at hy; exact List.mem_of_mem_take hy)) _
                have HUP : Hid (upN lq fi (i + 1) = upN lq fi i ++ [x]) := by show upN lq fi (i + 1) = _; rw [upN_succ, hx]
                have HUL : Hid ((upN lq fi i).length + 1 ≤ 1000000000) := by show (upN lq fi i).length + 1 ≤ _; rw [upN_len]; omega
                obtain ⟨c0, c1, _, _⟩ := (HF.out.go HO.out.kept).box.cells
                obtain ⟨d0, d1, e0, e1⟩ := HO.out.box.cells
                have lw2 := lt_of HO.out.box
                have hnb : ¬ (w5.heap.size = U.heap.size) := by omega
                have q0 : (0 : Int) ≤ (lb : Int) := by omega
                have q1 : (lb : Int) < (lp.length : Int) := by omega
                have q2 : ¬ ((n : Int) = 0) := by omega
                have q3 : ¬ (n = 0) := by omega
                have q4 : IntKind.i64.wrap ((i : Int) - (tr : Int)) = (i : Int) - (tr : Int) := by rw [IntKind.wrap_i64]; omega
                have q5 : IntKind.i64.wrap ((i : Int) - (tr : Int) + (n : Int)) = (i : Int) - (tr : Int) + (n : Int) := by rw [IntKind.wrap_i64]; omega
                have q6 : IntKind.i64.wrap (tr : Int) = (tr : Int) := by rw [IntKind.wrap_i64]; omega
                have q7 : IntKind.i64.wrap (lb : Int) = (lb : Int) := by rw [IntKind.wrap_i64]; omega
                obtain ⟨za, zn, zc, w3, hrun, hbx, ho⟩ := HO.out.put2 (U := (w5.alloc (.cells #[.int .u16 (x : Nat)] 51)).drew) ((Kept.refl [] w5).alloc _).drew (zs := [x]) (u := .slice (some ⟨w5.heap.size, 0, none⟩) 1 1) (lets_one (heap_alloc_new w5 _) HXS.out) HUL.out
                obtain ⟨g0, g1, k0, k1⟩ := hbx.cells
                have HRUN : Hid (∀ ty, (Builtin.append_ #[45, 45] ty #[.slice ya yn yc, .slice (some ⟨w5.heap.size, 0, none⟩) 1 1]).run Tryd.prog (w5.alloc (.cells #[.int .u16 (x : Nat)] 51)).drew = .ok (.slice za zn zc) w3) := hrun
                have HO4 : Hid (Oth U (st.take m) (upN lq fi (i + 1)) (w3.setCell ⟨U.heap.size, 1, none⟩ (.slice za zn zc)) (.slice xa xn xc) (.slice za zn zc)) := by show Oth _ _ _ _ _ _; rw [HUP.out]; exact ho
                clear hx hlb hlt hrun hbx ho
                go_wp2_with fail
                go_region_law (refine step_append_run rfl _ _ _ rfl _ _ _ _ rfl rfl (HRUN.out _) ?_)
                all_goals go_wp2
                all_goals go_roundw
                all_goals (have hlt := HLT.out)
                all_goals first | exact ⟨i + 1, by go_num, by omega, _, _, _, HO4.out⟩ | (simp [intOf]; omega)
              · obtain rfl : i = n := by omega
                have l1 : ¬ ((i : Int) < (i : Int)) := by omega
                clear hlt hi
                obtain ⟨d0, d1, e0, e1⟩ := HO.out.box.cells
                have HW5 : Hid (RnC w w5 ads st.length cs bl ol lp.length cl) := HF.out.go HO.out.kept
                obtain ⟨r0, r1, s0, s1⟩ := HW5.out.res.cells
                have hrl : upN lq fi i = rot lq fi := by
                  rw [rot_map lq (by rw [HC2.out]; exact hfi2), HC2.out]
                  rfl
                have HIW := ref_end HO.out (B := w.heap.size + 1) lw1 (fun x hx => HS.out.small x (List.mem_of_mem_take hx)) (fun x hx => by rw [hrl] at hx; exact rot_small (fun y hy => HL.out.small y (by rw [← HLQ.out] at hy; exact List.mem_of_mem_take hy)) x hx) (by rw [upN_len, List.length_take]; omega) (.slice xa xn xc) (.slice ya yn yc)
                have HNW0 := ref_new HO.out (B := w.heap.size + 1) (n₀ := w.heap.size) lw1 (by omega) (fun x hx => HS.out.small x (List.mem_of_mem_take hx)) (fun x hx => by rw [hrl] at hx; exact rot_small (fun y hy => HL.out.small y (by rw [← HLQ.out] at hy; exact List.mem_of_mem_take hy)) x hx) (by rw [upN_len, List.length_take]; omega) (.slice xa xn xc) (.slice ya yn yc)
                rw [hrl] at HIW HNW0
                have HNF : Hid (NormOf ⟨st, lp⟩ ⟨st.take m, rot lq fi⟩) := ⟨fun e => by have e' : lp = [] := e; rw [e'] at h0; simp at h0, fun _ => ⟨HI.out.norm HC3.out (Or.inl HM0.out), fun i => (HI.out.same i).trans (HC1.out i)⟩⟩
                have HIH : Hid (IsW ((w5.setCell ⟨w.heap.size + 1, 0, none⟩ (.slice xa xn xc)).setCell ⟨w.heap.size + 1, 1, none⟩ (.slice ya yn yc)) (.slice xa xn xc) (.slice ya yn yc) ⟨st.take m, rot lq fi⟩) := HIW
                have HNW : Hid (NewW _ _ _ _ _) := HNW0
                clear hrl HIW HNW0
                go_wp2
                exact ret_word rfl rfl rfl (HW5.out.res.set _ _) ⟨_, _, _, _, _, _, _, rfl, HIH.out, HNF.out, kept_set2 HW5.out.kept (by omega) _ _, HNW.out⟩
theorem refNormal_none (ads : Option Addr) (cs : Nat) (ad : Option Addr) (c : Nat) (st : List Nat) (w : World) :
    Calls Tryd.prog 52 #[.agg #[.slice ads st.length cs, .slice ad 0 c]] w (RefMade w ⟨st, []⟩) := (refNormal_noneN ads cs ad c st w).mono fun _ _ h => h.made
theorem refNormal_some (ads : Option Addr) (cs bl ol cl : Nat) (st lp : List Nat) (w : World) (hs : Lets w (.slice ads st.length cs) st) (hl : Lets w (.slice (some ⟨bl, ol, none⟩) lp.length cl) lp) (h0 : 0 < lp.length) (hf : st.length + lp.length ≤ 100000000) :
    Calls Tryd.prog 52 #[.agg #[.slice ads st.length cs, .slice (some ⟨bl, ol, none⟩) lp.length cl]] w (RefMade w ⟨st, lp⟩) := (refNormal_someN ads cs bl ol cl st lp w hs hl h0 hf).mono fun _ _ h => h.made
end Go.Proofs.YtamfnefnaelgfaaDoor
