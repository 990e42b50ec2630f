/- package dfa: isRight, Check, Run, Has of any automaton. -/
import Derived.Test.YtcojlcbljhnbgaaDfRun
import Derived.Test.YtcojlcbljhnbgaaWd
namespace Go.Proofs.Ytcojlcbljhnbgaa
open Go.RowKit Go.Shelf

def rightD (ps : List ByteArray) (next : List (List Int)) (ll : Nat) : Bool := listB ps && !decide (next.length = 0) && decide (ll = next.length) && !(next.any (wrongB ps.length next.length))
theorem listB_len {ps : List ByteArray} (h : listB ps = true) : ps.length ≤ 8 := by
  unfold listB at h
  simp at h
  exact h.1
set_option maxHeartbeats 2000000 in
set_option maxRecDepth 10000 in
theorem isRight_any13 (pv nv : Value) (ps : List ByteArray) (next : List (List Int)) (la : Option Addr) (ll lc : Nat) (w : World) (hp : Strs w pv ps) (hn : Rowss w nv next) :
    Calls Try.prog 33 #[.agg #[pv, nv, .slice la ll lc]] w fun e w' => e = .returned (.bool (rightD ps next ll)) ∧ Kept [] w w' := by
  obtain ⟨pa, pc, rfl, _, _⟩ := hp.form
  obtain ⟨na, nc, rfl, _, _⟩ := hn.form13
  obtain ⟨V, hV⟩ : ∃ V, w.alloc (.cells #[.slice pa ps.length pc, .slice na next.length nc, .slice la ll lc] 67) = V := ⟨_, rfl⟩
  have kV : Kept [] w V := by rw [← hV]; exact (Kept.refl [] w).alloc _
  have bV : V.heap[w.heap.size]? = some (.cells #[.slice pa ps.length pc, .slice na next.length nc, .slice la ll lc] 67 (0, 0)) := by rw [← hV]; exact al0 _ _
  have HV : Hid (_ = V) := hV
  have HL : Hid (Calls Try.prog 44 #[.slice pa ps.length pc] V fun e w' => e = .returned (.bool (listB ps)) ∧ Kept [] V w') := isList_any13 _ ps V (hp.kept kV)
  have HCC : Hid (∀ W, Kept [] V W → W.cell? ⟨w.heap.size, 0, none⟩ = some (.slice pa ps.length pc) ∧ W.cell? ⟨w.heap.size, 1, none⟩ = some (.slice na next.length nc) ∧ W.cell? ⟨w.heap.size, 2, none⟩ = some (.slice la ll lc)) := fun W k => ⟨cell_kept0 k ((cell_of bV 0).trans rfl), cell_kept0 k ((cell_of bV 1).trans rfl), cell_kept0 k ((cell_of bV 2).trans rfl)⟩
  have HR : Hid (∀ W F, Kept [] V W → ps.length ≤ 62 → W.cell? ⟨F, 0, none⟩ = some (.func (.func 45) #[] #[.pointer (some ⟨w.heap.size, 0, none⟩)]) → Calls Try.prog 47 #[.slice na next.length nc, .func (.func 46) #[] #[.pointer (some ⟨w.heap.size, 0, none⟩), .pointer (some ⟨F, 0, none⟩)]] W fun e w' => e = .returned (.bool (next.any (wrongB ps.length next.length))) ∧ w' = W) := fun W F k h62 hf =>
    containsR_any13 _ next w.heap.size F ps.length pc next.length nc pa na W ((hn.kept kV).kept k) (HCC.out W k).1 h62 (HCC.out W k).2.1 hf
  have HKV : Hid (Kept [] w V) := kV
  obtain ⟨v0, v1, v2⟩ := HCC.out V (Kept.refl [] V)
  unfold rightD
  obtain ⟨lb, hlb⟩ : ∃ lb, listB ps = lb := ⟨_, rfl⟩
  have H62 : Hid (lb = true → ps.length ≤ 62) := fun q => by have := listB_len (hlb.trans q); omega
  obtain ⟨wr, hwr⟩ : ∃ wr, next.any (wrongB ps.length next.length) = wr := ⟨_, rfl⟩
  rw [hwr] at HR ⊢
  rw [hlb] at HL ⊢
  obtain ⟨pn, hpn⟩ : ∃ pn, ps.length = pn := ⟨_, rfl⟩
  obtain ⟨nn, hnn⟩ : ∃ nn, next.length = nn := ⟨_, rfl⟩
  rw [hpn] at HL HCC HR H62 v0 HV ⊢
  rw [hnn] at HCC HR v1 HV ⊢
  clear hp hn hV kV bV hlb hwr hpn hnn
  cases lb with
  | false =>
    go_enter Try.func33, Try.ntmps33
    go_upto_region 1 with fail
    rw [HV.out]
    go_wp2_with (go_at_call 44; refine HL.out.mono ?_; rintro e W1 ⟨rfl, hk⟩; have HK : Hid (Kept [] w W1) := keptB HKV.out hk; clear hk)
    go_ret
    exact ⟨ret_bool (by simp), HK.out⟩
  | true =>
    by_cases h0 : nn = 0
    · subst h0
      go_enter Try.func33, Try.ntmps33
      go_upto_region 1 with fail
      rw [HV.out]
      go_wp2_with (go_at_call 44; refine HL.out.mono ?_; rintro e W1 ⟨rfl, hk⟩; have HK : Hid (Kept [] w W1) := keptB HKV.out hk; obtain ⟨x0, x1, x2⟩ := HCC.out W1 hk; clear hk)
      go_ret
      exact ⟨ret_bool (by simp), HK.out⟩
    · have e0 : ((nn : Int) == 0) = false := by rw [beq_eq_false_iff_ne]; omega
      by_cases h1 : ll = nn
      · subst h1
        have e1 : ((ll : Int) != (ll : Int)) = false := by simp
        go_enter Try.func33, Try.ntmps33
        go_upto_region 1 with fail
        rw [HV.out]
        go_upto_region 3 with (go_at_call 44; refine HL.out.mono ?_; rintro e W1 ⟨rfl, hk⟩; have HK : Hid (Kept [] V W1) := hk; obtain ⟨x0, x1, x2⟩ := HCC.out W1 hk; clear hk)
        obtain ⟨W2, hW2⟩ : ∃ W2, W1.alloc (.cells #[.func (.func 45) #[] #[.pointer (some ⟨w.heap.size, 0, none⟩)]] 81) = W2 := ⟨_, rfl⟩
        have kW2 : Kept [] W1 W2 := by rw [← hW2]; exact (Kept.refl [] W1).alloc _
        have f0 : W2.cell? ⟨W1.heap.size, 0, none⟩ = some (.func (.func 45) #[] #[.pointer (some ⟨w.heap.size, 0, none⟩)]) := by rw [← hW2]; exact (cell_of (al0 _ _) 0).trans rfl
        have HK2 : Hid (Kept [] V W2) := keptB HK.out kW2
        have HCO : Hid (Calls Try.prog 47 #[.slice na ll nc, .func (.func 46) #[] #[.pointer (some ⟨w.heap.size, 0, none⟩), .pointer (some ⟨W1.heap.size, 0, none⟩)]] W2 fun e w' => e = .returned (.bool wr) ∧ w' = W2) := HR.out W2 W1.heap.size HK2.out (H62.out (by first | trivial | rfl)) f0
        obtain ⟨y0, y1, y2⟩ := HCC.out W2 HK2.out
        have HW2 : Hid (_ = W2) := hW2
        clear hW2 kW2 f0 x0 x1 x2
        go_upto_region 4 with fail
        rw [HW2.out]
        go_wp2_with (go_at_call 47; refine HCO.out.mono ?_; rintro e W3 ⟨rfl, hw3⟩; rw [hw3]; clear hw3)
        go_ret
        exact ⟨ret_bool (by simp [h0]), keptB HKV.out HK2.out⟩
      · have e1 : ((ll : Int) != (nn : Int)) = true := by simp; omega
        go_enter Try.func33, Try.ntmps33
        go_upto_region 1 with fail
        rw [HV.out]
        go_wp2_with (go_at_call 44; refine HL.out.mono ?_; rintro e W1 ⟨rfl, hk⟩; have HK : Hid (Kept [] w W1) := keptB HKV.out hk; obtain ⟨x0, x1, x2⟩ := HCC.out W1 hk; clear hk)
        go_ret
        exact ⟨ret_bool (by simp [h1]), HK.out⟩
theorem check_any13 (pv nv : Value) (ps : List ByteArray) (next : List (List Int)) (la : Option Addr) (ll lc : Nat) (w : World) (hp : Strs w pv ps) (hn : Rowss w nv next) :
    Calls Try.prog 26 #[.agg #[pv, nv, .slice la ll lc]] w fun e w' => e = .returned (.int .i64 ((if rightD ps next ll then 0 else 130 : Nat) : Int)) ∧ Kept [] w w' := by
  have HR : Hid (∀ W, Kept [] w W → Calls Try.prog 33 #[.agg #[pv, nv, .slice la ll lc]] W fun e w' => e = .returned (.bool (rightD ps next ll)) ∧ Kept [] W w') := fun W k => isRight_any13 pv nv ps next la ll lc W (hp.kept k) (hn.kept k)
  obtain ⟨pa, pc, rfl, _, _⟩ := hp.form
  obtain ⟨na, nc, rfl, _, _⟩ := hn.form13
  have HK : Hid (Kept [] w (w.alloc (.cells #[.slice pa ps.length pc, .slice na next.length nc, .slice la ll lc] 67))) := (Kept.refl [] w).alloc _
  obtain ⟨r, hr⟩ : ∃ r, rightD ps next ll = r := ⟨_, rfl⟩
  rw [hr] at HR ⊢
  clear hp hn hr
  cases r
  all_goals
    go_enter Try.func26, Try.ntmps26
    go_wp2_with (go_at_call 33; refine (HR.out _ HK.out).mono ?_; rintro e W1 ⟨rfl, hk⟩; have HK1 : Hid (Kept [] w W1) := keptB HK.out hk; clear hk)
    go_ret
    exact ⟨rfl, HK1.out⟩
/-- A letter that is none. -/
def badLet (pn : Nat) (u : Nat) : Bool := decide (2 ^ pn ≤ u)
theorem run1_any (u B pn pc : Nat) (pa : Option Addr) (w : World) (hu : u < 65536) (hpn : pn ≤ 62) (hp : w.cell? ⟨B, 0, none⟩ = some (.slice pa pn pc)) :
    Calls Try.prog 35 #[.int .u16 (u : Nat), .pointer (some ⟨B, 0, none⟩)] w fun e w' => e = .returned (.bool (badLet pn u)) ∧ w' = w := by
  have HL : Hid (Calls Try.prog 36 #[.slice pa pn pc] w fun e w' => e = .returned (.int .i64 ((2 ^ pn : Nat) : Int)) ∧ w' = w) := letters_any13 pa pn pc w hpn
  unfold badLet
  obtain ⟨tp, htp⟩ : ∃ tp, 2 ^ pn = tp := ⟨_, rfl⟩
  rw [htp] at HL ⊢
  have hw : IntKind.i64.wrap (u : Int) = (u : Int) := by rw [IntKind.wrap_i64]; omega
  clear htp
  go_enter Try.func35, Try.ntmps35
  go_wp2_with (go_at_call 36; refine HL.out.mono ?_; rintro e w1 ⟨rfl, hw1⟩; rw [hw1]; clear hw1)
  go_ret
  exact ⟨ret_bool (by simp), rfl⟩
set_option maxHeartbeats 2000000 in
set_option maxRecDepth 10000 in
theorem indexU_any13 (v : Value) (us : List Nat) (B pn pc : Nat) (pa : Option Addr) (w : World) (h : Lets w v us) (hpn : pn ≤ 62) (hp : w.cell? ⟨B, 0, none⟩ = some (.slice pa pn pc)) :
    Calls Try.prog 48 #[v, .func (.func 35) #[] #[.pointer (some ⟨B, 0, none⟩)]] w fun e w' => ∃ k : Int, e = .returned (.int .i64 k) ∧ Hid (decide (0 ≤ k) = us.any (badLet pn)) ∧ w' = w := by
  have hfew := h.few
  have hsm := h.small
  rcases h.lie with ⟨rfl, rfl⟩ | ⟨b, o, c, rfl, hc1, hc2, hcell⟩
  · clear h hfew hsm
    go_enter Try.func48, Try.ntmps48
    go_wp2_with fail
    refine wp_loop_rounds 1 ?_
    rw [rounds_succ]
    go_wp2
    go_ret
    exact ⟨-1, rfl, rfl, rfl⟩
  · have HCE : Hid (∀ i, i < us.length → w.cell? ⟨b, o + i, none⟩ = some (.int .u16 (us.getD i 0 : Nat))) := hcell
    have HSM : Hid (∀ x ∈ us, x < 65536) := hsm
    have HB : Hid (w.cell? ⟨B, 0, none⟩ = some (.slice pa pn pc)) := hp
    clear h hcell hp hsm
    go_enter Try.func48, Try.ntmps48
    go_wp2_with fail
    go_loopw [8] (fun i wr => ∃ k : Nat, i = .int .i64 (k : Nat) ∧ k ≤ us.length ∧ wr = w ∧ Hid (∀ j (h : j < us.length), j < k → badLet pn us[j] = false)) (fun i _ => us.length - (intOf i).toNat)
    case atStart => exact ⟨0, rfl, Nat.zero_le _, rfl, fun j _ h => by omega⟩
    case round =>
      obtain ⟨k, rfl, hk, hwr, HA⟩ := hrel
      have HWR : Hid (wr = w) := hwr
      clear hwr
      by_cases hlt : k < us.length
      · have z0 : (k : Int) < (us.length : Int) := by omega
        obtain ⟨s, hs⟩ : ∃ s, us[k] = s := ⟨_, rfl⟩
        obtain ⟨sb, hsb⟩ : ∃ sb, badLet pn s = sb := ⟨_, rfl⟩
        have HN : Hid (Calls Try.prog 35 #[.int .u16 (s : Nat), .pointer (some ⟨B, 0, none⟩)] wr fun e w' => e = .returned (.bool sb) ∧ w' = wr) := by rw [← hsb, HWR.out]; exact run1_any s B pn pc pa w (HSM.out s (by rw [← hs]; exact List.getElem_mem hlt)) hpn HB.out
        have c0 : wr.cell? ⟨b, o + k, none⟩ = some (.int .u16 (s : Nat)) := by rw [HWR.out, HCE.out k hlt, List.getD_eq_getElem?_getD, List.getElem?_eq_getElem hlt, ← hs]; rfl
        have HSB : Hid (badLet pn us[k] = sb) := by show _ = _; rw [hs]; exact hsb
        clear hs hsb
        cases sb with
        | true =>
          have HY : Hid (us.any (badLet pn) = true) := any_yes hlt HSB.out
          go_wp2_with (go_at_call 35; refine HN.out.mono ?_; rintro e w1 ⟨rfl, hw1⟩; rw [hw1]; clear hw1)
          go_ret
          exact ⟨k, rfl, by show decide (0 ≤ (k : Int)) = _; rw [HY.out]; simp, HWR.out⟩
        | false =>
          have HY : Hid (∀ j (h : j < us.length), j < k + 1 → badLet pn us[j] = false) := fun j hj h' => by
            rcases Nat.lt_or_ge j k with q | q
            · exact HA.out j hj q
            · obtain rfl : j = k := by omega
              exact HSB.out
          go_wp2_with (go_at_call 35; refine HN.out.mono ?_; rintro e w1 ⟨rfl, hw1⟩; rw [hw1]; clear hw1)
          go_roundw
          case rel => exact ⟨k + 1, by go_num, by omega, HWR.out, HY.out⟩
          case measure => simp [intOf]; omega
      · obtain rfl : k = us.length := by omega
        have z0 : ¬ ((us.length : Int) < (us.length : Int)) := by omega
        have HY : Hid (us.any (badLet pn) = false) := any_no (fun i hi => HA.out i hi hi)
        go_wp2
        go_ret
        exact ⟨-1, rfl, by show decide ((0 : Int) ≤ -1) = _; rw [HY.out]; rfl, HWR.out⟩
theorem Lets.form13 {W : World} {v : Value} {us : List Nat} (h : Lets W v us) : ∃ ad c, v = .slice ad us.length c := by
  rcases h.lie with ⟨rfl, rfl⟩ | ⟨b, o, c, rfl, _⟩
  · exact ⟨none, 0, rfl⟩
  · exact ⟨_, c, rfl⟩
theorem containsU_any13 (v : Value) (us : List Nat) (B pn pc : Nat) (pa : Option Addr) (w : World) (h : Lets w v us) (hpn : pn ≤ 62) (hp : w.cell? ⟨B, 0, none⟩ = some (.slice pa pn pc)) :
    Calls Try.prog 37 #[v, .func (.func 35) #[] #[.pointer (some ⟨B, 0, none⟩)]] w fun e w' => e = .returned (.bool (us.any (badLet pn))) ∧ w' = w := by
  have HI : Hid _ := indexU_any13 v us B pn pc pa w h hpn hp
  obtain ⟨ad, c, rfl⟩ := h.form13
  clear h hp
  go_enter Try.func37, Try.ntmps37
  go_wp2_with (go_at_call 48; refine Calls.mono HI.out ?_; rintro e w1 ⟨k, rfl, HD, hw1⟩; rw [hw1]; clear hw1)
  go_ret
  exact ⟨ret_bool HD.out, rfl⟩
/-- The state behind letters. -/
def stpD (next : List (List Int)) (s u : Nat) : Nat := ((next.getD s []).getD u 0).toNat
def runD (next : List (List Int)) (us : List Nat) : Nat := us.foldl (stpD next) 0
theorem right_at {ps : List ByteArray} {next : List (List Int)} {ll s u : Nat} (h : rightD ps next ll = true) (hs : s < next.length) (hu : badLet ps.length u = false) : ∃ hr : u < (next[s]).length, 0 ≤ (next[s])[u] ∧ (next[s])[u] < (next.length : Int) ∧ (next[s])[u] = (stpD next s u : Nat) := by
  unfold rightD at h
  simp only [Bool.and_eq_true, Bool.not_eq_true'] at h
  have hw := h.2
  rw [List.any_eq_false] at hw
  have h1 := hw next[s] (List.getElem_mem hs)
  unfold wrongB at h1
  simp only [Bool.or_eq_true, Bool.not_eq_true', decide_eq_false_iff_not, not_or, Decidable.not_not, Bool.not_eq_true] at h1
  unfold badLet at hu
  simp at hu
  have hr : u < (next[s]).length := by rw [h1.1]; exact hu
  have h2 := h1.2
  rw [List.any_eq_false] at h2
  have h3 := h2 (next[s])[u] (List.getElem_mem hr)
  unfold outB13 at h3
  simp at h3
  refine ⟨hr, h3.1, h3.2, ?_⟩
  unfold stpD
  rw [List.getD_eq_getElem?_getD (l := next), List.getElem?_eq_getElem hs]
  simp only [Option.getD_some]
  rw [List.getD_eq_getElem?_getD, List.getElem?_eq_getElem hr]
  simp only [Option.getD_some]
  omega
def runE (ps : List ByteArray) (next : List (List Int)) (ll : Nat) (us : List Nat) : Nat := if rightD ps next ll then (if us.any (badLet ps.length) then 1 else 0) else 130
def runS (ps : List ByteArray) (next : List (List Int)) (ll : Nat) (us : List Nat) : Nat := if runE ps next ll us = 0 then runD next us else 0
end Go.Proofs.Ytcojlcbljhnbgaa
