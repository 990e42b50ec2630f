/- A runner in memory: New, Verdict, behind, Step. -/
import Derived.Test.YtcojlcbljhnbgaaRuTab
namespace Go.Proofs.Ytcojlcbljhnbgaa
open Go.RowKit Go.Shelf Go.Maps

theorem own_thereR {W : World} {base : Nat} {e : TypeId} {v : Value} {n : Nat} {xs : List Value} (h : W.ownsRow base e 1 v n xs) (h0 : 0 < n) : ∃ g c, v = .slice (some ⟨g, 0, none⟩) n c ∧ ∀ j u, xs[j]? = some u → W.cell? ⟨g, j, none⟩ = some u := by
  rcases h.2 with ⟨_, hz⟩ | ⟨g, cap, cur, hve, hb, hw, h3, h4, h5, h6⟩
  · omega
  · refine ⟨g, cap, hve, fun j u hu => ?_⟩
    rw [cell_of hw]
    rw [← h6, List.getElem?_take] at hu
    split at hu
    · rw [← Array.getElem?_toList]; exact hu
    · cases hu
theorem flat_at (tp : Nat) : ∀ (next : List (List Int)), (∀ r ∈ next, r.length = tp) → ∀ s l, s < next.length → l < tp → next.flatten[s * tp + l]? = some ((next.getD s []).getD l 0)
  | [], _, s, l, hs, _ => by simp at hs
  | r :: rs, hr, s, l, hs, hl => by
    have h0 : r.length = tp := hr r (by simp)
    rw [List.flatten_cons]
    cases s with
    | zero =>
      rw [Nat.zero_mul, Nat.zero_add, List.getElem?_append_left (by omega)]
      simp [List.getD_eq_getElem?_getD, List.getElem?_eq_getElem (show l < r.length by omega)]
    | succ s =>
      have e1 : (s + 1) * tp = s * tp + tp := Nat.succ_mul s tp
      rw [List.getElem?_append_right (by omega), show (s + 1) * tp + l - r.length = s * tp + l by omega]
      have := flat_at tp rs (fun q hq => hr q (by simp [hq])) s l (by simpa using hs) hl
      rw [this]
      simp
/-- A machine that is taken. -/
structure MachR (ps : List ByteArray) (next : List (List Int)) (out : List Nat) : Prop where
  rows : RightR next
  len : out.length = next.length
  few : ps.length ≤ 8
  each : ∀ r ∈ next, r.length = 2 ^ ps.length
  names : listB ps = true
theorem machR_of {ps : List ByteArray} {next : List (List Int)} {out : List Nat} (h : rightM ps next out = true) (hf : out.length ≤ 1000000) : MachR ps next out := by
  unfold rightM rightD at h
  simp only [Bool.and_eq_true, Bool.not_eq_true', decide_eq_true_eq, decide_eq_false_iff_not] at h
  obtain ⟨⟨⟨⟨h1, h2⟩, h3⟩, h4⟩, _⟩ := h
  have h8 := listB_len h1
  rw [List.any_eq_false] at h4
  have hw : ∀ r ∈ next, r.length = 2 ^ ps.length ∧ ∀ x ∈ r, 0 ≤ x ∧ x < (next.length : Int) := fun r hr => by
    have h5 := h4 r hr
    unfold wrongB at h5
    simp only [Bool.or_eq_true, Bool.not_eq_true', decide_eq_false_iff_not, not_or, Decidable.not_not, List.any_eq_true, not_exists, not_and] at h5
    refine ⟨h5.1, fun x hx => ?_⟩
    have := h5.2 x hx
    unfold outB13 at this
    simp at this
    omega
  have hp : ∀ p, p ≤ 8 → 0 < 2 ^ p ∧ 2 ^ p ≤ 256 := fun p hp => ⟨Nat.two_pow_pos p, Nat.pow_le_pow_right (n := 2) (i := p) (j := 8) (by omega) hp⟩
  obtain ⟨p1, p2⟩ := hp _ h8
  exact ⟨⟨by omega, by omega, fun r hr => ⟨by rw [(hw r hr).1]; exact p1, by rw [(hw r hr).1]; exact p2, (hw r hr).2⟩⟩, h3, h8, fun r hr => (hw r hr).1, h1⟩
/-- A runner at R; its table's blocks lie between lo and N. -/
structure RunS (W : World) (lo N R : Nat) (ps : List ByteArray) (next : List (List Int)) (out : List Nat) (fin : List Bool) (s : Nat) : Prop where
  ex : ∃ T MB FR nxv outv D fl, W.heap[R]? = some (.cells #[.pointer (some ⟨T, 0, none⟩), .int .i64 (s : Nat)] 57 (0, 0)) ∧ TabI W lo N T MB FR ps.length nxv outv D ps fl out fin ∧ next.flatten = fl
  fin : FinOf next out fin
  high : N ≤ R
  lt : s < next.length
theorem RunS.keptF {F : List Nat} {W W' : World} {lo N R : Nat} {ps : List ByteArray} {next : List (List Int)} {out : List Nat} {fin : List Bool} {s : Nat} (h : RunS W lo N R ps next out fin s) (k : Kept F W W') (hR : R ∉ F) (hF : ∀ x ∈ F, x < lo ∨ N ≤ x) : RunS W' lo N R ps next out fin s := by
  obtain ⟨T, MB, FR, nxv, outv, D, fl, h1, h2, h3⟩ := h.ex
  exact ⟨⟨T, MB, FR, nxv, outv, D, fl, k.at h1 hR, h2.keptF k hF, h3⟩, h.fin, h.high, h.lt⟩
theorem RunS.kept {W W' : World} {lo N R : Nat} {ps : List ByteArray} {next : List (List Int)} {out : List Nat} {fin : List Bool} {s : Nat} (h : RunS W lo N R ps next out fin s) (k : Kept [] W W') : RunS W' lo N R ps next out fin s := h.keptF k (by simp) (by simp)
theorem bits_or_i64R (a b : Nat) (ha : a < 4611686018427387904) (hb : b < 4611686018427387904) : bits .or .i64 (a : Int) (b : Int) = ((a ||| b : Nat) : Int) := by
  have hx : a ||| b < 4611686018427387904 := Nat.or_lt_two_pow (n := 62) ha hb
  have h1 : (BitVec.ofInt 64 (a : Int)).toNat = a := by
    rw [BitVec.ofInt_natCast, BitVec.toNat_ofNat]; exact Nat.mod_eq_of_lt (by omega)
  have h2 : (BitVec.ofInt 64 (b : Int)).toNat = b := by
    rw [BitVec.ofInt_natCast, BitVec.toNat_ofNat]; exact Nat.mod_eq_of_lt (by omega)
  have h3 : bits .or .i64 (a : Int) (b : Int) = IntKind.i64.wrap ((BitVec.ofInt 64 (a : Int) ||| BitVec.ofInt 64 (b : Int)).toNat : Int) := rfl
  rw [h3, BitVec.toNat_or, h1, h2, IntKind.wrap_i64]
  generalize a ||| b = c at hx ⊢
  omega
theorem idx_facts (s p r sq ix : Nat) (hs : s < 1000000) (hp : p ≤ 8) (hlt : r < 2 ^ p) (hsq : s * 2 ^ p = sq) (hix : sq + r = ix) : wrap64 ((s : Int) * 2 ^ p) = (sq : Int) ∧ bits .or .i64 (sq : Int) (r : Int) = (ix : Int) ∧ sq ≤ 256000000 ∧ r < 256 := by
  have hq : 2 ^ p ≤ 256 := Nat.pow_le_pow_right (n := 2) (i := p) (j := 8) (by omega) hp
  have h9 := Nat.two_pow_add_eq_or_of_lt hlt s
  rw [Nat.mul_comm (2 ^ p) s, hsq, hix] at h9
  have h2 := Nat.mul_le_mul (show s ≤ 1000000 from Nat.le_of_lt hs) hq
  rw [hsq] at h2
  have hr : r < 256 := Nat.lt_of_lt_of_le hlt hq
  have e : ((s : Int) * 2 ^ p) = (sq : Int) := by rw [← hsq]; norm_cast
  clear hlt hq hsq
  refine ⟨?_, ?_, h2, hr⟩
  · rw [e]; unfold wrap64; omega
  · rw [bits_or_i64R sq r (by omega) (by omega), ← h9]
theorem wrap_smallR (r : Nat) (h : r < 256) : wrap64 (r : Int) = (r : Int) := by unfold wrap64; omega
theorem mask_facts (p l : Nat) (hp : p ≤ 8) (hl : l < 65536) : IntKind.u16.wrap ((2 : Int) ^ p) = ((2 ^ p : Nat) : Int) ∧ IntKind.u16.wrap (((2 ^ p : Nat) : Int) - 1) = ((2 ^ p - 1 : Nat) : Int) ∧ bits .and .u16 (l : Int) ((2 ^ p - 1 : Nat) : Int) = ((l % 2 ^ p : Nat) : Int) := by
  have h1 : 2 ^ p ≤ 256 := Nat.pow_le_pow_right (n := 2) (i := p) (j := 8) (by omega) hp
  have h0 : 0 < 2 ^ p := Nat.two_pow_pos p
  refine ⟨?_, ?_, ?_⟩
  · rw [show ((2 : Int) ^ p) = ((2 ^ p : Nat) : Int) by norm_cast]
    generalize (2 ^ p : Nat) = q at *
    rw [IntKind.wrap_u16]; omega
  · generalize (2 ^ p : Nat) = q at *
    rw [IntKind.wrap_u16]; omega
  · rw [u16_and_nat l (2 ^ p - 1) hl (by omega), Nat.and_two_pow_sub_one_eq_mod]
set_option maxHeartbeats 2000000 in
set_option maxRecDepth 10000 in
theorem behind_any (T MB FR k lo N : Nat) (nxv outv : Value) (D : DataW Unit) (ps : List ByteArray) (next : List (List Int)) (fl : List Int) (out : List Nat) (fin : List Bool) (s l : Nat) (w : World) (h : TabI w lo N T MB FR k nxv outv D ps fl out fin) (hm : MachR ps next out) (hfl : next.flatten = fl) (hs : s < next.length) (hl : l < 65536) :
    Calls Try.prog 24 #[.pointer (some ⟨T, 0, none⟩), .int .i64 (s : Nat), .int .u16 (l : Nat)] w fun e w' => e = .returned (.int .i64 ((next.getD s []).getD (l % 2 ^ ps.length) 0)) ∧ Hid (Kept [] w w') := by
  have t1 : w.cell? ⟨T, 1, none⟩ = some (.int .i64 (ps.length : Nat)) := (cell_of h.box 1).trans rfl
  obtain ⟨p, hp⟩ : ∃ p, ps.length = p := ⟨_, rfl⟩
  have hp8 : p ≤ 8 := by rw [← hp]; exact hm.few
  rw [hp] at t1 ⊢
  have z0 : (0 : Int) ≤ (p : Int) := by omega
  have z1 : (0 : Int) ≤ (s : Int) := by omega
  have HE : Hid _ := mask_facts p l hp8 hl
  have hpos : 0 < 2 ^ p := Nat.two_pow_pos p
  have hlt : l % 2 ^ p < 2 ^ p := Nat.mod_lt _ hpos
  have hat := flat_at (2 ^ p) next (by rw [← hp]; exact hm.each) s (l % 2 ^ p) hs hlt
  rw [hfl] at hat
  obtain ⟨v, hv⟩ : ∃ v, (next.getD s []).getD (l % 2 ^ p) 0 = v := ⟨_, rfl⟩
  rw [hv] at hat ⊢
  have hin : s * 2 ^ p + l % 2 ^ p < fl.length := (List.getElem?_eq_some_iff.1 hat).1
  obtain ⟨g, c, hnx, hcl⟩ := own_thereR h.nx (by omega)
  subst hnx
  have t2 : w.cell? ⟨T, 2, none⟩ = some (.slice (some ⟨g, 0, none⟩) fl.length c) := (cell_of h.box 2).trans rfl
  have t3 : w.cell? ⟨g, s * 2 ^ p + l % 2 ^ p, none⟩ = some (.int .i64 v) := hcl _ _ (by simp [numsI, hat])
  have hsf : s < 1000000 := by have := hm.rows.few; omega
  have hq : 2 ^ p ≤ 256 := Nat.pow_le_pow_right (n := 2) (i := p) (j := 8) (by omega) hp8
  obtain ⟨r, hr⟩ : ∃ r, l % 2 ^ p = r := ⟨_, rfl⟩
  rw [hr] at HE hlt t3 hin
  obtain ⟨sq, hsq⟩ : ∃ sq, s * 2 ^ p = sq := ⟨_, rfl⟩
  obtain ⟨ix, hix⟩ : ∃ ix, sq + r = ix := ⟨_, rfl⟩
  obtain ⟨e5, e6, hsq2, y2⟩ := idx_facts s p r sq ix hsf hp8 hlt hsq hix
  rw [hsq, hix] at t3 hin
  have y0 : (0 : Int) ≤ (ix : Int) := by omega
  have y1 : (ix : Int) < (fl.length : Int) := by omega

  clear h hm hfl hs hat hcl hv hr hsq hix hpos hlt hq hin hsf hsq2
  go_enter Try.func24, Try.ntmps24
  go_upto_region 2 with fail
  rw [HE.out.1, HE.out.2.1, HE.out.2.2]
  clear HE
  go_region
  all_goals go_wp2
  go_ret
  exact ⟨rfl, (Kept.refl [] w).drew⟩
end Go.Proofs.Ytcojlcbljhnbgaa
