/- A runner in memory: New, Verdict, behind, Step. -/
import Derived.Test.YtbbfajbnklgncaaRuTab
import Derived.Test.YtbbfajbnklgncaaHA
import Derived.OrdersHeld
namespace Go.Proofs.Ytbbfajbnklgncaa
open Go.RowKit Go.Shelf Go.Maps

theorem own_thereR {W : World} {base : Nat} {e : TypeId} {v : Value} {n : Nat} {xs : List Value} (h : W.ownsRow base e 1 v n xs) (h0 : 0 < n) : ∃ g c, v = .slice (some ⟨g, 0, none⟩) n c ∧ ∀ j u, xs[j]? = some u → W.cell? ⟨g, j, none⟩ = some u := by
  rcases h.2 with ⟨_, hz⟩ | ⟨g, cap, cur, hve, hb, hw, h3, h4, h5, h6⟩
  · omega
  · refine ⟨g, cap, hve, fun j u hu => ?_⟩
    rw [cell_of hw]
    rw [← h6, List.getElem?_take] at hu
    split at hu
    · rw [← Array.getElem?_toList]; exact hu
    · cases hu
theorem flat_at (tp : Nat) : ∀ (next : List (List Int)), (∀ r ∈ next, r.length = tp) → ∀ s l, s < next.length → l < tp → next.flatten[s * tp + l]? = some ((next.getD s []).getD l 0)
  | [], _, s, l, hs, _ => by simp at hs
  | r :: rs, hr, s, l, hs, hl => by
    have h0 : r.length = tp := hr r (by simp)
    rw [List.flatten_cons]
    cases s with
    | zero =>
      rw [Nat.zero_mul, Nat.zero_add, List.getElem?_append_left (by omega)]
      simp [List.getD_eq_getElem?_getD, List.getElem?_eq_getElem (show l < r.length by omega)]
    | succ s =>
      have e1 : (s + 1) * tp = s * tp + tp := Nat.succ_mul s tp
      rw [List.getElem?_append_right (by omega), show (s + 1) * tp + l - r.length = s * tp + l by omega]
      have := flat_at tp rs (fun q hq => hr q (by simp [hq])) s l (by simpa using hs) hl
      rw [this]
      simp
/-- A machine that is taken. -/
structure MachR (ps : List ByteArray) (next : List (List Int)) (out : List Nat) : Prop where
  rows : RightR next
  len : out.length = next.length
  few : ps.length ≤ 8
  each : ∀ r ∈ next, r.length = 2 ^ ps.length
  names : listB ps = true
theorem machR_of {ps : List ByteArray} {next : List (List Int)} {out : List Nat} (h : rightM ps next out = true) (hf : out.length ≤ 1000000) : MachR ps next out := by
  unfold rightM rightD at h
  simp only [Bool.and_eq_true, Bool.not_eq_true', decide_eq_true_eq, decide_eq_false_iff_not] at h
  obtain ⟨⟨⟨⟨h1, h2⟩, h3⟩, h4⟩, _⟩ := h
  have h8 := listB_len h1
  rw [List.any_eq_false] at h4
  have hw : ∀ r ∈ next, r.length = 2 ^ ps.length ∧ ∀ x ∈ r, 0 ≤ x ∧ x < (next.length : Int) := fun r hr => by
    have h5 := h4 r hr
    unfold wrongB at h5
    simp only [Bool.or_eq_true, Bool.not_eq_true', decide_eq_false_iff_not, not_or, Decidable.not_not, List.any_eq_true, not_exists, not_and] at h5
    refine ⟨h5.1, fun x hx => ?_⟩
    have := h5.2 x hx
    unfold outB13 at this
    simp at this
    omega
  have hp : ∀ p, p ≤ 8 → 0 < 2 ^ p ∧ 2 ^ p ≤ 256 := fun p hp => ⟨Nat.two_pow_pos p, Nat.pow_le_pow_right (n := 2) (i := p) (j := 8) (by omega) hp⟩
  obtain ⟨p1, p2⟩ := hp _ h8
  exact ⟨⟨by omega, by omega, fun r hr => ⟨by rw [(hw r hr).1]; exact p1, by rw [(hw r hr).1]; exact p2, (hw r hr).2⟩⟩, h3, h8, fun r hr => (hw r hr).1, h1⟩
/-- A runner at R; its table's blocks lie between lo and N. -/
structure RunS (W : World) (lo N R : Nat) (ps : List ByteArray) (next : List (List Int)) (out : List Nat) (fin : List Bool) (s : Nat) : Prop where
  ex : ∃ T MB FR nxv outv D fl, W.heap[R]? = some (.cells #[.pointer (some ⟨T, 0, none⟩), .int .i64 (s : Nat)] 76 (0, 0)) ∧ TabI W lo N T MB FR ps.length nxv outv D ps fl out fin ∧ next.flatten = fl
  fin : FinOf next out fin
  high : N ≤ R
  lt : s < next.length
theorem RunS.keptF {F : List Nat} {W W' : World} {lo N R : Nat} {ps : List ByteArray} {next : List (List Int)} {out : List Nat} {fin : List Bool} {s : Nat} (h : RunS W lo N R ps next out fin s) (k : Kept F W W') (hR : R ∉ F) (hF : ∀ x ∈ F, x < lo ∨ N ≤ x) : RunS W' lo N R ps next out fin s := by
  obtain ⟨T, MB, FR, nxv, outv, D, fl, h1, h2, h3⟩ := h.ex
  exact ⟨⟨T, MB, FR, nxv, outv, D, fl, k.at h1 hR, h2.keptF k hF, h3⟩, h.fin, h.high, h.lt⟩
theorem RunS.kept {W W' : World} {lo N R : Nat} {ps : List ByteArray} {next : List (List Int)} {out : List Nat} {fin : List Bool} {s : Nat} (h : RunS W lo N R ps next out fin s) (k : Kept [] W W') : RunS W' lo N R ps next out fin s := h.keptF k (by simp) (by simp)
theorem bits_or_i64R (a b : Nat) (ha : a < 4611686018427387904) (hb : b < 4611686018427387904) : bits .or .i64 (a : Int) (b : Int) = ((a ||| b : Nat) : Int) := by
  have hx : a ||| b < 4611686018427387904 := Nat.or_lt_two_pow (n := 62) ha hb
  have h1 : (BitVec.ofInt 64 (a : Int)).toNat = a := by
    rw [BitVec.ofInt_natCast, BitVec.toNat_ofNat]; exact Nat.mod_eq_of_lt (by omega)
  have h2 : (BitVec.ofInt 64 (b : Int)).toNat = b := by
    rw [BitVec.ofInt_natCast, BitVec.toNat_ofNat]; exact Nat.mod_eq_of_lt (by omega)
  have h3 : bits .or .i64 (a : Int) (b : Int) = IntKind.i64.wrap ((BitVec.ofInt 64 (a : Int) ||| BitVec.ofInt 64 (b : Int)).toNat : Int) := rfl
  rw [h3, BitVec.toNat_or, h1, h2, IntKind.wrap_i64]
  generalize a ||| b = c at hx ⊢
  omega
theorem idx_facts (s p r sq ix : Nat) (hs : s < 1000000) (hp : p ≤ 8) (hlt : r < 2 ^ p) (hsq : s * 2 ^ p = sq) (hix : sq + r = ix) : wrap64 ((s : Int) * 2 ^ p) = (sq : Int) ∧ bits .or .i64 (sq : Int) (r : Int) = (ix : Int) ∧ sq ≤ 256000000 ∧ r < 256 := by
  have hq : 2 ^ p ≤ 256 := Nat.pow_le_pow_right (n := 2) (i := p) (j := 8) (by omega) hp
  have h9 := Nat.two_pow_add_eq_or_of_lt hlt s
  rw [Nat.mul_comm (2 ^ p) s, hsq, hix] at h9
  have h2 := Nat.mul_le_mul (show s ≤ 1000000 from Nat.le_of_lt hs) hq
  rw [hsq] at h2
  have hr : r < 256 := Nat.lt_of_lt_of_le hlt hq
  have e : ((s : Int) * 2 ^ p) = (sq : Int) := by rw [← hsq]; norm_cast
  clear hlt hq hsq
  refine ⟨?_, ?_, h2, hr⟩
  · rw [e]; unfold wrap64; omega
  · rw [bits_or_i64R sq r (by omega) (by omega), ← h9]
theorem wrap_smallR (r : Nat) (h : r < 256) : wrap64 (r : Int) = (r : Int) := by unfold wrap64; omega
theorem mask_facts (p l : Nat) (hp : p ≤ 8) (hl : l < 65536) : IntKind.u16.wrap ((2 : Int) ^ p) = ((2 ^ p : Nat) : Int) ∧ IntKind.u16.wrap (((2 ^ p : Nat) : Int) - 1) = ((2 ^ p - 1 : Nat) : Int) ∧ bits .and .u16 (l : Int) ((2 ^ p - 1 : Nat) : Int) = ((l % 2 ^ p : Nat) : Int) := by
  have h1 : 2 ^ p ≤ 256 := Nat.pow_le_pow_right (n := 2) (i := p) (j := 8) (by omega) hp
  have h0 : 0 < 2 ^ p := Nat.two_pow_pos p
  refine ⟨?_, ?_, ?_⟩
  · rw [show ((2 : Int) ^ p) = ((2 ^ p : Nat) : Int) by norm_cast]
    generalize (2 ^ p : Nat) = q at *
    rw [IntKind.wrap_u16]; omega
  · generalize (2 ^ p : Nat) = q at *
    rw [IntKind.wrap_u16]; omega
  · rw [u16_and_nat l (2 ^ p - 1) hl (by omega), Nat.and_two_pow_sub_one_eq_mod]
set_option maxHeartbeats 2000000 in
set_option maxRecDepth 10000 in
theorem behind_any (T MB FR k lo N : Nat) (nxv outv : Value) (D : DataW Unit) (ps : List ByteArray) (next : List (List Int)) (fl : List Int) (out : List Nat) (fin : List Bool) (s l : Nat) (w : World) (h : TabI w lo N T MB FR k nxv outv D ps fl out fin) (hm : MachR ps next out) (hfl : next.flatten = fl) (hs : s < next.length) (hl : l < 65536) :
    Calls Try.prog 61 #[.pointer (some ⟨T, 0, none⟩), .int .i64 (s : Nat), .int .u16 (l : Nat)] w fun e w' => e = .returned (.int .i64 ((next.getD s []).getD (l % 2 ^ ps.length) 0)) ∧ Hid (Kept [] w w') := by
  have t1 : w.cell? ⟨T, 1, none⟩ = some (.int .i64 (ps.length : Nat)) := (cell_of h.box 1).trans rfl
  obtain ⟨p, hp⟩ : ∃ p, ps.length = p := ⟨_, rfl⟩
  have hp8 : p ≤ 8 := by rw [← hp]; exact hm.few
  rw [hp] at t1 ⊢
  have z0 : (0 : Int) ≤ (p : Int) := by omega
  have z1 : (0 : Int) ≤ (s : Int) := by omega
  have HE : Hid _ := mask_facts p l hp8 hl
  have hpos : 0 < 2 ^ p := Nat.two_pow_pos p
  have hlt : l % 2 ^ p < 2 ^ p := Nat.mod_lt _ hpos
  have hat := flat_at (2 ^ p) next (by rw [← hp]; exact hm.each) s (l % 2 ^ p) hs hlt
  rw [hfl] at hat
  obtain ⟨v, hv⟩ : ∃ v, (next.getD s []).getD (l % 2 ^ p) 0 = v := ⟨_, rfl⟩
  rw [hv] at hat ⊢
  have hin : s * 2 ^ p + l % 2 ^ p < fl.length := (List.getElem?_eq_some_iff.1 hat).1
  obtain ⟨g, c, hnx, hcl⟩ := own_thereR h.nx (by omega)
  subst hnx
  have t2 : w.cell? ⟨T, 2, none⟩ = some (.slice (some ⟨g, 0, none⟩) fl.length c) := (cell_of h.box 2).trans rfl
  have t3 : w.cell? ⟨g, s * 2 ^ p + l % 2 ^ p, none⟩ = some (.int .i64 v) := hcl _ _ (by simp [numsI, hat])
  have hsf : s < 1000000 := by have := hm.rows.few; omega
  have hq : 2 ^ p ≤ 256 := Nat.pow_le_pow_right (n := 2) (i := p) (j := 8) (by omega) hp8
  obtain ⟨r, hr⟩ : ∃ r, l % 2 ^ p = r := ⟨_, rfl⟩
  rw [hr] at HE hlt t3 hin
  obtain ⟨sq, hsq⟩ : ∃ sq, s * 2 ^ p = sq := ⟨_, rfl⟩
  obtain ⟨ix, hix⟩ : ∃ ix, sq + r = ix := ⟨_, rfl⟩
  obtain ⟨e5, e6, hsq2, y2⟩ := idx_facts s p r sq ix hsf hp8 hlt hsq hix
  rw [hsq, hix] at t3 hin
  have y0 : (0 : Int) ≤ (ix : Int) := by omega
  have y1 : (ix : Int) < (fl.length : Int) := by omega

  clear h hm hfl hs hat hcl hv hr hsq hix hpos hlt hq hin hsf hsq2
  go_enter Try.func61, Try.ntmps61
  go_upto_region 2 with fail
  rw [HE.out.1, HE.out.2.1, HE.out.2.2]
  clear HE
  go_region
  all_goals go_wp2
  go_ret
  exact ⟨rfl, (Kept.refl [] w).drew⟩
end Go.Proofs.Ytbbfajbnklgncaa

/- Regions that draw, in a plain body: what only reads is taken first. -/
namespace Go.Proofs.Ytbbfajbnklgncaa
open Go.RowKit

/-- The post that knows the plain end alone. -/
def Q1Hp (J : Act → World → Prop) : Exit → Act → World → Prop
  | .normal, a, w => J a w
  | _, _, _ => False
theorem wp_regionHp {P : Program} {ops : Array Oper} {id : Nat} {a : Act} {w : World} {Q : Exit → Act → World → Prop} (S : World → Prop) (hm : P.follows .mixedOrders = true)
    (h : wpAnyH P .any ops (Q1Hp (Q .normal)) S ops.size (Array.replicate ops.size false) a w.drew) : (Code.region id ops true).wp P Q a w :=
  Code.wp_mono (fun e a' w' q => by cases e <;> first | exact q | exact q.elim) (wp_region_held hm h)
section
variable {P : Program} {ops : Array Oper} {md : Region.Mode} {J : Act → World → Prop} {S : World → Prop}
theorem wantedDHp {o : Oper} {a : Act} (hg : o.guard = none) : Region.wanted o (yielded ops a.tmps) = true := by simp [Region.wanted, hg]
theorem heldTakeHp (i : Nat) (d : Option Tmp) (v : Value) {o : Oper} {fuel : Nat} {L : Array Bool} {a : Act} {w : World} (hi : ops[i]? = some o) (hg : o.guard = none) (hdd : o.dst = d)
    (hs : Region.noSelect ops = true) (hf : Region.free md ops L i = true) (hr : (Region.ready md ops L).contains i = true) (hy : ∀ w, S w → (execOp a.eval o).run P w = .ok (.value v) w) (hS : S w)
    (h : wpAnyH P md ops (Q1Hp J) S fuel (L.setIfInBounds i true) (a.put d v) w) : wpAnyH P md ops (Q1Hp J) S (fuel + 1) L a w :=
  wpAnyH_take hi hs hf hr (fun _ _ _ h => h) (.inl ⟨wantedDHp hg, hy⟩) hS (by rw [hdd]; exact h)
theorem heldOneHp (i : Nat) {fuel : Nat} {L : Array Bool} {a : Act} {w : World} (hr : Region.ready md ops L = [i]) (h : wpOp P ops (Q1Hp J) i (fun a' w' => S w' ∧ wpAnyH P md ops (Q1Hp J) S fuel (L.setIfInBounds i true) a' w') a w) : wpAnyH P md ops (Q1Hp J) S (fuel + 1) L a w :=
  wpAnyH_all hr (by simp) (fun k hk => by rw [List.mem_singleton.1 hk]; exact h)
theorem heldTwoHp (i j : Nat) {fuel : Nat} {L : Array Bool} {a : Act} {w : World} (hr : Region.ready md ops L = [i, j]) (h1 : wpOp P ops (Q1Hp J) i (fun a' w' => S w' ∧ wpAnyH P md ops (Q1Hp J) S fuel (L.setIfInBounds i true) a' w') a w)
    (h2 : wpOp P ops (Q1Hp J) j (fun a' w' => S w' ∧ wpAnyH P md ops (Q1Hp J) S fuel (L.setIfInBounds j true) a' w') a w) : wpAnyH P md ops (Q1Hp J) S (fuel + 1) L a w :=
  wpAnyH_all hr (by simp) (fun k hk => by
    rcases List.mem_cons.1 hk with e | hk
    · rw [e]; exact h1
    · rw [List.mem_singleton.1 hk]; exact h2)
theorem opValueHp (d : Option Tmp) (v : Value) (w' : World) {i : Nat} {o : Oper} {K : Act → World → Prop} {a : Act} {w : World} (hi : ops[i]? = some o) (hg : o.guard = none) (hdd : o.dst = d) (hx : (execOp a.eval o).run P w = .ok (.value v) w') (h : K (a.put d v) w') : wpOp P ops (Q1Hp J) i K a w := by
  unfold wpOp
  simp only [hi]
  rw [if_pos (wantedDHp hg)]
  refine .inl ?_
  unfold Oper.wp
  rw [hx]
  subst hdd
  exact h
theorem opSkipHp (w' : World) {i : Nat} {o : Oper} {K : Act → World → Prop} {a : Act} {w : World} (hi : ops[i]? = some o) (hg : o.guard = none) (hdd : o.dst = none) (hx : (execOp a.eval o).run P w = .ok .skip w') (h : K a w') : wpOp P ops (Q1Hp J) i K a w := by
  unfold wpOp
  simp only [hi]
  rw [if_pos (wantedDHp hg)]
  refine .inl ?_
  unfold Oper.wp
  rw [hx]
  show K (a.put o.dst undef) w'
  rw [hdd]
  exact h
theorem opCallHp (d : Option Tmp) (g : Nat) (vs : Array Value) {i : Nat} {o : Oper} {K : Act → World → Prop} {a : Act} {w : World} (hi : ops[i]? = some o) (hg : o.guard = none) (hdd : o.dst = d) (hx : (execOp a.eval o).run P w = .ok (.enter g vs) w)
    (h : Calls P g vs w fun e w' => ∃ v, e = .returned v ∧ K (a.put d v) w') : wpOp P ops (Q1Hp J) i K a w := by
  unfold wpOp
  simp only [hi]
  rw [if_pos (wantedDHp hg)]
  refine .inl ?_
  unfold Oper.wp
  rw [hx]
  simp only [Oper.upon]
  refine h.mono fun e w' ⟨v, he, hk⟩ => ?_
  subst he
  subst hdd
  exact hk
end
end Go.Proofs.Ytbbfajbnklgncaa

/- A runner in memory: Verdict, Step. (The draw of Step's region is written by a program, one move a line.) -/
namespace Go.Proofs.Ytbbfajbnklgncaa
open Go.RowKit Go.Shelf Go.Maps

set_option maxHeartbeats 2000000 in
set_option maxRecDepth 10000 in
theorem verdict_any (lo N R : Nat) (ps : List ByteArray) (next : List (List Int)) (out : List Nat) (fin : List Bool) (s : Nat) (w : World) (h : RunS w lo N R ps next out fin s) (hm : MachR ps next out) :
    Calls Try.prog 42 #[.pointer (some ⟨R, 0, none⟩)] w fun e w' => e = .returned (.int .u8 (out.getD s 0 : Nat)) ∧ Hid (Kept [] w w') := by
  obtain ⟨T, MB, FR, nxv, outv, D, fl, h1, h2, _⟩ := h.ex
  have hs : s < out.length := by rw [hm.len]; exact h.lt
  obtain ⟨g, c, rfl, hcl⟩ := own_thereR h2.outs (by omega)
  have c0 : w.cell? ⟨R, 0, none⟩ = some (.pointer (some ⟨T, 0, none⟩)) := (cell_of h1 0).trans rfl
  have c1 : w.cell? ⟨R, 1, none⟩ = some (.int .i64 (s : Nat)) := (cell_of h1 1).trans rfl
  have c2 : w.cell? ⟨T, 3, none⟩ = some (.slice (some ⟨g, 0, none⟩) out.length c) := (cell_of h2.box 3).trans rfl
  obtain ⟨v, hv⟩ : ∃ v, out.getD s 0 = v := ⟨_, rfl⟩
  have c3 : w.cell? ⟨g, s, none⟩ = some (.int .u8 (v : Nat)) := hcl s _ (by rw [vdC_at hs, ← hv, List.getD_eq_getElem?_getD, List.getElem?_eq_getElem hs]; rfl)
  rw [hv]
  have z0 : (0 : Int) ≤ (s : Int) := by omega
  have z1 : (s : Int) < (out.length : Int) := by omega
  obtain ⟨n, hn⟩ : ∃ n, out.length = n := ⟨_, rfl⟩
  rw [hn] at c2 z1
  clear h hm h1 h2 hs hcl hv hn
  go_enter Try.func42, Try.ntmps42
  go_wp2_with fail
  go_region
  all_goals go_wp2
  go_ret
  exact ⟨rfl, (Kept.refl [] w).drew⟩
/-- The state behind a letter. -/
def stepN (ps : List ByteArray) (next : List (List Int)) (s l : Nat) : Nat := ((next.getD s []).getD (l % 2 ^ ps.length) 0).toNat
theorem stepN_is {ps : List ByteArray} {next : List (List Int)} {out : List Nat} (hm : MachR ps next out) {s : Nat} (hs : s < next.length) (l : Nat) : (next.getD s []).getD (l % 2 ^ ps.length) 0 = ((stepN ps next s l : Nat) : Int) ∧ stepN ps next s l < next.length := by
  have hr : next.getD s [] ∈ next := by rw [List.getD_eq_getElem?_getD, List.getElem?_eq_getElem hs]; exact List.getElem_mem _
  have hlt : l % 2 ^ ps.length < (next.getD s []).length := by rw [hm.each _ hr]; exact Nat.mod_lt _ (Nat.two_pow_pos _)
  have hin : (next.getD s []).getD (l % 2 ^ ps.length) 0 ∈ next.getD s [] := by
    generalize next.getD s [] = row at hlt ⊢
    rw [List.getD_eq_getElem?_getD, List.getElem?_eq_getElem hlt]
    exact List.getElem_mem _
  have hx := (hm.rows.row _ hr).2.2 _ hin
  unfold stepN
  generalize (next.getD s []).getD (l % 2 ^ ps.length) 0 = x at hx ⊢
  omega
set_option maxHeartbeats 2000000 in
set_option maxRecDepth 10000 in
theorem step_any (lo N R : Nat) (ps : List ByteArray) (next : List (List Int)) (out : List Nat) (fin : List Bool) (s l : Nat) (w : World) (h : RunS w lo N R ps next out fin s) (hm : MachR ps next out) (hl : l < 65536) :
    Calls Try.prog 37 #[.pointer (some ⟨R, 0, none⟩), .int .u16 (l : Nat)] w fun e w' => e = .returned (.int .u8 (out.getD (stepN ps next s l) 0 : Nat)) ∧ Hid (RunS w' lo N R ps next out fin (stepN ps next s l)) ∧ Hid (Kept [R] w w') := by
  obtain ⟨T, MB, FR, nxv, outv, D, fl, h1, h2, h3⟩ := h.ex
  obtain ⟨hv, hvl⟩ := stepN_is hm h.lt l
  obtain ⟨s', hs'⟩ : ∃ s', stepN ps next s l = s' := ⟨_, rfl⟩
  rw [hs'] at hv hvl ⊢
  have kd : Kept [] w w.drew := (Kept.refl [] w).drew
  have HBH : Hid (Calls Try.prog 61 #[.pointer (some ⟨T, 0, none⟩), .int .i64 (s : Nat), .int .u16 (l : Nat)] w.drew fun e w' => e = .returned (.int .i64 (s' : Nat)) ∧ Hid (Kept [] w.drew w')) := by
    have := behind_any T MB FR ps.length lo N nxv outv D ps next fl out fin s l w.drew (h2.kept kd) hm h3 h.lt hl
    rw [hv] at this
    exact this
  have HVD : Hid (∀ W, RunS W lo N R ps next out fin s' → Calls Try.prog 42 #[.pointer (some ⟨R, 0, none⟩)] W fun e w' => e = .returned (.int .u8 (out.getD s' 0 : Nat)) ∧ Hid (Kept [] W w')) := fun W hW => verdict_any lo N R ps next out fin s' W hW hm
  have HRB : Hid (w.drew.heap[R]? = some (.cells #[.pointer (some ⟨T, 0, none⟩), .int .i64 (s : Nat)] 76 (0, 0))) := h1
  have HS0 : Hid (w.drew.cell? ⟨R, 0, none⟩ = some (.pointer (some ⟨T, 0, none⟩))) := (cell_of HRB.out 0).trans rfl
  have HS1 : Hid (w.drew.cell? ⟨R, 1, none⟩ = some (.int .i64 (s : Nat))) := (cell_of HRB.out 1).trans rfl
  have HNX : Hid (∀ W, Kept [R] w W → W.heap[R]? = some (.cells #[.pointer (some ⟨T, 0, none⟩), .int .i64 (s' : Nat)] 76 (0, 0)) → RunS W lo N R ps next out fin s') := fun W k hb => ⟨⟨T, MB, FR, nxv, outv, D, fl, hb, h2.keptF k (fun x hx => by have := h.high; simp at hx; omega), h3⟩, h.fin, h.high, hvl⟩
  clear h hm hl h1 h2 h3 hv hvl kd hs'
  go_enter Try.func37, Try.ntmps37
  go_upto_region 1 with fail
  refine wp_regionHp (fun Y => Y.cell? ⟨R, 0, none⟩ = some (.pointer (some ⟨T, 0, none⟩))) (by kernel_rfl) ?_
  refine heldTakeHp 0 (some 5) (.pointer (some ⟨R, 0, none⟩)) rfl rfl rfl (by kernel_rfl) (by kernel_rfl) (by kernel_rfl) (fun Y hY => ?_) HS0.out ?_
  · go_simp
  simp only [Act.put, List.setIfInBounds_toArray, List.set_cons_zero, List.set_cons_succ]
  refine heldTakeHp 1 (some 6) (.pointer (some ⟨R, 0, none⟩)) rfl rfl rfl (by kernel_rfl) (by kernel_rfl) (by kernel_rfl) (fun Y hY => ?_) HS0.out ?_
  · go_simp
  simp only [Act.put, List.setIfInBounds_toArray, List.set_cons_zero, List.set_cons_succ]
  refine heldTakeHp 2 (some 7) (.pointer (some ⟨R, 0, none⟩)) rfl rfl rfl (by kernel_rfl) (by kernel_rfl) (by kernel_rfl) (fun Y hY => ?_) HS0.out ?_
  · go_simp
  simp only [Act.put, List.setIfInBounds_toArray, List.set_cons_zero, List.set_cons_succ]
  refine heldTakeHp 3 (some 8) (.pointer (some ⟨R, 0, none⟩)) rfl rfl rfl (by kernel_rfl) (by kernel_rfl) (by kernel_rfl) (fun Y hY => ?_) HS0.out ?_
  · go_simp
  simp only [Act.put, List.setIfInBounds_toArray, List.set_cons_zero, List.set_cons_succ]
  refine heldTakeHp 4 (some 9) (.pointer (some ⟨T, 0, none⟩)) rfl rfl rfl (by kernel_rfl) (by kernel_rfl) (by kernel_rfl) (fun Y hY => ?_) HS0.out ?_
  · go_simp
  simp only [Act.put, List.setIfInBounds_toArray, List.set_cons_zero, List.set_cons_succ]
  refine heldTakeHp 5 (some 10) (.pointer (some ⟨R, 0, none⟩)) rfl rfl rfl (by kernel_rfl) (by kernel_rfl) (by kernel_rfl) (fun Y hY => ?_) HS0.out ?_
  · go_simp
  simp only [Act.put, List.setIfInBounds_toArray, List.set_cons_zero, List.set_cons_succ]
  refine heldTakeHp 6 (some 11) (.pointer (some ⟨R, 0, none⟩)) rfl rfl rfl (by kernel_rfl) (by kernel_rfl) (by kernel_rfl) (fun Y hY => ?_) HS0.out ?_
  · go_simp
  simp only [Act.put, List.setIfInBounds_toArray, List.set_cons_zero, List.set_cons_succ]
  refine heldTakeHp 7 (some 12) (.pointer (some ⟨R, 1, none⟩)) rfl rfl rfl (by kernel_rfl) (by kernel_rfl) (by kernel_rfl) (fun Y hY => ?_) HS0.out ?_
  · go_simp
  simp only [Act.put, List.setIfInBounds_toArray, List.set_cons_zero, List.set_cons_succ]
  refine heldTakeHp 9 (some 14) (.int .u16 (l : Nat)) rfl rfl rfl (by kernel_rfl) (by kernel_rfl) (by kernel_rfl) (fun Y hY => ?_) HS0.out ?_
  · go_simp
  simp only [Act.put, List.setIfInBounds_toArray, List.set_cons_zero, List.set_cons_succ]
  refine heldOneHp 8 (by kernel_rfl) ?_
  refine opValueHp (some 13) (.int .i64 (s : Nat)) w.drew rfl rfl rfl ?_ ⟨HS0.out, ?_⟩
  · have y0 := HS1.out
    go_simp
  simp only [Act.put, List.setIfInBounds_toArray, List.set_cons_zero, List.set_cons_succ]
  refine heldOneHp 10 (by kernel_rfl) ?_
  refine opCallHp (some 15) 61 #[.pointer (some ⟨T, 0, none⟩), .int .i64 (s : Nat), .int .u16 (l : Nat)] rfl rfl rfl ?_ ?_
  · go_simp
  refine HBH.out.mono ?_
  rintro e W1 ⟨rfl, HK1⟩
  have HS2 : Hid (W1.cell? ⟨R, 0, none⟩ = some (.pointer (some ⟨T, 0, none⟩))) := cell_kept0 HK1.out HS0.out
  have HS3 : Hid (W1.heap[R]? = some (.cells #[.pointer (some ⟨T, 0, none⟩), .int .i64 (s : Nat)] 76 (0, 0))) := HK1.out.at HRB.out (by simp)
  refine ⟨_, rfl, HS2.out, ?_⟩
  simp only [Act.put, List.setIfInBounds_toArray, List.set_cons_zero, List.set_cons_succ]
  refine heldTakeHp 11 (some 16) (.pointer (some ⟨R, 0, none⟩)) rfl rfl rfl (by kernel_rfl) (by kernel_rfl) (by kernel_rfl) (fun Y hY => ?_) HS2.out ?_
  · go_simp
  simp only [Act.put, List.setIfInBounds_toArray, List.set_cons_zero, List.set_cons_succ]
  refine heldTakeHp 12 (some 17) (.pointer (some ⟨R, 1, none⟩)) rfl rfl rfl (by kernel_rfl) (by kernel_rfl) (by kernel_rfl) (fun Y hY => ?_) HS2.out ?_
  · go_simp
  simp only [Act.put, List.setIfInBounds_toArray, List.set_cons_zero, List.set_cons_succ]
  obtain ⟨W2, hW2⟩ : ∃ W2, W1.setCell ⟨R, 1, none⟩ (.int .i64 (s' : Nat)) = W2 := ⟨_, rfl⟩
  have HW2 : Hid (W1.setCell ⟨R, 1, none⟩ (.int .i64 (s' : Nat)) = W2) := hW2
  have HK2 : Hid (Kept [R] w W2) := by
    show Kept [R] w W2
    rw [← hW2]
    exact (Kept.mono (keptB (Kept.refl [] w).drew HK1.out) (by simp)).setCell (.inl (by simp)) _
  have HB2 : Hid (W2.heap[R]? = some (.cells #[.pointer (some ⟨T, 0, none⟩), .int .i64 (s' : Nat)] 76 (0, 0))) := by
    show W2.heap[R]? = _
    rw [← hW2, bx_set HS3.out]; rfl
  clear hW2
  refine heldOneHp 13 (by kernel_rfl) ?_
  refine opSkipHp W2 rfl rfl rfl ?_ ⟨(cell_of HB2.out 0).trans rfl, ?_⟩
  · have y0 : W1.cell? ⟨R, 1, none⟩ = some (.int .i64 (s : Nat)) := (cell_of HS3.out 1).trans rfl
    have y1 : W1.frozen? ⟨R, 1, none⟩ = false := free_of HS3.out 1
    rw [← HW2.out]
    go_simp
  refine wpAnyH_done (by kernel_rfl) ?_ _
  simp only [Q1Hp]
  have HRS : Hid (RunS W2 lo N R ps next out fin s') := HNX.out W2 HK2.out HB2.out
  go_wp2_with (go_at_call 42; refine (HVD.out W2 HRS.out).mono ?_; rintro e W3 ⟨rfl, HK3⟩)
  go_ret
  exact ⟨rfl, HRS.out.kept HK3.out, HK2.out.trans HK3.out (fun _ q => q) (by simp)⟩
end Go.Proofs.Ytbbfajbnklgncaa

/- A runner in memory: Letter, Event, State, Goto, New. -/
namespace Go.Proofs.Ytbbfajbnklgncaa
open Go.RowKit Go.Shelf Go.Maps

/-- The letter of names. -/
def letterN (ps us : List ByteArray) : Nat := us.foldl (fun a s => a ||| bitK ps ps.length s) 0
theorem letterN_take {ps us : List ByteArray} {k : Nat} {x : ByteArray} (h : us[k]? = some x) : letterN ps (us.take (k + 1)) = letterN ps (us.take k) ||| bitK ps ps.length x := by
  unfold letterN
  rw [List.take_add_one, h]
  simp
theorem letterN_lt {ps : List ByteArray} (h8 : ps.length ≤ 8) (us : List ByteArray) : letterN ps us < 256 := by
  unfold letterN
  have : ∀ (l : List ByteArray) (a : Nat), a < 256 → l.foldl (fun a s => a ||| bitK ps ps.length s) a < 256 := by
    intro l
    induction l with
    | nil => intro a ha; exact ha
    | cons x l ih => intro a ha; exact ih _ (Nat.or_lt_two_pow (n := 8) ha (bitK_lt h8))
  exact this us 0 (by omega)
set_option maxHeartbeats 2000000 in
set_option maxRecDepth 10000 in
theorem letter_any (lo N R : Nat) (ps : List ByteArray) (next : List (List Int)) (out : List Nat) (fin : List Bool) (s : Nat) (uv : Value) (us : List ByteArray) (w : World) (h : RunS w lo N R ps next out fin s) (h8 : ps.length ≤ 8) (hu : Strs w uv us) :
    Calls Try.prog 39 #[.pointer (some ⟨R, 0, none⟩), uv] w fun e w' => e = .returned (.int .u16 (letterN ps us : Nat)) ∧ w' = w := by
  obtain ⟨T, MB, FR, nxv, outv, D, fl, h1, h2, _⟩ := h.ex
  have c0 : w.cell? ⟨R, 0, none⟩ = some (.pointer (some ⟨T, 0, none⟩)) := (cell_of h1 0).trans rfl
  have c2 : w.cell? ⟨T, 0, none⟩ = some (.map (some MB)) := (cell_of h2.box 0).trans rfl
  have HM : Hid (w.ownsMap Try.prog 9 (plainElem Try.prog 55) MB ps.length D) := h2.map
  have HBT : Hid (∀ s : ByteArray, D.atKey (.string s.data.toList) (.lit (.int .u16 0)) = .lit (.int .u16 (bitK ps ps.length s : Nat))) := h2.bits.2
  have HLT : Hid (∀ us, letterN ps us < 256) := letterN_lt h8
  have HBL : Hid (∀ s, bitK ps ps.length s < 256) := fun s => bitK_lt h8
  have HSM : Hid (∀ x ∈ us, x.size ≤ maxLen) := hu.small
  have hfew := hu.few
  rcases hu.lie with ⟨rfl, rfl⟩ | ⟨b, o, c, rfl, _, _, hcell⟩
  · clear h h1 h2 hu h8 hfew
    go_enter Try.func39, Try.ntmps39
    go_wp2_with fail
    refine wp_loop_rounds 1 ?_
    rw [rounds_succ]
    go_wp2
    go_ret
    exact ⟨rfl, rfl⟩
  · have HCE : Hid (∀ i (h : i < us.length), w.cell? ⟨b, o + i, none⟩ = some (.string us[i])) := hcell
    clear h h1 h2 hu h8 hcell
    go_enter Try.func39, Try.ntmps39
    go_wp2_with fail
    go_loopw [5, 10] (fun a v wr => ∃ k : Nat, v = .int .i64 (k : Nat) ∧ k ≤ us.length ∧ ∃ y : Nat, a = .int .u16 (y : Nat) ∧ Hid (letterN ps (us.take k) = y) ∧ wr = w) (fun _ v _ => us.length - (intOf v).toNat)
    case atStart => exact ⟨0, rfl, Nat.zero_le _, 0, rfl, rfl, rfl⟩
    case round =>
      obtain ⟨k, rfl, hk, y, rfl, HY, rfl⟩ := hrel
      by_cases hlt : k < us.length
      · have q0 : (k : Int) < (us.length : Int) := by omega
        have q1 : (0 : Int) ≤ (k : Int) := by omega
        have d0 := HCE.out k hlt
        have hx? : us[k]? = some us[k] := List.getElem?_eq_getElem hlt
        obtain ⟨x, hx⟩ : ∃ x, us[k] = x := ⟨_, rfl⟩
        rw [hx] at d0 hx?
        have HKEY : Hid (keyOf Try.prog 9 (.string x) = some (.string x.data.toList)) := WideMaps.keyOf_string_mk Try.underlying9 (by rw [← hx]; exact HSM.out _ (List.getElem_mem _))
        obtain ⟨z, hz⟩ : ∃ z, bitK ps ps.length x = z := ⟨_, rfl⟩
        have HAT : Hid (D.atKey (.string x.data.toList) (.lit (.int .u16 0)) = .lit (.int .u16 (z : Nat))) := by rw [← hz]; exact HBT.out x
        have hy : y < 256 := by rw [← HY.out]; exact HLT.out _
        have hzl : z < 256 := by rw [← hz]; exact HBL.out x
        obtain ⟨yz, hyz⟩ : ∃ yz, y ||| z = yz := ⟨_, rfl⟩
        have HNX : Hid (letterN ps (us.take (k + 1)) = yz) := by show _ = yz; rw [letterN_take hx?, HY.out, hz, hyz]
        have hor : bits .or .u16 (y : Int) (z : Int) = (yz : Int) := by rw [u16_or_nat y z (by omega) (by omega), hyz]
        clear hx hx? hz hyz
        go_wp2_with (at_lookup; refine wpList_lookup_own_int _ rfl _ _ 89 rfl 9 55 .u16 lawStrR Try.underlying89 Try.underlying55 (zeroU16R _) MB ps.length D rfl HM.out _ _ rfl HKEY.out ?_; intro c hat hwc; obtain rfl : c = ((z : Nat) : Int) := (by rw [HAT.out] at hat; cases hat; rfl); clear hat hwc)
        go_roundw
        case rel => exact ⟨k + 1, by go_num, by omega, yz, rfl, HNX, trivial⟩
        case measure => simp [intOf]; omega
      · obtain rfl : k = us.length := by omega
        have q0 : ¬ ((us.length : Int) < (us.length : Int)) := by omega
        have HD : Hid (letterN ps us = y) := by have := HY.out; rwa [List.take_of_length_le (Nat.le_refl _)] at this
        go_wp2
        rw [HD.out]
        go_ret
        exact ⟨rfl, rfl⟩
set_option maxHeartbeats 2000000 in
set_option maxRecDepth 10000 in
theorem event_any (lo N R : Nat) (ps : List ByteArray) (next : List (List Int)) (out : List Nat) (fin : List Bool) (s : Nat) (uv : Value) (us : List ByteArray) (w : World) (h : RunS w lo N R ps next out fin s) (hm : MachR ps next out) (hu : Strs w uv us) :
    Calls Try.prog 22 #[.pointer (some ⟨R, 0, none⟩), uv] w fun e w' => e = .returned (.int .u8 (out.getD (stepN ps next s (letterN ps us)) 0 : Nat)) ∧ Hid (RunS w' lo N R ps next out fin (stepN ps next s (letterN ps us))) ∧ Hid (Kept [R] w w') := by
  obtain ⟨y, hy⟩ : ∃ y, letterN ps us = y := ⟨_, rfl⟩
  have HL : Hid (Calls Try.prog 39 #[.pointer (some ⟨R, 0, none⟩), uv] w fun e w' => e = .returned (.int .u16 (y : Nat)) ∧ w' = w) := by rw [← hy]; exact letter_any lo N R ps next out fin s uv us w h hm.few hu
  have HS : Hid (Calls Try.prog 37 #[.pointer (some ⟨R, 0, none⟩), .int .u16 (y : Nat)] w fun e w' => e = .returned (.int .u8 (out.getD (stepN ps next s y) 0 : Nat)) ∧ Hid (RunS w' lo N R ps next out fin (stepN ps next s y)) ∧ Hid (Kept [R] w w')) := step_any lo N R ps next out fin s y w h hm (by have := letterN_lt hm.few us; omega)
  obtain ⟨ad, c, rfl, _, _⟩ := hu.form
  rw [hy]
  obtain ⟨s', hs'⟩ : ∃ s', stepN ps next s y = s' := ⟨_, rfl⟩
  rw [hs'] at HS ⊢
  clear h hm hu hy hs'
  go_enter Try.func22, Try.ntmps22
  go_wp2_with (first
    | (go_at_call 39; refine HL.out.mono ?_; rintro e w1 ⟨rfl, hw1⟩; rw [hw1]; clear hw1)
    | (go_at_call 37; refine HS.out.mono ?_; rintro e w2 ⟨rfl, HR2, HK2⟩))
  go_ret
  exact ⟨rfl, HR2, HK2⟩
theorem state_any (lo N R : Nat) (ps : List ByteArray) (next : List (List Int)) (out : List Nat) (fin : List Bool) (s : Nat) (w : World) (h : RunS w lo N R ps next out fin s) :
    Calls Try.prog 14 #[.pointer (some ⟨R, 0, none⟩)] w fun e w' => e = .returned (.int .i64 (s : Nat)) ∧ w' = w := by
  obtain ⟨T, MB, FR, nxv, outv, D, fl, h1, _, _⟩ := h.ex
  have c1 : w.cell? ⟨R, 1, none⟩ = some (.int .i64 (s : Nat)) := (cell_of h1 1).trans rfl
  clear h h1
  go_enter Try.func14, Try.ntmps14
  go_wp2
  go_ret
  exact ⟨rfl, rfl⟩
set_option maxHeartbeats 2000000 in
set_option maxRecDepth 10000 in
theorem goto_any (lo N R : Nat) (ps : List ByteArray) (next : List (List Int)) (out : List Nat) (fin : List Bool) (s k : Nat) (w : World) (h : RunS w lo N R ps next out fin s) (hm : MachR ps next out) (hk : k < next.length) :
    Calls Try.prog 24 #[.pointer (some ⟨R, 0, none⟩), .int .i64 (k : Nat)] w fun e w' => e = .returned (.int .i64 0) ∧ Hid (RunS w' lo N R ps next out fin k) ∧ Hid (Kept [R] w w') := by
  obtain ⟨T, MB, FR, nxv, outv, D, fl, h1, h2, h3⟩ := h.ex
  obtain ⟨ad, c, rfl⟩ := own_formR h2.outs
  have c0 : w.cell? ⟨R, 0, none⟩ = some (.pointer (some ⟨T, 0, none⟩)) := (cell_of h1 0).trans rfl
  have c1 : w.cell? ⟨R, 1, none⟩ = some (.int .i64 (s : Nat)) := (cell_of h1 1).trans rfl
  have f1 : w.frozen? ⟨R, 1, none⟩ = false := free_of h1 1
  have c2 : w.cell? ⟨T, 3, none⟩ = some (.slice ad out.length c) := (cell_of h2.box 3).trans rfl
  have HK2 : Hid (Kept [R] w (w.setCell ⟨R, 1, none⟩ (.int .i64 (k : Nat)))) := (Kept.refl [R] w).setCell (.inl (by simp)) _
  have HR2 : Hid (RunS (w.setCell ⟨R, 1, none⟩ (.int .i64 (k : Nat))) lo N R ps next out fin k) := ⟨⟨T, MB, FR, nxv, _, D, fl, (bx_set h1 _).trans rfl, h2.keptF HK2.out (fun x hx => by have := h.high; simp at hx; omega), h3⟩, h.fin, h.high, hk⟩
  have z0 : ¬ ((k : Int) < 0) := by omega
  have z1 : ¬ ((out.length : Int) ≤ (k : Int)) := by rw [hm.len]; omega
  have z2 : decide ((k : Int) < 0) = false := decide_eq_false z0
  clear h h1 h2 h3 hm hk
  go_enter Try.func24, Try.ntmps24
  go_wp2
  go_ret
  exact ⟨rfl, HR2, HK2⟩
/-- What New leaves. -/
def NewEnd (ps : List ByteArray) (next : List (List Int)) (out : List Nat) (b : Bool) (w : World) (e : Ending) (w' : World) : Prop :=
  Hid (Kept [] w w') ∧ (b = true → ∃ R lo N fin, e = .returned (.tuple #[.pointer (some ⟨R, 0, none⟩), .int .i64 0]) ∧ Hid (RunS w' lo N R ps next out fin 0) ∧ Hid (w.heap.size ≤ lo ∧ R < w'.heap.size ∧ w.heap.size ≤ R)) ∧ (b = false → e = .returned (.tuple #[.pointer none, .int .i64 170]))
set_option maxHeartbeats 2000000 in
set_option maxRecDepth 10000 in
theorem new_any (pv nv ov : Value) (ps : List ByteArray) (next : List (List Int)) (out : List Nat) (w : World) (hp : Strs w pv ps) (hn : Rowss w nv next) (ho : Vds w ov out) (hf : out.length ≤ 1000000) (b : Bool) (hb : rightM ps next out = b) :
    Calls Try.prog 9 #[.agg #[pv, nv, ov]] w (NewEnd ps next out b w) := by
  unfold NewEnd
  obtain ⟨pa, pc, rfl, _, _⟩ := hp.form
  obtain ⟨na, nc, rfl, _, _⟩ := hn.form13
  obtain ⟨oa, oc, rfl⟩ := ho.form
  obtain ⟨V, hV⟩ : ∃ V, w.alloc (.cells #[.slice pa ps.length pc, .slice na next.length nc, .slice oa out.length oc] 26) = V := ⟨_, rfl⟩
  have kV : Kept [] w V := by rw [← hV]; exact (Kept.refl [] w).alloc _
  have hB : Thr 26 V w.heap.size (.slice pa ps.length pc) (.slice na next.length nc) (.slice oa out.length oc) := by rw [← hV]; exact al0 _ _
  have HV : Hid (_ = V) := hV
  have HKV : Hid (Kept [] w V) := kV
  have HC : Hid (∀ W, Kept [] V W → W.cell? ⟨w.heap.size, 0, none⟩ = some (.slice pa ps.length pc) ∧ W.cell? ⟨w.heap.size, 1, none⟩ = some (.slice na next.length nc) ∧ W.cell? ⟨w.heap.size, 2, none⟩ = some (.slice oa out.length oc)) := fun W k => (hB.keptF k (by simp)).cells
  have HCM : Hid (Calls Try.prog 28 #[.agg #[.slice pa ps.length pc, .slice na next.length nc, .slice oa out.length oc]] V fun e w' => e = .returned (.int .i64 ((if b then 0 else 140 : Nat) : Int)) ∧ Kept [] V w') := by rw [← hb]; exact mCheck_any _ _ _ ps next out V (hp.kept kV) (hn.kept kV) (ho.kept kV) hf
  obtain ⟨c0, c1, c2⟩ := HC.out V (Kept.refl [] V)
  cases b with
  | false =>
    clear hp hn ho hV kV hB hb hf
    go_enter Try.func9, Try.ntmps9
    go_upto_region 1 with fail
    rw [HV.out]
    clear HV
    go_wp2_with (go_at_call 28; refine HCM.out.mono ?_; rintro e W1 ⟨rfl, k1⟩; have HK1 : Hid (Kept [] V W1) := k1; clear k1 c0 c1 c2)
    go_ret2
    exact ⟨keptB HKV.out HK1.out, (fun h => by cases h), fun _ => rfl⟩
  | true =>
    have hm := machR_of hb hf
    have HTB : Hid (∀ W, Kept [] V W → Calls Try.prog 29 #[.agg #[.slice pa ps.length pc, .slice na next.length nc, .slice oa out.length oc]] W (TabEnd ps next next.flatten out W)) := fun W k => tableOf_any _ _ _ ps next _ out W (hp.kept (keptB kV k)) (hn.kept (keptB kV k)) (ho.kept (keptB kV k)) hm.rows hm.len hm.few rfl
    have HPOS : Hid (0 < next.length) := hm.rows.pos
    clear hp hn ho hV kV hB hb hf hm
    go_enter Try.func9, Try.ntmps9
    go_upto_region 1 with fail
    rw [HV.out]
    clear HV
    go_wp2_with (first
      | (go_at_call 28; refine HCM.out.mono ?_; rintro e W1 ⟨rfl, k1⟩; have HK1 : Hid (Kept [] V W1) := k1; clear k1 c0 c1 c2; obtain ⟨c0, c1, c2⟩ := HC.out W1 HK1.out)
      | (go_at_call 29; refine Calls.mono (HTB.out W1 HK1.out) ?_; rintro e W2 ⟨T, N, MB, FR, nxv, outv, D, fin, rfl, HT, HF, HN, HK2⟩))
    go_ret2
    have ka : Kept [] W2 (W2.alloc (.cells #[.pointer (some ⟨T, 0, none⟩), .int .i64 0] 76)) := (Kept.refl [] W2).alloc _
    have k1 := keptB HKV.out HK1.out
    have k2 := keptB k1 HK2.out
    exact ⟨keptB k2 ka, fun _ => ⟨W2.heap.size, W1.heap.size, N, fin, rfl, ⟨⟨T, MB, FR, nxv, outv, D, _, al0 W2 _, HT.out.kept ka, rfl⟩, HF.out, HN.out, HPOS.out⟩, k1.size, by rw [World.size_alloc]; omega, k2.size⟩, (fun h => by cases h)⟩
end Go.Proofs.Ytbbfajbnklgncaa
