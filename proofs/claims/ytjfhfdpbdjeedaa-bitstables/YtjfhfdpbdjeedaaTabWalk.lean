/- BitsTables, walked out of the contracts. -/
import Derived.Test.YtjfhfdpbdjeedaaTab2
import Derived.Test.YtjfhfdpbdjeedaaWidth
import Derived.Test.YtjfhfdpbdjeedaaOf
import Derived.Deep.RegionHeld3
namespace Go.Proofs.Ytjfhfdpbdjeedaa
open Go.RowKit
attribute [local go_sem ↓] Go.wp_at_zero Go.wp_at_succ

/-- v is a slice of slices of int, and reads as zss. -/
def IsRows (w : World) (v : Value) (zss : List (List Int)) : Prop :=
  ∃ ad cap, v = .slice ad zss.length cap ∧ (zss = [] ∨ ∃ lb lo, ad = some ⟨lb, lo, none⟩ ∧ lb < w.heap.size ∧ ∀ i (h : i < zss.length), ∃ ad2 cap2, w.cell? ⟨lb, lo + i, none⟩ = some (.slice ad2 zss[i].length cap2) ∧ IsSl w (.slice ad2 zss[i].length cap2) zss[i] ∧ zss[i].length ≤ 17592186044416)
/-- How much the first loop has counted. -/
def sumL (zss : List (List Int)) : Nat := (zss.map fun z => z.length + 1).sum
theorem sumL_snoc (zss : List (List Int)) (z : List Int) : sumL (zss ++ [z]) = sumL zss + (z.length + 1) := by simp [sumL]

theorem TabOk.differ {w0 w : World} {B tb mb n i j : Nat} {v : Value} {es : List Ent} {x y : Ent} (h : TabOk w0 w B tb mb n v es) (hx : es[i]? = some x) (hy : es[j]? = some y) (hij : i ≠ j) : x.ws ≠ y.ws := by
  intro e
  have h1 : (keysOf n es)[i]? = some (keyW n x.ws) := by unfold keysOf; rw [List.getElem?_map, hx]; rfl
  have h2 : (keysOf n es)[j]? = some (keyW n x.ws) := by unfold keysOf; rw [List.getElem?_map, hy, e]; rfl
  obtain ⟨l1, e1⟩ := List.getElem?_eq_some_iff.1 h1
  obtain ⟨l2, e2⟩ := List.getElem?_eq_some_iff.1 h2
  have hp := List.pairwise_iff_getElem.1 h.nodup
  rcases Nat.lt_or_gt_of_ne hij with hl | hl
  · exact hp i j l1 l2 hl (e1.trans e2.symm)
  · exact hp j i l2 l1 hl (e2.trans e1.symm)

set_option maxRecDepth 100000 in
set_option maxHeartbeats 3200000 in
theorem tables_any (c : Int) (hc : -9223372036854775808 ≤ c ∧ c ≤ 9223372036854775807) (ad : Option Addr) (cap : Nat) (zss : List (List Int)) (w : World) (hl : zss.length ≤ 17592186044416) (hr : IsRows w (.slice ad zss.length cap) zss) :
    Calls Try.prog 4 #[.int .i64 c, .slice ad zss.length cap] w fun e w' => e = .returned (.bool true) ∧ Kept [] w w' := by
  have HR : Hid (∀ i (h : i < zss.length), ∃ lb lo ad2 cap2, ad = some ⟨lb, lo, none⟩ ∧ lb < w.heap.size ∧ w.cell? ⟨lb, lo + i, none⟩ = some (.slice ad2 zss[i].length cap2) ∧ IsSl w (.slice ad2 zss[i].length cap2) zss[i] ∧ zss[i].length ≤ 17592186044416) := by
    intro i hi
    obtain ⟨ad', cap', he, h0 | ⟨lb, lo, h1, h2, h3⟩⟩ := hr
    · rw [h0] at hi; simp at hi
    · obtain ⟨ad2, cap2, h4, h5, h6⟩ := h3 i hi
      simp at he
      exact ⟨lb, lo, ad2, cap2, by rw [he.1, h1], h2, h4, h5, h6⟩
  have HC : Hid _ := hc
  clear hr hc
  go_enter Try.func4, Try.ntmps4
  go_wp2_with fail
  go_loop [5, 6] (fun s i => ∃ k : Nat, k ≤ zss.length ∧ i = .int .i64 k ∧ s = .int .i64 (sumL (zss.take k) : Nat) ∧ sumL (zss.take k) ≤ 17592188044417) (fun _ i => zss.length - (intOf i).toNat)
  case atStart => exact ⟨0, Nat.zero_le _, rfl, rfl, by simp [sumL]⟩
  case round =>
    obtain ⟨k, hk, rfl, rfl, hs⟩ := hrel
    by_cases hgo : k < zss.length ∧ sumL (zss.take k) ≤ 2000000
    · obtain ⟨hlt, hsm⟩ := hgo
      obtain ⟨lb, lo, ad2, cap2, rfl, _, hcell, _, hz⟩ := HR.out k hlt
      have HE : Hid (sumL (zss.take (k + 1)) = sumL (zss.take k) + (zss[k].length + 1)) := by rw [List.take_succ_eq_append_getElem hlt]; exact sumL_snoc _ _
      have b0 : (k : Int) < (zss.length : Int) := by omega
      have b1 : (sumL (zss.take k) : Int) ≤ 2000000 := by omega
      generalize zss[k].length = m at hcell hz HE
      generalize sumL (zss.take k) = s at hs hsm HE b1
      go_wp2
      go_round
      case rel => exact ⟨k + 1, by omega, by go_num, by rw [HE.out]; go_num, by rw [HE.out]; omega⟩
      case measure => simp [intOf]; omega
    · by_cases hlt : k < zss.length
      · have b0 : (k : Int) < (zss.length : Int) := by omega
        have b1 : (2000000 : Int) < (sumL (zss.take k) : Int) := by omega
        generalize sumL (zss.take k) = s at hs b1
        clear hgo
        go_wp2
        go_ret
        exact ⟨rfl, Kept.refl _ _⟩
      · have b0 : ¬ (k : Int) < (zss.length : Int) := by omega
        by_cases hbig : 2000000 < sumL (zss.take k)
        · have b1 : (2000000 : Int) < (sumL (zss.take k) : Int) := by omega
          generalize sumL (zss.take k) = s at hs b1
          clear hgo hbig
          go_wp2
          go_ret
          exact ⟨rfl, Kept.refl _ _⟩
        · have b1 : ¬ (2000000 : Int) < (sumL (zss.take k) : Int) := by omega
          by_cases hmany : 300 < zss.length
          · have b2 : (300 : Int) < (zss.length : Int) := by omega
            generalize sumL (zss.take k) = s at hs b1
            clear hgo hbig
            go_wp2
            go_ret
            exact ⟨rfl, Kept.refl _ _⟩
          · have b2 : ¬ (300 : Int) < (zss.length : Int) := by omega
            generalize sumL (zss.take k) = s at hs b1
            clear hgo hbig
            go_wp2_with fail
            refine (width_any c _ HC.out).mono ?_
            rintro e w' ⟨rfl, rfl⟩
            go_wp2_with fail
            refine (newTable_ok (widthN c) _ w' (widthN_le c) (Nat.le_refl _)).mono ?_
            rintro e w1 ⟨tb, mb, rfl, ht, hk1⟩
            have hn := widthN_le c
            have HW : Hid (∀ w : World, Calls Try.prog 5 #[.int .i64 c] w fun e w' => e = .returned (.int .i64 (widthN c : Nat)) ∧ w' = w) := fun w => width_any c w HC.out
            have HTB : Hid (TabOk w' w1 w'.heap.size tb mb (widthN c) (.slice none 0 0) []) := ht
            generalize widthN c = n at hn HW HTB
            have HB : Hid (w'.heap.size = w'.heap.size) := rfl
            clear ht hs b1 HB HC
            go_wp2_with fail
            go_loopw [8] (fun i wr => ∃ (k : Nat) (v : Value) (es : List Ent), k ≤ zss.length ∧ i = .int .i64 k ∧ TabOk w' wr w'.heap.size tb mb n v es ∧ es.length ≤ k ∧ Kept [] w' wr) (fun i _ => zss.length - (intOf i).toNat)
            case atStart => exact ⟨0, _, _, Nat.zero_le _, rfl, HTB.out, by simp, hk1⟩
            case round =>
              obtain ⟨k, v, es, hk, rfl, htr, hes, hkr⟩ := hrel
              clear HTB hk1
              have HTR : Hid (TabOk w' wr w'.heap.size tb mb n v es) := htr
              clear htr
              by_cases hlt : k < zss.length
              · obtain ⟨lb, lo, ad2, cap2, rfl, hlb, hcell, hsl, hz⟩ := HR.out k hlt
                have b0 : (k : Int) < (zss.length : Int) := by omega
                have b3 : (0 : Int) ≤ (k : Int) := by omega
                have d1 : wr.cell? ⟨lb, lo + k, none⟩ = some (.slice ad2 zss[k].length cap2) := (hkr.below.cell (p := ⟨lb, lo + k, none⟩) hlb).trans hcell
                have hlbr : lb < wr.heap.size := Nat.lt_of_lt_of_le hlb hkr.size
                have HSL : Hid (IsSl wr (.slice ad2 zss[k].length cap2) zss[k]) := hsl.kept hkr
                clear hcell hsl
                generalize zss[k] = zs at d1 HSL hz
                have hzm : zs.length ≤ maxLen := by unfold maxLen; omega
                go_wp2_with fail
                go_region_held3 (fun w' => w'.cell? ⟨lb, lo + k, none⟩ = some (.slice ad2 zs.length cap2)) (go_keep)
                  (first
                    | (go_at_call 5; refine (HW.out _).mono ?_; rintro e w2 ⟨rfl, rfl⟩)
                    | (go_at_call 6; refine (of_sl n _ zs _ hn hzm (HSL.out.kept (Kept.refl [] wr).drew)).mono ?_; rintro e w3 ⟨b, g, c3, rfl, hs, hb, hg, hk3⟩; have d3 : w3.cell? ⟨lb, lo + k, none⟩ = some (.slice ad2 zs.length cap2) := (hk3.below.cell (p := ⟨lb, lo + k, none⟩) (by exact hlbr)).trans d1))
                have k3 : Kept [] wr w3 := Kept.trans (F := []) (G := []) (H := []) (Kept.refl [] wr).drew hk3 (by simp) (by simp)
                have hb' : wr.heap.size ≤ b := hb
                have hg' : wr.heap.size ≤ g := hg
                have HS : Hid (IsSet w3 b g c3 n (ofW n zs)) := hs
                have HG : Hid (Good n (ofW n zs)) := Good.ofW hn zs
                have HT3 : Hid (TabOk w' w3 w'.heap.size tb mb n v es) := HTR.out.on k3
                have hes3 : ∀ e ∈ es, e.g < wr.heap.size := fun e he => (HTR.out.is.sets e he).1.ltg
                have HES3 : Hid _ := hes3
                have kr3 : Kept [] w' w3 := hkr.trans (F := []) (G := []) (H := []) k3 (by simp) (by simp)
                clear hs hb hg hk3 d3 d1 HTR HSL hes3
                generalize ofW n zs = ws at HS HG
                go_wp2_with fail
                refine (tabLen_any _ tb mb n v es _ HT3.out.is).mono ?_
                rintro e w4 ⟨rfl, rfl⟩
                go_wp2_with fail
                refine (intern_any _ tb mb n b g c3 v es ws _ HT3.out HS.out HG.out (by omega) kr3.size).mono ?_
                rintro e w5 ⟨kk, d, v2, es2, en, rfl, hd, ht5, hen, hws, hidx, hmem, hkle, hlen2, hsub, hkF, _⟩
                have sa := set_apart HT3.out.is HS.out
                have HS5 : Hid (IsSet w5 b g c3 n ws) := HS.out.kept hkF sa.1 sa.2
                have HT5 : Hid (TabOk w' w5 w'.heap.size tb mb n v2 es2) := ht5
                have glt := HS.out.ltg
                have HNE : Hid (∀ e ∈ es2, e.g ≠ g) := fun e he => by
                  rcases hsub e he with h | h
                  · have := HES3.out e h; omega
                  · omega
                have k5 : Kept [] w' w5 := kr3.trans (F := []) (H := []) hkF (by simp) (fun x hx => Or.inr (HT3.out.base x hx))
                have HEN : Hid (es2[kk]? = some en) := hen
                have HWS : Hid (en.ws = ws) := hws
                have HID : Hid _ := hidx
                have HME : Hid _ := hmem
                have q1 : ((kk : Int) == (es.length : Int)) = d := by rw [hd, Bool.eq_iff_iff]; simp; omega
                have HL2 : Hid (es2.length = max es.length (kk + 1)) := hlen2
                clear hd ht5 hen hws hidx hmem hlen2 hsub hkF sa HT3 HS HES3
                have qn : ((kk : Int) != (kk : Int)) = false := by simp
                rcases (show kk < es.length ∨ kk = es.length from by omega) with hc1 | hc1
                · have q2 : ((es2.length : Int) != (es.length : Int)) = false := by have := HL2.out; simp; omega
                  have q3 : (kk : Int) + 1 ≤ (es.length : Int) := by omega
                  go_wp2_with fail
                  refine (tabLen_any _ tb mb n v2 es2 _ HT5.out.is).mono ?_
                  rintro e w6 ⟨rfl, rfl⟩
                  go_wp2_with fail
                  refine (find_ok _ tb mb n b g c3 v2 es2 ws _ kk HT5.out HS5.out HG.out HME.out HID.out).mono ?_
                  rintro e w7 ⟨rfl, hk7⟩
                  have HT7 : Hid (TabOk w' w7 w'.heap.size tb mb n v2 es2) := HT5.out.on hk7
                  have HS7 : Hid (IsSet w7 b g c3 n ws) := HS5.out.kept hk7 (by simp) (by simp)
                  have k7 : Kept [] w' w7 := k5.trans (F := []) (G := []) (H := []) hk7 (by simp) (by simp)
                  clear hk7 HT5 HS5 k5
                  go_wp2_with fail
                  refine (at_in _ tb mb n v2 es2 kk en _ HT7.out.is HEN.out).mono ?_
                  rintro e w8 ⟨b8, g8, c8, rfl, hs8, hb8, hg8, hk8⟩
                  rw [HWS.out] at hs8
                  have HA8 : Hid (IsSet w8 b8 g8 c8 n ws) := hs8
                  have HT8 : Hid (TabOk w' w8 w'.heap.size tb mb n v2 es2) := HT7.out.on hk8
                  have HS8 : Hid (IsSet w8 b g c3 n ws) := HS7.out.kept hk8 (by simp) (by simp)
                  have k8 : Kept [] w' w8 := k7.trans (F := []) (G := []) (H := []) hk8 (by simp) (by simp)
                  have HN8 : Hid (∀ e ∈ es2, e.g ≠ g8) := fun e he => by have := (HT7.out.is.sets e he).1.ltg; omega
                  have gg8 : g ≠ g8 := by have := HS7.out.ltg; omega
                  have l8 : w'.heap.size ≤ g8 := Nat.le_trans k7.size hg8
                  have lg : w'.heap.size ≤ g := Nat.le_trans hkr.size hg'
                  have bg8 : b ≠ g8 := by have := HS7.out.ltb; omega
                  clear hs8 hb8 hg8 hk8 HT7 HS7 k7
                  go_wp2_with fail
                  refine (same_any b8 g8 c8 n b g c3 n ws ws _ HA8.out HG.out HS8.out).mono ?_
                  rintro e w9 ⟨rfl, hq9⟩
                  have es9 : (decide (n = n) && decide (ws = ws)) = true := by simp
                  rw [es9]
                  have HA9 : Hid (IsSet w9 b8 g8 c8 n ws) := HA8.out.kept hq9.kept (by simp) (by simp)
                  have HT9 : Hid (TabOk w' w9 w'.heap.size tb mb n v2 es2) := HT8.out.on hq9.kept
                  have HS9 : Hid (IsSet w9 b g c3 n ws) := HS8.out.kept hq9.kept (by simp) (by simp)
                  have k9 : Kept [] w' w9 := k8.trans (F := []) (G := []) (H := []) hq9.kept (by simp) (by simp)
                  clear hq9 HA8 HT8 HS8 k8 es9
                  go_wp2_with fail
                  refine (put_any b g c3 n ws 0 _ HS9.out HG.out).mono ?_
                  rintro e w10 ⟨rfl, hs10, hk10⟩
                  have HS10 : Hid (IsSet w10 b g c3 n (putI n ws 0)) := hs10
                  have HT10 : Hid (TabOk w' w10 w'.heap.size tb mb n v2 es2) := HT9.out.put HS9.out HNE.out hk10
                  have HA10 : Hid (IsSet w10 b8 g8 c8 n ws) := HA9.out.kept hk10 (by obtain ⟨cur, hc, _⟩ := HS9.out.row; simpa using ne_of_obj HA9.out.head hc (by simp)) (by simpa using gg8.symm)
                  have k10 : Kept [] w' w10 := k9.trans (F := []) (H := []) hk10 (by simp) (fun x hx => by right; simp at hx; omega)
                  clear hs10 hk10 HS9 HT9 HA9 k9
                  go_wp2_with fail
                  refine (cut_any b g c3 n (putI n ws 0) 1 _ HS10.out (HG.out.putI 0)).mono ?_
                  rintro e w11 ⟨rfl, hs11, hk11⟩
                  have HT11 : Hid (TabOk w' w11 w'.heap.size tb mb n v2 es2) := HT10.out.put HS10.out HNE.out hk11
                  have HA11 : Hid (IsSet w11 b8 g8 c8 n ws) := HA10.out.kept hk11 (by obtain ⟨cur, hc, _⟩ := HS10.out.row; simpa using ne_of_obj HA10.out.head hc (by simp)) (by simpa using gg8.symm)
                  have k11 : Kept [] w' w11 := k10.trans (F := []) (H := []) hk11 (by simp) (fun x hx => by right; simp at hx; omega)
                  clear hs11 hk11 HS10 HT10 HA10 k10
                  go_wp2_with fail
                  refine (cut_any b8 g8 c8 n ws 0 _ HA11.out HG.out).mono ?_
                  rintro e w12 ⟨rfl, hs12, hk12⟩
                  have HT12 : Hid (TabOk w' w12 w'.heap.size tb mb n v2 es2) := HT11.out.put HA11.out HN8.out hk12
                  have k12 : Kept [] w' w12 := k11.trans (F := []) (H := []) hk12 (by simp) (fun x hx => by right; simp at hx; omega)
                  clear hs12 hk12 HT11 HA11 k11
                  go_wp2_with fail
                  refine (at_in _ tb mb n v2 es2 kk en _ HT12.out.is HEN.out).mono ?_
                  rintro e w13 ⟨b13, g13, c13, rfl, hs13, hb13, hg13, hk13⟩
                  rw [HWS.out] at hs13
                  have HA13 : Hid (IsSet w13 b13 g13 c13 n ws) := hs13
                  have HT13 : Hid (TabOk w' w13 w'.heap.size tb mb n v2 es2) := HT12.out.on hk13
                  have k13 : Kept [] w' w13 := k12.trans (F := []) (G := []) (H := []) hk13 (by simp) (by simp)
                  clear hs13 hb13 hg13 hk13 HT12 k12
                  go_wp2_with fail
                  refine (find_ok _ tb mb n b13 g13 c13 v2 es2 ws _ kk HT13.out HA13.out HG.out HME.out HID.out).mono ?_
                  rintro e w14 ⟨rfl, hk14⟩
                  have HT14 : Hid (TabOk w' w14 w'.heap.size tb mb n v2 es2) := HT13.out.on hk14
                  have k14 : Kept [] w' w14 := k13.trans (F := []) (G := []) (H := []) hk14 (by simp) (by simp)
                  clear hk14 HT13 HA13 k13
                  have he2 : es2.length ≤ k + 1 := by have := HL2.out; omega
                  go_wp2
                  go_roundw
                  case rel => exact ⟨k + 1, v2, es2, by omega, by go_num, HT14.out, he2, k14⟩
                  case measure => simp [intOf]; omega
                · have q2 : ((es2.length : Int) != (kk : Int) + 1) = false := by have := HL2.out; simp; omega
                  have q3 : (es.length : Int) < (kk : Int) + 1 := by omega
                  have HC1 : Hid _ := hc1
                  clear hc1
                  go_wp2_with fail
                  refine (tabLen_any _ tb mb n v2 es2 _ HT5.out.is).mono ?_
                  rintro e w6 ⟨rfl, rfl⟩
                  go_wp2_with fail
                  refine (find_ok _ tb mb n b g c3 v2 es2 ws _ kk HT5.out HS5.out HG.out HME.out HID.out).mono ?_
                  rintro e w7 ⟨rfl, hk7⟩
                  have HT7 : Hid (TabOk w' w7 w'.heap.size tb mb n v2 es2) := HT5.out.on hk7
                  have HS7 : Hid (IsSet w7 b g c3 n ws) := HS5.out.kept hk7 (by simp) (by simp)
                  have k7 : Kept [] w' w7 := k5.trans (F := []) (G := []) (H := []) hk7 (by simp) (by simp)
                  clear hk7 HT5 HS5 k5
                  go_wp2_with fail
                  refine (at_in _ tb mb n v2 es2 kk en _ HT7.out.is HEN.out).mono ?_
                  rintro e w8 ⟨b8, g8, c8, rfl, hs8, hb8, hg8, hk8⟩
                  rw [HWS.out] at hs8
                  have HA8 : Hid (IsSet w8 b8 g8 c8 n ws) := hs8
                  have HT8 : Hid (TabOk w' w8 w'.heap.size tb mb n v2 es2) := HT7.out.on hk8
                  have HS8 : Hid (IsSet w8 b g c3 n ws) := HS7.out.kept hk8 (by simp) (by simp)
                  have k8 : Kept [] w' w8 := k7.trans (F := []) (G := []) (H := []) hk8 (by simp) (by simp)
                  have HN8 : Hid (∀ e ∈ es2, e.g ≠ g8) := fun e he => by have := (HT7.out.is.sets e he).1.ltg; omega
                  have gg8 : g ≠ g8 := by have := HS7.out.ltg; omega
                  have l8 : w'.heap.size ≤ g8 := Nat.le_trans k7.size hg8
                  have lg : w'.heap.size ≤ g := Nat.le_trans hkr.size hg'
                  have bg8 : b ≠ g8 := by have := HS7.out.ltb; omega
                  clear hs8 hb8 hg8 hk8 HT7 HS7 k7
                  go_wp2_with fail
                  refine (same_any b8 g8 c8 n b g c3 n ws ws _ HA8.out HG.out HS8.out).mono ?_
                  rintro e w9 ⟨rfl, hq9⟩
                  have es9 : (decide (n = n) && decide (ws = ws)) = true := by simp
                  rw [es9]
                  have HA9 : Hid (IsSet w9 b8 g8 c8 n ws) := HA8.out.kept hq9.kept (by simp) (by simp)
                  have HT9 : Hid (TabOk w' w9 w'.heap.size tb mb n v2 es2) := HT8.out.on hq9.kept
                  have HS9 : Hid (IsSet w9 b g c3 n ws) := HS8.out.kept hq9.kept (by simp) (by simp)
                  have k9 : Kept [] w' w9 := k8.trans (F := []) (G := []) (H := []) hq9.kept (by simp) (by simp)
                  clear hq9 HA8 HT8 HS8 k8 es9
                  go_wp2_with fail
                  refine (put_any b g c3 n ws 0 _ HS9.out HG.out).mono ?_
                  rintro e w10 ⟨rfl, hs10, hk10⟩
                  have HS10 : Hid (IsSet w10 b g c3 n (putI n ws 0)) := hs10
                  have HT10 : Hid (TabOk w' w10 w'.heap.size tb mb n v2 es2) := HT9.out.put HS9.out HNE.out hk10
                  have HA10 : Hid (IsSet w10 b8 g8 c8 n ws) := HA9.out.kept hk10 (by obtain ⟨cur, hc, _⟩ := HS9.out.row; simpa using ne_of_obj HA9.out.head hc (by simp)) (by simpa using gg8.symm)
                  have k10 : Kept [] w' w10 := k9.trans (F := []) (H := []) hk10 (by simp) (fun x hx => by right; simp at hx; omega)
                  clear hs10 hk10 HS9 HT9 HA9 k9
                  go_wp2_with fail
                  refine (cut_any b g c3 n (putI n ws 0) 1 _ HS10.out (HG.out.putI 0)).mono ?_
                  rintro e w11 ⟨rfl, hs11, hk11⟩
                  have HT11 : Hid (TabOk w' w11 w'.heap.size tb mb n v2 es2) := HT10.out.put HS10.out HNE.out hk11
                  have HA11 : Hid (IsSet w11 b8 g8 c8 n ws) := HA10.out.kept hk11 (by obtain ⟨cur, hc, _⟩ := HS10.out.row; simpa using ne_of_obj HA10.out.head hc (by simp)) (by simpa using gg8.symm)
                  have k11 : Kept [] w' w11 := k10.trans (F := []) (H := []) hk11 (by simp) (fun x hx => by right; simp at hx; omega)
                  clear hs11 hk11 HS10 HT10 HA10 k10
                  go_wp2_with fail
                  refine (cut_any b8 g8 c8 n ws 0 _ HA11.out HG.out).mono ?_
                  rintro e w12 ⟨rfl, hs12, hk12⟩
                  have HT12 : Hid (TabOk w' w12 w'.heap.size tb mb n v2 es2) := HT11.out.put HA11.out HN8.out hk12
                  have k12 : Kept [] w' w12 := k11.trans (F := []) (H := []) hk12 (by simp) (fun x hx => by right; simp at hx; omega)
                  clear hs12 hk12 HT11 HA11 k11
                  go_wp2_with fail
                  refine (at_in _ tb mb n v2 es2 kk en _ HT12.out.is HEN.out).mono ?_
                  rintro e w13 ⟨b13, g13, c13, rfl, hs13, hb13, hg13, hk13⟩
                  rw [HWS.out] at hs13
                  have HA13 : Hid (IsSet w13 b13 g13 c13 n ws) := hs13
                  have HT13 : Hid (TabOk w' w13 w'.heap.size tb mb n v2 es2) := HT12.out.on hk13
                  have k13 : Kept [] w' w13 := k12.trans (F := []) (G := []) (H := []) hk13 (by simp) (by simp)
                  clear hs13 hb13 hg13 hk13 HT12 k12
                  go_wp2_with fail
                  refine (find_ok _ tb mb n b13 g13 c13 v2 es2 ws _ kk HT13.out HA13.out HG.out HME.out HID.out).mono ?_
                  rintro e w14 ⟨rfl, hk14⟩
                  have HT14 : Hid (TabOk w' w14 w'.heap.size tb mb n v2 es2) := HT13.out.on hk14
                  have k14 : Kept [] w' w14 := k13.trans (F := []) (G := []) (H := []) hk14 (by simp) (by simp)
                  clear hk14 HT13 HA13 k13
                  have he2 : es2.length ≤ k + 1 := by have := HL2.out; have := HC1.out; omega
                  go_wp2
                  go_roundw
                  case rel => exact ⟨k + 1, v2, es2, by omega, by go_num, HT14.out, he2, k14⟩
                  case measure => simp [intOf]; omega
              · have b0 : ¬ (k : Int) < (zss.length : Int) := by omega
                go_wp2_with fail
                have he : es.length ≤ 300 := by omega
                clear hes hlt b0
                go_loopw [15] (fun i w2 => ∃ j : Nat, j ≤ es.length ∧ i = .int .i64 j ∧ TabOk w' w2 w'.heap.size tb mb n v es ∧ Kept [] w' w2) (fun i _ => es.length - (intOf i).toNat)
                case atStart => exact ⟨0, Nat.zero_le _, rfl, HTR.out, hkr⟩
                case round =>
                  obtain ⟨j, hj, rfl, htj, hkj⟩ := hrel
                  clear HTR hkr
                  have HTJ : Hid (TabOk w' _ w'.heap.size tb mb n v es) := htj
                  clear htj
                  go_wp2_with fail
                  refine (tabLen_any _ tb mb n v es _ HTJ.out.is).mono ?_
                  rintro e w3 ⟨rfl, rfl⟩
                  by_cases hlt : j < es.length
                  · have b0 : (j : Int) < (es.length : Int) := by omega
                    go_wp2_with fail
                    go_loopw [16] (fun i w2 => ∃ m : Nat, m ≤ j ∧ i = .int .i64 m ∧ TabOk w' w2 w'.heap.size tb mb n v es ∧ Kept [] w' w2) (fun i _ => j - (intOf i).toNat)
                    case atStart => exact ⟨0, Nat.zero_le _, rfl, HTJ.out, hkj⟩
                    case round =>
                      obtain ⟨m, hm, rfl, htm, hkm⟩ := hrel
                      clear HTJ hkj
                      have HTM : Hid (TabOk w' _ w'.heap.size tb mb n v es) := htm
                      clear htm
                      by_cases hmj : m < j
                      · have b1 : (m : Int) < (j : Int) := by omega
                        have x1 := List.getElem?_eq_getElem hlt
                        have x2 := List.getElem?_eq_getElem (show m < es.length by omega)
                        generalize es[j] = xj at x1
                        generalize es[m] = xm at x2
                        have X1 : Hid (es[j]? = some xj) := x1
                        have X2 : Hid (es[m]? = some xm) := x2
                        have HDF : Hid (xj.ws ≠ xm.ws) := HTM.out.differ x1 x2 (by omega)
                        clear x1 x2
                        go_wp2_with fail
                        refine (at_in _ tb mb n v es j xj _ HTM.out.is X1.out).mono ?_
                        rintro e w4 ⟨b4, g4, c4, rfl, hs4, _, _, hk4⟩
                        have HT4 : Hid (TabOk w' _ w'.heap.size tb mb n v es) := HTM.out.on hk4
                        have HS4 : Hid (IsSet _ b4 g4 c4 n xj.ws) := hs4
                        have HG4 : Hid (Good n xj.ws) := (HTM.out.is.sets xj (List.mem_of_getElem? X1.out)).2
                        have k4 := hkm.trans (F := []) (G := []) (H := []) hk4 (by simp) (by simp)
                        clear hs4 hk4 HTM hkm
                        go_wp2_with fail
                        refine (at_in _ tb mb n v es m xm _ HT4.out.is X2.out).mono ?_
                        rintro e w5 ⟨b5, g5, c5, rfl, hs5, _, _, hk5⟩
                        have HT5 : Hid (TabOk w' _ w'.heap.size tb mb n v es) := HT4.out.on hk5
                        have HS5 : Hid (IsSet _ b4 g4 c4 n xj.ws) := HS4.out.kept hk5 (by simp) (by simp)
                        have HA5 : Hid (IsSet _ b5 g5 c5 n xm.ws) := hs5
                        have k5 := k4.trans (F := []) (G := []) (H := []) hk5 (by simp) (by simp)
                        clear hs5 hk5 HT4 HS4 k4
                        go_wp2_with fail
                        refine (same_any b4 g4 c4 n b5 g5 c5 n xj.ws xm.ws _ HS5.out HG4.out HA5.out).mono ?_
                        rintro e w6 ⟨rfl, hq6⟩
                        have e6 : (decide (n = n) && decide (xj.ws = xm.ws)) = false := by simp; exact HDF.out
                        rw [e6]
                        have HT6 : Hid (TabOk w' _ w'.heap.size tb mb n v es) := HT5.out.on hq6.kept
                        have k6 := k5.trans (F := []) (G := []) (H := []) hq6.kept (by simp) (by simp)
                        clear hq6 HT5 HS5 HA5 k5 e6
                        go_wp2
                        go_roundw
                        case rel => exact ⟨m + 1, by omega, by go_num, HT6.out, k6⟩
                        case measure => simp [intOf]; omega
                      · have b1 : ¬ (m : Int) < (j : Int) := by omega
                        go_wp2
                        go_roundw
                        case rel => exact ⟨j + 1, by omega, by go_num, HTM.out, hkm⟩
                        case measure => simp [intOf]; omega
                  · have b0 : ¬ (j : Int) < (es.length : Int) := by omega
                    go_wp2_with fail
                    refine (tabLen_any _ tb mb n v es _ HTJ.out.is).mono ?_
                    rintro e w4 ⟨rfl, rfl⟩
                    go_wp2_with fail
                    refine (at_out _ tb mb n v es es.length _ HTJ.out.is (Or.inr (Int.le_refl _))).mono ?_
                    rintro e w5 ⟨rfl, rfl⟩
                    go_wp2_with fail
                    refine (at_out _ tb mb n v es (-1) _ HTJ.out.is (Or.inl (by omega))).mono ?_
                    rintro e w6 ⟨rfl, rfl⟩
                    go_wp2
                    go_ret
                    exact ⟨rfl, hkj⟩
end Go.Proofs.Ytjfhfdpbdjeedaa
