/- BitsGoes: the walk. -/
import Derived.Test.YtjfhfdpbdjeedaaDoorGoesKit
namespace Go.Proofs.YtjfhfdpbdjeedaaDoor
open Go.RowKit Go.Shelf
attribute [local go_sem] Oper.semAt_some
theorem runStoreFunc (P : Program) (w : World) (a : Addr) (m : Mode) (fn : Fn) (first captured : Array Value) : (store a (.func fn first captured) m).run P w = stored P w a (.func fn first captured) m := run_store P w a _ m rfl
attribute [local go_sem] runStoreFunc

set_option maxHeartbeats 400000 in
theorem bitsGoes_long (v : Value) (zs : List Int) (c mo : Int) (w : World) (hv : IsSl w v zs) (hz : 5000 < zs.length) :
    Calls Tryd.prog 6 #[.int .i64 c, v, .int .i64 mo] w fun e w' => e = .returned (.bool true) ∧ Kept [] w w' := by
  obtain ⟨ad, cap, rfl, _⟩ := hv
  have b0 : (5000 : Int) < (zs.length : Int) := by omega
  go_enter Tryd.func6, Tryd.ntmps6
  go_wp2
  refine bodyPost_ret (v := .bool true) ?_ rfl ?_
  · simp [results, Tryd.f6, go_sem]
  · exact ⟨rfl, (Kept.refl [] w).alloc _⟩

set_option maxRecDepth 100000 in
set_option maxHeartbeats 4000000 in
theorem bitsGoes_walk (v : Value) (zs : List Int) (c mo : Int) (w : World) (hv : IsSl w v zs) (hz : zs.length ≤ 5000) (hT : Tab w) (hc : -9223372036854775808 ≤ c ∧ c ≤ 9223372036854775807) (hmo : -9223372036854775808 ≤ mo ∧ mo ≤ 9223372036854775807) :
    Calls Tryd.prog 6 #[.int .i64 c, v, .int .i64 mo] w fun e w' => e = .returned (.bool true) ∧ Below w.heap.size w w' := by
  have HV : Hid (IsSl w v zs) := hv
  obtain ⟨ad, cap, rfl, hcase⟩ := hv
  clear hcase
  have HT : Hid (Tab w) := hT
  have HC : Hid _ := hc
  have HMO : Hid _ := hmo
  clear hT hc hmo
  have hn := widthN_le c
  obtain ⟨want, hwant⟩ : ∃ want, elemsW (widthN c) (ofW (widthN c) zs) 0 = want := ⟨_, rfl⟩
  have hwl : want.length ≤ 65536 := by
    have h1 := refAllK_le (refOf (widthN c) zs) (refOf (widthN c) zs).length
    rw [want_eq _ hn, hwant, (ref_agree _ hn zs).1] at h1
    omega
  have b0 : ¬ (5000 : Int) < (zs.length : Int) := by omega
  refine (callsIn_wide (n := 9)).1 ?_
  refine callsIn_of_wp_marks Tryd.func6 rfl trivial ?_ rfl
  simp only [Tryd.ntmps6, List.size_toArray, List.length_cons, List.length_nil, Nat.reduceAdd, Nat.reduceSub, Array.replicate_succ, Array.replicate_zero, List.push_toArray, List.append_toArray, List.nil_append, List.cons_append]
  have k0 := (Kept.refl [] w).alloc (.cells #[.bool false] 4)
  gi_wp2_with (refine ⟨trivial, ?_⟩; gi_at_call 7; refine (callsIn_wide.2 (known_any _ (HT.out.kept k0 (by simp)))).mono ?_; rintro e w1 ⟨rfl, k1⟩)
  gi_wp2_with (refine ⟨trivial, ?_⟩; gi_at_call 8; refine (callsIn_wide.2 (width_any c _ HC.out)).mono ?_; rintro e w1' ⟨rfl, rfl⟩)
  gi_wp2_with (refine ⟨trivial, ?_⟩; gi_at_call 19; refine (callsIn_wide.2 (of_sl (widthN c) _ zs _ hn (by unfold maxLen; omega) (HV.out.kept (k0.trans (F := []) (H := []) k1 (by simp) (by simp))))).mono ?_; rintro e w2 ⟨b, g, cp, rfl, hs2, hb2, hg2, k2⟩)
  have K2 := (k0.trans (F := []) (H := []) k1 (by simp) (by simp)).trans (F := []) (H := []) k2 (by simp) (by simp)
  gi_wp2_with (refine ⟨trivial, ?_⟩; gi_at_call 8; refine (callsIn_wide.2 (width_any c _ HC.out)).mono ?_; rintro e w1' ⟨rfl, rfl⟩)
  gi_wp2_with (refine ⟨trivial, ?_⟩; gi_at_call 20; refine (callsIn_wide.2 (refOf_sl (widthN c) _ zs _ hn (by omega) (HV.out.kept K2))).mono ?_; rintro e w3 ⟨rb, rg, rfl, hr3, hrb3, hrg3, k3⟩)
  gi_wp2_with (refine ⟨trivial, ?_⟩; gi_at_call 21; refine (callsIn_wide.2 (refAll_any rb rg _ _ hr3)).mono ?_; rintro e w4 ⟨v4, rfl, hown4, k4⟩; rw [want_eq _ hn, hwant] at hown4; obtain ⟨ad4, cap4, rfl, row4⟩ := own_sl hown4; clear hown4)
  clear hr3
  have K4 := (K2.trans (F := []) (H := []) k3 (by simp) (by simp)).trans (F := []) (H := []) k4 (by simp) (by simp)
  have hs4 := ((hs2.kept k3 (by simp) (by simp)).kept k4 (by simp) (by simp)).alloc (.cells #[.slice ad4 want.length cap4] 23)
  have bx9 := Boxed.new w4 23 (.slice ad4 want.length cap4)
  have bx6 := (((Boxed.new w 4 (.bool false)).kept' k1).kept' k2 |>.kept' k3 |>.kept' k4).alloc (.cells #[.slice ad4 want.length cap4] 23)
  have T4 := (HT.out.kept K4 (by simp)).kept ((Kept.refl [] w4).alloc (.cells #[.slice ad4 want.length cap4] 23)) (by simp)
  have HS4 : Hid _ := hs4
  have HT4 : Hid _ := T4
  have HB9 : Hid _ := bx9
  have HB6 : Hid _ := bx6
  clear hs4 T4 bx9 bx6
  gi_wp2_with (refine ⟨trivial, ?_⟩; gi_at_call 22; refine (callsIn_wide.2 (all_any b g cp _ _ _ HS4.out (Good.ofW hn zs) HT4.out)).mono ?_; rintro e w5 ⟨Bn, b', g', c', rfl, hA5, hBn5, hb5, hg5, k5⟩)
  have bx10 := Boxed.new w5 55 (.func (.func 60) #[] #[.pointer (some ⟨Bn, 0, none⟩)])
  obtain ⟨wA, hwA⟩ : ∃ wA, w5.alloc (.cells #[.func (.func 60) #[] #[.pointer (some ⟨Bn, 0, none⟩)]] 55) = wA := ⟨_, rfl⟩
  have kA : Kept [] w5 wA := by rw [← hwA]; exact (Kept.refl [] w5).alloc _
  have k5A := k5.trans (F := []) (H := []) kA (by simp) (by simp)
  have szA : wA.heap.size = w5.heap.size + 1 := by rw [← hwA]; simp
  rw [hwA] at bx10
  have HB10 : Hid _ := bx10
  have HSA : Hid _ := HS4.out.kept k5A (by simp) (by simp)
  have HRA : Hid _ := (row4.kept ((Kept.refl [] w4).alloc (.cells #[.slice ad4 want.length cap4] 23)) (by simp)).kept k5A (by simp)
  have HAA : Hid _ := hA5.kept kA (by simp) (by simp) (by simp) (by simp)
  have HB9A : Hid _ := Boxed.kept' HB9.out k5A
  have HB6A : Hid _ := Boxed.kept' HB6.out k5A
  have hg4 : g < w3.heap.size := Nat.lt_of_lt_of_le hs2.ltg k3.size
  have hg0 : w.heap.size < g := by have := k1.size; simp at this; omega
  have hgA : g < w4.heap.size := Nat.lt_of_lt_of_le hg4 k4.size
  have hA4 : w4.heap.size < w5.heap.size := by have := k5.size; simp at this; omega
  have HKA : Hid _ := ((K4.alloc (.cells #[.slice ad4 want.length cap4] 23)).trans (F := []) (H := []) k5A (by simp) (by simp))
  have HCA : Hid (∀ i (h : i < zs.length), ∃ lb lo, ad = some ⟨lb, lo, none⟩ ∧ lb < w.heap.size ∧ wA.cell? ⟨lb, lo + i, none⟩ = some (.int .i64 zs[i])) := by
    intro i hi
    obtain ⟨ad', cap', e, hcase⟩ := HV.out
    cases e
    rcases hcase with h0 | ⟨lb, lo, h1, h2, h3⟩
    · rw [h0] at hi; simp at hi
    · exact ⟨lb, lo, h1, h2, (HKA.out.below.cell (p := ⟨lb, lo + i, none⟩) h2).trans (h3 i hi)⟩
  clear bx10 k1 k2 K2 k3 k4 K4 k5 kA k5A HS4 HT4 HB9 HB6 hA5 row4 hs2
  gi_wp2_with fail
  gi_loopw [11] (fun i wr => ∃ (k : Nat) (ws : List Nat), k ≤ zs.length ∧ i = .int .i64 k ∧ IsSet wr b g cp (widthN c) ws ∧ Good (widthN c) ws ∧ Kept [g] wA wr) (fun i _ => zs.length - (intOf i).toNat)
  case atStart => rw [hwA]; exact ⟨0, _, Nat.zero_le _, rfl, HSA.out, Good.ofW hn zs, Kept.refl _ _⟩
  case round =>
    obtain ⟨k, ws, hk, rfl, hs, hG, hkw⟩ := hrel
    by_cases hlt : k < zs.length
    · obtain ⟨lb, lo, rfl, hlb, hcl⟩ := HCA.out k hlt
      have hcell : wr.cell? ⟨lb, lo + k, none⟩ = some (.int .i64 zs[k]) := (World.cell?_of_block (w := wA) (a := ⟨lb, lo + k, none⟩) (hkw.block lb (by have := HKA.out.size; omega) (by simp; omega))).trans hcl
      have hlt' : (k : Int) < (zs.length : Int) := by omega
      clear hcl
      generalize zs[k] = z at hcell
      gi_wp2_with (refine ⟨trivial, ?_⟩; gi_at_call 23; refine (callsIn_wide.2 (cut_any b g cp _ ws z _ hs hG)).mono ?_; rintro e w6 ⟨rfl, hs6, k6⟩)
      go_roundw
      case rel => exact ⟨k + 1, _, by omega, by go_num, hs6, hG.cutI z, hkw.trans (H := [g]) k6 (by simp) (by simp)⟩
      case measure => simp [intOf]; omega
    · have hlt' : ¬ (k : Int) < (zs.length : Int) := by omega
      gi_wp2_with (refine ⟨trivial, ?_⟩; gi_at_call 24; refine (callsIn_wide.2 (put_any b g cp _ ws 0 _ hs hG)).mono ?_; rintro e w6 ⟨rfl, hs6, k6⟩)
      have k6A := hkw.trans (H := [g]) k6 (by simp) (by simp)
      have HR : Hid (Ready w6.heap.size w.heap.size w4.heap.size w5.heap.size Bn b' g' c' (widthN c) (ofW (widthN c) zs) want ad4 cap4 w6) := by
        have s6 := k6A.size
        have z5 := hBn5
        have z6 := hb5
        have z7 := hg5
        simp at z5 z6 z7
        refine ⟨Boxed.keptF HB6A.out k6A (by simp; omega), Boxed.keptF HB9A.out k6A (by simp; omega), Boxed.keptF HB10.out k6A (by simp; omega), (WantRow.kept HRA.out k6A (by simp; omega)).low, (HAA.out.kept k6A (by simp; omega) (by simp; omega) (by simp; omega) (by simp; omega)).mono (by omega), by omega, by omega, by omega⟩
      have HBW : Hid (Below w.heap.size w w6) := by
        have h1 := HKA.out.below
        refine h1.trans ⟨k6A.os, k6A.tape, k6A.output, k6A.size, fun k hk => k6A.block k (by have := h1.size; omega) (by simp; omega)⟩
      clear k6A hkw k6 hs6 hs hG hlt' hlt hk
      have HSEQ : Hid (∀ m W, 1 ≤ m → Below w6.heap.size w6 W → SeqStopsK Fence.wide m Tryd.prog 60 #[.pointer (some ⟨Bn, 0, none⟩)] (fun x : Nat => #[Value.int .i64 (x : Nat)]) (Below w6.heap.size) (fun ys => ys = want) (fun pre => pre <+: want) want.length W) := by
        intro m W hm hB
        have h := all_stops m hm w6.heap.size Bn b' g' c' (widthN c) (ofW (widthN c) zs) (Good.ofW hn zs) W hB.size (HR.out.below hB).all
        rw [hwant] at h
        exact h
      refine wpIn_loop_rounds 3 ?_
      have hBb := Below.refl w6.heap.size w6
      have bN0 := Boxed.new w6 3 (.int .i64 0)
      have c10 := ((HR.out.below hBb).b10.alloc (.cells #[.int .i64 0] 3)).cell
      rw [roundsIn_succ]
      gi_wp2_with fail
      have hB0 : Below w6.heap.size w6 (w6.alloc (.cells #[.int .i64 0] 3)) := (Below.refl _ _).alloc (Nat.le_refl _) _
      refine rangeFunc_H rfl (by decide) (gf := 60) (lb := #[.pointer (some ⟨Bn, 0, none⟩)]) rfl trivial (enters_of Tryd.func60 (by kernel_rfl) rfl)
        (HSEQ.out (9 - 1) _ (by decide) (hBb.trans (hB0.mono hBb.size))) (Nat.le_trans hBb.size (by simp)) (Below.refl _ _) (fun _ => rfl)
        (fun pre W => (pre <+: want ∧ Boxed W w6.heap.size 3 (.int .i64 (pre.length : Nat))) ∧ Below w6.heap.size w6 W)
        (fun _ pre _ => ¬ pre <+: want)
        (OwnFrom.and (OwnFrom.and (ownFrom_pure _ _) (Own.from (boxed_own _ _ _) _)) (ownFrom_below (Nat.le_refl _) (by simp)))
        (fun _ => ownFrom_pure _ _)
        ⟨⟨List.nil_prefix, bN0⟩, hB0⟩ ?a1 ?assign1 ?body1 ?done1 ?stop1
      case assign1 =>
        intro l x W K hK
        gi_wp2
        exact hK
      case body1 =>
        rintro l pre x W _ _ ⟨⟨hp, bN⟩, hB⟩ hlt
        have hR := HR.out.below (hBb.trans (hB.mono hBb.size))
        have c9 := hR.b9.cell
        have c6 := hR.b6.cell
        have f6 := hR.b6.frozen
        have cN := bN.cell
        have fN := bN.frozen
        obtain ⟨lb, had, _, hlb, hcw⟩ := hR.row pre.length hlt
        subst had
        have q1 : ¬ (want.length : Int) ≤ (pre.length : Int) := by omega
        have q2 : (0 : Int) ≤ (pre.length : Int) := by omega
        have q3 : (pre.length : Int) < (want.length : Int) := by omega
        have hbs := hBb.size
        have HBN : Hid _ := bN
        have HP : Hid _ := hp
        have HB : Hid _ := hB
        clear hR bN hp hB
        by_cases hx : x = want[pre.length]
        · have HX : Hid _ := pre_more HP.out hlt hx
          generalize want[pre.length] = y at hcw hx
          subst hx
          gi_wp2
          refine ⟨(KeepsOthers.setCell _ _ _).from _, (Below.refl _ W).setCell (p := ⟨w6.heap.size, 0, none⟩) hbs _, ⟨HX.out, ?_⟩, HB.out.setCell (p := ⟨w6.heap.size, 0, none⟩) (Nat.le_refl _) _⟩
          rw [List.length_append]
          exact Boxed.set _ HBN.out
        · have HX : Hid _ := pre_not hlt hx
          generalize want[pre.length] = y at hcw hx
          have hx' : ¬ (x : Int) = (y : Int) := by omega
          gi_wp2
          exact ⟨(KeepsOthers.setCell _ _ _).from _, HX.out⟩
      case stop1 =>
        rintro D cd pre W _ hp h _
        exact absurd hp h
      case done1 =>
        rintro D1 xs W1 hD1 hxs ⟨⟨_, bN⟩, hB1⟩ hK1
        subst xs
        have hB61 := hBb.trans (hB1.mono hBb.size)
        have c9 := (HR.out.below hB61).b9.cell
        have cN := bN.cell
        clear hBb bN0 c10 hB0
        gi_wp2_with fail
        clear c9 cN bN
        have hBb := hB61
        have bN0 := Boxed.new W1 3 (.int .i64 0)
        have c10 := ((HR.out.below hBb).b10.alloc (.cells #[.int .i64 0] 3)).cell
        rw [roundsIn_succ]
        gi_wp2_with fail
        have hB0 : Below W1.heap.size W1 (W1.alloc (.cells #[.int .i64 0] 3)) := (Below.refl _ _).alloc (Nat.le_refl _) _
        refine rangeFunc_H rfl (by decide) (gf := 60) (lb := #[.pointer (some ⟨Bn, 0, none⟩)]) rfl trivial (enters_of Tryd.func60 (by kernel_rfl) rfl)
          (HSEQ.out (9 - 1) _ (by decide) (hBb.trans (hB0.mono hBb.size))) (Nat.le_trans hBb.size (by simp)) (Below.refl _ _) (fun _ => rfl)
          (fun pre W => (pre <+: want ∧ Boxed W W1.heap.size 3 (.int .i64 (pre.length : Nat))) ∧ Below W1.heap.size W1 W)
          (fun _ pre _ => ¬ pre <+: want)
          (OwnFrom.and (OwnFrom.and (ownFrom_pure _ _) (Own.from (boxed_own _ _ _) _)) (ownFrom_below (Nat.le_refl _) (by simp)))
          (fun _ => ownFrom_pure _ _)
          ⟨⟨List.nil_prefix, bN0⟩, hB0⟩ ?a2 ?assign2 ?body2 ?done2 ?stop2
        case assign2 =>
          intro l x W K hK
          gi_wp2
          exact hK
        case body2 =>
          rintro l pre x W _ _ ⟨⟨hp, bN⟩, hB⟩ hlt
          have hR := HR.out.below (hBb.trans (hB.mono hBb.size))
          have c9 := hR.b9.cell
          have c6 := hR.b6.cell
          have f6 := hR.b6.frozen
          have cN := bN.cell
          have fN := bN.frozen
          obtain ⟨lb, had, _, hlb, hcw⟩ := hR.row pre.length hlt
          subst had
          have q1 : ¬ (want.length : Int) ≤ (pre.length : Int) := by omega
          have q2 : (0 : Int) ≤ (pre.length : Int) := by omega
          have q3 : (pre.length : Int) < (want.length : Int) := by omega
          have hbs := hBb.size
          have HBN : Hid _ := bN
          have HP : Hid _ := hp
          have HB : Hid _ := hB
          clear hR bN hp hB
          by_cases hx : x = want[pre.length]
          · have HX : Hid _ := pre_more HP.out hlt hx
            generalize want[pre.length] = y at hcw hx
            subst hx
            gi_wp2
            refine ⟨(KeepsOthers.setCell _ _ _).from _, (Below.refl _ W).setCell (p := ⟨W1.heap.size, 0, none⟩) hbs _, ⟨HX.out, ?_⟩, HB.out.setCell (p := ⟨W1.heap.size, 0, none⟩) (Nat.le_refl _) _⟩
            rw [List.length_append]
            exact Boxed.set _ HBN.out
          · have HX : Hid _ := pre_not hlt hx
            generalize want[pre.length] = y at hcw hx
            have hx' : ¬ (x : Int) = (y : Int) := by omega
            gi_wp2
            exact ⟨(KeepsOthers.setCell _ _ _).from _, HX.out⟩
        case stop2 =>
          rintro D cd pre W _ hp h _
          exact absurd hp h
        case done2 =>
          rintro D2 xs W2 hD2 hxs ⟨⟨_, bN⟩, hB2⟩ hK2
          subst xs
          have hB62 := hBb.trans (hB2.mono hBb.size)
          have c9 := (HR.out.below hB62).b9.cell
          have cN := bN.cell
          clear hBb bN0 c10 hB0
          gi_wp2_with fail
          clear c9 cN bN
          rw [roundsIn_succ]
          have c9 := (HR.out.below hB62).b9.cell
          obtain ⟨p, hp, hpw⟩ : ∃ p, pickN mo (want.length + 1) = p ∧ p ≤ want.length := ⟨_, rfl, by have := pickN_lt mo (want.length + 1) (by omega); omega⟩
          have hpk := fun W => pick_any mo (want.length + 1) W (by omega) (by omega) HMO.out
          simp only [hp, Int.natCast_add, Int.natCast_one] at hpk
          obtain ⟨W3, hW3⟩ : ∃ W3, W2.alloc (.cells #[.int .i64 (1 + (p : Int))] 3) = W3 := ⟨_, rfl⟩
          have b15 : Boxed W3 W2.heap.size 3 (.int .i64 (1 + (p : Int))) := by rw [← hW3]; exact Boxed.new _ _ _
          have s3 : W3.heap.size = W2.heap.size + 1 := by rw [← hW3]; simp
          have hB23 : Below W2.heap.size W2 W3 := by rw [← hW3]; exact (Below.refl _ _).alloc (Nat.le_refl _) _
          have hB63 := hB62.trans (hB23.mono hB62.size)
          have c10 := ((HR.out.below hB63).b10.alloc (.cells #[.int .i64 0] 3)).cell
          gi_wp2_with (refine ⟨trivial, ?_⟩; gi_at_call 25; refine (callsIn_wide.2 (hpk _)).mono ?_; rintro e w7 ⟨rfl, hw7⟩; subst w7)
          have bN0 := Boxed.new W3 3 (.int .i64 0)
          rw [s3] at bN0
          have hB34 : Below (W2.heap.size + 1) W3 (W3.alloc (.cells #[.int .i64 0] 3)) := (Below.refl _ _).alloc (by omega) _
          have hB64 := hB63.trans (hB34.mono (by have := hB62.size; omega))
          clear c9 c10
          refine rangeFunc_H rfl (by decide) (gf := 60) (lb := #[.pointer (some ⟨Bn, 0, none⟩)]) rfl trivial (enters_of Tryd.func60 (by kernel_rfl) rfl)
            (HSEQ.out (9 - 1) _ (by decide) hB64) hB64.size (Below.refl _ _) (fun _ => rfl)
            (fun pre W => ((pre <+: want ∧ pre.length ≤ p) ∧ Boxed W (W2.heap.size + 1) 3 (.int .i64 (pre.length : Nat))) ∧ Below (W2.heap.size + 1) W3 W)
            (fun cd pre W => (((cd = .exit 6 ∧ pre.length = p + 1) ∧ Boxed W (W2.heap.size + 1) 3 (.int .i64 (pre.length : Nat))) ∧ Below (W2.heap.size + 1) W3 W) ∨ ¬ pre <+: want)
            (OwnFrom.and (OwnFrom.and (ownFrom_pure _ _) (Own.from (boxed_own _ _ _) _)) (ownFrom_below (by omega) (by simp; omega)))
            (fun _ => OwnFrom.or (OwnFrom.and (OwnFrom.and (ownFrom_pure _ _) (Own.from (boxed_own _ _ _) _)) (ownFrom_below (by omega) (by simp; omega))) (ownFrom_pure _ _))
            ⟨⟨⟨List.nil_prefix, Nat.zero_le _⟩, bN0⟩, hB34⟩ ?a3 ?assign3 ?body3 ?done3 ?stop3
          case assign3 =>
            intro l x W K hK
            gi_wp2
            exact hK
          case body3 =>
            rintro l pre x W hl ⟨r, hr⟩ ⟨⟨⟨hp', hpl⟩, bN⟩, hB⟩ hlt
            have hB6W := hB63.trans (hB.mono (by have := hB62.size; omega))
            have c10 := ((HR.out.below hB6W).b10.alloc (.cells #[.int .i64 0] 3)).cell
            have bK0 := Boxed.new W 3 (.int .i64 0)
            gi_wp2_with fail
            have hr' : (W.alloc (.cells #[.int .i64 0] 3)).heap[l]? = some (.loop r) := (Below.heap_alloc W _ l (Array.getElem?_eq_some_iff.1 hr).1).trans hr
            have hBa : Below W.heap.size W (W.alloc (.cells #[.int .i64 0] 3)) := (Below.refl _ _).alloc (Nat.le_refl _) _
            clear c10
            refine rangeFunc_N (l₀ := l) (r₀ := r) rfl hr' (by decide) (gf := 60) (lb := #[.pointer (some ⟨Bn, 0, none⟩)]) rfl trivial (enters_of Tryd.func60 (by kernel_rfl) rfl)
              ((HSEQ.out (9 - 1 - 1 - 1) _ (by decide) (hB6W.trans (hBa.mono hB6W.size))).inRound l) (Nat.le_trans hB6W.size hBa.size) (Below.refl _ _) (fun _ => rfl)
              (fun pre' W' => (pre'.length ≤ 1 ∧ Boxed W' W.heap.size 3 (.int .i64 (pre'.length : Nat))) ∧ Below W.heap.size W W')
              (fun cd pre' W' => ((cd = .exit 8 ∧ pre'.length = 2) ∧ Boxed W' W.heap.size 3 (.int .i64 2)) ∧ Below W.heap.size W W')
              (OwnFrom.and (OwnFrom.and (ownFrom_pure _ _) (Own.from (boxed_own _ _ _) _)) (ownFrom_below (Nat.le_refl _) (by simp)))
              (fun _ => OwnFrom.and (OwnFrom.and (ownFrom_pure _ _) (Own.from (boxed_own _ _ (fun _ => .int .i64 2)) _)) (ownFrom_below (Nat.le_refl _) (by simp)))
              ⟨⟨Nat.zero_le _, bK0⟩, hBa⟩ ?a4 ?assign4 ?body4 ?done4 ?stop4
            case assign4 =>
              intro l x W K hK
              gi_wp2
              exact hK
            case body4 =>
              rintro l2 pre' y W' ⟨⟨hle, bK⟩, hBW⟩ _
              have hsW := hB6W.size
              have cK := bK.cell
              have fK := bK.frozen
              have hcs : pre'.length = 0 ∨ pre'.length = 1 := by omega
              rcases hcs with e | e
              · rw [e] at cK
                gi_wp2
                refine ⟨(KeepsOthers.setCell _ _ _).from _, (Below.refl _ W').setCell (p := ⟨W.heap.size, 0, none⟩) hsW _, ⟨by simp [e], ?_⟩, hBW.setCell (p := ⟨W.heap.size, 0, none⟩) (Nat.le_refl _) _⟩
                rw [List.length_append, e]
                exact Boxed.set _ bK
              · rw [e] at cK
                gi_wp2
                exact ⟨(KeepsOthers.setCell _ _ _).from _, ⟨⟨rfl, by simp [e]⟩, Boxed.set _ bK⟩, hBW.setCell (p := ⟨W.heap.size, 0, none⟩) (Nat.le_refl _) _⟩
            case done4 =>
              rintro xs' W' hxs ⟨⟨hle, bK⟩, hBW⟩
              subst xs'
              have hmin : (want.length : Int) < 2 := by omega
              have hB6' := hB6W.trans (hBW.mono hB6W.size)
              have hR' := HR.out.below hB6'
              have c9 := hR'.b9.cell
              have c6 := hR'.b6.cell
              have f6 := hR'.b6.frozen
              have bN' : Boxed W' (W2.heap.size + 1) 3 (.int .i64 (pre.length : Nat)) := (hBW.block _ bN.lt).trans bN
              have cN := bN'.cell
              have fN := bN'.frozen
              have c15 := (show Boxed W' W2.heap.size 3 (.int .i64 (1 + (p : Int))) from (hBW.block _ (by have := bN.lt; omega)).trans ((hB.block _ (by omega)).trans b15)).cell
              have cK := bK.cell
              obtain ⟨lb, had, _, hlb, hcw⟩ := hR'.row pre.length hlt
              subst had
              have q1 : ¬ (want.length : Int) ≤ (pre.length : Int) := by omega
              have q2 : (0 : Int) ≤ (pre.length : Int) := by omega
              have q3 : (pre.length : Int) < (want.length : Int) := by omega
              have HKF : Hid (∀ B, KeepsFrom B W W') := fun _ => keepsFrom_of_below hBW
              have HB3 : Hid (Below (W2.heap.size + 1) W3 W') := hB.trans (hBW.mono (by have := bN.lt; omega))
              have HBW : Hid (Below w6.heap.size W W') := hBW.mono hB6W.size
              have hs62 : w6.heap.size ≤ W2.heap.size + 1 := by have := hB62.size; omega
              have HBN : Hid _ := bN'
              have HBN0 : Hid _ := bN
              have HB0 : Hid _ := hB
              have HPR : Hid _ := hp'
              clear hR' hB6' bN' bN hB hBW bK hp'
              by_cases hx : x = want[pre.length]
              · have HX : Hid _ := pre_more HPR.out hlt hx
                generalize want[pre.length] = y at hcw hx
                subst hx
                by_cases he : pre.length = p
                · have he' : (pre.length : Int) + 1 = 1 + (p : Int) := by omega
                  have HE : Hid _ := he
                  clear he
                  gi_wp2
                  refine ⟨(HKF.out _).trans ((KeepsOthers.setCell _ _ _).from _), Or.inl ⟨⟨⟨rfl, by rw [List.length_append, HE.out]; rfl⟩, ?_⟩, HB3.out.setCell (p := ⟨W2.heap.size + 1, 0, none⟩) (Nat.le_refl _) _⟩⟩
                  rw [List.length_append, show ((pre.length + [x].length : Nat) : Int) = 1 + (p : Int) from by have := HE.out; simp; omega]
                  exact Boxed.set _ HBN.out
                · have he' : ¬ (pre.length : Int) + 1 = 1 + (p : Int) := by omega
                  gi_wp2
                  refine ⟨(HKF.out _).trans ((KeepsOthers.setCell _ _ _).from _), HBW.out.setCell (p := ⟨W2.heap.size + 1, 0, none⟩) hs62 _, ⟨⟨HX.out, by rw [List.length_append]; show pre.length + 1 ≤ p; omega⟩, ?_⟩, HB3.out.setCell (p := ⟨W2.heap.size + 1, 0, none⟩) (Nat.le_refl _) _⟩
                  rw [List.length_append]
                  exact Boxed.set _ HBN.out
              · have HX : Hid _ := pre_not hlt hx
                generalize want[pre.length] = y at hcw hx
                have hx' : ¬ (x : Int) = (y : Int) := by omega
                gi_wp2
                exact ⟨(HKF.out _).trans ((KeepsOthers.setCell _ _ _).from _), Or.inr HX.out⟩
            case stop4 =>
              rintro cd pre' W' hpw' ⟨⟨⟨rfl, h2⟩, bK⟩, hBW⟩
              have hmin : ¬ (want.length : Int) < 2 := by have := hpw'.length_le; omega
              have hB6' := hB6W.trans (hBW.mono hB6W.size)
              have hR' := HR.out.below hB6'
              have c9 := hR'.b9.cell
              have c6 := hR'.b6.cell
              have f6 := hR'.b6.frozen
              have bN' : Boxed W' (W2.heap.size + 1) 3 (.int .i64 (pre.length : Nat)) := (hBW.block _ bN.lt).trans bN
              have cN := bN'.cell
              have fN := bN'.frozen
              have c15 := (show Boxed W' W2.heap.size 3 (.int .i64 (1 + (p : Int))) from (hBW.block _ (by have := bN.lt; omega)).trans ((hB.block _ (by omega)).trans b15)).cell
              have cK := bK.cell
              obtain ⟨lb, had, _, hlb, hcw⟩ := hR'.row pre.length hlt
              subst had
              have q1 : ¬ (want.length : Int) ≤ (pre.length : Int) := by omega
              have q2 : (0 : Int) ≤ (pre.length : Int) := by omega
              have q3 : (pre.length : Int) < (want.length : Int) := by omega
              have HKF : Hid (∀ B, KeepsFrom B W W') := fun _ => keepsFrom_of_below hBW
              have HB3 : Hid (Below (W2.heap.size + 1) W3 W') := hB.trans (hBW.mono (by have := bN.lt; omega))
              have HBW : Hid (Below w6.heap.size W W') := hBW.mono hB6W.size
              have hs62 : w6.heap.size ≤ W2.heap.size + 1 := by have := hB62.size; omega
              have HBN : Hid _ := bN'
              have HBN0 : Hid _ := bN
              have HB0 : Hid _ := hB
              have HPR : Hid _ := hp'
              clear hR' hB6' bN' bN hB hBW bK hp'
              by_cases hx : x = want[pre.length]
              · have HX : Hid _ := pre_more HPR.out hlt hx
                generalize want[pre.length] = y at hcw hx
                subst hx
                by_cases he : pre.length = p
                · have he' : (pre.length : Int) + 1 = 1 + (p : Int) := by omega
                  have HE : Hid _ := he
                  clear he
                  gi_wp2
                  refine ⟨(HKF.out _).trans ((KeepsOthers.setCell _ _ _).from _), Or.inl ⟨⟨⟨rfl, by rw [List.length_append, HE.out]; rfl⟩, ?_⟩, HB3.out.setCell (p := ⟨W2.heap.size + 1, 0, none⟩) (Nat.le_refl _) _⟩⟩
                  rw [List.length_append, show ((pre.length + [x].length : Nat) : Int) = 1 + (p : Int) from by have := HE.out; simp; omega]
                  exact Boxed.set _ HBN.out
                · have he' : ¬ (pre.length : Int) + 1 = 1 + (p : Int) := by omega
                  gi_wp2
                  refine ⟨(HKF.out _).trans ((KeepsOthers.setCell _ _ _).from _), HBW.out.setCell (p := ⟨W2.heap.size + 1, 0, none⟩) hs62 _, ⟨⟨HX.out, by rw [List.length_append]; show pre.length + 1 ≤ p; omega⟩, ?_⟩, HB3.out.setCell (p := ⟨W2.heap.size + 1, 0, none⟩) (Nat.le_refl _) _⟩
                  rw [List.length_append]
                  exact Boxed.set _ HBN.out
              · have HX : Hid _ := pre_not hlt hx
                generalize want[pre.length] = y at hcw hx
                have hx' : ¬ (x : Int) = (y : Int) := by omega
                gi_wp2
                exact ⟨(HKF.out _).trans ((KeepsOthers.setCell _ _ _).from _), Or.inr HX.out⟩
          case done3 =>
            rintro D3 xs W5 hD3 hxs ⟨⟨⟨_, hle⟩, bN⟩, hB3⟩ hK3
            subst xs
            have hmin : (want.length : Int) < 1 + (p : Int) := by omega
            have hB65 := hB63.trans (hB3.mono (by have := hB62.size; omega))
            have hR5 := HR.out.below hB65
            have c9 := hR5.b9.cell
            have c6 := hR5.b6.cell
            have f6 := hR5.b6.frozen
            have cN := bN.cell
            have c15 := (show Boxed W5 W2.heap.size 3 (.int .i64 (1 + (p : Int))) from (hB3.block _ (by omega)).trans b15).cell
            gi_wp2
            have hD2s := (Array.getElem?_eq_some_iff.1 hK2).1
            have hD1s := (Array.getElem?_eq_some_iff.1 hK1).1
            have l6 := HR.out.l6
            simp only [World.size_alloc] at hD1 hD2 hD3
            have z2 := hB2.size
            have z3 := hB3.size
            have K15 : W5.heap[D1]? = some (.deferred (some [])) := (hB3.block D1 (by omega)).trans ((hB23.block D1 (by omega)).trans ((hB2.block D1 hD1s).trans hK1))
            have K25 : W5.heap[D2]? = some (.deferred (some [])) := (hB3.block D2 (by omega)).trans ((hB23.block D2 hD2s).trans hK2)
            exact leaves3 hR5.b6 K15 K25 hK3 (by omega) (by omega) (by omega) (Nat.le_refl _) (HBW.out.trans (hB65.mono HBW.out.size)) (fun W' hc => by simp [results, Tryd.f6, go_sem, hc])
          case stop3 =>
            rintro D3 cd pre W5 hD3 hpw' hix hK3
            rcases hix with ⟨⟨⟨rfl, hle⟩, bN⟩, hB3⟩ | hno
            case inr => exact absurd hpw' hno
            rw [hle] at bN
            have hll := hpw'.length_le
            have hmin : ¬ (want.length : Int) < 1 + (p : Int) := by omega
            have hB65 := hB63.trans (hB3.mono (by have := hB62.size; omega))
            have hR5 := HR.out.below hB65
            have c9 := hR5.b9.cell
            have c6 := hR5.b6.cell
            have f6 := hR5.b6.frozen
            have cN := bN.cell
            rw [show (((p + 1 : Nat)) : Int) = 1 + (p : Int) from by omega] at cN
            have c15 := (show Boxed W5 W2.heap.size 3 (.int .i64 (1 + (p : Int))) from (hB3.block _ (by omega)).trans b15).cell
            gi_wp2
            have hD2s := (Array.getElem?_eq_some_iff.1 hK2).1
            have hD1s := (Array.getElem?_eq_some_iff.1 hK1).1
            have l6 := HR.out.l6
            simp only [World.size_alloc] at hD1 hD2 hD3
            have z2 := hB2.size
            have z3 := hB3.size
            have K15 : W5.heap[D1]? = some (.deferred (some [])) := (hB3.block D1 (by omega)).trans ((hB23.block D1 (by omega)).trans ((hB2.block D1 hD1s).trans hK1))
            have K25 : W5.heap[D2]? = some (.deferred (some [])) := (hB3.block D2 (by omega)).trans ((hB23.block D2 hD2s).trans hK2)
            exact leaves3 hR5.b6 K15 K25 hK3 (by omega) (by omega) (by omega) (Nat.le_refl _) (HBW.out.trans (hB65.mono HBW.out.size)) (fun W' hc => by simp [results, Tryd.f6, go_sem, hc])
end Go.Proofs.YtjfhfdpbdjeedaaDoor
