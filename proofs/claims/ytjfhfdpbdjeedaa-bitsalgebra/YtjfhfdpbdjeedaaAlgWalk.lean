/- BitsAlgebra, walked out of the contracts. -/
import Derived.Test.YtjfhfdpbdjeedaaBag
import Derived.Test.YtjfhfdpbdjeedaaWidth
namespace Go.Proofs.Ytjfhfdpbdjeedaa
open Go.RowKit

set_option maxRecDepth 100000 in
set_option maxHeartbeats 400000 in
theorem algebra_many (c : Int) (aA aB aC : Option Addr) (lA lB lC cA cB cC : Nat) (w : World) (hA : lA ≤ 17592186044416) (hB : lB ≤ 17592186044416) (hC : lC ≤ 17592186044416) (hm : 5000 < lA + lB + lC) :
    Calls Try.prog 3 #[.agg #[.int .i64 c, .slice aA lA cA, .slice aB lB cB, .slice aC lC cC]] w fun e w' => e = .returned (.bool true) ∧ Kept [] w w' := by
  have b1 : (5000 : Int) < (lA : Int) + (lB : Int) + (lC : Int) := by omega
  go_enter Try.func3, Try.ntmps3
  go_wp2
  go_ret
  exact ⟨rfl, (Kept.refl [] w).alloc _⟩

theorem cnt_le (m : Nat) (ws : List Nat) : cnt m ws ≤ m := by
  unfold cnt
  have := List.countP_le_length (p := fun i => mem ws i) (l := List.range m)
  simpa using this
theorem in_of {n : Nat} {A : List Nat} (hA : Good n A) {i : Nat} (h : mem A i = true) : i < n := by
  rcases Nat.lt_or_ge i n with h' | h'
  · exact h'
  · rw [hA.trim i h'] at h; cases h
theorem alg_dist {n : Nat} {A B : List Nat} (C : List Nat) (hA : Good n A) (hB : Good n B) : opW fAnd (trimW n (opW fOr A B)) C = trimW n (opW fOr (opW fAnd A C) (opW fAnd B C)) := by
  refine ext_mem ((hA.or hB).and C) ((hA.and C).or (hB.and C)) (fun i => ?_)
  rw [mem_and, mem_or _ hA, mem_or _ (hA.and C), mem_and, mem_and]
  cases mem A i <;> cases mem B i <;> cases mem C i <;> simp
theorem alg_whole {n : Nat} {A B : List Nat} (hA : Good n A) (hB : Good n B) : trimW n (opW fOr (opW fAnd A B) (opW fLess A B)) = A := by
  refine ext_mem ((hA.and B).or (hA.less hB)) hA (fun i => ?_)
  rw [mem_or _ (hA.and B), mem_and, mem_less _ hB]
  cases h : mem A i
  · simp
  · have := in_of hA h
    cases mem B i <;> simp [this]
theorem alg_none {n : Nat} (A : List Nat) {B : List Nat} (hB : Good n B) : cnt n (opW fAnd (opW fLess A B) B) = 0 := by
  refine cnt_none _ _ (fun i _ => ?_)
  rw [mem_and, mem_less _ hB]
  cases mem A i <;> cases mem B i <;> rfl
theorem alg_key {n : Nat} {A B : List Nat} (hA : Good n A) (hB : Good n B) : (keyW n A == keyW n B) = decide (A = B) := by
  by_cases h : A = B
  · subst h; simp
  · have : keyW n A ≠ keyW n B := fun e => h (keyW_inj hA hB e)
    simp [h, this]
theorem alg_within {n : Nat} {A B : List Nat} (hA : Good n A) (hB : Good n B) : decide (A = B) = (withinW A B && withinW B A) := by
  rw [Bool.eq_iff_iff, Bool.and_eq_true, within_iff hA hB, within_iff hB hA, decide_eq_true_iff]
  constructor
  · intro h; subst h; exact ⟨fun _ h => h, fun _ h => h⟩
  · intro ⟨h1, h2⟩
    refine ext_mem hA hB (fun i => ?_)
    cases ha : mem A i <;> cases hb : mem B i
    · rfl
    · rw [h2 i hb] at ha; cases ha
    · rw [h1 i ha] at hb; cases hb
    · rfl
theorem alg_facts {n : Nat} {A B : List Nat} (hA : Good n A) (hB : Good n B) :
    ((((cnt n (trimW n (opW fOr A B)) : Nat) : Int) + ((cnt n (opW fAnd A B) : Nat) : Int)) != (((cnt n A : Nat) : Int) + ((cnt n B : Nat) : Int))) = false ∧
    ((((cnt n (opW fLess A B) : Nat) : Int) + ((cnt n (opW fAnd A B) : Nat) : Int)) != ((cnt n A : Nat) : Int)) = false ∧
    withinW (opW fAnd A B) A = true ∧ withinW A (trimW n (opW fOr A B)) = true ∧ withinW (opW fLess A B) A = true ∧
    ((cnt n (trimW n (opW fOr A B)) : Nat) : Int) ≤ 65536 ∧ ((cnt n (opW fAnd A B) : Nat) : Int) ≤ 65536 ∧ ((cnt n A : Nat) : Int) ≤ 65536 ∧ ((cnt n B : Nat) : Int) ≤ 65536 ∧ ((cnt n (opW fLess A B) : Nat) : Int) ≤ 65536 := by
  have ht := hA.top
  have e1 := cnt_or_and A B (trimW n (opW fOr A B)) (opW fAnd A B) n (fun i hi => by rw [mem_or _ hA]; simp [hi]) (fun i _ => mem_and A B i)
  have e2 := cnt_less_and A B (opW fLess A B) (opW fAnd A B) n (fun i _ => mem_less A hB i) (fun i _ => mem_and A B i)
  refine ⟨by simp; omega, by simp; omega, ?_, ?_, ?_, ?_, ?_, ?_, ?_, ?_⟩
  · rw [within_iff (hA.and B) hA]; intro i hi; rw [mem_and] at hi; simp at hi; exact hi.1
  · rw [within_iff hA (hA.or hB)]; intro i hi
    have hin : i < n := by
      rcases Nat.lt_or_ge i n with h | h
      · exact h
      · rw [hA.trim i h] at hi; cases hi
    rw [mem_or _ hA]; simp [hi, hin]
  · rw [within_iff (hA.less hB) hA]; intro i hi; rw [mem_less _ hB] at hi; simp at hi; exact hi.1
  all_goals
    have := cnt_le n (trimW n (opW fOr A B))
    have := cnt_le n (opW fAnd A B)
    have := cnt_le n A
    have := cnt_le n B
    have := cnt_le n (opW fLess A B)
    omega

set_option maxRecDepth 100000 in
set_option maxHeartbeats 3200000 in
theorem algebra_few (c : Int) (hc : -9223372036854775808 ≤ c ∧ c ≤ 9223372036854775807) (aA aB aC : Option Addr) (cA cB cC : Nat) (zA zB zC : List Int) (w : World)
    (hA : IsSl w (.slice aA zA.length cA) zA) (hB : IsSl w (.slice aB zB.length cB) zB) (hC : IsSl w (.slice aC zC.length cC) zC) (hm : zA.length + zB.length + zC.length ≤ 5000) :
    Calls Try.prog 3 #[.agg #[.int .i64 c, .slice aA zA.length cA, .slice aB zB.length cB, .slice aC zC.length cC]] w fun e w' => e = .returned (.bool true) ∧ Kept [] w w' := by
  have b1 : ¬ (5000 : Int) < (zA.length : Int) + (zB.length : Int) + (zC.length : Int) := by omega
  have b2 : (zA.length : Int) ≤ 5000 := by omega
  have b3 : (zB.length : Int) ≤ 5000 := by omega
  have b4 : (zC.length : Int) ≤ 5000 := by omega
  have HC0 : Hid _ := hc
  clear hc
  go_enter Try.func3, Try.ntmps3
  go_wp2_with fail
  refine (width_any c _ HC0.out).mono ?_
  rintro e w' ⟨rfl, rfl⟩
  have hn := widthN_le c
  generalize widthN c = n at hn
  have hbag0 : Bag w (w.alloc (.cells #[.int .i64 c, .slice aA zA.length cA, .slice aB zB.length cB, .slice aC zC.length cC] 24)) n [] := Bag.none ((Kept.refl [] w).alloc _)
  have hA0 := hA.kept ((Kept.refl [] w).alloc (.cells #[.int .i64 c, .slice aA zA.length cA, .slice aB zB.length cB, .slice aC zC.length cC] 24))
  have HA : Hid (IsSl _ _ zA) := hA0
  have HB0 : Hid (IsSl _ _ zB) := hB
  have HC1 : Hid (IsSl _ _ zC) := hC
  have HBAG : Hid (Bag w (w.alloc (.cells #[.int .i64 c, .slice aA zA.length cA, .slice aB zB.length cB, .slice aC zC.length cC] 24)) n []) := hbag0
  have lA : zA.length ≤ maxLen := by unfold maxLen; omega
  have lB : zB.length ≤ maxLen := by unfold maxLen; omega
  have lC : zC.length ≤ maxLen := by unfold maxLen; omega
  clear hA hB hC hA0 hbag0
  go_wp2_with fail
  refine (bag_of HBAG.out hn _ zA lA HA.out).mono ?_
  rintro e w1 ⟨ba, ga, ca, rfl, hbag1, hk1⟩
  have hk : Kept [] w w1 := hbag1.kept
  have hst := hk1.at (heap_alloc_new w _) (by simp)
  have f2 : w1.cell? ⟨w.heap.size, 2, none⟩ = some (.slice aB zB.length cB) := by rw [cell_of hst]; rfl
  have HST : Hid _ := hst
  have HBAG1 : Hid (Bag w w1 n [⟨ba, ga, ca, ofW n zA⟩]) := hbag1
  have HB : Hid (IsSl _ _ zB) := HB0.out.kept hk
  clear hbag1 hk1 hk hst HBAG HA HB0
  go_wp2_with fail
  refine (bag_of HBAG1.out hn _ zB lB HB.out).mono ?_
  rintro e w2 ⟨bb, gb, cb, rfl, hbag2, hk2⟩
  have hk : Kept [] w w2 := hbag2.kept
  have hst := hk2.at HST.out (by simp)
  have f3 : w2.cell? ⟨w.heap.size, 3, none⟩ = some (.slice aC zC.length cC) := by rw [cell_of hst]; rfl
  have HBAG2 : Hid (Bag w w2 n [⟨ba, ga, ca, ofW n zA⟩, ⟨bb, gb, cb, ofW n zB⟩]) := hbag2
  have HC : Hid (IsSl _ _ zC) := HC1.out.kept hk
  clear hbag2 hk2 hk hst HBAG1 HB HC1 f2 HST
  go_wp2_with fail
  refine (bag_of HBAG2.out hn _ zC lC HC.out).mono ?_
  rintro e w3 ⟨bc, gc, cc, rfl, hbag3, _⟩
  have GA : Good n (ofW n zA) := Good.ofW hn zA
  have GB : Good n (ofW n zB) := Good.ofW hn zB
  have GC : Good n (ofW n zC) := Good.ofW hn zC
  have HBAG3 : Hid (Bag w w3 n [⟨ba, ga, ca, ofW n zA⟩, ⟨bb, gb, cb, ofW n zB⟩, ⟨bc, gc, cc, ofW n zC⟩]) := hbag3
  clear hbag3 HBAG2 HC f3
  generalize ofW n zA = A at GA HBAG3
  generalize ofW n zB = B at GB HBAG3
  generalize ofW n zC = C at GC HBAG3
  have HGA : Hid (Good n A) := GA
  have HGB : Hid (Good n B) := GB
  have HGC : Hid (Good n C) := GC
  clear GA GB GC
  go_wp2_with fail
  refine (bag_copy HBAG3.out 0 ⟨ba, ga, ca, A⟩ rfl).mono ?_
  rintro e w4 ⟨bo, go, co, rfl, hbag⟩
  have HBAG4 : Hid (Bag w w4 n [⟨ba, ga, ca, A⟩, ⟨bb, gb, cb, B⟩, ⟨bc, gc, cc, C⟩, ⟨bo, go, co, A⟩]) := hbag
  clear hbag HBAG3
  go_wp2_with fail
  refine (bag_or HBAG4.out 3 1 ⟨bo, go, co, A⟩ ⟨bb, gb, cb, B⟩ rfl rfl (by omega)).mono ?_
  rintro e w5 ⟨rfl, hbag⟩
  have HBAG5 : Hid (Bag w w5 n [⟨ba, ga, ca, A⟩, ⟨bb, gb, cb, B⟩, ⟨bc, gc, cc, C⟩, ⟨bo, go, co, trimW n (opW fOr A B)⟩]) := hbag
  clear hbag HBAG4
  go_wp2_with fail
  refine (bag_copy HBAG5.out 0 ⟨ba, ga, ca, A⟩ rfl).mono ?_
  rintro e w6 ⟨bd, gd, cd, rfl, hbag⟩
  have HBAG6 : Hid (Bag w w6 n [⟨ba, ga, ca, A⟩, ⟨bb, gb, cb, B⟩, ⟨bc, gc, cc, C⟩, ⟨bo, go, co, trimW n (opW fOr A B)⟩, ⟨bd, gd, cd, A⟩]) := hbag
  clear hbag HBAG5
  go_wp2_with fail
  refine (bag_and HBAG6.out 4 1 ⟨bd, gd, cd, A⟩ ⟨bb, gb, cb, B⟩ rfl rfl (by omega)).mono ?_
  rintro e w7 ⟨rfl, hbag⟩
  have HBAG7 : Hid (Bag w w7 n [⟨ba, ga, ca, A⟩, ⟨bb, gb, cb, B⟩, ⟨bc, gc, cc, C⟩, ⟨bo, go, co, trimW n (opW fOr A B)⟩, ⟨bd, gd, cd, opW fAnd A B⟩]) := hbag
  clear hbag HBAG6
  go_wp2_with fail
  refine (bag_copy HBAG7.out 0 ⟨ba, ga, ca, A⟩ rfl).mono ?_
  rintro e w8 ⟨bl, gl, cl, rfl, hbag⟩
  have HBAG8 : Hid (Bag w w8 n [⟨ba, ga, ca, A⟩, ⟨bb, gb, cb, B⟩, ⟨bc, gc, cc, C⟩, ⟨bo, go, co, trimW n (opW fOr A B)⟩, ⟨bd, gd, cd, opW fAnd A B⟩, ⟨bl, gl, cl, A⟩]) := hbag
  clear hbag HBAG7
  go_wp2_with fail
  refine (bag_less HBAG8.out 5 1 ⟨bl, gl, cl, A⟩ ⟨bb, gb, cb, B⟩ rfl rfl (by omega)).mono ?_
  rintro e w9 ⟨rfl, hbag⟩
  have HBAG9 : Hid (Bag w w9 n [⟨ba, ga, ca, A⟩, ⟨bb, gb, cb, B⟩, ⟨bc, gc, cc, C⟩, ⟨bo, go, co, trimW n (opW fOr A B)⟩, ⟨bd, gd, cd, opW fAnd A B⟩, ⟨bl, gl, cl, opW fLess A B⟩]) := hbag
  clear hbag HBAG8
  have HF1 : Hid _ := alg_facts HGA.out HGB.out
  obtain ⟨hq1, hq2, hq3, hq4, hq5, hc1, hc2, hc3, hc4, hc5⟩ := HF1.out
  clear HF1
  go_wp2_with fail
  refine (bag_len HBAG9.out 3 ⟨bo, go, co, trimW n (opW fOr A B)⟩ rfl).mono ?_
  rintro e w' ⟨rfl, rfl⟩
  go_wp2_with fail
  refine (bag_len HBAG9.out 4 ⟨bd, gd, cd, opW fAnd A B⟩ rfl).mono ?_
  rintro e w' ⟨rfl, rfl⟩
  go_wp2_with fail
  refine (bag_len HBAG9.out 0 ⟨ba, ga, ca, A⟩ rfl).mono ?_
  rintro e w' ⟨rfl, rfl⟩
  go_wp2_with fail
  refine (bag_len HBAG9.out 1 ⟨bb, gb, cb, B⟩ rfl).mono ?_
  rintro e w' ⟨rfl, rfl⟩
  go_wp2_with fail
  refine (bag_len HBAG9.out 5 ⟨bl, gl, cl, opW fLess A B⟩ rfl).mono ?_
  rintro e w' ⟨rfl, rfl⟩
  go_wp2_with fail
  refine (bag_len HBAG9.out 4 ⟨bd, gd, cd, opW fAnd A B⟩ rfl).mono ?_
  rintro e w' ⟨rfl, rfl⟩
  go_wp2_with fail
  refine (bag_len HBAG9.out 0 ⟨ba, ga, ca, A⟩ rfl).mono ?_
  rintro e w' ⟨rfl, rfl⟩
  go_wp2_with fail
  refine (bag_within HBAG9.out 4 0 ⟨bd, gd, cd, opW fAnd A B⟩ ⟨ba, ga, ca, A⟩ rfl rfl).mono ?_
  rintro e w' ⟨rfl, rfl⟩
  rw [hq3]
  go_wp2_with fail
  refine (bag_within HBAG9.out 0 3 ⟨ba, ga, ca, A⟩ ⟨bo, go, co, trimW n (opW fOr A B)⟩ rfl rfl).mono ?_
  rintro e w' ⟨rfl, rfl⟩
  rw [hq4]
  go_wp2_with fail
  refine (bag_within HBAG9.out 5 0 ⟨bl, gl, cl, opW fLess A B⟩ ⟨ba, ga, ca, A⟩ rfl rfl).mono ?_
  rintro e w' ⟨rfl, rfl⟩
  rw [hq5]
  clear hq1 hq2 hq3 hq4 hq5 hc1 hc2 hc3 hc4 hc5
  go_wp2_with fail
  refine (bag_copy HBAG9.out 3 ⟨bo, go, co, trimW n (opW fOr A B)⟩ rfl).mono ?_
  rintro e w10 ⟨bx, gx, cx, rfl, hbag⟩
  have HBAG10 : Hid (Bag w w10 n [⟨ba, ga, ca, A⟩, ⟨bb, gb, cb, B⟩, ⟨bc, gc, cc, C⟩, ⟨bo, go, co, trimW n (opW fOr A B)⟩, ⟨bd, gd, cd, opW fAnd A B⟩, ⟨bl, gl, cl, opW fLess A B⟩, ⟨bx, gx, cx, trimW n (opW fOr A B)⟩]) := hbag
  clear hbag HBAG9
  go_wp2_with fail
  refine (bag_and HBAG10.out 6 2 ⟨bx, gx, cx, trimW n (opW fOr A B)⟩ ⟨bc, gc, cc, C⟩ rfl rfl (by omega)).mono ?_
  rintro e w11 ⟨rfl, hbag⟩
  have HBAG11 : Hid (Bag w w11 n [⟨ba, ga, ca, A⟩, ⟨bb, gb, cb, B⟩, ⟨bc, gc, cc, C⟩, ⟨bo, go, co, trimW n (opW fOr A B)⟩, ⟨bd, gd, cd, opW fAnd A B⟩, ⟨bl, gl, cl, opW fLess A B⟩, ⟨bx, gx, cx, opW fAnd (trimW n (opW fOr A B)) C⟩]) := hbag
  clear hbag HBAG10
  go_wp2_with fail
  refine (bag_copy HBAG11.out 0 ⟨ba, ga, ca, A⟩ rfl).mono ?_
  rintro e w12 ⟨bv, gv, cv, rfl, hbag⟩
  have HBAG12 : Hid (Bag w w12 n [⟨ba, ga, ca, A⟩, ⟨bb, gb, cb, B⟩, ⟨bc, gc, cc, C⟩, ⟨bo, go, co, trimW n (opW fOr A B)⟩, ⟨bd, gd, cd, opW fAnd A B⟩, ⟨bl, gl, cl, opW fLess A B⟩, ⟨bx, gx, cx, opW fAnd (trimW n (opW fOr A B)) C⟩, ⟨bv, gv, cv, A⟩]) := hbag
  clear hbag HBAG11
  go_wp2_with fail
  refine (bag_and HBAG12.out 7 2 ⟨bv, gv, cv, A⟩ ⟨bc, gc, cc, C⟩ rfl rfl (by omega)).mono ?_
  rintro e w13 ⟨rfl, hbag⟩
  have HBAG13 : Hid (Bag w w13 n [⟨ba, ga, ca, A⟩, ⟨bb, gb, cb, B⟩, ⟨bc, gc, cc, C⟩, ⟨bo, go, co, trimW n (opW fOr A B)⟩, ⟨bd, gd, cd, opW fAnd A B⟩, ⟨bl, gl, cl, opW fLess A B⟩, ⟨bx, gx, cx, opW fAnd (trimW n (opW fOr A B)) C⟩, ⟨bv, gv, cv, opW fAnd A C⟩]) := hbag
  clear hbag HBAG12
  go_wp2_with fail
  refine (bag_copy HBAG13.out 1 ⟨bb, gb, cb, B⟩ rfl).mono ?_
  rintro e w14 ⟨bz, gz, cz, rfl, hbag⟩
  have HBAG14 : Hid (Bag w w14 n [⟨ba, ga, ca, A⟩, ⟨bb, gb, cb, B⟩, ⟨bc, gc, cc, C⟩, ⟨bo, go, co, trimW n (opW fOr A B)⟩, ⟨bd, gd, cd, opW fAnd A B⟩, ⟨bl, gl, cl, opW fLess A B⟩, ⟨bx, gx, cx, opW fAnd (trimW n (opW fOr A B)) C⟩, ⟨bv, gv, cv, opW fAnd A C⟩, ⟨bz, gz, cz, B⟩]) := hbag
  clear hbag HBAG13
  go_wp2_with fail
  refine (bag_and HBAG14.out 8 2 ⟨bz, gz, cz, B⟩ ⟨bc, gc, cc, C⟩ rfl rfl (by omega)).mono ?_
  rintro e w15 ⟨rfl, hbag⟩
  have HBAG15 : Hid (Bag w w15 n [⟨ba, ga, ca, A⟩, ⟨bb, gb, cb, B⟩, ⟨bc, gc, cc, C⟩, ⟨bo, go, co, trimW n (opW fOr A B)⟩, ⟨bd, gd, cd, opW fAnd A B⟩, ⟨bl, gl, cl, opW fLess A B⟩, ⟨bx, gx, cx, opW fAnd (trimW n (opW fOr A B)) C⟩, ⟨bv, gv, cv, opW fAnd A C⟩, ⟨bz, gz, cz, opW fAnd B C⟩]) := hbag
  clear hbag HBAG14
  go_wp2_with fail
  refine (bag_or HBAG15.out 7 8 ⟨bv, gv, cv, opW fAnd A C⟩ ⟨bz, gz, cz, opW fAnd B C⟩ rfl rfl (by omega)).mono ?_
  rintro e w16 ⟨rfl, hbag⟩
  have HBAG16 : Hid (Bag w w16 n [⟨ba, ga, ca, A⟩, ⟨bb, gb, cb, B⟩, ⟨bc, gc, cc, C⟩, ⟨bo, go, co, trimW n (opW fOr A B)⟩, ⟨bd, gd, cd, opW fAnd A B⟩, ⟨bl, gl, cl, opW fLess A B⟩, ⟨bx, gx, cx, opW fAnd (trimW n (opW fOr A B)) C⟩, ⟨bv, gv, cv, trimW n (opW fOr (opW fAnd A C) (opW fAnd B C))⟩, ⟨bz, gz, cz, opW fAnd B C⟩]) := hbag
  clear hbag HBAG15
  go_wp2_with fail
  refine (bag_copy HBAG16.out 4 ⟨bd, gd, cd, opW fAnd A B⟩ rfl).mono ?_
  rintro e w17 ⟨bh, gh, ch, rfl, hbag⟩
  have HBAG17 : Hid (Bag w w17 n [⟨ba, ga, ca, A⟩, ⟨bb, gb, cb, B⟩, ⟨bc, gc, cc, C⟩, ⟨bo, go, co, trimW n (opW fOr A B)⟩, ⟨bd, gd, cd, opW fAnd A B⟩, ⟨bl, gl, cl, opW fLess A B⟩, ⟨bx, gx, cx, opW fAnd (trimW n (opW fOr A B)) C⟩, ⟨bv, gv, cv, trimW n (opW fOr (opW fAnd A C) (opW fAnd B C))⟩, ⟨bz, gz, cz, opW fAnd B C⟩, ⟨bh, gh, ch, opW fAnd A B⟩]) := hbag
  clear hbag HBAG16
  go_wp2_with fail
  refine (bag_or HBAG17.out 9 5 ⟨bh, gh, ch, opW fAnd A B⟩ ⟨bl, gl, cl, opW fLess A B⟩ rfl rfl (by omega)).mono ?_
  rintro e w18 ⟨rfl, hbag⟩
  have HBAG18 : Hid (Bag w w18 n [⟨ba, ga, ca, A⟩, ⟨bb, gb, cb, B⟩, ⟨bc, gc, cc, C⟩, ⟨bo, go, co, trimW n (opW fOr A B)⟩, ⟨bd, gd, cd, opW fAnd A B⟩, ⟨bl, gl, cl, opW fLess A B⟩, ⟨bx, gx, cx, opW fAnd (trimW n (opW fOr A B)) C⟩, ⟨bv, gv, cv, trimW n (opW fOr (opW fAnd A C) (opW fAnd B C))⟩, ⟨bz, gz, cz, opW fAnd B C⟩, ⟨bh, gh, ch, trimW n (opW fOr (opW fAnd A B) (opW fLess A B))⟩]) := hbag
  clear hbag HBAG17
  go_wp2_with fail
  refine (bag_and HBAG18.out 5 1 ⟨bl, gl, cl, opW fLess A B⟩ ⟨bb, gb, cb, B⟩ rfl rfl (by omega)).mono ?_
  rintro e w19 ⟨rfl, hbag⟩
  have HBAG19 : Hid (Bag w w19 n [⟨ba, ga, ca, A⟩, ⟨bb, gb, cb, B⟩, ⟨bc, gc, cc, C⟩, ⟨bo, go, co, trimW n (opW fOr A B)⟩, ⟨bd, gd, cd, opW fAnd A B⟩, ⟨bl, gl, cl, opW fAnd (opW fLess A B) B⟩, ⟨bx, gx, cx, opW fAnd (trimW n (opW fOr A B)) C⟩, ⟨bv, gv, cv, trimW n (opW fOr (opW fAnd A C) (opW fAnd B C))⟩, ⟨bz, gz, cz, opW fAnd B C⟩, ⟨bh, gh, ch, trimW n (opW fOr (opW fAnd A B) (opW fLess A B))⟩]) := hbag
  clear hbag HBAG18
  have hs1 := alg_dist C HGA.out HGB.out
  have hs2 := alg_whole HGA.out HGB.out
  have hs3 := alg_none A HGB.out
  have HS1 : Hid _ := hs1
  have HS2 : Hid _ := hs2
  have HS3 : Hid _ := hs3
  clear hs1 hs2 hs3
  go_wp2_with fail
  refine (bag_same HBAG19.out 6 7 ⟨bx, gx, cx, opW fAnd (trimW n (opW fOr A B)) C⟩ ⟨bv, gv, cv, trimW n (opW fOr (opW fAnd A C) (opW fAnd B C))⟩ rfl rfl).mono ?_
  rintro e w20 ⟨rfl, hbag⟩
  have HBAG20 : Hid (Bag w w20 n [⟨ba, ga, ca, A⟩, ⟨bb, gb, cb, B⟩, ⟨bc, gc, cc, C⟩, ⟨bo, go, co, trimW n (opW fOr A B)⟩, ⟨bd, gd, cd, opW fAnd A B⟩, ⟨bl, gl, cl, opW fAnd (opW fLess A B) B⟩, ⟨bx, gx, cx, opW fAnd (trimW n (opW fOr A B)) C⟩, ⟨bv, gv, cv, trimW n (opW fOr (opW fAnd A C) (opW fAnd B C))⟩, ⟨bz, gz, cz, opW fAnd B C⟩, ⟨bh, gh, ch, trimW n (opW fOr (opW fAnd A B) (opW fLess A B))⟩]) := hbag
  clear hbag HBAG19
  rw [decide_eq_true HS1.out]
  go_wp2_with fail
  refine (bag_same HBAG20.out 9 0 ⟨bh, gh, ch, trimW n (opW fOr (opW fAnd A B) (opW fLess A B))⟩ ⟨ba, ga, ca, A⟩ rfl rfl).mono ?_
  rintro e w21 ⟨rfl, hbag⟩
  have HBAG21 : Hid (Bag w w21 n [⟨ba, ga, ca, A⟩, ⟨bb, gb, cb, B⟩, ⟨bc, gc, cc, C⟩, ⟨bo, go, co, trimW n (opW fOr A B)⟩, ⟨bd, gd, cd, opW fAnd A B⟩, ⟨bl, gl, cl, opW fAnd (opW fLess A B) B⟩, ⟨bx, gx, cx, opW fAnd (trimW n (opW fOr A B)) C⟩, ⟨bv, gv, cv, trimW n (opW fOr (opW fAnd A C) (opW fAnd B C))⟩, ⟨bz, gz, cz, opW fAnd B C⟩, ⟨bh, gh, ch, trimW n (opW fOr (opW fAnd A B) (opW fLess A B))⟩]) := hbag
  clear hbag HBAG20
  rw [decide_eq_true HS2.out]
  go_wp2_with fail
  refine (bag_len HBAG21.out 5 ⟨bl, gl, cl, opW fAnd (opW fLess A B) B⟩ rfl).mono ?_
  rintro e w' ⟨rfl, rfl⟩
  rw [HS3.out]
  go_wp2_with fail
  refine (bag_key HBAG21.out 0 ⟨ba, ga, ca, A⟩ rfl).mono ?_
  rintro e w22 ⟨rfl, hbag⟩
  have HBAG22 : Hid (Bag w w22 n [⟨ba, ga, ca, A⟩, ⟨bb, gb, cb, B⟩, ⟨bc, gc, cc, C⟩, ⟨bo, go, co, trimW n (opW fOr A B)⟩, ⟨bd, gd, cd, opW fAnd A B⟩, ⟨bl, gl, cl, opW fAnd (opW fLess A B) B⟩, ⟨bx, gx, cx, opW fAnd (trimW n (opW fOr A B)) C⟩, ⟨bv, gv, cv, trimW n (opW fOr (opW fAnd A C) (opW fAnd B C))⟩, ⟨bz, gz, cz, opW fAnd B C⟩, ⟨bh, gh, ch, trimW n (opW fOr (opW fAnd A B) (opW fLess A B))⟩]) := hbag
  clear hbag HBAG21
  go_wp2_with fail
  refine (bag_key HBAG22.out 1 ⟨bb, gb, cb, B⟩ rfl).mono ?_
  rintro e w23 ⟨rfl, hbag⟩
  have HBAG23 : Hid (Bag w w23 n [⟨ba, ga, ca, A⟩, ⟨bb, gb, cb, B⟩, ⟨bc, gc, cc, C⟩, ⟨bo, go, co, trimW n (opW fOr A B)⟩, ⟨bd, gd, cd, opW fAnd A B⟩, ⟨bl, gl, cl, opW fAnd (opW fLess A B) B⟩, ⟨bx, gx, cx, opW fAnd (trimW n (opW fOr A B)) C⟩, ⟨bv, gv, cv, trimW n (opW fOr (opW fAnd A C) (opW fAnd B C))⟩, ⟨bz, gz, cz, opW fAnd B C⟩, ⟨bh, gh, ch, trimW n (opW fOr (opW fAnd A B) (opW fLess A B))⟩]) := hbag
  clear hbag HBAG22
  obtain ⟨d, hd⟩ : ∃ d, d = decide (A = B) := ⟨_, rfl⟩
  have hkk : (keyW n A == keyW n B) = d := by rw [hd]; exact alg_key HGA.out HGB.out
  have HD : Hid (decide (A = B) = d) := hd.symm
  have HWI : Hid (decide (A = B) = (withinW A B && withinW B A)) := alg_within HGA.out HGB.out
  clear hd
  go_wp2_with fail
  refine (bag_same HBAG23.out 0 1 ⟨ba, ga, ca, A⟩ ⟨bb, gb, cb, B⟩ rfl rfl).mono ?_
  rintro e w24 ⟨rfl, hbag⟩
  have HBAG24 : Hid (Bag w w24 n [⟨ba, ga, ca, A⟩, ⟨bb, gb, cb, B⟩, ⟨bc, gc, cc, C⟩, ⟨bo, go, co, trimW n (opW fOr A B)⟩, ⟨bd, gd, cd, opW fAnd A B⟩, ⟨bl, gl, cl, opW fAnd (opW fLess A B) B⟩, ⟨bx, gx, cx, opW fAnd (trimW n (opW fOr A B)) C⟩, ⟨bv, gv, cv, trimW n (opW fOr (opW fAnd A C) (opW fAnd B C))⟩, ⟨bz, gz, cz, opW fAnd B C⟩, ⟨bh, gh, ch, trimW n (opW fOr (opW fAnd A B) (opW fLess A B))⟩]) := hbag
  clear hbag HBAG23
  rw [HD.out]
  go_wp2_with fail
  refine (bag_same HBAG24.out 0 1 ⟨ba, ga, ca, A⟩ ⟨bb, gb, cb, B⟩ rfl rfl).mono ?_
  rintro e w25 ⟨rfl, hbag⟩
  have HBAG25 : Hid (Bag w w25 n [⟨ba, ga, ca, A⟩, ⟨bb, gb, cb, B⟩, ⟨bc, gc, cc, C⟩, ⟨bo, go, co, trimW n (opW fOr A B)⟩, ⟨bd, gd, cd, opW fAnd A B⟩, ⟨bl, gl, cl, opW fAnd (opW fLess A B) B⟩, ⟨bx, gx, cx, opW fAnd (trimW n (opW fOr A B)) C⟩, ⟨bv, gv, cv, trimW n (opW fOr (opW fAnd A C) (opW fAnd B C))⟩, ⟨bz, gz, cz, opW fAnd B C⟩, ⟨bh, gh, ch, trimW n (opW fOr (opW fAnd A B) (opW fLess A B))⟩]) := hbag
  clear hbag HBAG24
  rw [HD.out]
  have HDW : Hid (d = (withinW A B && withinW B A)) := HD.out.symm.trans HWI.out
  clear HD HWI
  go_wp2_with fail
  refine (bag_within HBAG25.out 0 1 ⟨ba, ga, ca, A⟩ ⟨bb, gb, cb, B⟩ rfl rfl).mono ?_
  rintro e w' ⟨rfl, rfl⟩
  cases hab : withinW A B
  · have hd0 : d = false := by rw [HDW.out, hab]; rfl
    subst hd0
    have HK : Hid _ := HBAG25.out.kept
    clear hab HDW
    go_wp2
    go_ret
    exact ⟨rfl, HK.out⟩
  · have HD2 : Hid (d = withinW B A) := by rw [HDW.out, hab]; rfl
    clear hab HDW
    go_wp2_with fail
    refine (bag_within HBAG25.out 1 0 ⟨bb, gb, cb, B⟩ ⟨ba, ga, ca, A⟩ rfl rfl).mono ?_
    rintro e w' ⟨rfl, rfl⟩
    rw [← HD2.out]
    have HK : Hid _ := HBAG25.out.kept
    cases d
    all_goals
      go_wp2
      go_ret
      exact ⟨rfl, HK.out⟩
end Go.Proofs.Ytjfhfdpbdjeedaa
