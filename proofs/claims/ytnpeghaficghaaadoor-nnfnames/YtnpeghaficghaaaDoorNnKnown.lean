/- The law's example: F p, its forms; true & p made simpler (augurlaw07.known). -/
import Derived.Test.YtnpeghaficghaaaDoorNnFoldS
namespace Go.Proofs.YtnpeghaficghaaaDoor
open Go.RowKit Go.Shelf

theorem is_form {q : Tr} (hG : q.Good) (hq : q.All nnfQ) (hs : q.size ≤ 1000) (hd : q.depth ≤ 100) : madeE q (nd q).1 = 0 ∧ isB q = true := by
  have h1 := nd_again q hG hq
  have h2 := right_of_good0 hG hs hd
  have h3 : madeE q (nd q).1 = 0 := by
    unfold madeE
    rw [if_neg (by simp [h2]), h1, if_pos]
    unfold fitB; simp [hs, hd]
  refine ⟨h3, ?_⟩
  unfold isB
  rw [h3, h1, preT.self]; rfl
def bP : ByteArray := ⟨#[112]⟩
def kP : Tr := ⟨3, bP, []⟩
def kF : Tr := nn1 10 kP
def kN : Tr := nn2 12 (nn0 1) kP
def kD : Tr := nn2 13 (nn0 2) (nn1 4 kP)
def kA : Tr := nn2 5 (nn0 1) kP
theorem kP_good : kP.Good := all0.2 ⟨by
  unfold formedB
  simp only [Bool.and_eq_true, decide_eq_true_eq, beq_iff_eq]
  exact ⟨⟨⟨by decide, by decide⟩, rfl⟩, by rw [if_pos trivial]; decide⟩, by show 3 ≤ 15; decide⟩
theorem kF_good : kF.Good := (good1 (by unfold Un; omega)).2 kP_good
theorem kA_good : kA.Good := (good2 (by unfold Bi; omega)).2 ⟨good0 (.inl rfl), kP_good⟩
theorem nd_kP : nd kP = (kP, nn1 4 kP) := nd_0 3 bP
theorem nd_kF : nd kF = (kN, kD) := by unfold kF; rw [nd_1, nd_kP]; rfl
theorem simp_kA : simpT kA = kP := by
  unfold kA; rw [simpT_2, show simpT (nn0 1) = nn0 1 from simpT_0 1 nE, show simpT kP = kP from simpT_0 3 bP]
  show sJun 5 2 (nn0 1) kP = kP
  unfold sJun
  rw [if_neg (by decide), if_pos (by decide)]
theorem sz_kP : kP.size = 1 ∧ kP.depth = 1 := sz0 3 bP
theorem sz_c (o : Nat) : (nn0 o).size = 1 ∧ (nn0 o).depth = 1 := sz0 o nE
theorem sz_kF : kF.size = 2 ∧ kF.depth = 2 := by have := sz1 10 kP; have := sz_kP; unfold kF; omega
theorem sz_kA : kA.size = 3 ∧ kA.depth = 2 := by have := sz2 5 (nn0 1) kP; have := sz_kP; have := sz_c 1; unfold kA; omega
theorem sz_kN : kN.size = 3 ∧ kN.depth = 2 := by have := sz2 12 (nn0 1) kP; have := sz_kP; have := sz_c 1; unfold kN; omega
theorem sz_kD : kD.size = 4 ∧ kD.depth = 3 := by have := sz2 13 (nn0 2) (nn1 4 kP); have := sz1 4 kP; have := sz_kP; have := sz_c 2; unfold kD; omega
theorem kN_all : kN.Good ∧ kN.All nnfQ ∧ kD.Good ∧ kD.All nnfQ := by
  have h1 := nd_good kF kF_good
  have h2 := nd_nnf kF kF_good
  rw [nd_kF] at h1 h2
  exact ⟨h1.1, h2.1, h1.2, h2.2⟩
theorem right_kF : rightN pastB kF = 0 := right_of_good0 kF_good (by have := sz_kF; omega) (by have := sz_kF; omega)
theorem right_kA : rightN pastB kA = 0 := right_of_good0 kA_good (by have := sz_kA; omega) (by have := sz_kA; omega)
theorem made_kN : madeE kF kN = 0 := by
  unfold madeE; rw [if_neg (by simp [right_kF]), if_pos]
  have := sz_kN; unfold fitB; simp; omega
theorem made_kD : madeE kF kD = 0 := by
  unfold madeE; rw [if_neg (by simp [right_kF]), if_pos]
  have := sz_kD; unfold fitB; simp; omega
theorem is_kN : isB kN = true := (is_form kN_all.1 kN_all.2.1 (by have := sz_kN; omega) (by have := sz_kN; omega)).2
theorem is_kD : isB kD = true := (is_form kN_all.2.2.1 kN_all.2.2.2 (by have := sz_kD; omega) (by have := sz_kD; omega)).2
theorem is_kF : isB kF = false := by
  unfold isB
  rw [nd_kF]
  have : (cmpT kN kF == 0) = false := by
    rw [beq_eq_false_iff_ne]
    intro h
    have := congrArg Tr.op (cmpT_zero kN kF h)
    exact absurd (show (12 : Nat) = 10 from this) (by decide)
  show (_ && cmpT kN kF == 0) = false
  rw [this, Bool.and_false]
theorem good_fine {t : Tr} (h : t.Good) : t.Fine := by
  induction t using Tr.ind with
  | h t ih =>
    obtain ⟨⟨hf, ho⟩, hk⟩ := (Tr.all_eq t).1 h
    refine (Tr.all_eq t).2 ⟨⟨by omega, ?_⟩, fun k hk' => ih k hk' (hk k hk')⟩
    simp only [formedB, Bool.and_eq_true] at hf
    have h2 := hf.2
    split at h2
    · simp only [nameB, Bool.and_eq_true, decide_eq_true_eq] at h2
      have e : t.name.size = t.name.data.toList.length := rfl
      unfold maxLen
      omega
    · rw [nEmpty h2]; unfold maxLen; decide
set_option maxHeartbeats 400000 in
theorem prop_any (s : ByteArray) (w : World) : Calls Tryd.prog 45 #[.string s] w fun e w' => e = .returned (.agg #[.int .u8 3, .string s, .slice none 0 0]) ∧ Kept [] w w' := by
  go_enter Tryd.func45, Tryd.ntmps45
  go_wp2
  exact ret_for rfl rfl rfl (show For3 _ w.heap.size _ _ _ from al0 w _) ⟨rfl, (Kept.refl [] w).alloc _⟩
theorem kP_isF (W : World) : IsF W kP (.slice none 0 0) := IsT.leaf _ W rfl none 0
theorem ok_kN {W w' : World} {e : Ending} (h : MadeAs W 0 kN e w') : ∃ ka kc, e = .returned (.tuple #[.agg #[.int .u8 12, .string nE, .slice ka 2 kc], .int .i64 0]) ∧ IsF w' kN (.slice ka 2 kc) ∧ Kept [] W w' := h.ok
theorem ok_kD {W w' : World} {e : Ending} (h : MadeAs W 0 kD e w') : ∃ ka kc, e = .returned (.tuple #[.agg #[.int .u8 13, .string nE, .slice ka 2 kc], .int .i64 0]) ∧ IsF w' kD (.slice ka 2 kc) ∧ Kept [] W w' := h.ok
theorem ok_kP {W w' : World} {e : Ending} (h : MadeAs W 0 kP e w') : ∃ ka kc, e = .returned (.tuple #[.agg #[.int .u8 3, .string bP, .slice ka 0 kc], .int .i64 0]) ∧ IsF w' kP (.slice ka 0 kc) ∧ Kept [] W w' := h.ok
set_option maxHeartbeats 2000000 in
set_option maxRecDepth 20000 in
theorem known_any (w : World) (hT : KidsTab w) (hU : TurnTab w) : Calls Tryd.prog 17 #[] w fun e w' => e = .returned (.bool true) ∧ Kept [] w w' := by
  have HN : Hid (∀ (W : World) ad c, Kept [] w W → IsF W kF (.slice ad 1 c) → Calls Tryd.prog 26 #[.agg #[.int .u8 10, .string ⟨#[]⟩, .slice ad 1 c]] W (MadeAs W 0 kN)) := fun W ad c k hI => by
    have := normal_any kF _ W hI (by have := sz_kF; omega) (by have := sz_kF; omega) (good_fine kF_good) (hT.kept k)
    rw [nd_kF, made_kN] at this
    exact this
  have HD : Hid (∀ (W : World) ad c, Kept [] w W → IsF W kF (.slice ad 1 c) → Calls Tryd.prog 27 #[.agg #[.int .u8 10, .string ⟨#[]⟩, .slice ad 1 c]] W (MadeAs W 0 kD)) := fun W ad c k hI => by
    have := dual_any kF _ W hI (by have := sz_kF; omega) (by have := sz_kF; omega) (good_fine kF_good) (hT.kept k)
    rw [nd_kF, made_kD] at this
    exact this
  have HSI : Hid (∀ (W : World) ad c, Kept [] w W → IsF W kA (.slice ad 2 c) → Calls Tryd.prog 19 #[.agg #[.int .u8 5, .string ⟨#[]⟩, .slice ad 2 c]] W (MadeAs W 0 kP)) := fun W ad c k hI => by
    have := simple_any kA _ W hI (by have := sz_kA; omega) (by have := sz_kA; omega) (good_fine kA_good) (hT.kept k) (hU.kept k)
    rw [simp_kA, if_neg (by simp [right_kA])] at this
    exact this
  have HIN : Hid (∀ (W : World) ad c, Kept [] w W → IsF W kN (.slice ad 2 c) → Calls Tryd.prog 28 #[.agg #[.int .u8 12, .string nE, .slice ad 2 c]] W fun e w' => e = .returned (.bool true) ∧ Kept [] W w') := fun W ad c k hI => by
    have := is_any kN _ W hI (by have := sz_kN; omega) (by have := sz_kN; omega) (good_fine kN_all.1) (hT.kept k)
    rw [is_kN] at this
    exact this
  have HID : Hid (∀ (W : World) ad c, Kept [] w W → IsF W kD (.slice ad 2 c) → Calls Tryd.prog 28 #[.agg #[.int .u8 13, .string nE, .slice ad 2 c]] W fun e w' => e = .returned (.bool true) ∧ Kept [] W w') := fun W ad c k hI => by
    have := is_any kD _ W hI (by have := sz_kD; omega) (by have := sz_kD; omega) (good_fine kN_all.2.2.1) (hT.kept k)
    rw [is_kD] at this
    exact this
  have HIF : Hid (∀ (W : World) ad c, Kept [] w W → IsF W kF (.slice ad 1 c) → Calls Tryd.prog 28 #[.agg #[.int .u8 10, .string ⟨#[]⟩, .slice ad 1 c]] W fun e w' => e = .returned (.bool false) ∧ Kept [] W w') := fun W ad c k hI => by
    have := is_any kF _ W hI (by have := sz_kF; omega) (by have := sz_kF; omega) (good_fine kF_good) (hT.kept k)
    rw [is_kF] at this
    exact this
  have HP : Hid (∀ W, Calls Tryd.prog 45 #[.string ⟨#[112]⟩] W fun e w' => e = .returned (.agg #[.int .u8 3, .string bP, .slice none 0 0]) ∧ Kept [] W w') := prop_any bP
  clear hT hU
  go_enter Tryd.func17, Tryd.ntmps17
  go_upto_region 2 with (go_at_call 45; refine (HP.out _).mono ?_; rintro e W1 ⟨rfl, k1⟩; have HK1 : Hid (Kept [] w W1) := k1; clear k1)
  obtain ⟨V2, hV2⟩ : ∃ V, (W1.alloc (.cells #[.int .u8 3, .string bP, .slice none 0 0] 25)).alloc (.cells #[.int .u8 10, .string ⟨#[]⟩, .slice (some ⟨W1.heap.size, 0, none⟩) 1 1] 25) = V := ⟨_, rfl⟩
  have k2 : Kept [] w V2 := by rw [← hV2]; exact (HK1.out.alloc _).alloc _
  have f2 : For3 V2 (W1.heap.size + 1) (.int .u8 10) (.string ⟨#[]⟩) (.slice (some ⟨W1.heap.size, 0, none⟩) 1 1) := by rw [← hV2]; exact al1 W1 _ _
  have i2 : IsF V2 kF (.slice (some ⟨W1.heap.size, 0, none⟩) 1 1) := isF_one (a := kP) (by rw [← hV2]; exact alUp (al0 W1 _) _) (kP_isF V2)
  rw [hV2]
  obtain ⟨c0, c1, c2, -⟩ := f2.cells
  have HK2 : Hid (Kept [] w V2) := k2
  have HF2 : Hid (For3 V2 (W1.heap.size + 1) (.int .u8 10) (.string ⟨#[]⟩) (.slice (some ⟨W1.heap.size, 0, none⟩) 1 1)) := f2
  have HI2 : Hid (IsF V2 kF (.slice (some ⟨W1.heap.size, 0, none⟩) 1 1)) := i2
  clear hV2 k2 f2 i2
  go_upto_region 3 with (go_at_call 26; refine (HN.out _ _ _ HK2.out HI2.out).mono ?_; rintro e W3 hm; obtain ⟨na, nc, rfl, h1, h2⟩ := ok_kN hm; have HK3 : Hid (Kept [] V2 W3) := h2; have HI3 : Hid (IsF W3 kN (.slice na 2 nc)) := h1; clear h1 h2)
  obtain ⟨V3, hV3⟩ : ∃ V, W3.alloc (.cells #[.int .u8 12, .string nE, .slice na 2 nc] 25) = V := ⟨_, rfl⟩
  have k3 : Kept [] W3 V3 := by rw [← hV3]; exact (Kept.refl [] W3).alloc _
  have n3 : For3 V3 W3.heap.size (.int .u8 12) (.string nE) (.slice na 2 nc) := by rw [← hV3]; exact al0 W3 _
  rw [hV3]
  have HKA : Hid (Kept [] V2 V3) := HK3.out.trans k3 (by simp) (by simp)
  have HNI : Hid (IsF V3 kN (.slice na 2 nc)) := HI3.out.kept k3
  have HNB : Hid (For3 V3 W3.heap.size (.int .u8 12) (.string nE) (.slice na 2 nc)) := n3
  obtain ⟨e0, e1, e2, -⟩ := (HF2.out.kept HKA.out).cells
  clear hV3 k3 n3 c0 c1 c2
  go_upto_region 4 with (go_at_call 27; refine (HD.out _ _ _ (HK2.out.trans HKA.out (by simp) (by simp)) (HI2.out.kept HKA.out)).mono ?_; rintro e W4 hm; obtain ⟨da, dc, rfl, h1, h2⟩ := ok_kD hm; have HK4 : Hid (Kept [] V3 W4) := h2; have HI4 : Hid (IsF W4 kD (.slice da 2 dc)) := h1; clear h1 h2)
  obtain ⟨V4, hV4⟩ : ∃ V, W4.alloc (.cells #[.int .u8 13, .string nE, .slice da 2 dc] 25) = V := ⟨_, rfl⟩
  have k4 : Kept [] W4 V4 := by rw [← hV4]; exact (Kept.refl [] W4).alloc _
  have d4 : For3 V4 W4.heap.size (.int .u8 13) (.string nE) (.slice da 2 dc) := by rw [← hV4]; exact al0 W4 _
  rw [hV4]
  have HKB : Hid (Kept [] V3 V4) := HK4.out.trans k4 (by simp) (by simp)
  have HDI : Hid (IsF V4 kD (.slice da 2 dc)) := HI4.out.kept k4
  have HDB : Hid (For3 V4 W4.heap.size (.int .u8 13) (.string nE) (.slice da 2 dc)) := d4
  have HKC : Hid (Kept [] w V4) := (HK2.out.trans HKA.out (H := []) (by simp) (by simp)).trans HKB.out (by simp) (by simp)
  clear hV4 k4 d4 e0 e1 e2
  go_upto_region 5 with (first
    | (go_at_call 45; refine (HP.out _).mono ?_; rintro e W5 ⟨rfl, k5⟩; have HK5 : Hid (Kept [] V4 W5) := k5; clear k5)
    | (go_at_call 19; refine (HSI.out _ _ _ ((HKC.out.trans HK5.out (by simp) (by simp)).alloc _) (isF_two (a := nn0 1) (b := kP) (al0 W5 _) (IsT.leaf _ _ rfl none 0) (kP_isF _))).mono ?_; rintro e W6 hm; obtain ⟨sa, sc, rfl, h1, h2⟩ := ok_kP hm; have HK6 : Hid (Kept [] V4 W6) := (HK5.out.alloc _).trans h2 (by simp) (by simp); clear h1 h2))
  obtain ⟨V6, hV6⟩ : ∃ V, W6.alloc (.cells #[.int .u8 3, .string bP, .slice sa 0 sc] 25) = V := ⟨_, rfl⟩
  have k6 : Kept [] W6 V6 := by rw [← hV6]; exact (Kept.refl [] W6).alloc _
  have s6 : For3 V6 W6.heap.size (.int .u8 3) (.string bP) (.slice sa 0 sc) := by rw [← hV6]; exact al0 W6 _
  rw [hV6]
  have HKD : Hid (Kept [] V4 V6) := HK6.out.trans k6 (by simp) (by simp)
  have HKW : Hid (Kept [] w V6) := HKC.out.trans HKD.out (by simp) (by simp)
  have HKE : Hid (Kept [] V3 V6) := HKB.out.trans HKD.out (by simp) (by simp)
  have HKF : Hid (Kept [] V2 V6) := HKA.out.trans HKE.out (by simp) (by simp)
  obtain ⟨g0, g1, g2, -⟩ := s6.cells
  obtain ⟨n0, n1, n2, -⟩ := (HNB.out.kept HKE.out).cells
  obtain ⟨d0, d1, d2, -⟩ := (HDB.out.kept HKD.out).cells
  have HNI6 : Hid (IsF V6 kN (.slice na 2 nc)) := HNI.out.kept HKE.out
  have HDI6 : Hid (IsF V6 kD (.slice da 2 dc)) := HDI.out.kept HKD.out
  have HFI6 : Hid (IsF V6 kF (.slice (some ⟨W1.heap.size, 0, none⟩) 1 1)) := HI2.out.kept HKF.out
  have HDB6 : Hid (For3 V6 W4.heap.size (.int .u8 13) (.string nE) (.slice da 2 dc)) := HDB.out.kept HKD.out
  have HFB6 : Hid (For3 V6 (W1.heap.size + 1) (.int .u8 10) (.string ⟨#[]⟩) (.slice (some ⟨W1.heap.size, 0, none⟩) 1 1)) := HF2.out.kept HKF.out
  obtain ⟨db, doff, hda, _, hdk⟩ := IsT.kid HDI6.out (show 0 < 2 by decide)
  obtain ⟨dkv, m0, -⟩ := hdk 1 (show 1 < 2 by decide)
  replace m0 : V6.cell? ⟨db, doff + 1 * 3, none⟩ = some (.int .u8 4) := m0
  rw [Nat.one_mul] at m0
  subst hda
  have T0 : Hid True := trivial
  have T1 : Hid True := trivial
  have T2 : Hid True := trivial
  have HM0 : Hid _ := m0
  clear hV6 k6 s6 hdk m0
  go_wp2_with (first
    | (clear T0; go_at_call 28; refine (HIN.out _ _ _ HKW.out HNI6.out).mono ?_; rintro e U1 ⟨rfl, kk⟩; have HU1 : Hid (Kept [] V6 U1) := kk; obtain ⟨x0, x1, x2, -⟩ := (HDB6.out.kept kk).cells; clear kk)
    | (clear T1; go_at_call 28; refine (HID.out _ _ _ (HKW.out.trans HU1.out (by simp) (by simp)) (HDI6.out.kept HU1.out)).mono ?_; rintro e U2 ⟨rfl, kk⟩; have HU2 : Hid (Kept [] V6 U2) := HU1.out.trans kk (by simp) (by simp); obtain ⟨y0, y1, y2, -⟩ := (HFB6.out.kept HU2.out).cells; clear kk)
    | (clear T2; go_at_call 28; refine (HIF.out _ _ _ (HKW.out.trans HU2.out (by simp) (by simp)) (HFI6.out.kept HU2.out)).mono ?_; rintro e U3 ⟨rfl, kk⟩; have HU3 : Hid (Kept [] V6 U3) := HU2.out.trans kk (by simp) (by simp); obtain ⟨z0, z1, z2, -⟩ := (HDB6.out.kept HU3.out).cells; have q0 := cell_kept0 HU3.out HM0.out; clear kk))
  go_ret
  exact ⟨rfl, HKW.out.trans HU3.out (by simp) (by simp)⟩
set_option maxHeartbeats 400000 in
theorem nnfNames_walk (w : World) (hT : KidsTab w) (hU : TurnTab w) : Calls Tryd.prog 5 #[] w fun e w' => e = .returned (.bool true) ∧ Kept [] w w' := by
  have HK : Hid (Calls Tryd.prog 17 #[] w fun e w' => e = .returned (.bool true) ∧ Kept [] w w') := known_any w hT hU
  clear hT hU
  go_enter Tryd.func5, Tryd.ntmps5
  go_wp2_with (go_at_call 17; refine HK.out.mono ?_; rintro e W1 ⟨rfl, k1⟩)
  go_ret
  exact ⟨rfl, k1⟩
end Go.Proofs.YtnpeghaficghaaaDoor
