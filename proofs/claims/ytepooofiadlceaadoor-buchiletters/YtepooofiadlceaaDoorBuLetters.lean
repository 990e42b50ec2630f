/- BuchiLetters: the walk. -/
import Derived.Test.YtepooofiadlceaaDoorHD
namespace Go.Proofs.YtepooofiadlceaaDoor
open Go.RowKit Go.Shelf
attribute [local go_sem] Oper.semAt_some

set_option maxHeartbeats 8000000 in
set_option maxRecDepth 20000 in
theorem letters_walk (mu no : Nat) (props : Int) (hmu : mu < 65536) (hno : no < 65536) (w : World) (hT : Tab w) :
    Calls Tryd.prog 4 #[.int .u16 (mu : Nat), .int .u16 (no : Nat), .int .i64 props] w fun e w' => e = .returned (.bool true) ∧ Kept [] w w' := by
  obtain ⟨V, hV⟩ : ∃ V, w.alloc (.cells #[.bool false] 4) = V := ⟨_, rfl⟩
  have kV : Kept [] w V := by rw [← hV]; exact (Kept.refl [] w).alloc _
  have bV : V.heap[w.heap.size]? = some (.cells #[.bool false] 4 (0, 0)) := by rw [← hV]; exact al0 _ _
  have HKV : Hid (Kept [] w V) := kV
  have HBV : Hid (V.heap[w.heap.size]? = some (.cells #[.bool false] 4 (0, 0))) := bV
  have HV : Hid (w.alloc (.cells #[.bool false] 4) = V) := hV
  have HKN : Hid (Calls Tryd.prog 5 #[] V fun e w' => e = .returned (.bool true) ∧ Kept [] V w') := known_any V (hT.kept kV (by simp))
  obtain ⟨L, hL⟩ : ∃ L, letsOf mu no props = L := ⟨_, rfl⟩
  have HL : Hid (letsOf mu no props = L) := hL
  have HRF : Hid (∀ W, Calls Tryd.prog 6 #[.int .u16 (mu : Nat), .int .u16 (no : Nat), .int .i64 props] W fun e w' => ∃ va vc, e = .returned (.slice va L.length vc) ∧ Hid (w'.ownsRow W.heap.size 23 1 (.slice va L.length vc) L.length (u16s L)) ∧ Hid (Kept [] W w')) := fun W => by
    refine (refLetters_any mu no props hmu hno W).mono ?_
    rintro e w' ⟨v, rfl, h1, h2⟩
    rw [hL] at h1
    obtain ⟨va, vc, rfl⟩ := own_form h1.out
    exact ⟨va, vc, rfl, h1, h2⟩
  have hlen : L.length ≤ 100000 := by
    rw [← hL]; unfold letsOf
    split
    · rename_i h
      refine Nat.le_trans (letsTo_len _ _ _) ?_
      have : 2 ^ props.toNat ≤ 2 ^ 8 := Nat.pow_le_pow_right (by omega) (by omega)
      omega
    · simp
  have heq := eqlSeq
  clear kV bV hV hT hL
  refine (callsIn_wide (n := 9)).1 ?_
  refine callsIn_of_wp_marks Tryd.func4 rfl trivial ?_ rfl
  simp only [Tryd.ntmps4, List.size_toArray, List.length_cons, List.length_nil, Nat.reduceSub, Nat.reduceAdd, Array.replicate_succ, Array.replicate_zero, List.push_toArray, List.append_toArray, List.nil_append, List.cons_append]
  refine wpIn_wide.2 ?_
  go_upto_region 2 with (go_at_call 5; rw [HV.out]; refine HKN.out.mono ?_; rintro e W1 ⟨rfl, hk1⟩; have HK1 : Hid (Kept [] V W1) := hk1; clear hk1)
  clear HV HKN
  go_upto_region 3 with (go_at_call 6; refine (HRF.out W1).mono ?_; rintro e W2 ⟨va, vc, rfl, HOW, HK2⟩)
  obtain ⟨W3, hW3⟩ : ∃ W3, W2.alloc (.cells #[.slice va L.length vc] 24) = W3 := ⟨_, rfl⟩
  have kW3 : Kept [] W2 W3 := by rw [← hW3]; exact (Kept.refl [] W2).alloc _
  have b8 : W3.heap[W2.heap.size]? = some (.cells #[.slice va L.length vc] 24 (0, 0)) := by rw [← hW3]; exact al0 _ _
  have z3 : W3.heap.size = W2.heap.size + 1 := by rw [← hW3]; simp
  rw [hW3]
  have HK3 : Hid (Kept [] W2 W3 ∧ W3.heap[W2.heap.size]? = some (.cells #[.slice va L.length vc] 24 (0, 0)) ∧ W3.heap.size = W2.heap.size + 1) := ⟨kW3, b8, z3⟩
  clear hW3 kW3 b8 z3
  go_upto_region 4 with (go_at_call 7; refine (letters_any mu no props W3).mono ?_; rintro e W4 ⟨rfl, HLA, HK4⟩)
  obtain ⟨W5, hW5⟩ : ∃ W5, W4.alloc (.cells #[.func (.func 11) #[] #[.pointer (some ⟨W3.heap.size + 1 + 1, 0, none⟩), .pointer (some ⟨W3.heap.size, 0, none⟩), .pointer (some ⟨W3.heap.size + 1, 0, none⟩)]] 27) = W5 := ⟨_, rfl⟩
  have kW5 : Kept [] W4 W5 := by rw [← hW5]; exact (Kept.refl [] W4).alloc _
  have b9 : W5.heap[W4.heap.size]? = some (.cells #[.func (.func 11) #[] #[.pointer (some ⟨W3.heap.size + 1 + 1, 0, none⟩), .pointer (some ⟨W3.heap.size, 0, none⟩), .pointer (some ⟨W3.heap.size + 1, 0, none⟩)]] 27 (0, 0)) := by rw [← hW5]; exact al0 _ _
  have z5 : W5.heap.size = W4.heap.size + 1 := by rw [← hW5]; simp
  rw [hW5]
  have c9 : W5.cell? ⟨W4.heap.size, 0, none⟩ = some (.func (.func 11) #[] #[.pointer (some ⟨W3.heap.size + 1 + 1, 0, none⟩), .pointer (some ⟨W3.heap.size, 0, none⟩), .pointer (some ⟨W3.heap.size + 1, 0, none⟩)]) := (cell_of b9 0).trans rfl
  clear hW5
  go_upto_region 6 with fail
  obtain ⟨Bp, hBp⟩ : ∃ Bp, W3.heap.size + 1 + 1 = Bp := ⟨_, rfl⟩
  obtain ⟨Bm, hBm⟩ : ∃ Bm, W3.heap.size = Bm := ⟨_, rfl⟩
  obtain ⟨Bn, hBn⟩ : ∃ Bn, W3.heap.size + 1 = Bn := ⟨_, rfl⟩
  obtain ⟨B9, hB9⟩ : ∃ B9, W4.heap.size = B9 := ⟨_, rfl⟩
  obtain ⟨B8, hB8⟩ : ∃ B8, W2.heap.size = B8 := ⟨_, rfl⟩
  obtain ⟨B6, hB6⟩ : ∃ B6, w.heap.size = B6 := ⟨_, rfl⟩
  have kw5 : Kept [] w W5 := keptB HKV.out (keptB HK1.out (keptB HK2.out (keptB HK3.out.1 (keptB HK4.out.1 kW5))))
  have HBX : Hid (W5.heap[B6]? = some (.cells #[.bool false] 4 (0, 0)) ∧ W5.heap[B8]? = some (.cells #[.slice va L.length vc] 24 (0, 0)) ∧ W5.heap[B9]? = some (.cells #[.func (.func 11) #[] #[.pointer (some ⟨Bp, 0, none⟩), .pointer (some ⟨Bm, 0, none⟩), .pointer (some ⟨Bn, 0, none⟩)]] 27 (0, 0)) ∧ LetAt Bp Bm Bn props mu no W5) := by
    refine ⟨?_, ?_, ?_, ?_⟩
    · rw [← hB6]; exact (keptB HK1.out (keptB HK2.out (keptB HK3.out.1 (keptB HK4.out.1 kW5)))).at HBV.out (by simp)
    · rw [← hB8]; exact (keptB HK4.out.1 kW5).at HK3.out.2.1 (by simp)
    · rw [← hB9, ← hBp, ← hBn, ← hBm]; exact b9
    · have hla := HLA.out
      rw [hBp, hBn, hBm] at hla
      exact ⟨kW5.at hla.p (by simp), kW5.at hla.m (by simp), kW5.at hla.n (by simp)⟩
  have HOW5 : Hid (W5.ownsRow w.heap.size 23 1 (.slice va L.length vc) L.length (u16s L)) := bx_kept (own_lower HOW.out (Nat.le_trans HKV.out.size HK1.out.size)) (keptB HK3.out.1 (keptB HK4.out.1 kW5)) (by simp)
  have HW5 : Hid (Kept [] w W5) := kw5
  rw [hBp, hBn, hBm, hB9, hB8, hB6]
  rw [hB9, hBp, hBn, hBm] at c9
  obtain ⟨U0, hU0⟩ : ∃ U0, W5.alloc (.cells #[.int .i64 0] 3) = U0 := ⟨_, rfl⟩
  have kU0 : Kept [] W5 U0 := by rw [← hU0]; exact (Kept.refl [] W5).alloc _
  have b10 : U0.heap[W5.heap.size]? = some (.cells #[.int .i64 0] 3 (0, 0)) := by rw [← hU0]; exact al0 _ _
  have HU0 : Hid (W5.alloc (.cells #[.int .i64 0] 3) = U0) := hU0
  have HKU0 : Hid (Kept [] W5 U0 ∧ U0.heap[W5.heap.size]? = some (.cells #[.int .i64 0] 3 (0, 0))) := ⟨kU0, b10⟩
  have HB6w : Hid (w.heap.size = B6) := hB6
  clear hBp hBm hBn hB9 hB8 hB6 kw5 kW5 b9 z5 hU0 kU0 b10 HLA HOW HK4 HK3 HK2 HK1 HBV HKV HRF heq
  go_wp2_with fail
  rw [HU0.out]
  obtain ⟨B10, hB10⟩ : ∃ B10, W5.heap.size = B10 := ⟨_, rfl⟩
  rw [hB10] at HKU0 ⊢
  have HLT0 : Hid (B6 < B10 ∧ B8 < B10 ∧ B9 < B10 ∧ Bp < B10 ∧ Bm < B10 ∧ Bn < B10) := by
    obtain ⟨q1, q2, q3, q4⟩ := HBX.out
    have l1 := lt_of q1; have l2 := lt_of q2; have l3 := lt_of q3; have l4 := q4.p.lt; have l5 := q4.m.lt; have l6 := q4.n.lt
    exact ⟨by omega, by omega, by omega, by omega, by omega, by omega⟩
  have c10 : U0.cell? ⟨B10, 0, none⟩ = some (.int .i64 0) := (cell_of HKU0.out.2 0).trans rfl
  have c9u := cell_kept0 HKU0.out.1 c9
  have c9a := fun o => cell_kept0 ((Kept.refl [] U0).alloc o) c9u
  clear hB10 HU0 c9
  refine wp_loop_rounds 3 ?_
  rw [rounds_succ]
  go_upto_region 10 with fail
  obtain ⟨U, hU⟩ : ∃ U, U0.alloc (.cells #[.int .i64 0] 3) = U := ⟨_, rfl⟩
  have kU : Kept [] U0 U := by rw [← hU]; exact (Kept.refl [] U0).alloc _
  have b11 : Boxed U U0.heap.size 3 (.int .i64 ((0 : Nat) : Int)) := by rw [← hU]; exact al0 _ _
  rw [hU]
  obtain ⟨B11, hB11⟩ : ∃ B11, U0.heap.size = B11 := ⟨_, rfl⟩
  rw [hB11] at b11 ⊢
  have l10 : B10 < B11 := by rw [← hB11]; exact lt_of HKU0.out.2
  have kU5 : Kept [] W5 U := keptB HKU0.out.1 kU
  obtain ⟨Fx, hFx⟩ : ∃ Fx : List (Nat × Obj), [(B6, Obj.cells #[.bool false] 4 (0, 0)), (B8, Obj.cells #[.slice va L.length vc] 24 (0, 0)), (B9, Obj.cells #[.func (.func 11) #[] #[.pointer (some ⟨Bp, 0, none⟩), .pointer (some ⟨Bm, 0, none⟩), .pointer (some ⟨Bn, 0, none⟩)]] 27 (0, 0)), (B10, Obj.cells #[.int .i64 ((0 : Nat) : Int)] 3 (0, 0)), (Bp, Obj.cells #[.int .i64 props] 3 (0, 0)), (Bm, Obj.cells #[.int .u16 (mu : Nat)] 23 (0, 0)), (Bn, Obj.cells #[.int .u16 (no : Nat)] 23 (0, 0))] = Fx := ⟨_, rfl⟩
  have HFX : Hid (Fxs Fx B6 B8 B9 B10 Bp Bm Bn 0 (.slice va L.length vc) props mu no) := by rw [← hFx]; exact ⟨by simp, by simp, by simp, by simp, by simp, by simp, by simp⟩
  have HLT : Hid (∀ p ∈ Fx, p.1 < B11) := by
    show ∀ p ∈ Fx, p.1 < B11
    rw [← hFx]
    obtain ⟨q1, q2, q3, q4, q5, q6⟩ := HLT0.out
    intro p hp
    simp only [List.mem_cons, List.not_mem_nil, or_false] at hp
    rcases hp with rfl | rfl | rfl | rfl | rfl | rfl | rfl <;> dsimp only <;> omega
  have HS : Hid (LtS w Fx (.slice va L.length vc) L B11 0 (fun _ => False) U) := by
    refine ⟨?_, bx_kept HOW5.out kU5 (by simp), fun _ _ h => h, b11, id, keptB HW5.out kU5, fun _ h => h.elim⟩
    rw [← hFx]
    obtain ⟨q1, q2, q3, q4⟩ := HBX.out
    intro p hp
    simp only [List.mem_cons, List.not_mem_nil, or_false] at hp
    rcases hp with rfl | rfl | rfl | rfl | rfl | rfl | rfl
    · exact ⟨kU5.at q1 (by simp), id⟩
    · exact ⟨kU5.at q2 (by simp), id⟩
    · exact ⟨kU5.at q3 (by simp), id⟩
    · exact ⟨kU.at HKU0.out.2 (by simp), id⟩
    · exact ⟨kU5.at q4.p (by simp), id⟩
    · exact ⟨kU5.at q4.m (by simp), id⟩
    · exact ⟨kU5.at q4.n (by simp), id⟩
  have HB11 : Hid (w.heap.size ≤ B11) := by show _ ≤ _; rw [← hB11]; exact (keptB HW5.out HKU0.out.1).size
  have c9 := cell_kept0 kU c9u
  clear hFx hU kU b11 hB11 l10 kU5 c10 c9u c9a HKU0 HOW5
  go_wp2_with fail
  clear c9
  refine (wpIn_wide (n := 9)).1 ?_
  refine wpIn_mono (Q := lPost ?frR0 (fun D W => ∃ n X, LtS w Fx (.slice va L.length vc) L B11 n X W ∧ X D ∧ W.heap[D]? = some (.deferred (some [])) ∧ w.heap.size ≤ D)) ?rangeR0 (lPost_on ?onR0)
  case rangeR0 =>
    have hat := letAt_kept mu no props
    have hgo := letters_goes (9 - 1) (by omega) Bp Bm Bn mu no props hmu hno U (HS.out.letAt HFX.out)
    rw [HL.out] at hat hgo
    have HAT : Hid (AtKeptX (fun (_ : Nat → Prop) (x : Nat) (_ : World) => x ∈ L)) := hat
    refine rangeAtL1 rfl (by omega) (gf := 11) (lb := #[.pointer (some ⟨Bp, 0, none⟩), .pointer (some ⟨Bm, 0, none⟩), .pointer (some ⟨Bn, 0, none⟩)]) rfl trivial (enters_of Tryd.func11 (by kernel_rfl) rfl)
      hgo HAT.out (HS.out.letAt HFX.out).lt (fun k h => h.elim) (fun _ => rfl)
      (OuI 0 w Fx (.slice va L.length vc) L B11) (OuX 0 w Fx (.slice va L.length vc) L B11) (ouI_abide _ _ _ _ _ _) (fun c => ouX_abide _ _ _ _ _ _ c) ⟨HS.out, List.nil_prefix, by simp⟩ (fun _ _ _ _ => trivial) ?a1R0 ?assignR0 ?bodyR0 ?doneR0 ?stopR0
    case assignR0 =>
      intro l x W K hK
      gi_wp2
      exact hK
    case bodyR0 =>
      rintro l X pre x W ⟨lr, hlr⟩ hXl hXb ⟨hS, hpre, ht2⟩ hat2 hN
      obtain ⟨wb, hva, hcell⟩ := hS.get hN
      subst hva
      obtain ⟨y, hy⟩ : ∃ y, L[pre.length] = y := ⟨_, rfl⟩
      rw [hy] at hcell
      obtain ⟨⟨c6, f6⟩, c8, c9, c10, c11, f11⟩ := hS.cells HFX.out
      have HI : Hid (LtS w Fx (.slice (some ⟨wb, 0, none⟩) L.length vc) L B11 pre.length X W) := hS
      have HT2 : Hid (pre.length < 2) := ht2 rfl
      have z1 : ¬ ((L.length : Int) ≤ (pre.length : Int)) := by omega
      have z2 : decide ((L.length : Int) ≤ (pre.length : Int)) = false := decide_eq_false z1
      have z3 : (pre.length : Int) < (L.length : Int) := by omega
      have z4 : ¬ (L.length ≤ pre.length) := by omega
      by_cases hx : x = y
      · subst hx
        have HPX : Hid (pre ++ [x] <+: L) := pre_moreL hpre hN hy.symm
        obtain ⟨W1, hW1⟩ : ∃ W1, W.alloc (.cells #[.int .i64 0] 3) = W1 := ⟨_, rfl⟩
        have k1 : Kept [] W W1 := by rw [← hW1]; exact (Kept.refl [] W).alloc _
        have b13 : Boxed W1 W.heap.size 3 (.int .i64 ((0 : Nat) : Int)) := by rw [← hW1]; exact al0 _ _
        have HKW1 : Hid (Kept [] W W1) := k1
        have c9a := fun o => cell_kept0 ((Kept.refl [] W).alloc o) c9
        have HW1 : Hid (W.alloc (.cells #[.int .i64 0] 3) = W1) := hW1
        have hS1 := hS.go k1
        have hl1 : W1.heap[l]? = some (.loop lr) := k1.at hlr (by simp)
        have hXT : ∀ j, orT (letB Bp Bm Bn) X j → j < W.heap.size := fun j h => h.elim (hXb j) ((hS.letAt HFX.out).lt j)
        have h1T : ∀ j, orT (letB Bp Bm Bn) X j → j < W1.heap.size := fun j h => Nat.lt_of_lt_of_le (hXT j h) k1.size
        have hgo1 := letters_goes (9 - 1 - 1 - 1) (by omega) Bp Bm Bn mu no props hmu hno W1 (hS1.letAt HFX.out)
        have hlt1 := (hS1.letAt HFX.out).lt
        rw [HL.out] at hgo1
        have HIN : Hid (InI w Fx (.slice (some ⟨wb, 0, none⟩) L.length vc) L B11 pre.length W.heap.size (letB Bp Bm Bn) X W1 (fun _ => False) [] W1) := ⟨by simp, hS1.more (fun _ h => h.elim), b13, id, KpX.refl _ _, fun _ h => h.elim⟩
        have H13 : Hid ((∀ p ∈ Fx, p.1 ≠ W.heap.size) ∧ w.heap.size ≤ W.heap.size ∧ W.heap.size ≠ B11 ∧ ¬ orT (letB Bp Bm Bn) X W.heap.size ∧ ¬ letB Bp Bm Bn W.heap.size) := by
          have l1 := hS.nb.lt
          refine ⟨fun p hp => Nat.ne_of_lt (lt_of (hS.fx p hp).1), hS.kept.size, by omega, fun h => by have := hXT _ h; omega, fun h => by have := hXT _ (.inr h); omega⟩
        clear hS hW1 k1 b13 hpre ht2 hat2 hlr hy hS1
        gi_wp2_with fail
        rw [HW1.out]
        clear c6 f6 c8 c9 c10 c11 f11 c9a hcell
        obtain ⟨B13, hB13⟩ : ∃ B13, W.heap.size = B13 := ⟨_, rfl⟩
        rw [hB13] at HIN H13 ⊢
        clear hB13
        refine rangeAtLi1 (l₀ := l) (r₀ := lr) rfl hl1 (by omega) (gf := 11) (lb := #[.pointer (some ⟨Bp, 0, none⟩), .pointer (some ⟨Bm, 0, none⟩), .pointer (some ⟨Bn, 0, none⟩)]) rfl trivial (enters_of Tryd.func11 (by kernel_rfl) rfl)
          (hgo1.inRound l) HAT.out hlt1 (fun k h => h.elim) (fun _ => rfl)
          (InI w Fx (.slice (some ⟨wb, 0, none⟩) L.length vc) L B11 pre.length B13 (letB Bp Bm Bn) X W1) (InX w Fx (.slice (some ⟨wb, 0, none⟩) L.length vc) L B11 pre.length B13 (letB Bp Bm Bn) X W1) (inI_abide _ _ _ _ _ _ _ _ _ _ h1T) (fun c => inX_abide _ _ _ _ _ _ _ _ _ _ h1T c) HIN.out (fun _ _ _ _ => trivial) ?a2R0 ?assign2R0 ?body2R0 ?done2R0 ?stop2R0
        case assign2R0 =>
          intro l2 x2 W2 K hK
          gi_wp2
          exact hK
        case body2R0 =>
          rintro l2 X2 pre2 yv W2 _ _ _ ⟨hp1, hI2⟩ _ hN2
          obtain ⟨wb2, hva2, hcell2⟩ := hI2.s.get hN2
          obtain rfl : wb = wb2 := by cases hva2; rfl
          obtain ⟨y2, hy2⟩ : ∃ y2, L[pre2.length] = y2 := ⟨_, rfl⟩
          rw [hy2] at hcell2
          obtain ⟨_, c8, _, _, _, _⟩ := hI2.s.cells HFX.out
          have HI2 : Hid (LtI w Fx (.slice (some ⟨wb, 0, none⟩) L.length vc) L B11 pre.length B13 pre2.length (letB Bp Bm Bn) X W1 X2 W2) := hI2
          have c13 := hI2.kb.cell
          have f13 := hI2.kb.frozen
          have z5 : (pre2.length : Int) < (L.length : Int) := by omega
          obtain ⟨kk, hkk⟩ : ∃ kk, pre2.length = kk := ⟨_, rfl⟩
          have HPL : Hid (pre2.length = kk) := hkk
          rw [hkk] at hcell2 c13 HI2 z5 hp1
          clear hI2 hva2 hy2 hN2 hkk
          by_cases hxy : yv = y2
          · subst hxy
            rcases Nat.le_one_iff_eq_zero_or_eq_one.1 hp1 with rfl | rfl
            · gi_wp2_with fail
              exact ⟨KpX.setCell (p := ⟨B13, 0, none⟩) (fun h => h.elim HI2.out.kx H13.out.2.2.2.2) _, by rw [List.length_append, HPL.out]; simp, by rw [List.length_append, HPL.out]; exact HI2.out.inc H13.out.2.1 H13.out.2.2.1 H13.out.1 H13.out.2.2.2.1⟩
            · gi_wp2_with fail
              exact ⟨KpX.refl _ _, rfl, 1, HI2.out⟩
          · have hne : ((yv : Int) != (y2 : Int)) = true := by rw [bne_iff_ne]; omega
            gi_wp2_with fail
            exact ⟨KpX.refl _ _, rfl, _, HI2.out⟩
        case done2R0 =>
          rintro X2 xs W8 _ ⟨_, hI8⟩
          have hSo : LtS w Fx (.slice (some ⟨wb, 0, none⟩) L.length vc) L B11 pre.length X W8 := HI.out.change hI8.s
          have HSo : Hid (LtS w Fx (.slice (some ⟨wb, 0, none⟩) L.length vc) L B11 pre.length X W8) := hSo
          have HKP : Hid (KpX (orT (letB Bp Bm Bn) X) W W8) := (KpX.of_kept HKW1.out).trans hI8.kp
          obtain ⟨⟨c6, f6⟩, c8, c9, c10, c11, f11⟩ := hSo.cells HFX.out
          obtain ⟨mm, hmm⟩ : ∃ mm : Nat, (pre.length : Int) + 1 = mm := ⟨pre.length + 1, by omega⟩
          have HMM : Hid (pre.length + 1 = mm) := by show _ = _; omega
          have hmb : mm ≤ 200000 := by omega
          have h11 : ∀ p ∈ Fx, p.1 ≠ B11 := fun p hp => Nat.ne_of_lt (HLT.out p hp)
          have H11 : Hid (∀ p ∈ Fx, p.1 ≠ B11) := h11
          have n1 : ¬ B10 = B11 := h11 _ HFX.out.m10
          have n2 : ¬ B11 = B10 := fun e => n1 e.symm
          clear hI8 hSo h11
          by_cases h2 : mm = 2
          · have g1 : ((mm : Int) == 2) = true := by rw [beq_iff_eq]; omega
            gi_wp2_with fail
            have hq : (pre ++ [x]).length = 2 := by rw [List.length_append]; have := HMM.out; simp; omega
            exact ⟨HKP.out.trans (KpX.setCell (p := ⟨B11, 0, none⟩) (HSo.out.off11 HFX.out H11.out) _), .inr ⟨rfl, rfl, by rw [hq]; exact HSo.out.inc (m := 2) HB11.out H11.out⟩⟩
          · have g1 : ((mm : Int) == 2) = false := by rw [beq_eq_false_iff_ne]; omega
            gi_wp2_with fail
            have hq : (pre ++ [x]).length = mm := by rw [List.length_append]; exact HMM.out
            rw [← hq]
            exact ⟨HKP.out.trans (KpX.setCell (p := ⟨B11, 0, none⟩) (HSo.out.off11 HFX.out H11.out) _), HSo.out.inc (m := (pre ++ [x]).length) HB11.out H11.out, HPX.out, fun _ => by rw [hq]; have := HT2.out; have := HMM.out; omega⟩
        case stop2R0 =>
          rintro X2 c pre2 W8 _ ⟨rfl, k8, hI8⟩
          refine wpIn_exit ?_
          have hSo : LtS w Fx (.slice (some ⟨wb, 0, none⟩) L.length vc) L B11 pre.length X W8 := HI.out.change hI8.s
          have HSo : Hid (LtS w Fx (.slice (some ⟨wb, 0, none⟩) L.length vc) L B11 pre.length X W8) := hSo
          have HKP : Hid (KpX (orT (letB Bp Bm Bn) X) W W8) := (KpX.of_kept HKW1.out).trans hI8.kp
          obtain ⟨⟨c6, f6⟩, c8, c9, c10, c11, f11⟩ := hSo.cells HFX.out
          obtain ⟨mm, hmm⟩ : ∃ mm : Nat, (pre.length : Int) + 1 = mm := ⟨pre.length + 1, by omega⟩
          have HMM : Hid (pre.length + 1 = mm) := by show _ = _; omega
          have hmb : mm ≤ 200000 := by omega
          have h11 : ∀ p ∈ Fx, p.1 ≠ B11 := fun p hp => Nat.ne_of_lt (HLT.out p hp)
          have H11 : Hid (∀ p ∈ Fx, p.1 ≠ B11) := h11
          have n1 : ¬ B10 = B11 := h11 _ HFX.out.m10
          have n2 : ¬ B11 = B10 := fun e => n1 e.symm
          clear hI8 hSo h11
          by_cases h2 : mm = 2
          · have g1 : ((mm : Int) == 2) = true := by rw [beq_iff_eq]; omega
            gi_wp2_with fail
            have hq : (pre ++ [x]).length = 2 := by rw [List.length_append]; have := HMM.out; simp; omega
            exact ⟨HKP.out.trans (KpX.setCell (p := ⟨B11, 0, none⟩) (HSo.out.off11 HFX.out H11.out) _), .inr ⟨rfl, rfl, by rw [hq]; exact HSo.out.inc (m := 2) HB11.out H11.out⟩⟩
          · have g1 : ((mm : Int) == 2) = false := by rw [beq_eq_false_iff_ne]; omega
            gi_wp2_with fail
            have hq : (pre ++ [x]).length = mm := by rw [List.length_append]; exact HMM.out
            rw [← hq]
            exact ⟨HKP.out.trans (KpX.setCell (p := ⟨B11, 0, none⟩) (HSo.out.off11 HFX.out H11.out) _), HSo.out.inc (m := (pre ++ [x]).length) HB11.out H11.out, HPX.out, fun _ => by rw [hq]; have := HT2.out; have := HMM.out; omega⟩
      · have hne : ((x : Int) != (y : Int)) = true := by rw [bne_iff_ne]; omega
        have HNX : Hid (¬ pre ++ [x] <+: L) := pre_notL hN (by rw [hy]; exact hx)
        clear hS hpre hat2 hy hx
        gi_wp2_with fail
        exact ⟨KpX.setCell (p := ⟨B6, 0, none⟩) (HI.out.off6 HFX.out) _, .inl ⟨rfl, HNX.out⟩⟩
    case doneR0 =>
      rintro D X xs W hD hXD hSx hI hK
      refine lPost_normal D ?_ ?_
      exact rfl
      exact ⟨_, X, hI.1, hXD, hK, hI.1.lo D hXD⟩
    case stopR0 =>
      rintro D X c pre W hD hXD hSp (⟨rfl, hno⟩ | ⟨rfl, ht, hS⟩) hK
      · exact absurd hSp hno
      · refine wpIn_exit ?_
        refine lPost_exit D ?_ ?_
        exact rfl
        exact ⟨_, X, hS, hXD, hK, hS.lo D hXD⟩
  case onR0 =>
    rintro D1 W ⟨n1, X1, hS1, hXD1, hK1, hwD1⟩
    dsimp only
    obtain ⟨⟨c6, f6⟩, c8, c9, c10, c11, f11⟩ := hS1.cells HFX.out
    have HS1 : Hid (LtS w Fx (.slice va L.length vc) L B11 n1 X1 W) := hS1
    have HD1 : Hid (W.heap[D1]? = some (.deferred (some [])) ∧ w.heap.size ≤ D1) := ⟨hK1, hwD1⟩
    have c10a := fun o => cell_kept0 ((Kept.refl [] W).alloc o) c10
    clear hS1 hXD1 hK1 hwD1
    go_wp2_with fail
    clear c6 f6 c8 c9 c10 c11 f11 c10a
    have HQ : Hid ((W.heap[B6]? = some (.cells #[.bool false] 4 (0, 0)) ∧ W.heap[B8]? = some (.cells #[.slice va L.length vc] 24 (0, 0)) ∧ W.heap[B9]? = some (.cells #[.func (.func 11) #[] #[.pointer (some ⟨Bp, 0, none⟩), .pointer (some ⟨Bm, 0, none⟩), .pointer (some ⟨Bn, 0, none⟩)]] 27 (0, 0)) ∧ LetAt Bp Bm Bn props mu no W) ∧ W.ownsRow w.heap.size 23 1 (.slice va L.length vc) L.length (u16s L) ∧ Kept [] w W) :=
      ⟨⟨(HS1.out.fx _ HFX.out.m6).1, (HS1.out.fx _ HFX.out.m8).1, (HS1.out.fx _ HFX.out.m9).1, HS1.out.letAt HFX.out⟩, HS1.out.wt, HS1.out.kept⟩
    clear HS1 HFX HLT HB11 HS
    obtain ⟨U1, hU1⟩ : ∃ U1, W.alloc (.cells #[.int .i64 1] 3) = U1 := ⟨_, rfl⟩
    have kU1 : Kept [] W U1 := by rw [← hU1]; exact (Kept.refl [] W).alloc _
    have b10 : U1.heap[W.heap.size]? = some (.cells #[.int .i64 1] 3 (0, 0)) := by rw [← hU1]; exact al0 _ _
    rw [hU1]
    obtain ⟨B10, hB10⟩ : ∃ B10, W.heap.size = B10 := ⟨_, rfl⟩
    rw [hB10] at b10 ⊢
    have HLT1 : Hid (B6 < B10 ∧ B8 < B10 ∧ B9 < B10 ∧ Bp < B10 ∧ Bm < B10 ∧ Bn < B10 ∧ D1 < B10) := by
      obtain ⟨⟨q1, q2, q3, q4⟩, _, _⟩ := HQ.out
      have l1 := lt_of q1; have l2 := lt_of q2; have l3 := lt_of q3; have l4 := q4.p.lt; have l5 := q4.m.lt; have l6 := q4.n.lt; have l7 := lt_of HD1.out.1
      exact ⟨by omega, by omega, by omega, by omega, by omega, by omega, by omega⟩
    have HKU1 : Hid (Kept [] W U1 ∧ U1.heap[B10]? = some (.cells #[.int .i64 1] 3 (0, 0))) := ⟨kU1, b10⟩
    have c10 : U1.cell? ⟨B10, 0, none⟩ = some (.int .i64 1) := (cell_of b10 0).trans rfl
    have c9u : U1.cell? ⟨B9, 0, none⟩ = some (.func (.func 11) #[] #[.pointer (some ⟨Bp, 0, none⟩), .pointer (some ⟨Bm, 0, none⟩), .pointer (some ⟨Bn, 0, none⟩)]) := cell_kept0 kU1 ((cell_of HQ.out.1.2.2.1 0).trans rfl)
    have c9a := fun o => cell_kept0 ((Kept.refl [] U1).alloc o) c9u
    clear hU1 kU1 b10 hB10
    rw [rounds_succ]
    go_upto_region 10 with fail
    obtain ⟨U, hU⟩ : ∃ U, U1.alloc (.cells #[.int .i64 0] 3) = U := ⟨_, rfl⟩
    have kU : Kept [] U1 U := by rw [← hU]; exact (Kept.refl [] U1).alloc _
    have b11 : Boxed U U1.heap.size 3 (.int .i64 ((0 : Nat) : Int)) := by rw [← hU]; exact al0 _ _
    rw [hU]
    obtain ⟨B11, hB11⟩ : ∃ B11, U1.heap.size = B11 := ⟨_, rfl⟩
    rw [hB11] at b11 ⊢
    have l10 : B10 < B11 := by rw [← hB11]; exact lt_of HKU1.out.2
    have kU5 : Kept [] W U := keptB HKU1.out.1 kU
    obtain ⟨Fx, hFx⟩ : ∃ Fx : List (Nat × Obj), [(B6, Obj.cells #[.bool false] 4 (0, 0)), (B8, Obj.cells #[.slice va L.length vc] 24 (0, 0)), (B9, Obj.cells #[.func (.func 11) #[] #[.pointer (some ⟨Bp, 0, none⟩), .pointer (some ⟨Bm, 0, none⟩), .pointer (some ⟨Bn, 0, none⟩)]] 27 (0, 0)), (B10, Obj.cells #[.int .i64 ((1 : Nat) : Int)] 3 (0, 0)), (Bp, Obj.cells #[.int .i64 props] 3 (0, 0)), (Bm, Obj.cells #[.int .u16 (mu : Nat)] 23 (0, 0)), (Bn, Obj.cells #[.int .u16 (no : Nat)] 23 (0, 0)), (D1, Obj.deferred (some []))] = Fx := ⟨_, rfl⟩
    have HFX : Hid (Fxs Fx B6 B8 B9 B10 Bp Bm Bn 1 (.slice va L.length vc) props mu no) := by rw [← hFx]; exact ⟨by simp, by simp, by simp, by simp, by simp, by simp, by simp⟩
    have HMD : Hid ((D1, Obj.deferred (some [])) ∈ Fx) := by show _ ∈ _; rw [← hFx]; simp
    have HLT : Hid (∀ p ∈ Fx, p.1 < B11) := by
      show ∀ p ∈ Fx, p.1 < B11
      rw [← hFx]
      obtain ⟨q1, q2, q3, q4, q5, q6, q7⟩ := HLT1.out
      intro p hp
      simp only [List.mem_cons, List.not_mem_nil, or_false] at hp
      rcases hp with rfl | rfl | rfl | rfl | rfl | rfl | rfl | rfl <;> dsimp only <;> omega
    have HS : Hid (LtS w Fx (.slice va L.length vc) L B11 0 (fun _ => False) U) := by
      obtain ⟨⟨q1, q2, q3, q4⟩, q5, q6⟩ := HQ.out
      refine ⟨?_, bx_kept q5 kU5 (by simp), fun _ _ h => h, b11, id, keptB q6 kU5, fun _ h => h.elim⟩
      rw [← hFx]
      intro p hp
      simp only [List.mem_cons, List.not_mem_nil, or_false] at hp
      rcases hp with rfl | rfl | rfl | rfl | rfl | rfl | rfl | rfl
      · exact ⟨kU5.at q1 (by simp), id⟩
      · exact ⟨kU5.at q2 (by simp), id⟩
      · exact ⟨kU5.at q3 (by simp), id⟩
      · exact ⟨kU.at HKU1.out.2 (by simp), id⟩
      · exact ⟨kU5.at q4.p (by simp), id⟩
      · exact ⟨kU5.at q4.m (by simp), id⟩
      · exact ⟨kU5.at q4.n (by simp), id⟩
      · exact ⟨kU5.at HD1.out.1 (by simp), id⟩
    have HB11 : Hid (w.heap.size ≤ B11) := by show _ ≤ _; rw [← hB11]; exact (keptB HQ.out.2.2 HKU1.out.1).size
    have c9 := cell_kept0 kU c9u
    clear hFx hU kU b11 hB11 l10 kU5 c10 c9u c9a HKU1
    go_wp2_with fail
    clear c9
    refine (wpIn_wide (n := 9)).1 ?_
    refine wpIn_mono (Q := lPost ?frR1 (fun D W => ∃ n X, LtS w Fx (.slice va L.length vc) L B11 n X W ∧ X D ∧ W.heap[D]? = some (.deferred (some [])) ∧ w.heap.size ≤ D ∧ n = L.length)) ?rangeR1 (lPost_on ?onR1)
    case rangeR1 =>
      have hat := letAt_kept mu no props
      have hgo := letters_goes (9 - 1) (by omega) Bp Bm Bn mu no props hmu hno U (HS.out.letAt HFX.out)
      rw [HL.out] at hat hgo
      have HAT : Hid (AtKeptX (fun (_ : Nat → Prop) (x : Nat) (_ : World) => x ∈ L)) := hat
      refine rangeAtL1 rfl (by omega) (gf := 11) (lb := #[.pointer (some ⟨Bp, 0, none⟩), .pointer (some ⟨Bm, 0, none⟩), .pointer (some ⟨Bn, 0, none⟩)]) rfl trivial (enters_of Tryd.func11 (by kernel_rfl) rfl)
        hgo HAT.out (HS.out.letAt HFX.out).lt (fun k h => h.elim) (fun _ => rfl)
        (OuI 1 w Fx (.slice va L.length vc) L B11) (OuX 1 w Fx (.slice va L.length vc) L B11) (ouI_abide _ _ _ _ _ _) (fun c => ouX_abide _ _ _ _ _ _ c) ⟨HS.out, List.nil_prefix, by simp⟩ (fun _ _ _ _ => trivial) ?a1R1 ?assignR1 ?bodyR1 ?doneR1 ?stopR1
      case assignR1 =>
        intro l x W K hK
        gi_wp2
        exact hK
      case bodyR1 =>
        rintro l X pre x W ⟨lr, hlr⟩ hXl hXb ⟨hS, hpre, ht2⟩ hat2 hN
        obtain ⟨wb, hva, hcell⟩ := hS.get hN
        subst hva
        obtain ⟨y, hy⟩ : ∃ y, L[pre.length] = y := ⟨_, rfl⟩
        rw [hy] at hcell
        obtain ⟨⟨c6, f6⟩, c8, c9, c10, c11, f11⟩ := hS.cells HFX.out
        have HI : Hid (LtS w Fx (.slice (some ⟨wb, 0, none⟩) L.length vc) L B11 pre.length X W) := hS
        have HT2 : Hid True := trivial
        have z1 : ¬ ((L.length : Int) ≤ (pre.length : Int)) := by omega
        have z2 : decide ((L.length : Int) ≤ (pre.length : Int)) = false := decide_eq_false z1
        have z3 : (pre.length : Int) < (L.length : Int) := by omega
        have z4 : ¬ (L.length ≤ pre.length) := by omega
        by_cases hx : x = y
        · subst hx
          have HPX : Hid (pre ++ [x] <+: L) := pre_moreL hpre hN hy.symm
          obtain ⟨W1, hW1⟩ : ∃ W1, W.alloc (.cells #[.int .i64 0] 3) = W1 := ⟨_, rfl⟩
          have k1 : Kept [] W W1 := by rw [← hW1]; exact (Kept.refl [] W).alloc _
          have b13 : Boxed W1 W.heap.size 3 (.int .i64 ((0 : Nat) : Int)) := by rw [← hW1]; exact al0 _ _
          have HKW1 : Hid (Kept [] W W1) := k1
          have c9a := fun o => cell_kept0 ((Kept.refl [] W).alloc o) c9
          have HW1 : Hid (W.alloc (.cells #[.int .i64 0] 3) = W1) := hW1
          have hS1 := hS.go k1
          have hl1 : W1.heap[l]? = some (.loop lr) := k1.at hlr (by simp)
          have hXT : ∀ j, orT (letB Bp Bm Bn) X j → j < W.heap.size := fun j h => h.elim (hXb j) ((hS.letAt HFX.out).lt j)
          have h1T : ∀ j, orT (letB Bp Bm Bn) X j → j < W1.heap.size := fun j h => Nat.lt_of_lt_of_le (hXT j h) k1.size
          have hgo1 := letters_goes (9 - 1 - 1 - 1) (by omega) Bp Bm Bn mu no props hmu hno W1 (hS1.letAt HFX.out)
          have hlt1 := (hS1.letAt HFX.out).lt
          rw [HL.out] at hgo1
          have HIN : Hid (InI w Fx (.slice (some ⟨wb, 0, none⟩) L.length vc) L B11 pre.length W.heap.size (letB Bp Bm Bn) X W1 (fun _ => False) [] W1) := ⟨by simp, hS1.more (fun _ h => h.elim), b13, id, KpX.refl _ _, fun _ h => h.elim⟩
          have H13 : Hid ((∀ p ∈ Fx, p.1 ≠ W.heap.size) ∧ w.heap.size ≤ W.heap.size ∧ W.heap.size ≠ B11 ∧ ¬ orT (letB Bp Bm Bn) X W.heap.size ∧ ¬ letB Bp Bm Bn W.heap.size) := by
            have l1 := hS.nb.lt
            refine ⟨fun p hp => Nat.ne_of_lt (lt_of (hS.fx p hp).1), hS.kept.size, by omega, fun h => by have := hXT _ h; omega, fun h => by have := hXT _ (.inr h); omega⟩
          clear hS hW1 k1 b13 hpre ht2 hat2 hlr hy hS1
          gi_wp2_with fail
          rw [HW1.out]
          clear c6 f6 c8 c9 c10 c11 f11 c9a hcell
          obtain ⟨B13, hB13⟩ : ∃ B13, W.heap.size = B13 := ⟨_, rfl⟩
          rw [hB13] at HIN H13 ⊢
          clear hB13
          refine rangeAtLi1 (l₀ := l) (r₀ := lr) rfl hl1 (by omega) (gf := 11) (lb := #[.pointer (some ⟨Bp, 0, none⟩), .pointer (some ⟨Bm, 0, none⟩), .pointer (some ⟨Bn, 0, none⟩)]) rfl trivial (enters_of Tryd.func11 (by kernel_rfl) rfl)
            (hgo1.inRound l) HAT.out hlt1 (fun k h => h.elim) (fun _ => rfl)
            (InI w Fx (.slice (some ⟨wb, 0, none⟩) L.length vc) L B11 pre.length B13 (letB Bp Bm Bn) X W1) (InX w Fx (.slice (some ⟨wb, 0, none⟩) L.length vc) L B11 pre.length B13 (letB Bp Bm Bn) X W1) (inI_abide _ _ _ _ _ _ _ _ _ _ h1T) (fun c => inX_abide _ _ _ _ _ _ _ _ _ _ h1T c) HIN.out (fun _ _ _ _ => trivial) ?a2R1 ?assign2R1 ?body2R1 ?done2R1 ?stop2R1
          case assign2R1 =>
            intro l2 x2 W2 K hK
            gi_wp2
            exact hK
          case body2R1 =>
            rintro l2 X2 pre2 yv W2 _ _ _ ⟨hp1, hI2⟩ _ hN2
            obtain ⟨wb2, hva2, hcell2⟩ := hI2.s.get hN2
            obtain rfl : wb = wb2 := by cases hva2; rfl
            obtain ⟨y2, hy2⟩ : ∃ y2, L[pre2.length] = y2 := ⟨_, rfl⟩
            rw [hy2] at hcell2
            obtain ⟨_, c8, _, _, _, _⟩ := hI2.s.cells HFX.out
            have HI2 : Hid (LtI w Fx (.slice (some ⟨wb, 0, none⟩) L.length vc) L B11 pre.length B13 pre2.length (letB Bp Bm Bn) X W1 X2 W2) := hI2
            have c13 := hI2.kb.cell
            have f13 := hI2.kb.frozen
            have z5 : (pre2.length : Int) < (L.length : Int) := by omega
            obtain ⟨kk, hkk⟩ : ∃ kk, pre2.length = kk := ⟨_, rfl⟩
            have HPL : Hid (pre2.length = kk) := hkk
            rw [hkk] at hcell2 c13 HI2 z5 hp1
            clear hI2 hva2 hy2 hN2 hkk
            by_cases hxy : yv = y2
            · subst hxy
              rcases Nat.le_one_iff_eq_zero_or_eq_one.1 hp1 with rfl | rfl
              · gi_wp2_with fail
                exact ⟨KpX.setCell (p := ⟨B13, 0, none⟩) (fun h => h.elim HI2.out.kx H13.out.2.2.2.2) _, by rw [List.length_append, HPL.out]; simp, by rw [List.length_append, HPL.out]; exact HI2.out.inc H13.out.2.1 H13.out.2.2.1 H13.out.1 H13.out.2.2.2.1⟩
              · gi_wp2_with fail
                exact ⟨KpX.refl _ _, rfl, 1, HI2.out⟩
            · have hne : ((yv : Int) != (y2 : Int)) = true := by rw [bne_iff_ne]; omega
              gi_wp2_with fail
              exact ⟨KpX.refl _ _, rfl, _, HI2.out⟩
          case done2R1 =>
            rintro X2 xs W8 _ ⟨_, hI8⟩
            have hSo : LtS w Fx (.slice (some ⟨wb, 0, none⟩) L.length vc) L B11 pre.length X W8 := HI.out.change hI8.s
            have HSo : Hid (LtS w Fx (.slice (some ⟨wb, 0, none⟩) L.length vc) L B11 pre.length X W8) := hSo
            have HKP : Hid (KpX (orT (letB Bp Bm Bn) X) W W8) := (KpX.of_kept HKW1.out).trans hI8.kp
            obtain ⟨⟨c6, f6⟩, c8, c9, c10, c11, f11⟩ := hSo.cells HFX.out
            obtain ⟨mm, hmm⟩ : ∃ mm : Nat, (pre.length : Int) + 1 = mm := ⟨pre.length + 1, by omega⟩
            have HMM : Hid (pre.length + 1 = mm) := by show _ = _; omega
            have hmb : mm ≤ 200000 := by omega
            have h11 : ∀ p ∈ Fx, p.1 ≠ B11 := fun p hp => Nat.ne_of_lt (HLT.out p hp)
            have H11 : Hid (∀ p ∈ Fx, p.1 ≠ B11) := h11
            have n1 : ¬ B10 = B11 := h11 _ HFX.out.m10
            have n2 : ¬ B11 = B10 := fun e => n1 e.symm
            clear hI8 hSo h11
            gi_wp2_with fail
            have hq : (pre ++ [x]).length = mm := by rw [List.length_append]; exact HMM.out
            rw [← hq]
            exact ⟨HKP.out.trans (KpX.setCell (p := ⟨B11, 0, none⟩) (HSo.out.off11 HFX.out H11.out) _), HSo.out.inc (m := (pre ++ [x]).length) HB11.out H11.out, HPX.out, fun h => (by cases h)⟩
          case stop2R1 =>
            rintro X2 c pre2 W8 _ ⟨rfl, k8, hI8⟩
            refine wpIn_exit ?_
            have hSo : LtS w Fx (.slice (some ⟨wb, 0, none⟩) L.length vc) L B11 pre.length X W8 := HI.out.change hI8.s
            have HSo : Hid (LtS w Fx (.slice (some ⟨wb, 0, none⟩) L.length vc) L B11 pre.length X W8) := hSo
            have HKP : Hid (KpX (orT (letB Bp Bm Bn) X) W W8) := (KpX.of_kept HKW1.out).trans hI8.kp
            obtain ⟨⟨c6, f6⟩, c8, c9, c10, c11, f11⟩ := hSo.cells HFX.out
            obtain ⟨mm, hmm⟩ : ∃ mm : Nat, (pre.length : Int) + 1 = mm := ⟨pre.length + 1, by omega⟩
            have HMM : Hid (pre.length + 1 = mm) := by show _ = _; omega
            have hmb : mm ≤ 200000 := by omega
            have h11 : ∀ p ∈ Fx, p.1 ≠ B11 := fun p hp => Nat.ne_of_lt (HLT.out p hp)
            have H11 : Hid (∀ p ∈ Fx, p.1 ≠ B11) := h11
            have n1 : ¬ B10 = B11 := h11 _ HFX.out.m10
            have n2 : ¬ B11 = B10 := fun e => n1 e.symm
            clear hI8 hSo h11
            gi_wp2_with fail
            have hq : (pre ++ [x]).length = mm := by rw [List.length_append]; exact HMM.out
            rw [← hq]
            exact ⟨HKP.out.trans (KpX.setCell (p := ⟨B11, 0, none⟩) (HSo.out.off11 HFX.out H11.out) _), HSo.out.inc (m := (pre ++ [x]).length) HB11.out H11.out, HPX.out, fun h => (by cases h)⟩
        · have hne : ((x : Int) != (y : Int)) = true := by rw [bne_iff_ne]; omega
          have HNX : Hid (¬ pre ++ [x] <+: L) := pre_notL hN (by rw [hy]; exact hx)
          clear hS hpre hat2 hy hx
          gi_wp2_with fail
          exact ⟨KpX.setCell (p := ⟨B6, 0, none⟩) (HI.out.off6 HFX.out) _, .inl ⟨rfl, HNX.out⟩⟩
      case doneR1 =>
        rintro D X xs W hD hXD hSx hI hK
        refine lPost_normal D ?_ ?_
        exact rfl
        exact ⟨_, X, hI.1, hXD, hK, hI.1.lo D hXD, by rw [hSx]⟩
      case stopR1 =>
        rintro D X c pre W hD hXD hSp (⟨rfl, hno⟩ | ⟨rfl, ht, hS⟩) hK
        · exact absurd hSp hno
        · cases ht
    case onR1 =>
      rintro D2 W2 ⟨n2, X2, hS2, hXD2, hK2, hwD2, rfl⟩
      dsimp only
      obtain ⟨⟨c6, f6⟩, c8, c9, c10, c11, f11⟩ := hS2.cells HFX.out
      have HS2 : Hid (LtS w Fx (.slice va L.length vc) L B11 L.length X2 W2) := hS2
      have HX2 : Hid (X2 D2 ∧ W2.heap[D2]? = some (.deferred (some [])) ∧ w.heap.size ≤ D2) := ⟨hXD2, hK2, hwD2⟩
      have c10a := fun o => cell_kept0 ((Kept.refl [] W2).alloc o) c10
      clear hS2 hXD2 hK2 hwD2
      go_wp2_with fail
      clear c6 f6 c8 c9 c10 c11 f11 c10a
      obtain ⟨U3, hU3⟩ : ∃ U3, W2.alloc (.cells #[.int .i64 2] 3) = U3 := ⟨_, rfl⟩
      have kU3 : Kept [] W2 U3 := by rw [← hU3]; exact (Kept.refl [] W2).alloc _
      have b10 : U3.heap[W2.heap.size]? = some (.cells #[.int .i64 2] 3 (0, 0)) := by rw [← hU3]; exact al0 _ _
      rw [hU3]
      have c10 : U3.cell? ⟨W2.heap.size, 0, none⟩ = some (.int .i64 2) := (cell_of b10 0).trans rfl
      have b6 : U3.heap[B6]? = some (.cells #[.bool false] 4 (0, 0)) := kU3.at (HS2.out.fx _ HFX.out.m6).1 (by simp)
      have c6 : U3.cell? ⟨B6, 0, none⟩ = some (.bool false) := (cell_of b6 0).trans rfl
      have f6 := free_of b6 0
      have HB6 : Hid (Boxed U3 B6 4 (.bool false)) := b6
      have HK3 : Hid (Kept [] w U3 ∧ U3.heap[D1]? = some (.deferred (some [])) ∧ U3.heap[D2]? = some (.deferred (some [])) ∧ D1 ≠ D2) :=
        ⟨keptB HS2.out.kept kU3, kU3.at (HS2.out.fx _ HMD.out).1 (by simp), kU3.at HX2.out.2.1 (by simp), fun e => (HS2.out.fx _ HMD.out).2 (by dsimp only; rw [e]; exact HX2.out.1)⟩
      clear hU3 kU3 b10 b6
      rw [rounds_succ]
      go_wp2_with fail
      exact leaveL rfl HB6.out HK3.out.2.1 HK3.out.2.2.1 HK3.out.2.2.2 HK3.out.1 (by rw [← HB6w.out]; exact Nat.le_refl _) HD1.out.2 HX2.out.2.2
end Go.Proofs.YtepooofiadlceaaDoor
