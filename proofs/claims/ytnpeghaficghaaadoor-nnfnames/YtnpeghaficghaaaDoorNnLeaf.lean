/- nnf.leafPlans, nnf.plans: the plans of a leaf; the table of columns. -/
import Derived.Test.YtnpeghaficghaaaDoorNnOnes
import Derived.Test.YtnpeghaficghaaaDoorNnCols2
import Derived.Great.BuildSlice
import Derived.Great.Walk
import Derived.Deep.CutRange
namespace Go.Proofs.YtnpeghaficghaaaDoor
open Go.RowKit Go.Shelf

theorem psz_0 (o : Nat) (s : ByteArray) : psz ⟨o, s, []⟩ = 1 := by unfold psz; rw [Tr.size_eq]; rfl
theorem pdp_0 (o : Nat) (s : ByteArray) : pdp ⟨o, s, []⟩ = 1 := by unfold pdp; rw [Tr.depth_eq]; rfl
theorem psz_n (o : Nat) (s : ByteArray) : psz ⟨o, nE, [⟨3, s, []⟩]⟩ = 2 := by
  unfold psz; rw [Tr.size_eq]; simp only [List.map_cons, List.map_nil]; rw [Tr.size_eq]; rfl
theorem pdp_n (o : Nat) (s : ByteArray) : pdp ⟨o, nE, [⟨3, s, []⟩]⟩ = 2 := by
  unfold pdp; rw [Tr.depth_eq]; simp only [List.map_cons, List.map_nil]; rw [Tr.depth_eq]; rfl
/-- planOf of no kids. -/
theorem planOf_0 (o : Nat) (w : World) : Calls Tryd.prog 136 #[.int .u8 (o : Nat), .slice none 0 0] w fun e w' => e = .returned (.agg #[.int .u8 (o : Nat), .string nE, .slice none 0 0, .int .i64 1, .int .i64 1]) ∧ Kept [] w w' := by
  have := planOf_any o [] none 0 w (IsP.leaf w rfl none 0) (by decide)
  rw [psz_0, pdp_0] at this
  exact this
set_option maxHeartbeats 1000000 in
set_option maxRecDepth 20000 in
theorem leafPlans_any (o : Nat) (s : ByteArray) (ad : Option Addr) (n c : Nat) (w : World) (ho : Lf o) (X : Nat → Prop) (hX : ∀ k, w.heap.size ≤ k → X k) :
    Calls Tryd.prog 105 #[.agg #[.int .u8 (o : Nat), .string s, .slice ad n c]] w fun e w' => ∃ u1 u2 u3 u4, e = .returned (prA (ndLeaf ⟨o, s, []⟩) u1 u2 u3 u4) ∧ IsR X w' (ndLeaf ⟨o, s, []⟩) u1 u2 u3 u4 ∧ Kept [] w w' := by
  have HX : Hid (∀ k, w.heap.size ≤ k → X k) := hX
  have HY : Hid (∀ W, Calls Tryd.prog 136 #[.int .u8 1, .slice none 0 0] W fun e w' => e = .returned (.agg #[.int .u8 1, .string nE, .slice none 0 0, .int .i64 1, .int .i64 1]) ∧ Kept [] W w') := planOf_0 1
  have HN : Hid (∀ W, Calls Tryd.prog 136 #[.int .u8 2, .slice none 0 0] W fun e w' => e = .returned (.agg #[.int .u8 2, .string nE, .slice none 0 0, .int .i64 1, .int .i64 1]) ∧ Kept [] W w') := planOf_0 2
  have HPR : Hid (∀ W, Calls Tryd.prog 136 #[.int .u8 3, .slice none 0 0] W fun e w' => e = .returned (.agg #[.int .u8 3, .string nE, .slice none 0 0, .int .i64 1, .int .i64 1]) ∧ Kept [] W w') := planOf_0 3
  clear hX
  rcases ho with rfl | rfl | rfl
  · have T0 : Hid True := trivial
    have T1 : Hid True := trivial
    have HF : Hid (∀ W1 W2, Kept [] ((w.alloc (.cells #[.int .u8 1, .string s, .slice ad n c] 25)).alloc (.cells #[.int .u8 0, .string ⟨#[]⟩, .slice none 0 0, .int .i64 0, .int .i64 0, .int .u8 0, .string ⟨#[]⟩, .slice none 0 0, .int .i64 0, .int .i64 0] 95)) W1 → Kept [] W1 W2 → For3 W2 w.heap.size (.int .u8 1) (.string s) (.slice ad n c) ∧ Pr10 W2 (w.heap.size + 1) (.int .u8 0) (.string ⟨#[]⟩) (.slice none 0 0) (.int .i64 0) (.int .i64 0) (.int .u8 0) (.string ⟨#[]⟩) (.slice none 0 0) (.int .i64 0) (.int .i64 0) ∧ Kept [] w W2) := fun W1 W2 k1 k2 => by
      have k := k1.trans k2 (H := []) (by simp) (by simp)
      exact ⟨k.at (alUp (al0 w _) _) (by simp), k.at (al1 w _ _) (by simp), (((Kept.refl [] w).alloc _).alloc _).trans k (by simp) (by simp)⟩
    go_enter Tryd.func105, Tryd.ntmps105
    go_upto_region 2 with (first
      | (clear T0; go_at_call 136; refine (HY.out _).mono ?_; rintro e W1 ⟨rfl, k1⟩; have HK1 : Hid _ := k1; clear k1)
      | (clear T1; go_at_call 136; refine (HN.out _).mono ?_; rintro e W2 ⟨rfl, k2⟩; have HW2 : Hid _ := HF.out W1 W2 HK1.out k2; clear k2))
    obtain ⟨V, hV⟩ : ∃ V, (W2.alloc (.cells #[.int .u8 1, .string nE, .slice none 0 0, .int .i64 1, .int .i64 1] 93)).alloc (.cells #[.int .u8 2, .string nE, .slice none 0 0, .int .i64 1, .int .i64 1] 93) = V := ⟨_, rfl⟩
    obtain ⟨hf, hr, hk⟩ := HW2.out
    have kV : Kept [] W2 V := by rw [← hV]; exact ((Kept.refl [] W2).alloc _).alloc _
    have vy : Pl5 V W2.heap.size (.int .u8 1) (.string nE) (.slice none 0 0) (.int .i64 1) (.int .i64 1) := by rw [← hV]; exact alUp (al0 W2 _) _
    have vn : Pl5 V (W2.heap.size + 1) (.int .u8 2) (.string nE) (.slice none 0 0) (.int .i64 1) (.int .i64 1) := by rw [← hV]; exact al1 W2 _ _
    have vr : Pr10 V (w.heap.size + 1) (.int .u8 0) (.string ⟨#[]⟩) (.slice none 0 0) (.int .i64 0) (.int .i64 0) (.int .u8 0) (.string ⟨#[]⟩) (.slice none 0 0) (.int .i64 0) (.int .i64 0) := hr.kept kV (by simp)
    have kw : Kept [] w V := hk.trans kV (by simp) (by simp)
    rw [hV]
    obtain ⟨f0, f1, f2, -⟩ := (hf.kept kV).cells
    obtain ⟨y0, y1, y2, y3, y4, -⟩ := vy.cells
    obtain ⟨m0, m1, m2, m3, m4, -⟩ := vn.cells
    obtain ⟨⟨r0, r1, r2, r3, r4⟩, ⟨r5, r6, r7, r8, r9⟩, rf⟩ := vr.cells
    have HR : Hid (Pr10 V (w.heap.size + 1) (.int .u8 0) (.string ⟨#[]⟩) (.slice none 0 0) (.int .i64 0) (.int .i64 0) (.int .u8 0) (.string ⟨#[]⟩) (.slice none 0 0) (.int .i64 0) (.int .i64 0)) := vr
    have HKW : Hid (Kept [] w V) := kw
    clear hf hr hk kV vy vn vr kw hV HW2
    go_wp2
    exact ret_pr rfl rfl rfl (HR.out.set (.int .u8 1) (.string nE) (.slice none 0 0) (.int .i64 1) (.int .i64 1) (.int .u8 2) (.string nE) (.slice none 0 0) (.int .i64 1) (.int .i64 1)) ⟨none, 0, none, 0, by simp only [prA, ndLeaf, Nat.reduceEqDiff, if_true, if_false, psz_leaf, pdp_leaf]; rfl, ⟨IsQ.leafs _ rfl none 0, IsQ.leafs _ rfl none 0⟩, kept_set10 HKW.out (.inr (by omega)) _ _ _ _ _ _ _ _ _ _⟩
  · have T0 : Hid True := trivial
    have T1 : Hid True := trivial
    have HF : Hid (∀ W1 W2, Kept [] ((w.alloc (.cells #[.int .u8 2, .string s, .slice ad n c] 25)).alloc (.cells #[.int .u8 0, .string ⟨#[]⟩, .slice none 0 0, .int .i64 0, .int .i64 0, .int .u8 0, .string ⟨#[]⟩, .slice none 0 0, .int .i64 0, .int .i64 0] 95)) W1 → Kept [] W1 W2 → For3 W2 w.heap.size (.int .u8 2) (.string s) (.slice ad n c) ∧ Pr10 W2 (w.heap.size + 1) (.int .u8 0) (.string ⟨#[]⟩) (.slice none 0 0) (.int .i64 0) (.int .i64 0) (.int .u8 0) (.string ⟨#[]⟩) (.slice none 0 0) (.int .i64 0) (.int .i64 0) ∧ Kept [] w W2) := fun W1 W2 k1 k2 => by
      have k := k1.trans k2 (H := []) (by simp) (by simp)
      exact ⟨k.at (alUp (al0 w _) _) (by simp), k.at (al1 w _ _) (by simp), (((Kept.refl [] w).alloc _).alloc _).trans k (by simp) (by simp)⟩
    go_enter Tryd.func105, Tryd.ntmps105
    go_upto_region 2 with (first
      | (clear T0; go_at_call 136; refine (HY.out _).mono ?_; rintro e W1 ⟨rfl, k1⟩; have HK1 : Hid _ := k1; clear k1)
      | (clear T1; go_at_call 136; refine (HN.out _).mono ?_; rintro e W2 ⟨rfl, k2⟩; have HW2 : Hid _ := HF.out W1 W2 HK1.out k2; clear k2))
    obtain ⟨V, hV⟩ : ∃ V, (W2.alloc (.cells #[.int .u8 1, .string nE, .slice none 0 0, .int .i64 1, .int .i64 1] 93)).alloc (.cells #[.int .u8 2, .string nE, .slice none 0 0, .int .i64 1, .int .i64 1] 93) = V := ⟨_, rfl⟩
    obtain ⟨hf, hr, hk⟩ := HW2.out
    have kV : Kept [] W2 V := by rw [← hV]; exact ((Kept.refl [] W2).alloc _).alloc _
    have vy : Pl5 V W2.heap.size (.int .u8 1) (.string nE) (.slice none 0 0) (.int .i64 1) (.int .i64 1) := by rw [← hV]; exact alUp (al0 W2 _) _
    have vn : Pl5 V (W2.heap.size + 1) (.int .u8 2) (.string nE) (.slice none 0 0) (.int .i64 1) (.int .i64 1) := by rw [← hV]; exact al1 W2 _ _
    have vr : Pr10 V (w.heap.size + 1) (.int .u8 0) (.string ⟨#[]⟩) (.slice none 0 0) (.int .i64 0) (.int .i64 0) (.int .u8 0) (.string ⟨#[]⟩) (.slice none 0 0) (.int .i64 0) (.int .i64 0) := hr.kept kV (by simp)
    have kw : Kept [] w V := hk.trans kV (by simp) (by simp)
    rw [hV]
    obtain ⟨f0, f1, f2, -⟩ := (hf.kept kV).cells
    obtain ⟨y0, y1, y2, y3, y4, -⟩ := vy.cells
    obtain ⟨m0, m1, m2, m3, m4, -⟩ := vn.cells
    obtain ⟨⟨r0, r1, r2, r3, r4⟩, ⟨r5, r6, r7, r8, r9⟩, rf⟩ := vr.cells
    have HR : Hid (Pr10 V (w.heap.size + 1) (.int .u8 0) (.string ⟨#[]⟩) (.slice none 0 0) (.int .i64 0) (.int .i64 0) (.int .u8 0) (.string ⟨#[]⟩) (.slice none 0 0) (.int .i64 0) (.int .i64 0)) := vr
    have HKW : Hid (Kept [] w V) := kw
    clear hf hr hk kV vy vn vr kw hV HW2
    go_wp2
    exact ret_pr rfl rfl rfl (HR.out.set (.int .u8 2) (.string nE) (.slice none 0 0) (.int .i64 1) (.int .i64 1) (.int .u8 1) (.string nE) (.slice none 0 0) (.int .i64 1) (.int .i64 1)) ⟨none, 0, none, 0, by simp only [prA, ndLeaf, Nat.reduceEqDiff, if_true, if_false, psz_leaf, pdp_leaf]; rfl, ⟨IsQ.leafs _ rfl none 0, IsQ.leafs _ rfl none 0⟩, kept_set10 HKW.out (.inr (by omega)) _ _ _ _ _ _ _ _ _ _⟩
  · have T0 : Hid True := trivial
    have T1 : Hid True := trivial
    have HF : Hid (∀ W1 W2, Kept [] ((w.alloc (.cells #[.int .u8 3, .string s, .slice ad n c] 25)).alloc (.cells #[.int .u8 0, .string ⟨#[]⟩, .slice none 0 0, .int .i64 0, .int .i64 0, .int .u8 0, .string ⟨#[]⟩, .slice none 0 0, .int .i64 0, .int .i64 0] 95)) W1 → Kept [] W1 W2 → For3 W2 w.heap.size (.int .u8 3) (.string s) (.slice ad n c) ∧ Pr10 W2 (w.heap.size + 1) (.int .u8 0) (.string ⟨#[]⟩) (.slice none 0 0) (.int .i64 0) (.int .i64 0) (.int .u8 0) (.string ⟨#[]⟩) (.slice none 0 0) (.int .i64 0) (.int .i64 0) ∧ Kept [] w W2) := fun W1 W2 k1 k2 => by
      have k := k1.trans k2 (H := []) (by simp) (by simp)
      exact ⟨k.at (alUp (al0 w _) _) (by simp), k.at (al1 w _ _) (by simp), (((Kept.refl [] w).alloc _).alloc _).trans k (by simp) (by simp)⟩
    go_enter Tryd.func105, Tryd.ntmps105
    go_upto_region 2 with (first
      | (clear T0; go_at_call 136; refine (HY.out _).mono ?_; rintro e W1 ⟨rfl, k1⟩; have HK1 : Hid _ := k1; clear k1)
      | (clear T1; go_at_call 136; refine (HN.out _).mono ?_; rintro e W2 ⟨rfl, k2⟩; have HW2 : Hid _ := HF.out W1 W2 HK1.out k2; clear k2))
    obtain ⟨V, hV⟩ : ∃ V, (W2.alloc (.cells #[.int .u8 1, .string nE, .slice none 0 0, .int .i64 1, .int .i64 1] 93)).alloc (.cells #[.int .u8 2, .string nE, .slice none 0 0, .int .i64 1, .int .i64 1] 93) = V := ⟨_, rfl⟩
    obtain ⟨hf, hr, hk⟩ := HW2.out
    have kV : Kept [] W2 V := by rw [← hV]; exact ((Kept.refl [] W2).alloc _).alloc _
    have vy : Pl5 V W2.heap.size (.int .u8 1) (.string nE) (.slice none 0 0) (.int .i64 1) (.int .i64 1) := by rw [← hV]; exact alUp (al0 W2 _) _
    have vn : Pl5 V (W2.heap.size + 1) (.int .u8 2) (.string nE) (.slice none 0 0) (.int .i64 1) (.int .i64 1) := by rw [← hV]; exact al1 W2 _ _
    have vr : Pr10 V (w.heap.size + 1) (.int .u8 0) (.string ⟨#[]⟩) (.slice none 0 0) (.int .i64 0) (.int .i64 0) (.int .u8 0) (.string ⟨#[]⟩) (.slice none 0 0) (.int .i64 0) (.int .i64 0) := hr.kept kV (by simp)
    have kw : Kept [] w V := hk.trans kV (by simp) (by simp)
    rw [hV]
    obtain ⟨f0, f1, f2, -⟩ := (hf.kept kV).cells
    obtain ⟨y0, y1, y2, y3, y4, -⟩ := vy.cells
    obtain ⟨m0, m1, m2, m3, m4, -⟩ := vn.cells
    obtain ⟨⟨r0, r1, r2, r3, r4⟩, ⟨r5, r6, r7, r8, r9⟩, rf⟩ := vr.cells
    have HR : Hid (Pr10 V (w.heap.size + 1) (.int .u8 0) (.string ⟨#[]⟩) (.slice none 0 0) (.int .i64 0) (.int .i64 0) (.int .u8 0) (.string ⟨#[]⟩) (.slice none 0 0) (.int .i64 0) (.int .i64 0)) := vr
    have HKW : Hid (Kept [] w V) := kw
    have HF3 : Hid (For3 V w.heap.size (.int .u8 3) (.string s) (.slice ad n c)) := hf.kept kV
    clear hf hr hk kV vy vn vr kw hV HW2
    have HC : Hid (∀ W1, Kept [] V W1 → For3 (W1.alloc (.cells #[.int .u8 3, .string s, .slice none 0 0, .int .i64 1, .int .i64 1] 93)) w.heap.size (.int .u8 3) (.string s) (.slice ad n c) ∧ Pr10 (W1.alloc (.cells #[.int .u8 3, .string s, .slice none 0 0, .int .i64 1, .int .i64 1] 93)) (w.heap.size + 1) (.int .u8 0) (.string ⟨#[]⟩) (.slice none 0 0) (.int .i64 0) (.int .i64 0) (.int .u8 0) (.string ⟨#[]⟩) (.slice none 0 0) (.int .i64 0) (.int .i64 0) ∧ Kept [] w (W1.alloc (.cells #[.int .u8 3, .string s, .slice none 0 0, .int .i64 1, .int .i64 1] 93)) ∧ w.heap.size + 1 < W1.heap.size) := fun W1 k => ⟨((Kept.refl [] W1).alloc _).at (k.at HF3.out (by simp)) (by simp), (HR.out.kept k (by simp)).kept ((Kept.refl [] W1).alloc _) (by simp), (HKW.out.trans k (H := []) (by simp) (by simp)).alloc _, Nat.lt_of_lt_of_le (lt_of HR.out) k.size⟩
    go_upto_region 9 with (go_at_call 136; refine (HPR.out _).mono ?_; rintro e W3 ⟨rfl, k3⟩; have HK3 : Hid (Kept [] V W3) := k3; have h1 := (fun o => cell_kept0 (k3.alloc o) f1); have l3 : w.heap.size + 1 < W3.heap.size := (Nat.lt_of_lt_of_le (lt_of HR.out) k3.size); have n1 : ¬ w.heap.size = W3.heap.size := (by omega); have n2 : ¬ W3.heap.size = w.heap.size := (by omega); clear k3)
    obtain ⟨U, hU⟩ : ∃ U, W3.alloc (.cells #[.int .u8 3, .string s, .slice none 0 0, .int .i64 1, .int .i64 1] 93) = U := ⟨_, rfl⟩
    obtain ⟨_, ur, uk, _⟩ := HC.out W3 HK3.out
    rw [hU] at ur uk ⊢
    have up : Pl5 U W3.heap.size (.int .u8 3) (.string s) (.slice none 0 0) (.int .i64 1) (.int .i64 1) := by rw [← hU]; exact al0 W3 _
    have zU : U.heap.size = W3.heap.size + 1 := by rw [← hU]; simp
    have hY : ∀ k, U.heap.size ≤ k → X k ∧ k ≠ w.heap.size + 1 := fun k hk => ⟨HX.out k (by omega), by omega⟩
    have HJ : Hid (∀ (W : World) (B : Nat), Kept [] U W → U.heap.size ≤ B → W.heap[B]? = some (.cells #[.int .u8 3, .string s, .slice none 0 0, .int .i64 1, .int .i64 1] 93 (0, 0)) → Calls Tryd.prog 136 #[.int .u8 4, .slice (some ⟨B, 0, none⟩) 1 1] W fun e w' => e = .returned (.agg #[.int .u8 4, .string nE, .slice (some ⟨B, 0, none⟩) 1 1, .int .i64 2, .int .i64 2]) ∧ IsQ (fun b => X b ∧ b ≠ w.heap.size + 1) w' (nn1 4 ⟨3, s, []⟩) (.slice (some ⟨B, 0, none⟩) 1 1) ∧ Kept [] W w') := fun W B kW hB hg => by
      have hQ : IsQ (fun b => X b ∧ b ≠ w.heap.size + 1) W (nn1 4 ⟨3, s, []⟩) (.slice (some ⟨B, 0, none⟩) 1 1) := isQ_one (hY B hB) (by rw [psz_0, pdp_0]; exact hg) (IsQ.leafs W rfl none 0)
      refine (planOf_any 4 [⟨3, s, []⟩] (some ⟨B, 0, none⟩) 1 W hQ.isP (show 1 ≤ 1000 by decide)).mono ?_
      rintro e w' ⟨rfl, k⟩
      refine ⟨?_, hQ.kept k, k⟩
      rw [show psz ⟨4, nE, [⟨3, s, []⟩]⟩ = 2 from psz_n 4 s, show pdp ⟨4, nE, [⟨3, s, []⟩]⟩ = 2 from pdp_n 4 s]; rfl
    obtain ⟨p0, p1, p2, p3, p4, -⟩ := up.cells
    have HS : Hid (∀ w', Kept [w.heap.size + 1] U w' → w'.cell? ⟨W3.heap.size, 0, none⟩ = some (.int .u8 3) ∧ w'.cell? ⟨W3.heap.size, 1, none⟩ = some (.string s) ∧ w'.cell? ⟨W3.heap.size, 2, none⟩ = some (.slice none 0 0) ∧ w'.cell? ⟨W3.heap.size, 3, none⟩ = some (.int .i64 1) ∧ w'.cell? ⟨W3.heap.size, 4, none⟩ = some (.int .i64 1)) := fun w' k => ⟨cell_keptF k (by simp; omega) p0, cell_keptF k (by simp; omega) p1, cell_keptF k (by simp; omega) p2, cell_keptF k (by simp; omega) p3, cell_keptF k (by simp; omega) p4⟩
    have HRU : Hid (∀ W, Kept [] U W → Pr10 W (w.heap.size + 1) (.int .u8 0) (.string ⟨#[]⟩) (.slice none 0 0) (.int .i64 0) (.int .i64 0) (.int .u8 0) (.string ⟨#[]⟩) (.slice none 0 0) (.int .i64 0) (.int .i64 0)) := fun W k => ur.kept k (by simp)
    have HKU : Hid (Kept [] w U) := uk
    clear hU ur uk up zU hY f0 f1 f2 y0 y1 y2 y3 y4 m0 m1 m2 m3 m4 r0 r1 r2 r3 r4 r5 r6 r7 r8 r9 rf h1
    go_region_held3 (fun w' => w'.cell? ⟨W3.heap.size, 0, none⟩ = some (.int .u8 3) ∧ w'.cell? ⟨W3.heap.size, 1, none⟩ = some (.string s) ∧ w'.cell? ⟨W3.heap.size, 2, none⟩ = some (.slice none 0 0) ∧ w'.cell? ⟨W3.heap.size, 3, none⟩ = some (.int .i64 1) ∧ w'.cell? ⟨W3.heap.size, 4, none⟩ = some (.int .i64 1))
      ((refine HS.out _ ?_; (repeat (first | (with_reducible exact Kept.refl _ _) | (with_reducible refine Kept.drew ?_) | (with_reducible refine Kept.alloc ?_ _) | (with_reducible refine Kept.setCell ?_ (Or.inl (by simp)) _) | with_reducible refine Kept.trans (F := [w.heap.size + 1]) (G := []) (H := [w.heap.size + 1]) ?_ HK4.out (by simp) (by simp)))))
      ((go_at_call 136; refine (HJ.out _ _ (by repeat (first | with_reducible exact Kept.refl [] _ | with_reducible refine Kept.drew ?_ | with_reducible refine Kept.alloc ?_ _)) (by omega) (by exact al0 _ _)).mono ?_; rintro e W4 ⟨rfl, q4, k4⟩; have HKU4 : Hid (Kept [] U W4) := Kept.trans (F := []) (G := []) (H := []) (by repeat (first | with_reducible exact Kept.refl [] _ | with_reducible refine Kept.drew ?_ | with_reducible refine Kept.alloc ?_ _)) k4 (by simp) (by simp); have HK4 : Hid (Kept [] _ W4) := k4; have HP4 : Hid (IsQ (fun b => X b ∧ b ≠ w.heap.size + 1) W4 (nn1 4 ⟨3, s, []⟩) _) := q4; obtain ⟨⟨r0, r1, r2, r3, r4⟩, ⟨r5, r6, r7, r8, r9⟩, rf⟩ := (HRU.out W4 HKU4.out).cells; clear q4 k4))
    all_goals go_wp2
    all_goals
      refine ret_pr rfl rfl rfl ((HRU.out W4 HKU4.out).set (.int .u8 3) (.string s) (.slice none 0 0) (.int .i64 1) (.int .i64 1) (.int .u8 4) (.string nE) _ (.int .i64 2) (.int .i64 2)) ⟨none, 0, _, 1, ?_, ⟨IsQ.leafs _ rfl none 0, HP4.out.set10 _ _ _ _ _ _ _ _ _ _⟩, kept_set10 (HKU.out.trans HKU4.out (by simp) (by simp)) (.inr (by omega)) _ _ _ _ _ _ _ _ _ _⟩
      simp only [prA, ndLeaf, Nat.reduceEqDiff, if_false, psz_0, pdp_0]
      rw [show psz (nn1 4 ⟨3, s, []⟩) = 2 from psz_n 4 s, show pdp (nn1 4 ⟨3, s, []⟩) = 2 from pdp_n 4 s]; rfl
end Go.Proofs.YtnpeghaficghaaaDoor
