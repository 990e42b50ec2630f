/- nnf.leafPlans, nnf.plans: the plans of a leaf; the table of columns. -/
import Derived.Test.YtddgciilcghbaaaDoorNnOnesM
import Derived.Test.YtddgciilcghbaaaDoorNnCols2M
import Derived.Great.BuildSlice
import Derived.Great.Walk
import Derived.Deep.CutRange
namespace Go.Proofs.YtddgciilcghbaaaDoor
open Go.RowKit Go.Shelf

theorem psz_0 (o : Nat) (s : ByteArray) : psz ⟨o, s, []⟩ = 1 := by unfold psz; rw [Tr.size_eq]; rfl
theorem pdp_0 (o : Nat) (s : ByteArray) : pdp ⟨o, s, []⟩ = 1 := by unfold pdp; rw [Tr.depth_eq]; rfl
theorem psz_n (o : Nat) (s : ByteArray) : psz ⟨o, nE, [⟨3, s, []⟩]⟩ = 2 := by
  unfold psz; rw [Tr.size_eq]; simp only [List.map_cons, List.map_nil]; rw [Tr.size_eq]; rfl
theorem pdp_n (o : Nat) (s : ByteArray) : pdp ⟨o, nE, [⟨3, s, []⟩]⟩ = 2 := by
  unfold pdp; rw [Tr.depth_eq]; simp only [List.map_cons, List.map_nil]; rw [Tr.depth_eq]; rfl
/-- planOf of no kids. -/
theorem planOf_0 (o : Nat) (w : World) : Calls Tryd.prog 135 #[.int .u8 (o : Nat), .slice none 0 0] w fun e w' => e = .returned (.agg #[.int .u8 (o : Nat), .string nE, .slice none 0 0, .int .i64 1, .int .i64 1]) ∧ Kept [] w w' := by
  have := planOf_any o [] none 0 w (IsP.leaf w rfl none 0) (by decide)
  rw [psz_0, pdp_0] at this
  exact this
set_option maxHeartbeats 1000000 in
set_option maxRecDepth 20000 in
theorem leafPlans_any (o : Nat) (s : ByteArray) (ad : Option Addr) (n c : Nat) (w : World) (ho : Lf o) (X : Nat → Prop) (hX : ∀ k, w.heap.size ≤ k → X k) :
    Calls Tryd.prog 104 #[.agg #[.int .u8 (o : Nat), .string s, .slice ad n c]] w fun e w' => ∃ u1 u2 u3 u4, e = .returned (prA (ndLeaf ⟨o, s, []⟩) u1 u2 u3 u4) ∧ IsR X w' (ndLeaf ⟨o, s, []⟩) u1 u2 u3 u4 ∧ Kept [] w w' := by
  have HX : Hid (∀ k, w.heap.size ≤ k → X k) := hX
  have HY : Hid (∀ W, Calls Tryd.prog 135 #[.int .u8 1, .slice none 0 0] W fun e w' => e = .returned (.agg #[.int .u8 1, .string nE, .slice none 0 0, .int .i64 1, .int .i64 1]) ∧ Kept [] W w') := planOf_0 1
  have HN : Hid (∀ W, Calls Tryd.prog 135 #[.int .u8 2, .slice none 0 0] W fun e w' => e = .returned (.agg #[.int .u8 2, .string nE, .slice none 0 0, .int .i64 1, .int .i64 1]) ∧ Kept [] W w') := planOf_0 2
  have HPR : Hid (∀ W, Calls Tryd.prog 135 #[.int .u8 3, .slice none 0 0] W fun e w' => e = .returned (.agg #[.int .u8 3, .string nE, .slice none 0 0, .int .i64 1, .int .i64 1]) ∧ Kept [] W w') := planOf_0 3
  clear hX
  rcases ho with rfl | rfl | rfl
  · have T0 : Hid True := trivial
    have T1 : Hid True := trivial
    have HF : Hid (∀ W1 W2, Kept [] ((w.alloc (.cells #[.int .u8 1, .string s, .slice ad n c] 25)).alloc (.cells #[.int .u8 0, .string ⟨#[]⟩, .slice none 0 0, .int .i64 0, .int .i64 0, .int .u8 0, .string ⟨#[]⟩, .slice none 0 0, .int .i64 0, .int .i64 0] 95)) W1 → Kept [] W1 W2 → For3 W2 w.heap.size (.int .u8 1) (.string s) (.slice ad n c) ∧ Pr10 W2 (w.heap.size + 1) (.int .u8 0) (.string ⟨#[]⟩) (.slice none 0 0) (.int .i64 0) (.int .i64 0) (.int .u8 0) (.string ⟨#[]⟩) (.slice none 0 0) (.int .i64 0) (.int .i64 0) ∧ Kept [] w W2) := fun W1 W2 k1 k2 => by
      have k := k1.trans k2 (H := []) (by simp) (by simp)
      exact ⟨k.at (alUp (al0 w _) _) (by simp), k.at (al1 w _ _) (by simp), (((Kept.refl [] w).alloc _).alloc _).trans k (by simp) (by simp)⟩
    go_enter Tryd.func104, Tryd.ntmps104
    go_upto_region 2 with (first
      | (clear T0; go_at_call 135; refine (HY.out _).mono ?_; rintro e W1 ⟨rfl, k1⟩; have HK1 : Hid _ := k1; clear k1)
      | (clear T1; go_at_call 135; refine (HN.out _).mono ?_; rintro e W2 ⟨rfl, k2⟩; have HW2 : Hid _ := HF.out W1 W2 HK1.out k2; clear k2))
    obtain ⟨V, hV⟩ : ∃ V, (W2.alloc (.cells #[.int .u8 1, .string nE, .slice none 0 0, .int .i64 1, .int .i64 1] 93)).alloc (.cells #[.int .u8 2, .string nE, .slice none 0 0, .int .i64 1, .int .i64 1] 93) = V := ⟨_, rfl⟩
    obtain ⟨hf, hr, hk⟩ := HW2.out
    have kV : Kept [] W2 V := by rw [← hV]; exact ((Kept.refl [] W2).alloc _).alloc _
    have vy : Pl5 V W2.heap.size (.int .u8 1) (.string nE) (.slice none 0 0) (.int .i64 1) (.int .i64 1) := by rw [← hV]; exact alUp (al0 W2 _) _
    have vn : Pl5 V (W2.heap.size + 1) (.int .u8 2) (.string nE) (.slice none 0 0) (.int .i64 1) (.int .i64 1) := by rw [← hV]; exact al1 W2 _ _
    have vr : Pr10 V (w.heap.size + 1) (.int .u8 0) (.string ⟨#[]⟩) (.slice none 0 0) (.int .i64 0) (.int .i64 0) (.int .u8 0) (.string ⟨#[]⟩) (.slice none 0 0) (.int .i64 0) (.int .i64 0) := hr.kept kV (by simp)
    have kw : Kept [] w V := hk.trans kV (by simp) (by simp)
    rw [hV]
    obtain ⟨f0, f1, f2, -⟩ := (hf.kept kV).cells
    obtain ⟨y0, y1, y2, y3, y4, -⟩ := vy.cells
    obtain ⟨m0, m1, m2, m3, m4, -⟩ := vn.cells
    obtain ⟨⟨r0, r1, r2, r3, r4⟩, ⟨r5, r6, r7, r8, r9⟩, rf⟩ := vr.cells
    have HR : Hid (Pr10 V (w.heap.size + 1) (.int .u8 0) (.string ⟨#[]⟩) (.slice none 0 0) (.int .i64 0) (.int .i64 0) (.int .u8 0) (.string ⟨#[]⟩) (.slice none 0 0) (.int .i64 0) (.int .i64 0)) := vr
    have HKW : Hid (Kept [] w V) := kw
    clear hf hr hk kV vy vn vr kw hV HW2
    go_wp2
    exact ret_pr rfl rfl rfl (HR.out.set (.int .u8 1) (.string nE) (.slice none 0 0) (.int .i64 1) (.int .i64 1) (.int .u8 2) (.string nE) (.slice none 0 0) (.int .i64 1) (.int .i64 1)) ⟨none, 0, none, 0, by simp only [prA, ndLeaf, Nat.reduceEqDiff, if_true, if_false, psz_leaf, pdp_leaf]; rfl, ⟨IsQ.leafs _ rfl none 0, IsQ.leafs _ rfl none 0⟩, kept_set10 HKW.out (.inr (by omega)) _ _ _ _ _ _ _ _ _ _⟩
  · have T0 : Hid True := trivial
    have T1 : Hid True := trivial
    have HF : Hid (∀ W1 W2, Kept [] ((w.alloc (.cells #[.int .u8 2, .string s, .slice ad n c] 25)).alloc (.cells #[.int .u8 0, .string ⟨#[]⟩, .slice none 0 0, .int .i64 0, .int .i64 0, .int .u8 0, .string ⟨#[]⟩, .slice none 0 0, .int .i64 0, .int .i64 0] 95)) W1 → Kept [] W1 W2 → For3 W2 w.heap.size (.int .u8 2) (.string s) (.slice ad n c) ∧ Pr10 W2 (w.heap.size + 1) (.int .u8 0) (.string ⟨#[]⟩) (.slice none 0 0) (.int .i64 0) (.int .i64 0) (.int .u8 0) (.string ⟨#[]⟩) (.slice none 0 0) (.int .i64 0) (.int .i64 0) ∧ Kept [] w W2) := fun W1 W2 k1 k2 => by
      have k := k1.trans k2 (H := []) (by simp) (by simp)
      exact ⟨k.at (alUp (al0 w _) _) (by simp), k.at (al1 w _ _) (by simp), (((Kept.refl [] w).alloc _).alloc _).trans k (by simp) (by simp)⟩
    go_enter Tryd.func104, Tryd.ntmps104
    go_upto_region 2 with (first
      | (clear T0; go_at_call 135; refine (HY.out _).mono ?_; rintro e W1 ⟨rfl, k1⟩; have HK1 : Hid _ := k1; clear k1)
      | (clear T1; go_at_call 135; refine (HN.out _).mono ?_; rintro e W2 ⟨rfl, k2⟩; have HW2 : Hid _ := HF.out W1 W2 HK1.out k2; clear k2))
    obtain ⟨V, hV⟩ : ∃ V, (W2.alloc (.cells #[.int .u8 1, .string nE, .slice none 0 0, .int .i64 1, .int .i64 1] 93)).alloc (.cells #[.int .u8 2, .string nE, .slice none 0 0, .int .i64 1, .int .i64 1] 93) = V := ⟨_, rfl⟩
    obtain ⟨hf, hr, hk⟩ := HW2.out
    have kV : Kept [] W2 V := by rw [← hV]; exact ((Kept.refl [] W2).alloc _).alloc _
    have vy : Pl5 V W2.heap.size (.int .u8 1) (.string nE) (.slice none 0 0) (.int .i64 1) (.int .i64 1) := by rw [← hV]; exact alUp (al0 W2 _) _
    have vn : Pl5 V (W2.heap.size + 1) (.int .u8 2) (.string nE) (.slice none 0 0) (.int .i64 1) (.int .i64 1) := by rw [← hV]; exact al1 W2 _ _
    have vr : Pr10 V (w.heap.size + 1) (.int .u8 0) (.string ⟨#[]⟩) (.slice none 0 0) (.int .i64 0) (.int .i64 0) (.int .u8 0) (.string ⟨#[]⟩) (.slice none 0 0) (.int .i64 0) (.int .i64 0) := hr.kept kV (by simp)
    have kw : Kept [] w V := hk.trans kV (by simp) (by simp)
    rw [hV]
    obtain ⟨f0, f1, f2, -⟩ := (hf.kept kV).cells
    obtain ⟨y0, y1, y2, y3, y4, -⟩ := vy.cells
    obtain ⟨m0, m1, m2, m3, m4, -⟩ := vn.cells
    obtain ⟨⟨r0, r1, r2, r3, r4⟩, ⟨r5, r6, r7, r8, r9⟩, rf⟩ := vr.cells
    have HR : Hid (Pr10 V (w.heap.size + 1) (.int .u8 0) (.string ⟨#[]⟩) (.slice none 0 0) (.int .i64 0) (.int .i64 0) (.int .u8 0) (.string ⟨#[]⟩) (.slice none 0 0) (.int .i64 0) (.int .i64 0)) := vr
    have HKW : Hid (Kept [] w V) := kw
    clear hf hr hk kV vy vn vr kw hV HW2
    go_wp2
    exact ret_pr rfl rfl rfl (HR.out.set (.int .u8 2) (.string nE) (.slice none 0 0) (.int .i64 1) (.int .i64 1) (.int .u8 1) (.string nE) (.slice none 0 0) (.int .i64 1) (.int .i64 1)) ⟨none, 0, none, 0, by simp only [prA, ndLeaf, Nat.reduceEqDiff, if_true, if_false, psz_leaf, pdp_leaf]; rfl, ⟨IsQ.leafs _ rfl none 0, IsQ.leafs _ rfl none 0⟩, kept_set10 HKW.out (.inr (by omega)) _ _ _ _ _ _ _ _ _ _⟩
  · have T0 : Hid True := trivial
    have T1 : Hid True := trivial
    have HF : Hid (∀ W1 W2, Kept [] ((w.alloc (.cells #[.int .u8 3, .string s, .slice ad n c] 25)).alloc (.cells #[.int .u8 0, .string ⟨#[]⟩, .slice none 0 0, .int .i64 0, .int .i64 0, .int .u8 0, .string ⟨#[]⟩, .slice none 0 0, .int .i64 0, .int .i64 0] 95)) W1 → Kept [] W1 W2 → For3 W2 w.heap.size (.int .u8 3) (.string s) (.slice ad n c) ∧ Pr10 W2 (w.heap.size + 1) (.int .u8 0) (.string ⟨#[]⟩) (.slice none 0 0) (.int .i64 0) (.int .i64 0) (.int .u8 0) (.string ⟨#[]⟩) (.slice none 0 0) (.int .i64 0) (.int .i64 0) ∧ Kept [] w W2) := fun W1 W2 k1 k2 => by
      have k := k1.trans k2 (H := []) (by simp) (by simp)
      exact ⟨k.at (alUp (al0 w _) _) (by simp), k.at (al1 w _ _) (by simp), (((Kept.refl [] w).alloc _).alloc _).trans k (by simp) (by simp)⟩
    go_enter Tryd.func104, Tryd.ntmps104
    go_upto_region 2 with (first
      | (clear T0; go_at_call 135; refine (HY.out _).mono ?_; rintro e W1 ⟨rfl, k1⟩; have HK1 : Hid _ := k1; clear k1)
      | (clear T1; go_at_call 135; refine (HN.out _).mono ?_; rintro e W2 ⟨rfl, k2⟩; have HW2 : Hid _ := HF.out W1 W2 HK1.out k2; clear k2))
    obtain ⟨V, hV⟩ : ∃ V, (W2.alloc (.cells #[.int .u8 1, .string nE, .slice none 0 0, .int .i64 1, .int .i64 1] 93)).alloc (.cells #[.int .u8 2, .string nE, .slice none 0 0, .int .i64 1, .int .i64 1] 93) = V := ⟨_, rfl⟩
    obtain ⟨hf, hr, hk⟩ := HW2.out
    have kV : Kept [] W2 V := by rw [← hV]; exact ((Kept.refl [] W2).alloc _).alloc _
    have vy : Pl5 V W2.heap.size (.int .u8 1) (.string nE) (.slice none 0 0) (.int .i64 1) (.int .i64 1) := by rw [← hV]; exact alUp (al0 W2 _) _
    have vn : Pl5 V (W2.heap.size + 1) (.int .u8 2) (.string nE) (.slice none 0 0) (.int .i64 1) (.int .i64 1) := by rw [← hV]; exact al1 W2 _ _
    have vr : Pr10 V (w.heap.size + 1) (.int .u8 0) (.string ⟨#[]⟩) (.slice none 0 0) (.int .i64 0) (.int .i64 0) (.int .u8 0) (.string ⟨#[]⟩) (.slice none 0 0) (.int .i64 0) (.int .i64 0) := hr.kept kV (by simp)
    have kw : Kept [] w V := hk.trans kV (by simp) (by simp)
    rw [hV]
    obtain ⟨f0, f1, f2, -⟩ := (hf.kept kV).cells
    obtain ⟨y0, y1, y2, y3, y4, -⟩ := vy.cells
    obtain ⟨m0, m1, m2, m3, m4, -⟩ := vn.cells
    obtain ⟨⟨r0, r1, r2, r3, r4⟩, ⟨r5, r6, r7, r8, r9⟩, rf⟩ := vr.cells
    have HR : Hid (Pr10 V (w.heap.size + 1) (.int .u8 0) (.string ⟨#[]⟩) (.slice none 0 0) (.int .i64 0) (.int .i64 0) (.int .u8 0) (.string ⟨#[]⟩) (.slice none 0 0) (.int .i64 0) (.int .i64 0)) := vr
    have HKW : Hid (Kept [] w V) := kw
    have HF3 : Hid (For3 V w.heap.size (.int .u8 3) (.string s) (.slice ad n c)) := hf.kept kV
    clear hf hr hk kV vy vn vr kw hV HW2
    have HC : Hid (∀ W1, Kept [] V W1 → For3 (W1.alloc (.cells #[.int .u8 3, .string s, .slice none 0 0, .int .i64 1, .int .i64 1] 93)) w.heap.size (.int .u8 3) (.string s) (.slice ad n c) ∧ Pr10 (W1.alloc (.cells #[.int .u8 3, .string s, .slice none 0 0, .int .i64 1, .int .i64 1] 93)) (w.heap.size + 1) (.int .u8 0) (.string ⟨#[]⟩) (.slice none 0 0) (.int .i64 0) (.int .i64 0) (.int .u8 0) (.string ⟨#[]⟩) (.slice none 0 0) (.int .i64 0) (.int .i64 0) ∧ Kept [] w (W1.alloc (.cells #[.int .u8 3, .string s, .slice none 0 0, .int .i64 1, .int .i64 1] 93)) ∧ w.heap.size + 1 < W1.heap.size) := fun W1 k => ⟨((Kept.refl [] W1).alloc _).at (k.at HF3.out (by simp)) (by simp), (HR.out.kept k (by simp)).kept ((Kept.refl [] W1).alloc _) (by simp), (HKW.out.trans k (H := []) (by simp) (by simp)).alloc _, Nat.lt_of_lt_of_le (lt_of HR.out) k.size⟩
    go_upto_region 9 with (go_at_call 135; refine (HPR.out _).mono ?_; rintro e W3 ⟨rfl, k3⟩; have HK3 : Hid (Kept [] V W3) := k3; have h1 := (fun o => cell_kept0 (k3.alloc o) f1); have l3 : w.heap.size + 1 < W3.heap.size := (Nat.lt_of_lt_of_le (lt_of HR.out) k3.size); have n1 : ¬ w.heap.size = W3.heap.size := (by omega); have n2 : ¬ W3.heap.size = w.heap.size := (by omega); clear k3)
    obtain ⟨U, hU⟩ : ∃ U, W3.alloc (.cells #[.int .u8 3, .string s, .slice none 0 0, .int .i64 1, .int .i64 1] 93) = U := ⟨_, rfl⟩
    obtain ⟨_, ur, uk, _⟩ := HC.out W3 HK3.out
    rw [hU] at ur uk ⊢
    have up : Pl5 U W3.heap.size (.int .u8 3) (.string s) (.slice none 0 0) (.int .i64 1) (.int .i64 1) := by rw [← hU]; exact al0 W3 _
    have zU : U.heap.size = W3.heap.size + 1 := by rw [← hU]; simp
    have hY : ∀ k, U.heap.size ≤ k → X k ∧ k ≠ w.heap.size + 1 := fun k hk => ⟨HX.out k (by omega), by omega⟩
    have HJ : Hid (∀ (W : World) (B : Nat), Kept [] U W → U.heap.size ≤ B → W.heap[B]? = some (.cells #[.int .u8 3, .string s, .slice none 0 0, .int .i64 1, .int .i64 1] 93 (0, 0)) → Calls Tryd.prog 135 #[.int .u8 4, .slice (some ⟨B, 0, none⟩) 1 1] W fun e w' => e = .returned (.agg #[.int .u8 4, .string nE, .slice (some ⟨B, 0, none⟩) 1 1, .int .i64 2, .int .i64 2]) ∧ IsQ (fun b => X b ∧ b ≠ w.heap.size + 1) w' (nn1 4 ⟨3, s, []⟩) (.slice (some ⟨B, 0, none⟩) 1 1) ∧ Kept [] W w') := fun W B kW hB hg => by
      have hQ : IsQ (fun b => X b ∧ b ≠ w.heap.size + 1) W (nn1 4 ⟨3, s, []⟩) (.slice (some ⟨B, 0, none⟩) 1 1) := isQ_one (hY B hB) (by rw [psz_0, pdp_0]; exact hg) (IsQ.leafs W rfl none 0)
      refine (planOf_any 4 [⟨3, s, []⟩] (some ⟨B, 0, none⟩) 1 W hQ.isP (show 1 ≤ 1000 by decide)).mono ?_
      rintro e w' ⟨rfl, k⟩
      refine ⟨?_, hQ.kept k, k⟩
      rw [show psz ⟨4, nE, [⟨3, s, []⟩]⟩ = 2 from psz_n 4 s, show pdp ⟨4, nE, [⟨3, s, []⟩]⟩ = 2 from pdp_n 4 s]; rfl
    obtain ⟨p0, p1, p2, p3, p4, -⟩ := up.cells
    have HS : Hid (∀ w', Kept [w.heap.size + 1] U w' → w'.cell? ⟨W3.heap.size, 0, none⟩ = some (.int .u8 3) ∧ w'.cell? ⟨W3.heap.size, 1, none⟩ = some (.string s) ∧ w'.cell? ⟨W3.heap.size, 2, none⟩ = some (.slice none 0 0) ∧ w'.cell? ⟨W3.heap.size, 3, none⟩ = some (.int .i64 1) ∧ w'.cell? ⟨W3.heap.size, 4, none⟩ = some (.int .i64 1)) := fun w' k => ⟨cell_keptF k (by simp; omega) p0, cell_keptF k (by simp; omega) p1, cell_keptF k (by simp; omega) p2, cell_keptF k (by simp; omega) p3, cell_keptF k (by simp; omega) p4⟩
    have HRU : Hid (∀ W, Kept [] U W → Pr10 W (w.heap.size + 1) (.int .u8 0) (.string ⟨#[]⟩) (.slice none 0 0) (.int .i64 0) (.int .i64 0) (.int .u8 0) (.string ⟨#[]⟩) (.slice none 0 0) (.int .i64 0) (.int .i64 0)) := fun W k => ur.kept k (by simp)
    have HKU : Hid (Kept [] w U) := uk
    clear hU ur uk up zU hY f0 f1 f2 y0 y1 y2 y3 y4 m0 m1 m2 m3 m4 r0 r1 r2 r3 r4 r5 r6 r7 r8 r9 rf h1
    go_region_held3 (fun w' => w'.cell? ⟨W3.heap.size, 0, none⟩ = some (.int .u8 3) ∧ w'.cell? ⟨W3.heap.size, 1, none⟩ = some (.string s) ∧ w'.cell? ⟨W3.heap.size, 2, none⟩ = some (.slice none 0 0) ∧ w'.cell? ⟨W3.heap.size, 3, none⟩ = some (.int .i64 1) ∧ w'.cell? ⟨W3.heap.size, 4, none⟩ = some (.int .i64 1))
      ((refine HS.out _ ?_; (repeat (first | (with_reducible exact Kept.refl _ _) | (with_reducible refine Kept.drew ?_) | (with_reducible refine Kept.alloc ?_ _) | (with_reducible refine Kept.setCell ?_ (Or.inl (by simp)) _) | with_reducible refine Kept.trans (F := [w.heap.size + 1]) (G := []) (H := [w.heap.size + 1]) ?_ HK4.out (by simp) (by simp)))))
      ((go_at_call 135; refine (HJ.out _ _ (by repeat (first | with_reducible exact Kept.refl [] _ | with_reducible refine Kept.drew ?_ | with_reducible refine Kept.alloc ?_ _)) (by omega) (by exact al0 _ _)).mono ?_; rintro e W4 ⟨rfl, q4, k4⟩; have HKU4 : Hid (Kept [] U W4) := Kept.trans (F := []) (G := []) (H := []) (by repeat (first | with_reducible exact Kept.refl [] _ | with_reducible refine Kept.drew ?_ | with_reducible refine Kept.alloc ?_ _)) k4 (by simp) (by simp); have HK4 : Hid (Kept [] _ W4) := k4; have HP4 : Hid (IsQ (fun b => X b ∧ b ≠ w.heap.size + 1) W4 (nn1 4 ⟨3, s, []⟩) _) := q4; obtain ⟨⟨r0, r1, r2, r3, r4⟩, ⟨r5, r6, r7, r8, r9⟩, rf⟩ := (HRU.out W4 HKU4.out).cells; clear q4 k4))
    all_goals go_wp2
    all_goals
      refine ret_pr rfl rfl rfl ((HRU.out W4 HKU4.out).set (.int .u8 3) (.string s) (.slice none 0 0) (.int .i64 1) (.int .i64 1) (.int .u8 4) (.string nE) _ (.int .i64 2) (.int .i64 2)) ⟨none, 0, _, 1, ?_, ⟨IsQ.leafs _ rfl none 0, HP4.out.set10 _ _ _ _ _ _ _ _ _ _⟩, kept_set10 (HKU.out.trans HKU4.out (by simp) (by simp)) (.inr (by omega)) _ _ _ _ _ _ _ _ _ _⟩
      simp only [prA, ndLeaf, Nat.reduceEqDiff, if_false, psz_0, pdp_0]
      rw [show psz (nn1 4 ⟨3, s, []⟩) = 2 from psz_n 4 s, show pdp (nn1 4 ⟨3, s, []⟩) = 2 from pdp_n 4 s]; rfl
end Go.Proofs.YtddgciilcghbaaaDoor

/- nnf.plans: the table of columns. -/
namespace Go.Proofs.YtddgciilcghbaaaDoor
open Go.RowKit Go.Shelf

def ptr (b : Nat) : Value := .pointer (some ⟨b, 0, none⟩)
/-- The table, cell by cell: y, n, a, o, u, r are the boxes of yes, no, and, or, until, release. -/
def planTab (y n a o u r : Nat) : Array Value := #[.nilFunc, .nilFunc, .nilFunc, .nilFunc, .func (.func 140) #[] #[], .func (.func 141) #[] #[.pointer (some ⟨a, 0, none⟩), .pointer (some ⟨o, 0, none⟩)], .func (.func 142) #[] #[.pointer (some ⟨o, 0, none⟩), .pointer (some ⟨a, 0, none⟩)], .func (.func 143) #[] #[.pointer (some ⟨o, 0, none⟩), .pointer (some ⟨a, 0, none⟩)],
  .func (.func 144) #[] #[.pointer (some ⟨o, 0, none⟩), .pointer (some ⟨a, 0, none⟩)], .func (.func 145) #[] #[], .func (.func 146) #[] #[.pointer (some ⟨u, 0, none⟩), .pointer (some ⟨y, 0, none⟩), .pointer (some ⟨r, 0, none⟩), .pointer (some ⟨n, 0, none⟩)], .func (.func 147) #[] #[.pointer (some ⟨r, 0, none⟩), .pointer (some ⟨n, 0, none⟩), .pointer (some ⟨u, 0, none⟩), .pointer (some ⟨y, 0, none⟩)],
  .func (.func 148) #[] #[.pointer (some ⟨u, 0, none⟩), .pointer (some ⟨r, 0, none⟩)], .func (.func 149) #[] #[.pointer (some ⟨r, 0, none⟩), .pointer (some ⟨u, 0, none⟩)], .func (.func 150) #[] #[.pointer (some ⟨r, 0, none⟩), .pointer (some ⟨o, 0, none⟩), .pointer (some ⟨u, 0, none⟩), .pointer (some ⟨a, 0, none⟩)], .func (.func 151) #[] #[.pointer (some ⟨u, 0, none⟩), .pointer (some ⟨a, 0, none⟩), .pointer (some ⟨r, 0, none⟩), .pointer (some ⟨o, 0, none⟩)]]
structure PlanBox (w : World) (y n a o u r : Nat) : Prop where
  y : Pl5 w y (.int .u8 1) (.string nE) (.slice none 0 0) (.int .i64 1) (.int .i64 1)
  n : Pl5 w n (.int .u8 2) (.string nE) (.slice none 0 0) (.int .i64 1) (.int .i64 1)
  a : FnAt w a 136
  o : FnAt w o 137
  u : FnAt w u 138
  r : FnAt w r 139
/-- The table's functions do what the columns say. -/
def fnCol (op : Nat) : Nat := if op = 4 then 140 else if op = 5 then 141 else if op = 6 then 142 else if op = 7 then 143 else if op = 8 then 144 else if op = 9 then 145 else if op = 10 then 146 else if op = 11 then 147 else if op = 12 then 148 else if op = 13 then 149 else if op = 14 then 150 else 151
theorem col_enters {op : Nat} (ho : Un op ∨ Bi op) : ∀ args w, (callFunc (fnCol op) args).run Tryd.prog w = .ok (.enter (fnCol op) args) w := by
  rcases ho with (rfl | rfl | rfl | rfl) | (rfl | rfl | rfl | rfl | rfl | rfl | rfl | rfl)
  · exact enters_of Tryd.func140 (by kernel_rfl) rfl
  · exact enters_of Tryd.func145 (by kernel_rfl) rfl
  · exact enters_of Tryd.func146 (by kernel_rfl) rfl
  · exact enters_of Tryd.func147 (by kernel_rfl) rfl
  · exact enters_of Tryd.func141 (by kernel_rfl) rfl
  · exact enters_of Tryd.func142 (by kernel_rfl) rfl
  · exact enters_of Tryd.func143 (by kernel_rfl) rfl
  · exact enters_of Tryd.func144 (by kernel_rfl) rfl
  · exact enters_of Tryd.func148 (by kernel_rfl) rfl
  · exact enters_of Tryd.func149 (by kernel_rfl) rfl
  · exact enters_of Tryd.func150 (by kernel_rfl) rfl
  · exact enters_of Tryd.func151 (by kernel_rfl) rfl
theorem tab_one {w0 : World} {y n a o u r op : Nat} (h : PlanBox w0 y n a o u r) (ho : Un op) : ∃ lb, (planTab y n a o u r)[op]? = some (.func (.func (fnCol op)) #[] lb) ∧ ColOne (fnCol op) lb op w0 := by
  rcases ho with rfl | rfl | rfl | rfl
  · exact ⟨_, rfl, col_not w0⟩
  · exact ⟨_, rfl, col_next w0⟩
  · exact ⟨_, rfl, col_event w0 u y r n h.u h.y h.r h.n⟩
  · exact ⟨_, rfl, col_always w0 r n u y h.r h.n h.u h.y⟩
theorem tab_two {w0 : World} {y n a o u r op : Nat} (h : PlanBox w0 y n a o u r) (ho : Bi op) : ∃ lb, (planTab y n a o u r)[op]? = some (.func (.func (fnCol op)) #[] lb) ∧ ColDoes (fnCol op) lb op w0 := by
  rcases ho with rfl | rfl | rfl | rfl | rfl | rfl | rfl | rfl
  · exact ⟨_, rfl, col_and w0 a o h.a h.o⟩
  · exact ⟨_, rfl, col_or w0 o a h.o h.a⟩
  · exact ⟨_, rfl, col_imp w0 o a h.o h.a⟩
  · exact ⟨_, rfl, col_iff w0 o a h.o h.a⟩
  · exact ⟨_, rfl, col_until w0 u r h.u h.r⟩
  · exact ⟨_, rfl, col_release w0 r u h.r h.u⟩
  · exact ⟨_, rfl, col_weak w0 r o u a h.r h.o h.u h.a⟩
  · exact ⟨_, rfl, col_strong w0 u a r o h.u h.a h.r h.o⟩
theorem ret_tab {fn : Func} {p : Tmp} {act : Act} {w : World} {g : Nat} {cs : Array Value} {R : Ending → World → Prop} (h : fn.results = #[.cell p 129]) (hp : act.tmps.getD p undef = .pointer (some ⟨g, 0, none⟩)) (hd : act.defers = []) (hg : w.heap[g]? = some (.cells cs 129 (0, 0))) (hsz : cs.size = 16) (hR : R (.returned (.agg cs)) w) : bodyPost Tryd.prog fn R .ret act w :=
  bodyPost_ret (results_cell_row h _ w g 129 cs _ _ hp hg Tryd.underlying129 rfl (by rw [hsz]; kernel_rfl)) hd hR
def set16 (W : World) (B : Nat) (v0 v1 v2 v3 v4 v5 v6 v7 v8 v9 v10 v11 v12 v13 v14 v15 : Value) : World := ((((((((((((((((W.setCell ⟨B, 0, none⟩ v0).setCell ⟨B, 1, none⟩ v1).setCell ⟨B, 2, none⟩ v2).setCell ⟨B, 3, none⟩ v3).setCell ⟨B, 4, none⟩ v4).setCell ⟨B, 5, none⟩ v5).setCell ⟨B, 6, none⟩ v6).setCell ⟨B, 7, none⟩ v7).setCell ⟨B, 8, none⟩ v8).setCell ⟨B, 9, none⟩ v9).setCell ⟨B, 10, none⟩ v10).setCell ⟨B, 11, none⟩ v11).setCell ⟨B, 12, none⟩ v12).setCell ⟨B, 13, none⟩ v13).setCell ⟨B, 14, none⟩ v14).setCell ⟨B, 15, none⟩ v15)
theorem row_set16 {W : World} {B : Nat} {T : TypeId} {u0 u1 u2 u3 u4 u5 u6 u7 u8 u9 u10 u11 u12 u13 u14 u15 : Value} (h : W.heap[B]? = some (.cells #[u0, u1, u2, u3, u4, u5, u6, u7, u8, u9, u10, u11, u12, u13, u14, u15] T (0, 0))) (v0 v1 v2 v3 v4 v5 v6 v7 v8 v9 v10 v11 v12 v13 v14 v15 : Value) : (set16 W B v0 v1 v2 v3 v4 v5 v6 v7 v8 v9 v10 v11 v12 v13 v14 v15).heap[B]? = some (.cells #[v0, v1, v2, v3, v4, v5, v6, v7, v8, v9, v10, v11, v12, v13, v14, v15] T (0, 0)) := by
  unfold set16; rw [(row_set (row_set (row_set (row_set (row_set (row_set (row_set (row_set (row_set (row_set (row_set (row_set (row_set (row_set (row_set (row_set h v0) v1) v2) v3) v4) v5) v6) v7) v8) v9) v10) v11) v12) v13) v14) v15)]; simp only [List.setIfInBounds_toArray, List.set_cons_zero, List.set_cons_succ]
theorem kept_set16 {F : List Nat} {w W : World} {B : Nat} (k : Kept F w W) (hB : B ∈ F ∨ w.heap.size ≤ B) (v0 v1 v2 v3 v4 v5 v6 v7 v8 v9 v10 v11 v12 v13 v14 v15 : Value) : Kept F w (set16 W B v0 v1 v2 v3 v4 v5 v6 v7 v8 v9 v10 v11 v12 v13 v14 v15) :=
  ((((((((((((((((k.setCell (p := ⟨B, 0, none⟩) hB v0).setCell (p := ⟨B, 1, none⟩) hB v1).setCell (p := ⟨B, 2, none⟩) hB v2).setCell (p := ⟨B, 3, none⟩) hB v3).setCell (p := ⟨B, 4, none⟩) hB v4).setCell (p := ⟨B, 5, none⟩) hB v5).setCell (p := ⟨B, 6, none⟩) hB v6).setCell (p := ⟨B, 7, none⟩) hB v7).setCell (p := ⟨B, 8, none⟩) hB v8).setCell (p := ⟨B, 9, none⟩) hB v9).setCell (p := ⟨B, 10, none⟩) hB v10).setCell (p := ⟨B, 11, none⟩) hB v11).setCell (p := ⟨B, 12, none⟩) hB v12).setCell (p := ⟨B, 13, none⟩) hB v13).setCell (p := ⟨B, 14, none⟩) hB v14).setCell (p := ⟨B, 15, none⟩) hB v15)
theorem PlanBox.keptF {F : List Nat} {w w' : World} {y n a o u r : Nat} (h : PlanBox w y n a o u r) (k : Kept F w w') (hF : ∀ x ∈ F, x ≠ y ∧ x ≠ n ∧ x ≠ a ∧ x ≠ o ∧ x ≠ u ∧ x ≠ r) : PlanBox w' y n a o u r :=
  ⟨k.at h.y (fun e => (hF _ e).1 rfl), k.at h.n (fun e => (hF _ e).2.1 rfl), cell_keptF k (fun e => (hF _ e).2.2.1 rfl) h.a, cell_keptF k (fun e => (hF _ e).2.2.2.1 rfl) h.o, cell_keptF k (fun e => (hF _ e).2.2.2.2.1 rfl) h.u, cell_keptF k (fun e => (hF _ e).2.2.2.2.2 rfl) h.r⟩
set_option maxHeartbeats 1000000 in
set_option maxRecDepth 20000 in
theorem plans_any (w : World) : Calls Tryd.prog 105 #[] w fun e w' => ∃ y n a o u r, e = .returned (.agg (planTab y n a o u r)) ∧ PlanBox w' y n a o u r ∧ Kept [] w w' := by
  have HY : Hid (∀ W, Calls Tryd.prog 135 #[.int .u8 1, .slice none 0 0] W fun e w' => e = .returned (.agg #[.int .u8 1, .string nE, .slice none 0 0, .int .i64 1, .int .i64 1]) ∧ Kept [] W w') := planOf_0 1
  have HN : Hid (∀ W, Calls Tryd.prog 135 #[.int .u8 2, .slice none 0 0] W fun e w' => e = .returned (.agg #[.int .u8 2, .string nE, .slice none 0 0, .int .i64 1, .int .i64 1]) ∧ Kept [] W w') := planOf_0 2
  have T0 : Hid True := trivial
  have T1 : Hid True := trivial
  go_enter Tryd.func105, Tryd.ntmps105
  go_upto_region 6 with (first
      | (clear T0; go_at_call 135; refine (HY.out _).mono ?_; rintro e W1 ⟨rfl, k1⟩; have HK1 : Hid _ := k1; clear k1)
      | (clear T1; go_at_call 135; refine (HN.out _).mono ?_; rintro e W2 ⟨rfl, k2⟩; have HW2 : Hid (Kept [] _ W2) := HK1.out.trans k2 (H := []) (by simp) (by simp); clear k2))
  obtain ⟨V, hV⟩ : ∃ V, (((((W2.alloc (.cells #[.int .u8 1, .string nE, .slice none 0 0, .int .i64 1, .int .i64 1] 93)).alloc (.cells #[.int .u8 2, .string nE, .slice none 0 0, .int .i64 1, .int .i64 1] 93)).alloc (.cells #[.func (.func 136) #[] #[]] 157)).alloc (.cells #[.func (.func 137) #[] #[]] 157)).alloc (.cells #[.func (.func 138) #[] #[]] 157)).alloc (.cells #[.func (.func 139) #[] #[]] 157) = V := ⟨_, rfl⟩
  have kV : Kept [] W2 V := by rw [← hV]; exact ((((((Kept.refl [] W2).alloc _).alloc _).alloc _).alloc _).alloc _).alloc _
  have hB : PlanBox V W2.heap.size (W2.heap.size + 1) (W2.heap.size + 1 + 1) (W2.heap.size + 1 + 1 + 1) (W2.heap.size + 1 + 1 + 1 + 1) (W2.heap.size + 1 + 1 + 1 + 1 + 1) := by
    rw [← hV]
    exact ⟨alUp (alUp (alUp (alUp (alUp (al0 _ _) _) _) _) _) _, alUp (alUp (alUp (alUp (al1 _ _ _) _) _) _) _, (cell_of (alUp (alUp (alUp (al2 _ _ _ _) _) _) _) 0).trans rfl, (cell_of (alUp (alUp (al3 _ _ _ _ _) _) _) 0).trans rfl, (cell_of (alUp (al4 _ _ _ _ _ _) _) 0).trans rfl, (cell_of (al5 _ _ _ _ _ _ _) 0).trans rfl⟩
  have hg : V.heap[w.heap.size]? = some (.cells #[.nilFunc, .nilFunc, .nilFunc, .nilFunc, .nilFunc, .nilFunc, .nilFunc, .nilFunc, .nilFunc, .nilFunc, .nilFunc, .nilFunc, .nilFunc, .nilFunc, .nilFunc, .nilFunc] 129 (0, 0)) := (HW2.out.trans kV (H := []) (by simp) (by simp)).at (al0 w _) (by simp)
  have kw : Kept [] w V := ((Kept.refl [] w).alloc _).trans (HW2.out.trans kV (H := []) (by simp) (by simp)) (by simp) (by simp)
  have hl : w.heap.size < W2.heap.size := by have := HW2.out.size; simp at this; omega
  rw [hV]
  have c0 : V.cell? ⟨w.heap.size, 0, none⟩ = some .nilFunc := (cell_of hg 0).trans rfl
  have c1 : V.cell? ⟨w.heap.size, 1, none⟩ = some .nilFunc := (cell_of hg 1).trans rfl
  have c2 : V.cell? ⟨w.heap.size, 2, none⟩ = some .nilFunc := (cell_of hg 2).trans rfl
  have c3 : V.cell? ⟨w.heap.size, 3, none⟩ = some .nilFunc := (cell_of hg 3).trans rfl
  have c4 : V.cell? ⟨w.heap.size, 4, none⟩ = some .nilFunc := (cell_of hg 4).trans rfl
  have c5 : V.cell? ⟨w.heap.size, 5, none⟩ = some .nilFunc := (cell_of hg 5).trans rfl
  have c6 : V.cell? ⟨w.heap.size, 6, none⟩ = some .nilFunc := (cell_of hg 6).trans rfl
  have c7 : V.cell? ⟨w.heap.size, 7, none⟩ = some .nilFunc := (cell_of hg 7).trans rfl
  have c8 : V.cell? ⟨w.heap.size, 8, none⟩ = some .nilFunc := (cell_of hg 8).trans rfl
  have c9 : V.cell? ⟨w.heap.size, 9, none⟩ = some .nilFunc := (cell_of hg 9).trans rfl
  have c10 : V.cell? ⟨w.heap.size, 10, none⟩ = some .nilFunc := (cell_of hg 10).trans rfl
  have c11 : V.cell? ⟨w.heap.size, 11, none⟩ = some .nilFunc := (cell_of hg 11).trans rfl
  have c12 : V.cell? ⟨w.heap.size, 12, none⟩ = some .nilFunc := (cell_of hg 12).trans rfl
  have c13 : V.cell? ⟨w.heap.size, 13, none⟩ = some .nilFunc := (cell_of hg 13).trans rfl
  have c14 : V.cell? ⟨w.heap.size, 14, none⟩ = some .nilFunc := (cell_of hg 14).trans rfl
  have c15 : V.cell? ⟨w.heap.size, 15, none⟩ = some .nilFunc := (cell_of hg 15).trans rfl
  have cf : ∀ i, V.frozen? ⟨w.heap.size, i, none⟩ = false := fun i => free_of hg i
  have HG : Hid (V.heap[w.heap.size]? = some (.cells #[.nilFunc, .nilFunc, .nilFunc, .nilFunc, .nilFunc, .nilFunc, .nilFunc, .nilFunc, .nilFunc, .nilFunc, .nilFunc, .nilFunc, .nilFunc, .nilFunc, .nilFunc, .nilFunc] 129 (0, 0))) := hg
  have HB : Hid (PlanBox V W2.heap.size (W2.heap.size + 1) (W2.heap.size + 1 + 1) (W2.heap.size + 1 + 1 + 1) (W2.heap.size + 1 + 1 + 1 + 1) (W2.heap.size + 1 + 1 + 1 + 1 + 1)) := hB
  have HK : Hid (Kept [] w V) := kw
  clear hV kV hB hg kw
  go_wp2
  refine ret_tab rfl rfl rfl (row_set16 HG.out _ _ _ _ _ _ _ _ _ _ _ _ _ _ _ _) rfl ⟨_, _, _, _, _, _, rfl, HB.out.keptF (kept_set16 (Kept.refl [w.heap.size] V) (.inl (by simp)) _ _ _ _ _ _ _ _ _ _ _ _ _ _ _ _) (fun x hx => ?_), kept_set16 HK.out (.inr (Nat.le_refl _)) _ _ _ _ _ _ _ _ _ _ _ _ _ _ _ _⟩
  rw [List.mem_singleton.1 hx]
  omega
end Go.Proofs.YtddgciilcghbaaaDoor
