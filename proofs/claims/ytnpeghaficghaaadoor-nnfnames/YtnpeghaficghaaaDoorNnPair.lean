/- Pairs of plans; the four that join two plans (and, or, until, release). -/
import Derived.Test.YtnpeghaficghaaaDoorNnForm
namespace Go.Proofs.YtnpeghaficghaaaDoor
open Go.RowKit Go.Shelf

/-- Two plans side by side make the kids of a third. -/
theorem isQ_two {X : Nat → Prop} {W : World} {B o : Nat} {a b : Tr} {ka kb : Value} (hX : X B) (hg : W.heap[B]? = some (.cells #[.int .u8 (a.op : Nat), .string a.name, ka, .int .i64 (psz a : Nat), .int .i64 (pdp a : Nat), .int .u8 (b.op : Nat), .string b.name, kb, .int .i64 (psz b : Nat), .int .i64 (pdp b : Nat)] 93 (0, 0))) (ha : IsQ X W a ka) (hb : IsQ X W b kb) : IsQ X W (nn2 o a b) (.slice (some ⟨B, 0, none⟩) 2 2) := by
  refine (isQ_eq _ _).2 ⟨some ⟨B, 0, none⟩, 2, rfl, .inr ⟨B, 0, rfl, hX, fun i hi => ?_⟩⟩
  replace hi : i < 2 := hi
  rcases (by omega : i = 0 ∨ i = 1) with rfl | rfl
  · exact ⟨ka, ⟨(cell_of hg 0).trans rfl, (cell_of hg 1).trans rfl, (cell_of hg 2).trans rfl, (cell_of hg 3).trans rfl, (cell_of hg 4).trans rfl⟩, ha⟩
  · exact ⟨kb, ⟨(cell_of hg 5).trans rfl, (cell_of hg 6).trans rfl, (cell_of hg 7).trans rfl, (cell_of hg 8).trans rfl, (cell_of hg 9).trans rfl⟩, hb⟩
theorem isQ_one {X : Nat → Prop} {W : World} {B o : Nat} {a : Tr} {ka : Value} (hX : X B) (hg : W.heap[B]? = some (.cells #[.int .u8 (a.op : Nat), .string a.name, ka, .int .i64 (psz a : Nat), .int .i64 (pdp a : Nat)] 93 (0, 0))) (ha : IsQ X W a ka) : IsQ X W (nn1 o a) (.slice (some ⟨B, 0, none⟩) 1 1) := by
  refine (isQ_eq _ _).2 ⟨some ⟨B, 0, none⟩, 1, rfl, .inr ⟨B, 0, rfl, hX, fun i hi => ?_⟩⟩
  replace hi : i < 1 := hi
  rcases (by omega : i = 0) with rfl
  exact ⟨ka, ⟨(cell_of hg 0).trans rfl, (cell_of hg 1).trans rfl, (cell_of hg 2).trans rfl, (cell_of hg 3).trans rfl, (cell_of hg 4).trans rfl⟩, ha⟩
theorem IsQ.kept {X : Nat → Prop} {w w' : World} (k : Kept [] w w') {t : Tr} {kv : Value} (h : IsQ X w t kv) : IsQ X w' t kv := h.cells (fun _ h _ => h) (fun _ _ _ _ c => cell_kept0 k c)
/-- Stored in a box that the plan has nothing in. -/
theorem IsQ.set5 {X : Nat → Prop} {W : World} {B : Nat} {t : Tr} {kv : Value} (h : IsQ (fun b => X b ∧ b ≠ B) W t kv) (a b c d e : Value) : IsQ X (((((W.setCell ⟨B, 0, none⟩ a).setCell ⟨B, 1, none⟩ b).setCell ⟨B, 2, none⟩ c).setCell ⟨B, 3, none⟩ d).setCell ⟨B, 4, none⟩ e) t kv := by
  have hB : ¬ (X B ∧ B ≠ B) := fun h => h.2 rfl
  exact (((((h.other hB _ _).other hB _ _).other hB _ _).other hB _ _).other hB _ _).cells (fun _ h _ => h.1) (fun _ _ _ _ c => c)
/-- A plan that is stored in a box of its own leaves what lies elsewhere. -/
theorem kept_set5 {w W : World} {B : Nat} (k : Kept [] w W) (hB : w.heap.size ≤ B) (a b c d e : Value) : Kept [] w (((((W.setCell ⟨B, 0, none⟩ a).setCell ⟨B, 1, none⟩ b).setCell ⟨B, 2, none⟩ c).setCell ⟨B, 3, none⟩ d).setCell ⟨B, 4, none⟩ e) :=
  ((((k.setCell (p := ⟨B, 0, none⟩) (.inr hB) a).setCell (p := ⟨B, 1, none⟩) (.inr hB) b).setCell (p := ⟨B, 2, none⟩) (.inr hB) c).setCell (p := ⟨B, 3, none⟩) (.inr hB) d).setCell (p := ⟨B, 4, none⟩) (.inr hB) e
/-- A plan as a value. -/
def plA (t : Tr) (ad : Option Addr) (c : Nat) : Value := .agg #[.int .u8 (t.op : Nat), .string t.name, .slice ad t.kids.length c, .int .i64 (psz t : Nat), .int .i64 (pdp t : Nat)]
/-- What joins two plans does. -/
def Joins (f o : Nat) : Prop := ∀ (X : Nat → Prop) (a b : Tr) (aa ba : Option Addr) (ac bc : Nat) (w : World), (∀ k, w.heap.size ≤ k → X k) → IsQ X w a (.slice aa a.kids.length ac) → IsQ X w b (.slice ba b.kids.length bc) →
  Calls Tryd.prog f #[plA a aa ac, plA b ba bc] w fun e w' => ∃ ad, e = .returned (plA (nn2 o a b) ad 2) ∧ IsQ X w' (nn2 o a b) (.slice ad 2 2) ∧ Kept [] w w'
set_option maxHeartbeats 1000000 in
set_option maxRecDepth 20000 in
theorem join_and : Joins 137 5 := by
  intro X a b aa ba ac bc w hX ha hb
  unfold plA
  obtain ⟨V, hV⟩ : ∃ V, (((w.alloc (.cells #[.int .u8 (a.op : Nat), .string a.name, .slice aa a.kids.length ac, .int .i64 (psz a : Nat), .int .i64 (pdp a : Nat)] 93)).alloc (.cells #[.int .u8 (b.op : Nat), .string b.name, .slice ba b.kids.length bc, .int .i64 (psz b : Nat), .int .i64 (pdp b : Nat)] 93)).alloc (.cells #[.int .u8 0, .string ⟨#[]⟩, .slice none 0 0, .int .i64 0, .int .i64 0] 93)).alloc (.cells #[.int .u8 (a.op : Nat), .string a.name, .slice aa a.kids.length ac, .int .i64 (psz a : Nat), .int .i64 (pdp a : Nat), .int .u8 (b.op : Nat), .string b.name, .slice ba b.kids.length bc, .int .i64 (psz b : Nat), .int .i64 (pdp b : Nat)] 93) = V := ⟨_, rfl⟩
  have k4 : Kept [] w V := by rw [← hV]; exact ((((Kept.refl [] w).alloc _).alloc _).alloc _).alloc _
  have hP : IsQ (fun b => X b ∧ b ≠ w.heap.size + 1 + 1) V (nn2 5 a b) (.slice (some ⟨w.heap.size + 1 + 1 + 1, 0, none⟩) 2 2) := isQ_two ⟨hX _ (by omega), by omega⟩ (by rw [← hV]; exact al3 w _ _ _ _) (ha.apart k4 (by omega)) (hb.apart k4 (by omega))
  have hz : Pl5 V (w.heap.size + 1 + 1) (.int .u8 0) (.string ⟨#[]⟩) (.slice none 0 0) (.int .i64 0) (.int .i64 0) := by rw [← hV]; exact alUp (al2 w _ _ _) _
  have HC : Hid (Calls Tryd.prog 136 #[.int .u8 5, .slice (some ⟨w.heap.size + 1 + 1 + 1, 0, none⟩) 2 2] V fun e w' => e = .returned (.agg #[.int .u8 5, .string nE, .slice (some ⟨w.heap.size + 1 + 1 + 1, 0, none⟩) 2 2, .int .i64 (psz (nn2 5 a b) : Nat), .int .i64 (pdp (nn2 5 a b) : Nat)]) ∧ Pl5 w' (w.heap.size + 1 + 1) (.int .u8 0) (.string ⟨#[]⟩) (.slice none 0 0) (.int .i64 0) (.int .i64 0) ∧ IsQ (fun b => X b ∧ b ≠ w.heap.size + 1 + 1) w' (nn2 5 a b) (.slice (some ⟨w.heap.size + 1 + 1 + 1, 0, none⟩) 2 2) ∧ Kept [] w w') := by
    refine (planOf_any 5 [a, b] (some ⟨w.heap.size + 1 + 1 + 1, 0, none⟩) 2 V hP.isP (show 2 ≤ 1000 by decide)).mono ?_
    rintro e w' ⟨rfl, k⟩
    exact ⟨rfl, hz.kept k, hP.kept k, k4.trans k (by simp) (by simp)⟩
  rw [← hV] at HC
  clear ha hb k4 hP hz hV V
  obtain ⟨x1, hx1⟩ : ∃ x, psz a = x := ⟨_, rfl⟩
  obtain ⟨x2, hx2⟩ : ∃ x, pdp a = x := ⟨_, rfl⟩
  obtain ⟨x3, hx3⟩ : ∃ x, psz b = x := ⟨_, rfl⟩
  obtain ⟨x4, hx4⟩ : ∃ x, pdp b = x := ⟨_, rfl⟩
  obtain ⟨x5, hx5⟩ : ∃ x, psz (nn2 5 a b) = x := ⟨_, rfl⟩
  obtain ⟨x6, hx6⟩ : ∃ x, pdp (nn2 5 a b) = x := ⟨_, rfl⟩
  rw [hx1, hx2, hx3, hx4, hx5, hx6] at HC
  rw [hx1, hx2, hx3, hx4, hx5, hx6]
  clear hx1 hx2 hx3 hx4 hx5 hx6
  go_enter Tryd.func137, Tryd.ntmps137
  go_wp2_with (go_at_call 136; refine HC.out.mono ?_; rintro e W2 ⟨rfl, z2, p2, k2⟩; obtain ⟨d0, d1, d2, d3, d4, df⟩ := z2.cells; have HZ : Hid (Pl5 W2 (w.heap.size + 1 + 1) (.int .u8 0) (.string ⟨#[]⟩) (.slice none 0 0) (.int .i64 0) (.int .i64 0)) := z2; have HK2 : Hid (Kept [] w W2) := k2; have HP2 : Hid (IsQ (fun b => X b ∧ b ≠ w.heap.size + 1 + 1) W2 (nn2 5 a b) (.slice (some ⟨w.heap.size + 1 + 1 + 1, 0, none⟩) 2 2)) := p2; clear z2 k2 p2)
  exact ret_pl rfl rfl rfl (HZ.out.set _ _ _ _ _) ⟨_, rfl, HP2.out.set5 _ _ _ _ _, kept_set5 HK2.out (by omega) _ _ _ _ _⟩
set_option maxHeartbeats 1000000 in
set_option maxRecDepth 20000 in
theorem join_or : Joins 138 6 := by
  intro X a b aa ba ac bc w hX ha hb
  unfold plA
  obtain ⟨V, hV⟩ : ∃ V, (((w.alloc (.cells #[.int .u8 (a.op : Nat), .string a.name, .slice aa a.kids.length ac, .int .i64 (psz a : Nat), .int .i64 (pdp a : Nat)] 93)).alloc (.cells #[.int .u8 (b.op : Nat), .string b.name, .slice ba b.kids.length bc, .int .i64 (psz b : Nat), .int .i64 (pdp b : Nat)] 93)).alloc (.cells #[.int .u8 0, .string ⟨#[]⟩, .slice none 0 0, .int .i64 0, .int .i64 0] 93)).alloc (.cells #[.int .u8 (a.op : Nat), .string a.name, .slice aa a.kids.length ac, .int .i64 (psz a : Nat), .int .i64 (pdp a : Nat), .int .u8 (b.op : Nat), .string b.name, .slice ba b.kids.length bc, .int .i64 (psz b : Nat), .int .i64 (pdp b : Nat)] 93) = V := ⟨_, rfl⟩
  have k4 : Kept [] w V := by rw [← hV]; exact ((((Kept.refl [] w).alloc _).alloc _).alloc _).alloc _
  have hP : IsQ (fun b => X b ∧ b ≠ w.heap.size + 1 + 1) V (nn2 6 a b) (.slice (some ⟨w.heap.size + 1 + 1 + 1, 0, none⟩) 2 2) := isQ_two ⟨hX _ (by omega), by omega⟩ (by rw [← hV]; exact al3 w _ _ _ _) (ha.apart k4 (by omega)) (hb.apart k4 (by omega))
  have hz : Pl5 V (w.heap.size + 1 + 1) (.int .u8 0) (.string ⟨#[]⟩) (.slice none 0 0) (.int .i64 0) (.int .i64 0) := by rw [← hV]; exact alUp (al2 w _ _ _) _
  have HC : Hid (Calls Tryd.prog 136 #[.int .u8 6, .slice (some ⟨w.heap.size + 1 + 1 + 1, 0, none⟩) 2 2] V fun e w' => e = .returned (.agg #[.int .u8 6, .string nE, .slice (some ⟨w.heap.size + 1 + 1 + 1, 0, none⟩) 2 2, .int .i64 (psz (nn2 6 a b) : Nat), .int .i64 (pdp (nn2 6 a b) : Nat)]) ∧ Pl5 w' (w.heap.size + 1 + 1) (.int .u8 0) (.string ⟨#[]⟩) (.slice none 0 0) (.int .i64 0) (.int .i64 0) ∧ IsQ (fun b => X b ∧ b ≠ w.heap.size + 1 + 1) w' (nn2 6 a b) (.slice (some ⟨w.heap.size + 1 + 1 + 1, 0, none⟩) 2 2) ∧ Kept [] w w') := by
    refine (planOf_any 6 [a, b] (some ⟨w.heap.size + 1 + 1 + 1, 0, none⟩) 2 V hP.isP (show 2 ≤ 1000 by decide)).mono ?_
    rintro e w' ⟨rfl, k⟩
    exact ⟨rfl, hz.kept k, hP.kept k, k4.trans k (by simp) (by simp)⟩
  rw [← hV] at HC
  clear ha hb k4 hP hz hV V
  obtain ⟨x1, hx1⟩ : ∃ x, psz a = x := ⟨_, rfl⟩
  obtain ⟨x2, hx2⟩ : ∃ x, pdp a = x := ⟨_, rfl⟩
  obtain ⟨x3, hx3⟩ : ∃ x, psz b = x := ⟨_, rfl⟩
  obtain ⟨x4, hx4⟩ : ∃ x, pdp b = x := ⟨_, rfl⟩
  obtain ⟨x5, hx5⟩ : ∃ x, psz (nn2 6 a b) = x := ⟨_, rfl⟩
  obtain ⟨x6, hx6⟩ : ∃ x, pdp (nn2 6 a b) = x := ⟨_, rfl⟩
  rw [hx1, hx2, hx3, hx4, hx5, hx6] at HC
  rw [hx1, hx2, hx3, hx4, hx5, hx6]
  clear hx1 hx2 hx3 hx4 hx5 hx6
  go_enter Tryd.func138, Tryd.ntmps138
  go_wp2_with (go_at_call 136; refine HC.out.mono ?_; rintro e W2 ⟨rfl, z2, p2, k2⟩; obtain ⟨d0, d1, d2, d3, d4, df⟩ := z2.cells; have HZ : Hid (Pl5 W2 (w.heap.size + 1 + 1) (.int .u8 0) (.string ⟨#[]⟩) (.slice none 0 0) (.int .i64 0) (.int .i64 0)) := z2; have HK2 : Hid (Kept [] w W2) := k2; have HP2 : Hid (IsQ (fun b => X b ∧ b ≠ w.heap.size + 1 + 1) W2 (nn2 6 a b) (.slice (some ⟨w.heap.size + 1 + 1 + 1, 0, none⟩) 2 2)) := p2; clear z2 k2 p2)
  exact ret_pl rfl rfl rfl (HZ.out.set _ _ _ _ _) ⟨_, rfl, HP2.out.set5 _ _ _ _ _, kept_set5 HK2.out (by omega) _ _ _ _ _⟩
set_option maxHeartbeats 1000000 in
set_option maxRecDepth 20000 in
theorem join_until : Joins 139 12 := by
  intro X a b aa ba ac bc w hX ha hb
  unfold plA
  obtain ⟨V, hV⟩ : ∃ V, (((w.alloc (.cells #[.int .u8 (a.op : Nat), .string a.name, .slice aa a.kids.length ac, .int .i64 (psz a : Nat), .int .i64 (pdp a : Nat)] 93)).alloc (.cells #[.int .u8 (b.op : Nat), .string b.name, .slice ba b.kids.length bc, .int .i64 (psz b : Nat), .int .i64 (pdp b : Nat)] 93)).alloc (.cells #[.int .u8 0, .string ⟨#[]⟩, .slice none 0 0, .int .i64 0, .int .i64 0] 93)).alloc (.cells #[.int .u8 (a.op : Nat), .string a.name, .slice aa a.kids.length ac, .int .i64 (psz a : Nat), .int .i64 (pdp a : Nat), .int .u8 (b.op : Nat), .string b.name, .slice ba b.kids.length bc, .int .i64 (psz b : Nat), .int .i64 (pdp b : Nat)] 93) = V := ⟨_, rfl⟩
  have k4 : Kept [] w V := by rw [← hV]; exact ((((Kept.refl [] w).alloc _).alloc _).alloc _).alloc _
  have hP : IsQ (fun b => X b ∧ b ≠ w.heap.size + 1 + 1) V (nn2 12 a b) (.slice (some ⟨w.heap.size + 1 + 1 + 1, 0, none⟩) 2 2) := isQ_two ⟨hX _ (by omega), by omega⟩ (by rw [← hV]; exact al3 w _ _ _ _) (ha.apart k4 (by omega)) (hb.apart k4 (by omega))
  have hz : Pl5 V (w.heap.size + 1 + 1) (.int .u8 0) (.string ⟨#[]⟩) (.slice none 0 0) (.int .i64 0) (.int .i64 0) := by rw [← hV]; exact alUp (al2 w _ _ _) _
  have HC : Hid (Calls Tryd.prog 136 #[.int .u8 12, .slice (some ⟨w.heap.size + 1 + 1 + 1, 0, none⟩) 2 2] V fun e w' => e = .returned (.agg #[.int .u8 12, .string nE, .slice (some ⟨w.heap.size + 1 + 1 + 1, 0, none⟩) 2 2, .int .i64 (psz (nn2 12 a b) : Nat), .int .i64 (pdp (nn2 12 a b) : Nat)]) ∧ Pl5 w' (w.heap.size + 1 + 1) (.int .u8 0) (.string ⟨#[]⟩) (.slice none 0 0) (.int .i64 0) (.int .i64 0) ∧ IsQ (fun b => X b ∧ b ≠ w.heap.size + 1 + 1) w' (nn2 12 a b) (.slice (some ⟨w.heap.size + 1 + 1 + 1, 0, none⟩) 2 2) ∧ Kept [] w w') := by
    refine (planOf_any 12 [a, b] (some ⟨w.heap.size + 1 + 1 + 1, 0, none⟩) 2 V hP.isP (show 2 ≤ 1000 by decide)).mono ?_
    rintro e w' ⟨rfl, k⟩
    exact ⟨rfl, hz.kept k, hP.kept k, k4.trans k (by simp) (by simp)⟩
  rw [← hV] at HC
  clear ha hb k4 hP hz hV V
  obtain ⟨x1, hx1⟩ : ∃ x, psz a = x := ⟨_, rfl⟩
  obtain ⟨x2, hx2⟩ : ∃ x, pdp a = x := ⟨_, rfl⟩
  obtain ⟨x3, hx3⟩ : ∃ x, psz b = x := ⟨_, rfl⟩
  obtain ⟨x4, hx4⟩ : ∃ x, pdp b = x := ⟨_, rfl⟩
  obtain ⟨x5, hx5⟩ : ∃ x, psz (nn2 12 a b) = x := ⟨_, rfl⟩
  obtain ⟨x6, hx6⟩ : ∃ x, pdp (nn2 12 a b) = x := ⟨_, rfl⟩
  rw [hx1, hx2, hx3, hx4, hx5, hx6] at HC
  rw [hx1, hx2, hx3, hx4, hx5, hx6]
  clear hx1 hx2 hx3 hx4 hx5 hx6
  go_enter Tryd.func139, Tryd.ntmps139
  go_wp2_with (go_at_call 136; refine HC.out.mono ?_; rintro e W2 ⟨rfl, z2, p2, k2⟩; obtain ⟨d0, d1, d2, d3, d4, df⟩ := z2.cells; have HZ : Hid (Pl5 W2 (w.heap.size + 1 + 1) (.int .u8 0) (.string ⟨#[]⟩) (.slice none 0 0) (.int .i64 0) (.int .i64 0)) := z2; have HK2 : Hid (Kept [] w W2) := k2; have HP2 : Hid (IsQ (fun b => X b ∧ b ≠ w.heap.size + 1 + 1) W2 (nn2 12 a b) (.slice (some ⟨w.heap.size + 1 + 1 + 1, 0, none⟩) 2 2)) := p2; clear z2 k2 p2)
  exact ret_pl rfl rfl rfl (HZ.out.set _ _ _ _ _) ⟨_, rfl, HP2.out.set5 _ _ _ _ _, kept_set5 HK2.out (by omega) _ _ _ _ _⟩
set_option maxHeartbeats 1000000 in
set_option maxRecDepth 20000 in
theorem join_release : Joins 140 13 := by
  intro X a b aa ba ac bc w hX ha hb
  unfold plA
  obtain ⟨V, hV⟩ : ∃ V, (((w.alloc (.cells #[.int .u8 (a.op : Nat), .string a.name, .slice aa a.kids.length ac, .int .i64 (psz a : Nat), .int .i64 (pdp a : Nat)] 93)).alloc (.cells #[.int .u8 (b.op : Nat), .string b.name, .slice ba b.kids.length bc, .int .i64 (psz b : Nat), .int .i64 (pdp b : Nat)] 93)).alloc (.cells #[.int .u8 0, .string ⟨#[]⟩, .slice none 0 0, .int .i64 0, .int .i64 0] 93)).alloc (.cells #[.int .u8 (a.op : Nat), .string a.name, .slice aa a.kids.length ac, .int .i64 (psz a : Nat), .int .i64 (pdp a : Nat), .int .u8 (b.op : Nat), .string b.name, .slice ba b.kids.length bc, .int .i64 (psz b : Nat), .int .i64 (pdp b : Nat)] 93) = V := ⟨_, rfl⟩
  have k4 : Kept [] w V := by rw [← hV]; exact ((((Kept.refl [] w).alloc _).alloc _).alloc _).alloc _
  have hP : IsQ (fun b => X b ∧ b ≠ w.heap.size + 1 + 1) V (nn2 13 a b) (.slice (some ⟨w.heap.size + 1 + 1 + 1, 0, none⟩) 2 2) := isQ_two ⟨hX _ (by omega), by omega⟩ (by rw [← hV]; exact al3 w _ _ _ _) (ha.apart k4 (by omega)) (hb.apart k4 (by omega))
  have hz : Pl5 V (w.heap.size + 1 + 1) (.int .u8 0) (.string ⟨#[]⟩) (.slice none 0 0) (.int .i64 0) (.int .i64 0) := by rw [← hV]; exact alUp (al2 w _ _ _) _
  have HC : Hid (Calls Tryd.prog 136 #[.int .u8 13, .slice (some ⟨w.heap.size + 1 + 1 + 1, 0, none⟩) 2 2] V fun e w' => e = .returned (.agg #[.int .u8 13, .string nE, .slice (some ⟨w.heap.size + 1 + 1 + 1, 0, none⟩) 2 2, .int .i64 (psz (nn2 13 a b) : Nat), .int .i64 (pdp (nn2 13 a b) : Nat)]) ∧ Pl5 w' (w.heap.size + 1 + 1) (.int .u8 0) (.string ⟨#[]⟩) (.slice none 0 0) (.int .i64 0) (.int .i64 0) ∧ IsQ (fun b => X b ∧ b ≠ w.heap.size + 1 + 1) w' (nn2 13 a b) (.slice (some ⟨w.heap.size + 1 + 1 + 1, 0, none⟩) 2 2) ∧ Kept [] w w') := by
    refine (planOf_any 13 [a, b] (some ⟨w.heap.size + 1 + 1 + 1, 0, none⟩) 2 V hP.isP (show 2 ≤ 1000 by decide)).mono ?_
    rintro e w' ⟨rfl, k⟩
    exact ⟨rfl, hz.kept k, hP.kept k, k4.trans k (by simp) (by simp)⟩
  rw [← hV] at HC
  clear ha hb k4 hP hz hV V
  obtain ⟨x1, hx1⟩ : ∃ x, psz a = x := ⟨_, rfl⟩
  obtain ⟨x2, hx2⟩ : ∃ x, pdp a = x := ⟨_, rfl⟩
  obtain ⟨x3, hx3⟩ : ∃ x, psz b = x := ⟨_, rfl⟩
  obtain ⟨x4, hx4⟩ : ∃ x, pdp b = x := ⟨_, rfl⟩
  obtain ⟨x5, hx5⟩ : ∃ x, psz (nn2 13 a b) = x := ⟨_, rfl⟩
  obtain ⟨x6, hx6⟩ : ∃ x, pdp (nn2 13 a b) = x := ⟨_, rfl⟩
  rw [hx1, hx2, hx3, hx4, hx5, hx6] at HC
  rw [hx1, hx2, hx3, hx4, hx5, hx6]
  clear hx1 hx2 hx3 hx4 hx5 hx6
  go_enter Tryd.func140, Tryd.ntmps140
  go_wp2_with (go_at_call 136; refine HC.out.mono ?_; rintro e W2 ⟨rfl, z2, p2, k2⟩; obtain ⟨d0, d1, d2, d3, d4, df⟩ := z2.cells; have HZ : Hid (Pl5 W2 (w.heap.size + 1 + 1) (.int .u8 0) (.string ⟨#[]⟩) (.slice none 0 0) (.int .i64 0) (.int .i64 0)) := z2; have HK2 : Hid (Kept [] w W2) := k2; have HP2 : Hid (IsQ (fun b => X b ∧ b ≠ w.heap.size + 1 + 1) W2 (nn2 13 a b) (.slice (some ⟨w.heap.size + 1 + 1 + 1, 0, none⟩) 2 2)) := p2; clear z2 k2 p2)
  exact ret_pl rfl rfl rfl (HZ.out.set _ _ _ _ _) ⟨_, rfl, HP2.out.set5 _ _ _ _ _, kept_set5 HK2.out (by omega) _ _ _ _ _⟩
end Go.Proofs.YtnpeghaficghaaaDoor
