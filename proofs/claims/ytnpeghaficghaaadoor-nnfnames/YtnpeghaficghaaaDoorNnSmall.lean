/- The small functions of package nnf's Simple: isConstant, formulaOf, same, leafAgain, inOrder, next, lasting, not. -/
import Derived.Test.YtnpeghaficghaaaDoorNnSem
import Derived.Test.YtnpeghaficghaaaDoorTrReb
import Derived.Test.YtnpeghaficghaaaDoorTrCmp2
import Derived.Deep.CutRange
import Derived.Deep.RegionHeld3
namespace Go.Proofs.YtnpeghaficghaaaDoor
open Go.RowKit Go.Shelf

/-- What stands in an operator's place, in memory. -/
def TurnTab (w : World) : Prop := ∀ i, i < 12 → w.cell? ⟨0, i, none⟩ = some (.int .u8 (turnO i : Nat))
theorem TurnTab.kept {w w' : World} (h : TurnTab w) (k : Kept [] w w') : TurnTab w' := fun i hi => cell_kept0 k (h i hi)
set_option maxHeartbeats 400000 in
theorem isConst_any (t : Tr) (kad : Option Addr) (n kcap : Nat) (w : World) :
    Calls Tryd.prog 129 #[.agg #[.int .u8 (t.op : Nat), .string t.name, .slice kad n kcap]] w fun e w' => e = .returned (.bool (cstB t)) ∧ Kept [] w w' := by
  by_cases h1 : t.op = 1
  · have e1 : ((t.op : Int) == 1) = true := by rw [beq_iff_eq]; omega
    have : cstB t = true := by simp [cstB, h1]
    rw [this]
    clear this h1
    go_enter Tryd.func129, Tryd.ntmps129
    go_wp2
    go_ret
    exact ⟨rfl, (Kept.refl _ _).alloc _⟩
  · have e1 : ((t.op : Int) == 1) = false := by rw [beq_eq_false_iff_ne]; omega
    by_cases h2 : t.op = 2
    · have e2 : ((t.op : Int) == 2) = true := by rw [beq_iff_eq]; omega
      have : cstB t = true := by simp [cstB, h2]
      rw [this]
      clear this h1 h2
      go_enter Tryd.func129, Tryd.ntmps129
      go_wp2
      go_ret
      exact ⟨rfl, (Kept.refl _ _).alloc _⟩
    · have e2 : ((t.op : Int) == 2) = false := by rw [beq_eq_false_iff_ne]; omega
      have : cstB t = false := by simp [cstB, h1, h2]
      rw [this]
      clear this h1 h2
      go_enter Tryd.func129, Tryd.ntmps129
      go_wp2
      go_ret
      exact ⟨rfl, (Kept.refl _ _).alloc _⟩
set_option maxHeartbeats 400000 in
theorem formulaOf_any (o : Nat) (ad : Option Addr) (n c : Nat) (w : World) :
    Calls Tryd.prog 130 #[.int .u8 (o : Nat), .slice ad n c] w fun e w' => e = .returned (.agg #[.int .u8 (o : Nat), .string nE, .slice ad n c]) ∧ Kept [] w w' := by
  go_enter Tryd.func130, Tryd.ntmps130
  go_wp2
  exact ret_for rfl rfl rfl (show For3 _ w.heap.size _ _ _ from al0 w _) ⟨rfl, (Kept.refl [] w).alloc _⟩
set_option maxHeartbeats 400000 in
theorem same_any (t u : Tr) (kv lv : Value) (w : World) (hI : IsF w t kv) (hJ : IsF w u lv) (hs : t.size ≤ 1099511627776) (hsu : u.size ≤ 1099511627776) :
    Calls Tryd.prog 131 #[.agg #[.int .u8 (t.op : Nat), .string t.name, kv], .agg #[.int .u8 (u.op : Nat), .string u.name, lv]] w fun e w' => e = .returned (.bool (sameT t u)) ∧ Kept [] w w' := by
  obtain ⟨kad, kcap, rfl⟩ := hI.slice
  obtain ⟨lad, lcap, rfl⟩ := hJ.slice
  have HC : Hid (∀ W, Kept [] w W → Calls Tryd.prog 21 #[.agg #[.int .u8 (t.op : Nat), .string t.name, .slice kad t.kids.length kcap], .agg #[.int .u8 (u.op : Nat), .string u.name, .slice lad u.kids.length lcap]] W fun e w' => e = .returned (.int .i64 (cmpT t u)) ∧ Kept [] W w') := fun W k => by
    refine (cmp_any t u _ _ W (hI.kept k) (hJ.kept k) hs hsu).mono ?_
    rintro e w' ⟨h1, h2⟩
    exact ⟨h1, h2.kept⟩
  unfold sameT
  clear hI hJ
  go_enter Tryd.func131, Tryd.ntmps131
  go_wp2_with (go_at_call 21; refine (HC.out _ (((Kept.refl [] w).alloc _).alloc _)).mono ?_; rintro e W1 ⟨rfl, k1⟩; have HK1 : Hid (Kept [] w W1) := (((Kept.refl [] w).alloc _).alloc _).trans k1 (by simp) (by simp); clear k1)
  go_ret
  exact ⟨rfl, HK1.out⟩
set_option maxHeartbeats 400000 in
theorem leafAgain_any (t : Tr) (kad : Option Addr) (n kcap : Nat) (w : World) :
    Calls Tryd.prog 48 #[.agg #[.int .u8 (t.op : Nat), .string t.name, .slice kad n kcap]] w fun e w' => e = .returned (.agg #[.int .u8 (t.op : Nat), .string t.name, .slice none 0 0]) ∧ Kept [] w w' := by
  go_enter Tryd.func48, Tryd.ntmps48
  go_wp2
  exact ret_for rfl rfl rfl (show For3 _ (w.heap.size + 1) _ _ _ from al1 w _ _) ⟨rfl, ((Kept.refl [] w).alloc _).alloc _⟩
/-- What a function of two formulas leaves: a formula that lies in memory. -/
def GivesF (w : World) (p : Tr) (e : Ending) (w' : World) : Prop := ∃ ad c, e = .returned (.agg #[.int .u8 (p.op : Nat), .string p.name, .slice ad p.kids.length c]) ∧ IsF w' p (.slice ad p.kids.length c) ∧ Kept [] w w'
/-- One kid, two kids, in a new row. -/
theorem isF_one {W : World} {B o : Nat} {a : Tr} {ka : Value} (hg : W.heap[B]? = some (.cells #[.int .u8 (a.op : Nat), .string a.name, ka] 25 (0, 0))) (ha : IsF W a ka) : IsF W (nn1 o a) (.slice (some ⟨B, 0, none⟩) 1 1) := by
  refine (isT_eq _ _).2 ⟨some ⟨B, 0, none⟩, 1, rfl, .inr ⟨B, 0, rfl, lt_of hg, fun i hi => ?_⟩⟩
  replace hi : i < 1 := hi
  rcases (by omega : i = 0) with rfl
  exact ⟨ka, (cell_of hg 0).trans rfl, (cell_of hg 1).trans rfl, (cell_of hg 2).trans rfl, ha⟩
theorem isF_two {W : World} {B o : Nat} {a b : Tr} {ka kb : Value} (hg : W.heap[B]? = some (.cells #[.int .u8 (a.op : Nat), .string a.name, ka, .int .u8 (b.op : Nat), .string b.name, kb] 25 (0, 0))) (ha : IsF W a ka) (hb : IsF W b kb) : IsF W (nn2 o a b) (.slice (some ⟨B, 0, none⟩) 2 2) := by
  refine (isT_eq _ _).2 ⟨some ⟨B, 0, none⟩, 2, rfl, .inr ⟨B, 0, rfl, lt_of hg, fun i hi => ?_⟩⟩
  replace hi : i < 2 := hi
  rcases (by omega : i = 0 ∨ i = 1) with rfl | rfl
  · exact ⟨ka, (cell_of hg 0).trans rfl, (cell_of hg 1).trans rfl, (cell_of hg 2).trans rfl, ha⟩
  · exact ⟨kb, (cell_of hg 3).trans rfl, (cell_of hg 4).trans rfl, (cell_of hg 5).trans rfl, hb⟩
end Go.Proofs.YtnpeghaficghaaaDoor
