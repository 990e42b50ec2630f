/- What operators mean: the table of functions that eval.meanings makes, and each of them. -/
import Derived.Test.YtondmjnagkldpaaDoorEvBack
import Derived.Laws.ResultCell
import Derived.Great.BuildSlice
import Derived.Great.Walk
import Derived.Deep.WholeRow
namespace Go.Proofs.YtondmjnagkldpaaDoor
open Go.RowKit Go.Shelf

def fnOp (op : Nat) : Nat :=
  if op = 4 then 85 else if op = 5 then 86 else if op = 6 then 87 else if op = 7 then 88 else if op = 8 then 89
  else if op = 10 then 90 else if op = 11 then 91 else if op = 12 ∨ op = 14 then 83 else 84
/-- The operators of that table. -/
def TabOp (op : Nat) : Prop := op = 4 ∨ op = 5 ∨ op = 6 ∨ op = 7 ∨ op = 8 ∨ op = 10 ∨ op = 11 ∨ op = 12 ∨ op = 13 ∨ op = 14 ∨ op = 15
set_option maxHeartbeats 1000000 in
theorem mean1 (g h l : Bool) (w : World) : Calls Tryd.prog 83 #[.bool g, .bool h, .bool l] w fun e w' => e = .returned (.bool (h || (g && l))) ∧ w' = w := by
  cases g <;> cases h <;> cases l
  all_goals
    go_enter Tryd.func83, Tryd.ntmps83
    go_wp2
    go_ret
    exact ⟨rfl, rfl⟩
set_option maxHeartbeats 1000000 in
theorem mean2 (g h l : Bool) (w : World) : Calls Tryd.prog 84 #[.bool g, .bool h, .bool l] w fun e w' => e = .returned (.bool (h && (g || l))) ∧ w' = w := by
  cases g <;> cases h <;> cases l
  all_goals
    go_enter Tryd.func84, Tryd.ntmps84
    go_wp2
    go_ret
    exact ⟨rfl, rfl⟩
set_option maxHeartbeats 1000000 in
theorem mean3 (g h l : Bool) (w : World) : Calls Tryd.prog 85 #[.bool g, .bool h, .bool l] w fun e w' => e = .returned (.bool (!g)) ∧ w' = w := by
  go_enter Tryd.func85, Tryd.ntmps85
  go_wp2
  go_ret
  exact ⟨rfl, rfl⟩
set_option maxHeartbeats 1000000 in
theorem mean4 (g h l : Bool) (w : World) : Calls Tryd.prog 86 #[.bool g, .bool h, .bool l] w fun e w' => e = .returned (.bool (g && h)) ∧ w' = w := by
  cases g <;> cases h
  all_goals
    go_enter Tryd.func86, Tryd.ntmps86
    go_wp2
    go_ret
    exact ⟨rfl, rfl⟩
set_option maxHeartbeats 1000000 in
theorem mean5 (g h l : Bool) (w : World) : Calls Tryd.prog 87 #[.bool g, .bool h, .bool l] w fun e w' => e = .returned (.bool (g || h)) ∧ w' = w := by
  cases g <;> cases h
  all_goals
    go_enter Tryd.func87, Tryd.ntmps87
    go_wp2
    go_ret
    exact ⟨rfl, rfl⟩
set_option maxHeartbeats 1000000 in
theorem mean6 (g h l : Bool) (w : World) : Calls Tryd.prog 88 #[.bool g, .bool h, .bool l] w fun e w' => e = .returned (.bool (h || !g)) ∧ w' = w := by
  cases g <;> cases h
  all_goals
    go_enter Tryd.func88, Tryd.ntmps88
    go_wp2
    go_ret
    exact ⟨rfl, rfl⟩
set_option maxHeartbeats 1000000 in
theorem mean7 (g h l : Bool) (w : World) : Calls Tryd.prog 89 #[.bool g, .bool h, .bool l] w fun e w' => e = .returned (.bool (g == h)) ∧ w' = w := by
  cases g <;> cases h
  all_goals
    go_enter Tryd.func89, Tryd.ntmps89
    go_wp2
    go_ret
    exact ⟨rfl, rfl⟩
set_option maxHeartbeats 1000000 in
theorem mean8 (g h l : Bool) (w : World) : Calls Tryd.prog 90 #[.bool g, .bool h, .bool l] w fun e w' => e = .returned (.bool (g || l)) ∧ w' = w := by
  cases g <;> cases l
  all_goals
    go_enter Tryd.func90, Tryd.ntmps90
    go_wp2
    go_ret
    exact ⟨rfl, rfl⟩
set_option maxHeartbeats 1000000 in
theorem mean9 (g h l : Bool) (w : World) : Calls Tryd.prog 91 #[.bool g, .bool h, .bool l] w fun e w' => e = .returned (.bool (g && l)) ∧ w' = w := by
  cases g <;> cases l
  all_goals
    go_enter Tryd.func91, Tryd.ntmps91
    go_wp2
    go_ret
    exact ⟨rfl, rfl⟩
/-- Each of them, by its operator. -/
theorem mean_any {op : Nat} (ho : TabOp op) (g h l : Bool) (w : World) : Calls Tryd.prog (fnOp op) #[.bool g, .bool h, .bool l] w fun e w' => e = .returned (.bool (holdOp op g h l)) ∧ w' = w := by
  rcases ho with rfl | rfl | rfl | rfl | rfl | rfl | rfl | rfl | rfl | rfl | rfl
  · exact mean3 g h l w
  · exact mean4 g h l w
  · exact mean5 g h l w
  · exact mean6 g h l w
  · exact mean7 g h l w
  · exact mean8 g h l w
  · exact mean9 g h l w
  · exact mean1 g h l w
  · exact mean2 g h l w
  · exact mean1 g h l w
  · exact mean2 g h l w
theorem mean_enters {op : Nat} (ho : TabOp op) : ∀ args w, (callFunc (fnOp op) args).run Tryd.prog w = .ok (.enter (fnOp op) args) w := by
  rcases ho with rfl | rfl | rfl | rfl | rfl | rfl | rfl | rfl | rfl | rfl | rfl
  · exact enters_of Tryd.func85 (by kernel_rfl) rfl
  · exact enters_of Tryd.func86 (by kernel_rfl) rfl
  · exact enters_of Tryd.func87 (by kernel_rfl) rfl
  · exact enters_of Tryd.func88 (by kernel_rfl) rfl
  · exact enters_of Tryd.func89 (by kernel_rfl) rfl
  · exact enters_of Tryd.func90 (by kernel_rfl) rfl
  · exact enters_of Tryd.func91 (by kernel_rfl) rfl
  · exact enters_of Tryd.func83 (by kernel_rfl) rfl
  · exact enters_of Tryd.func84 (by kernel_rfl) rfl
  · exact enters_of Tryd.func83 (by kernel_rfl) rfl
  · exact enters_of Tryd.func84 (by kernel_rfl) rfl
/-- The table, cell by cell. -/
def meanCells : Array Value := #[.bool false, .nilFunc, .bool false, .nilFunc, .bool false, .nilFunc, .bool false, .nilFunc, .bool false, .func (.func 85) #[] #[], .bool false, .func (.func 86) #[] #[], .bool false, .func (.func 87) #[] #[], .bool false, .func (.func 88) #[] #[], .bool false, .func (.func 89) #[] #[], .bool false, .nilFunc, .bool false, .func (.func 90) #[] #[], .bool true, .func (.func 91) #[] #[], .bool false, .func (.func 83) #[] #[], .bool true, .func (.func 84) #[] #[], .bool true, .func (.func 83) #[] #[], .bool false, .func (.func 84) #[] #[]]
theorem ret_mean {fn : Func} {p : Tmp} {a : Act} {w : World} {g : Nat} {cs : Array Value} {R : Ending → World → Prop} (h : fn.results = #[.cell p 109]) (hp : a.tmps.getD p undef = .pointer (some ⟨g, 0, none⟩)) (hd : a.defers = []) (hg : w.heap[g]? = some (.cells cs 109 (0, 0))) (hsz : cs.size = 32) (hR : R (.returned (.agg cs)) w) : bodyPost Tryd.prog fn R .ret a w :=
  bodyPost_ret (results_cell_row h _ w g 109 cs _ _ hp hg Tryd.underlying109 rfl (by rw [hsz]; kernel_rfl)) hd hR
theorem mean_zero : (Tryd.prog.info? 109).map (·.size) = some 32 := by kernel_rfl
attribute [local irreducible] wpList Code.wp
set_option maxHeartbeats 1000000 in
set_option maxRecDepth 20000 in
theorem meanings_any (w : World) : Calls Tryd.prog 72 #[] w fun e w' => e = .returned (.agg meanCells) ∧ Kept [] w w' := by
  go_enter Tryd.func72, Tryd.ntmps72
  generalize hc : Code.region 3 _ _ = c
  go_wp2
  subst hc
  apply wp_region_list
  simp only []
  refine wpList_buildTo rfl 108 _ rfl (some 3) rfl #[.bool false, .func (.func 85) #[] #[]] (by as_aux_lemma => kernel_rfl) ?_
  refine wpList_buildTo rfl 108 _ rfl (some 4) rfl #[.bool false, .func (.func 86) #[] #[]] (by as_aux_lemma => kernel_rfl) ?_
  refine wpList_buildTo rfl 108 _ rfl (some 5) rfl #[.bool false, .func (.func 87) #[] #[]] (by as_aux_lemma => kernel_rfl) ?_
  refine wpList_buildTo rfl 108 _ rfl (some 6) rfl #[.bool false, .func (.func 88) #[] #[]] (by as_aux_lemma => kernel_rfl) ?_
  refine wpList_buildTo rfl 108 _ rfl (some 7) rfl #[.bool false, .func (.func 89) #[] #[]] (by as_aux_lemma => kernel_rfl) ?_
  refine wpList_buildTo rfl 108 _ rfl (some 8) rfl #[.bool false, .func (.func 90) #[] #[]] (by as_aux_lemma => kernel_rfl) ?_
  refine wpList_buildTo rfl 108 _ rfl (some 9) rfl #[.bool true, .func (.func 91) #[] #[]] (by as_aux_lemma => kernel_rfl) ?_
  refine Great.wpList_readTo rfl (some 10) rfl (.func (.func 83) #[] #[]) (by as_aux_lemma => kernel_rfl) ?_
  refine wpList_buildTo rfl 108 _ rfl (some 11) rfl #[.bool false, .func (.func 83) #[] #[]] (by as_aux_lemma => kernel_rfl) ?_
  refine Great.wpList_readTo rfl (some 12) rfl (.func (.func 84) #[] #[]) (by as_aux_lemma => kernel_rfl) ?_
  refine wpList_buildTo rfl 108 _ rfl (some 13) rfl #[.bool true, .func (.func 84) #[] #[]] (by as_aux_lemma => kernel_rfl) ?_
  refine Great.wpList_readTo rfl (some 14) rfl (.func (.func 83) #[] #[]) (by as_aux_lemma => kernel_rfl) ?_
  refine wpList_buildTo rfl 108 _ rfl (some 15) rfl #[.bool true, .func (.func 83) #[] #[]] (by as_aux_lemma => kernel_rfl) ?_
  refine Great.wpList_readTo rfl (some 16) rfl (.func (.func 84) #[] #[]) (by as_aux_lemma => kernel_rfl) ?_
  refine wpList_buildTo rfl 108 _ rfl (some 17) rfl #[.bool false, .func (.func 84) #[] #[]] (by as_aux_lemma => kernel_rfl) ?_
  refine wpList_buildTo rfl 109 _ rfl (some 18) rfl meanCells (by as_aux_lemma => kernel_rfl) ?_
  refine wpList_store_rowTo rfl 109 _ _ rfl rfl w.heap.size meanCells (by as_aux_lemma => kernel_rfl) (by as_aux_lemma => kernel_rfl) 109 _ (heap_alloc_new w _) (by as_aux_lemma => kernel_rfl) (by as_aux_lemma => kernel_rfl) (by as_aux_lemma => kernel_rfl) ?_
  apply wpList_nil
  rw [World.setRow_alloc_new]
  rename_i hK
  refine hK _ _ (wp_ret ?_)
  exact ret_mean rfl (by as_aux_lemma => kernel_rfl) (by as_aux_lemma => kernel_rfl) (heap_alloc_new w _) (by as_aux_lemma => kernel_rfl) ⟨rfl, (Kept.refl [] w).alloc _⟩
/-- What the table has at an operator. -/
theorem mean_at {op : Nat} (ho : TabOp op) (w : World) : (Instr.index 109 (.agg meanCells) (.int .u8 (op : Nat))).run Tryd.prog w = .ok (.agg #[.bool (foreverOp op), .func (.func (fnOp op)) #[] #[]]) w := by
  rcases ho with rfl | rfl | rfl | rfl | rfl | rfl | rfl | rfl | rfl | rfl | rfl <;> kernel_rfl
end Go.Proofs.YtondmjnagkldpaaDoor
