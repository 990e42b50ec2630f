/- What operators mean: the table of functions that eval.meanings makes, and each of them. -/
import Derived.Test.YtddgciilcghbaaaDoorEvBack
import Derived.Laws.ResultCell
import Derived.Great.BuildSlice
import Derived.Great.Walk
import Derived.Deep.WholeRow
namespace Go.Proofs.YtddgciilcghbaaaDoor
open Go.RowKit Go.Shelf

def fnOp (op : Nat) : Nat :=
  if op = 4 then 156 else if op = 5 then 157 else if op = 6 then 158 else if op = 7 then 159 else if op = 8 then 160
  else if op = 10 then 161 else if op = 11 then 162 else if op = 12 ∨ op = 14 then 154 else 155
/-- The operators of that table. -/
def TabOp (op : Nat) : Prop := op = 4 ∨ op = 5 ∨ op = 6 ∨ op = 7 ∨ op = 8 ∨ op = 10 ∨ op = 11 ∨ op = 12 ∨ op = 13 ∨ op = 14 ∨ op = 15
set_option maxHeartbeats 1000000 in
theorem mean1 (g h l : Bool) (w : World) : Calls Tryd.prog 154 #[.bool g, .bool h, .bool l] w fun e w' => e = .returned (.bool (h || (g && l))) ∧ w' = w := by
  cases g <;> cases h <;> cases l
  all_goals
    go_enter Tryd.func154, Tryd.ntmps154
    go_wp2
    go_ret
    exact ⟨rfl, rfl⟩
set_option maxHeartbeats 1000000 in
theorem mean2 (g h l : Bool) (w : World) : Calls Tryd.prog 155 #[.bool g, .bool h, .bool l] w fun e w' => e = .returned (.bool (h && (g || l))) ∧ w' = w := by
  cases g <;> cases h <;> cases l
  all_goals
    go_enter Tryd.func155, Tryd.ntmps155
    go_wp2
    go_ret
    exact ⟨rfl, rfl⟩
set_option maxHeartbeats 1000000 in
theorem mean3 (g h l : Bool) (w : World) : Calls Tryd.prog 156 #[.bool g, .bool h, .bool l] w fun e w' => e = .returned (.bool (!g)) ∧ w' = w := by
  go_enter Tryd.func156, Tryd.ntmps156
  go_wp2
  go_ret
  exact ⟨rfl, rfl⟩
set_option maxHeartbeats 1000000 in
theorem mean4 (g h l : Bool) (w : World) : Calls Tryd.prog 157 #[.bool g, .bool h, .bool l] w fun e w' => e = .returned (.bool (g && h)) ∧ w' = w := by
  cases g <;> cases h
  all_goals
    go_enter Tryd.func157, Tryd.ntmps157
    go_wp2
    go_ret
    exact ⟨rfl, rfl⟩
set_option maxHeartbeats 1000000 in
theorem mean5 (g h l : Bool) (w : World) : Calls Tryd.prog 158 #[.bool g, .bool h, .bool l] w fun e w' => e = .returned (.bool (g || h)) ∧ w' = w := by
  cases g <;> cases h
  all_goals
    go_enter Tryd.func158, Tryd.ntmps158
    go_wp2
    go_ret
    exact ⟨rfl, rfl⟩
set_option maxHeartbeats 1000000 in
theorem mean6 (g h l : Bool) (w : World) : Calls Tryd.prog 159 #[.bool g, .bool h, .bool l] w fun e w' => e = .returned (.bool (h || !g)) ∧ w' = w := by
  cases g <;> cases h
  all_goals
    go_enter Tryd.func159, Tryd.ntmps159
    go_wp2
    go_ret
    exact ⟨rfl, rfl⟩
set_option maxHeartbeats 1000000 in
theorem mean7 (g h l : Bool) (w : World) : Calls Tryd.prog 160 #[.bool g, .bool h, .bool l] w fun e w' => e = .returned (.bool (g == h)) ∧ w' = w := by
  cases g <;> cases h
  all_goals
    go_enter Tryd.func160, Tryd.ntmps160
    go_wp2
    go_ret
    exact ⟨rfl, rfl⟩
set_option maxHeartbeats 1000000 in
theorem mean8 (g h l : Bool) (w : World) : Calls Tryd.prog 161 #[.bool g, .bool h, .bool l] w fun e w' => e = .returned (.bool (g || l)) ∧ w' = w := by
  cases g <;> cases l
  all_goals
    go_enter Tryd.func161, Tryd.ntmps161
    go_wp2
    go_ret
    exact ⟨rfl, rfl⟩
set_option maxHeartbeats 1000000 in
theorem mean9 (g h l : Bool) (w : World) : Calls Tryd.prog 162 #[.bool g, .bool h, .bool l] w fun e w' => e = .returned (.bool (g && l)) ∧ w' = w := by
  cases g <;> cases l
  all_goals
    go_enter Tryd.func162, Tryd.ntmps162
    go_wp2
    go_ret
    exact ⟨rfl, rfl⟩
/-- Each of them, by its operator. -/
theorem mean_any {op : Nat} (ho : TabOp op) (g h l : Bool) (w : World) : Calls Tryd.prog (fnOp op) #[.bool g, .bool h, .bool l] w fun e w' => e = .returned (.bool (holdOp op g h l)) ∧ w' = w := by
  rcases ho with rfl | rfl | rfl | rfl | rfl | rfl | rfl | rfl | rfl | rfl | rfl
  · exact mean3 g h l w
  · exact mean4 g h l w
  · exact mean5 g h l w
  · exact mean6 g h l w
  · exact mean7 g h l w
  · exact mean8 g h l w
  · exact mean9 g h l w
  · exact mean1 g h l w
  · exact mean2 g h l w
  · exact mean1 g h l w
  · exact mean2 g h l w
theorem mean_enters {op : Nat} (ho : TabOp op) : ∀ args w, (callFunc (fnOp op) args).run Tryd.prog w = .ok (.enter (fnOp op) args) w := by
  rcases ho with rfl | rfl | rfl | rfl | rfl | rfl | rfl | rfl | rfl | rfl | rfl
  · exact enters_of Tryd.func156 (by kernel_rfl) rfl
  · exact enters_of Tryd.func157 (by kernel_rfl) rfl
  · exact enters_of Tryd.func158 (by kernel_rfl) rfl
  · exact enters_of Tryd.func159 (by kernel_rfl) rfl
  · exact enters_of Tryd.func160 (by kernel_rfl) rfl
  · exact enters_of Tryd.func161 (by kernel_rfl) rfl
  · exact enters_of Tryd.func162 (by kernel_rfl) rfl
  · exact enters_of Tryd.func154 (by kernel_rfl) rfl
  · exact enters_of Tryd.func155 (by kernel_rfl) rfl
  · exact enters_of Tryd.func154 (by kernel_rfl) rfl
  · exact enters_of Tryd.func155 (by kernel_rfl) rfl
/-- The table, cell by cell. -/
def meanCells : Array Value := #[.bool false, .nilFunc, .bool false, .nilFunc, .bool false, .nilFunc, .bool false, .nilFunc, .bool false, .func (.func 156) #[] #[], .bool false, .func (.func 157) #[] #[], .bool false, .func (.func 158) #[] #[], .bool false, .func (.func 159) #[] #[], .bool false, .func (.func 160) #[] #[], .bool false, .nilFunc, .bool false, .func (.func 161) #[] #[], .bool true, .func (.func 162) #[] #[], .bool false, .func (.func 154) #[] #[], .bool true, .func (.func 155) #[] #[], .bool true, .func (.func 154) #[] #[], .bool false, .func (.func 155) #[] #[]]
theorem ret_mean {fn : Func} {p : Tmp} {a : Act} {w : World} {g : Nat} {cs : Array Value} {R : Ending → World → Prop} (h : fn.results = #[.cell p 145]) (hp : a.tmps.getD p undef = .pointer (some ⟨g, 0, none⟩)) (hd : a.defers = []) (hg : w.heap[g]? = some (.cells cs 145 (0, 0))) (hsz : cs.size = 32) (hR : R (.returned (.agg cs)) w) : bodyPost Tryd.prog fn R .ret a w :=
  bodyPost_ret (results_cell_row h _ w g 145 cs _ _ hp hg Tryd.underlying145 rfl (by rw [hsz]; kernel_rfl)) hd hR
theorem mean_zero : (Tryd.prog.info? 145).map (·.size) = some 32 := by kernel_rfl
attribute [local irreducible] wpList Code.wp
set_option maxHeartbeats 1000000 in
set_option maxRecDepth 20000 in
theorem meanings_any (w : World) : Calls Tryd.prog 124 #[] w fun e w' => e = .returned (.agg meanCells) ∧ Kept [] w w' := by
  go_enter Tryd.func124, Tryd.ntmps124
  generalize hc : Code.region 3 _ _ = c
  go_wp2
  subst hc
  apply wp_region_list
  simp only []
  refine wpList_buildTo rfl 144 _ rfl (some 3) rfl #[.bool false, .func (.func 156) #[] #[]] (by as_aux_lemma => kernel_rfl) ?_
  refine wpList_buildTo rfl 144 _ rfl (some 4) rfl #[.bool false, .func (.func 157) #[] #[]] (by as_aux_lemma => kernel_rfl) ?_
  refine wpList_buildTo rfl 144 _ rfl (some 5) rfl #[.bool false, .func (.func 158) #[] #[]] (by as_aux_lemma => kernel_rfl) ?_
  refine wpList_buildTo rfl 144 _ rfl (some 6) rfl #[.bool false, .func (.func 159) #[] #[]] (by as_aux_lemma => kernel_rfl) ?_
  refine wpList_buildTo rfl 144 _ rfl (some 7) rfl #[.bool false, .func (.func 160) #[] #[]] (by as_aux_lemma => kernel_rfl) ?_
  refine wpList_buildTo rfl 144 _ rfl (some 8) rfl #[.bool false, .func (.func 161) #[] #[]] (by as_aux_lemma => kernel_rfl) ?_
  refine wpList_buildTo rfl 144 _ rfl (some 9) rfl #[.bool true, .func (.func 162) #[] #[]] (by as_aux_lemma => kernel_rfl) ?_
  refine Great.wpList_readTo rfl (some 10) rfl (.func (.func 154) #[] #[]) (by as_aux_lemma => kernel_rfl) ?_
  refine wpList_buildTo rfl 144 _ rfl (some 11) rfl #[.bool false, .func (.func 154) #[] #[]] (by as_aux_lemma => kernel_rfl) ?_
  refine Great.wpList_readTo rfl (some 12) rfl (.func (.func 155) #[] #[]) (by as_aux_lemma => kernel_rfl) ?_
  refine wpList_buildTo rfl 144 _ rfl (some 13) rfl #[.bool true, .func (.func 155) #[] #[]] (by as_aux_lemma => kernel_rfl) ?_
  refine Great.wpList_readTo rfl (some 14) rfl (.func (.func 154) #[] #[]) (by as_aux_lemma => kernel_rfl) ?_
  refine wpList_buildTo rfl 144 _ rfl (some 15) rfl #[.bool true, .func (.func 154) #[] #[]] (by as_aux_lemma => kernel_rfl) ?_
  refine Great.wpList_readTo rfl (some 16) rfl (.func (.func 155) #[] #[]) (by as_aux_lemma => kernel_rfl) ?_
  refine wpList_buildTo rfl 144 _ rfl (some 17) rfl #[.bool false, .func (.func 155) #[] #[]] (by as_aux_lemma => kernel_rfl) ?_
  refine wpList_buildTo rfl 145 _ rfl (some 18) rfl meanCells (by as_aux_lemma => kernel_rfl) ?_
  refine wpList_store_rowTo rfl 145 _ _ rfl rfl w.heap.size meanCells (by as_aux_lemma => kernel_rfl) (by as_aux_lemma => kernel_rfl) 145 _ (heap_alloc_new w _) (by as_aux_lemma => kernel_rfl) (by as_aux_lemma => kernel_rfl) (by as_aux_lemma => kernel_rfl) ?_
  apply wpList_nil
  rw [World.setRow_alloc_new]
  rename_i hK
  refine hK _ _ (wp_ret ?_)
  exact ret_mean rfl (by as_aux_lemma => kernel_rfl) (by as_aux_lemma => kernel_rfl) (heap_alloc_new w _) (by as_aux_lemma => kernel_rfl) ⟨rfl, (Kept.refl [] w).alloc _⟩
/-- What the table has at an operator. -/
theorem mean_at {op : Nat} (ho : TabOp op) (w : World) : (Instr.index 145 (.agg meanCells) (.int .u8 (op : Nat))).run Tryd.prog w = .ok (.agg #[.bool (foreverOp op), .func (.func (fnOp op)) #[] #[]]) w := by
  rcases ho with rfl | rfl | rfl | rfl | rfl | rfl | rfl | rfl | rfl | rfl | rfl <;> kernel_rfl
end Go.Proofs.YtddgciilcghbaaaDoor
