/- nnf.plans: the table of columns. -/
import Derived.Test.YtnpeghaficghaaaDoorNnLeaf
namespace Go.Proofs.YtnpeghaficghaaaDoor
open Go.RowKit Go.Shelf

def ptr (b : Nat) : Value := .pointer (some ⟨b, 0, none⟩)
/-- The table, cell by cell: y, n, a, o, u, r are the boxes of yes, no, and, or, until, release. -/
def planTab (y n a o u r : Nat) : Array Value := #[.nilFunc, .nilFunc, .nilFunc, .nilFunc, .func (.func 141) #[] #[], .func (.func 142) #[] #[.pointer (some ⟨a, 0, none⟩), .pointer (some ⟨o, 0, none⟩)], .func (.func 143) #[] #[.pointer (some ⟨o, 0, none⟩), .pointer (some ⟨a, 0, none⟩)], .func (.func 144) #[] #[.pointer (some ⟨o, 0, none⟩), .pointer (some ⟨a, 0, none⟩)],
  .func (.func 145) #[] #[.pointer (some ⟨o, 0, none⟩), .pointer (some ⟨a, 0, none⟩)], .func (.func 146) #[] #[], .func (.func 147) #[] #[.pointer (some ⟨u, 0, none⟩), .pointer (some ⟨y, 0, none⟩), .pointer (some ⟨r, 0, none⟩), .pointer (some ⟨n, 0, none⟩)], .func (.func 148) #[] #[.pointer (some ⟨r, 0, none⟩), .pointer (some ⟨n, 0, none⟩), .pointer (some ⟨u, 0, none⟩), .pointer (some ⟨y, 0, none⟩)],
  .func (.func 149) #[] #[.pointer (some ⟨u, 0, none⟩), .pointer (some ⟨r, 0, none⟩)], .func (.func 150) #[] #[.pointer (some ⟨r, 0, none⟩), .pointer (some ⟨u, 0, none⟩)], .func (.func 151) #[] #[.pointer (some ⟨r, 0, none⟩), .pointer (some ⟨o, 0, none⟩), .pointer (some ⟨u, 0, none⟩), .pointer (some ⟨a, 0, none⟩)], .func (.func 152) #[] #[.pointer (some ⟨u, 0, none⟩), .pointer (some ⟨a, 0, none⟩), .pointer (some ⟨r, 0, none⟩), .pointer (some ⟨o, 0, none⟩)]]
structure PlanBox (w : World) (y n a o u r : Nat) : Prop where
  y : Pl5 w y (.int .u8 1) (.string nE) (.slice none 0 0) (.int .i64 1) (.int .i64 1)
  n : Pl5 w n (.int .u8 2) (.string nE) (.slice none 0 0) (.int .i64 1) (.int .i64 1)
  a : FnAt w a 137
  o : FnAt w o 138
  u : FnAt w u 139
  r : FnAt w r 140
/-- The table's functions do what the columns say. -/
def fnCol (op : Nat) : Nat := if op = 4 then 141 else if op = 5 then 142 else if op = 6 then 143 else if op = 7 then 144 else if op = 8 then 145 else if op = 9 then 146 else if op = 10 then 147 else if op = 11 then 148 else if op = 12 then 149 else if op = 13 then 150 else if op = 14 then 151 else 152
theorem col_enters {op : Nat} (ho : Un op ∨ Bi op) : ∀ args w, (callFunc (fnCol op) args).run Tryd.prog w = .ok (.enter (fnCol op) args) w := by
  rcases ho with (rfl | rfl | rfl | rfl) | (rfl | rfl | rfl | rfl | rfl | rfl | rfl | rfl)
  · exact enters_of Tryd.func141 (by kernel_rfl) rfl
  · exact enters_of Tryd.func146 (by kernel_rfl) rfl
  · exact enters_of Tryd.func147 (by kernel_rfl) rfl
  · exact enters_of Tryd.func148 (by kernel_rfl) rfl
  · exact enters_of Tryd.func142 (by kernel_rfl) rfl
  · exact enters_of Tryd.func143 (by kernel_rfl) rfl
  · exact enters_of Tryd.func144 (by kernel_rfl) rfl
  · exact enters_of Tryd.func145 (by kernel_rfl) rfl
  · exact enters_of Tryd.func149 (by kernel_rfl) rfl
  · exact enters_of Tryd.func150 (by kernel_rfl) rfl
  · exact enters_of Tryd.func151 (by kernel_rfl) rfl
  · exact enters_of Tryd.func152 (by kernel_rfl) rfl
theorem tab_one {w0 : World} {y n a o u r op : Nat} (h : PlanBox w0 y n a o u r) (ho : Un op) : ∃ lb, (planTab y n a o u r)[op]? = some (.func (.func (fnCol op)) #[] lb) ∧ ColOne (fnCol op) lb op w0 := by
  rcases ho with rfl | rfl | rfl | rfl
  · exact ⟨_, rfl, col_not w0⟩
  · exact ⟨_, rfl, col_next w0⟩
  · exact ⟨_, rfl, col_event w0 u y r n h.u h.y h.r h.n⟩
  · exact ⟨_, rfl, col_always w0 r n u y h.r h.n h.u h.y⟩
theorem tab_two {w0 : World} {y n a o u r op : Nat} (h : PlanBox w0 y n a o u r) (ho : Bi op) : ∃ lb, (planTab y n a o u r)[op]? = some (.func (.func (fnCol op)) #[] lb) ∧ ColDoes (fnCol op) lb op w0 := by
  rcases ho with rfl | rfl | rfl | rfl | rfl | rfl | rfl | rfl
  · exact ⟨_, rfl, col_and w0 a o h.a h.o⟩
  · exact ⟨_, rfl, col_or w0 o a h.o h.a⟩
  · exact ⟨_, rfl, col_imp w0 o a h.o h.a⟩
  · exact ⟨_, rfl, col_iff w0 o a h.o h.a⟩
  · exact ⟨_, rfl, col_until w0 u r h.u h.r⟩
  · exact ⟨_, rfl, col_release w0 r u h.r h.u⟩
  · exact ⟨_, rfl, col_weak w0 r o u a h.r h.o h.u h.a⟩
  · exact ⟨_, rfl, col_strong w0 u a r o h.u h.a h.r h.o⟩
theorem ret_tab {fn : Func} {p : Tmp} {act : Act} {w : World} {g : Nat} {cs : Array Value} {R : Ending → World → Prop} (h : fn.results = #[.cell p 129]) (hp : act.tmps.getD p undef = .pointer (some ⟨g, 0, none⟩)) (hd : act.defers = []) (hg : w.heap[g]? = some (.cells cs 129 (0, 0))) (hsz : cs.size = 16) (hR : R (.returned (.agg cs)) w) : bodyPost Tryd.prog fn R .ret act w :=
  bodyPost_ret (results_cell_row h _ w g 129 cs _ _ hp hg Tryd.underlying129 rfl (by rw [hsz]; kernel_rfl)) hd hR
def set16 (W : World) (B : Nat) (v0 v1 v2 v3 v4 v5 v6 v7 v8 v9 v10 v11 v12 v13 v14 v15 : Value) : World := ((((((((((((((((W.setCell ⟨B, 0, none⟩ v0).setCell ⟨B, 1, none⟩ v1).setCell ⟨B, 2, none⟩ v2).setCell ⟨B, 3, none⟩ v3).setCell ⟨B, 4, none⟩ v4).setCell ⟨B, 5, none⟩ v5).setCell ⟨B, 6, none⟩ v6).setCell ⟨B, 7, none⟩ v7).setCell ⟨B, 8, none⟩ v8).setCell ⟨B, 9, none⟩ v9).setCell ⟨B, 10, none⟩ v10).setCell ⟨B, 11, none⟩ v11).setCell ⟨B, 12, none⟩ v12).setCell ⟨B, 13, none⟩ v13).setCell ⟨B, 14, none⟩ v14).setCell ⟨B, 15, none⟩ v15)
theorem row_set16 {W : World} {B : Nat} {T : TypeId} {u0 u1 u2 u3 u4 u5 u6 u7 u8 u9 u10 u11 u12 u13 u14 u15 : Value} (h : W.heap[B]? = some (.cells #[u0, u1, u2, u3, u4, u5, u6, u7, u8, u9, u10, u11, u12, u13, u14, u15] T (0, 0))) (v0 v1 v2 v3 v4 v5 v6 v7 v8 v9 v10 v11 v12 v13 v14 v15 : Value) : (set16 W B v0 v1 v2 v3 v4 v5 v6 v7 v8 v9 v10 v11 v12 v13 v14 v15).heap[B]? = some (.cells #[v0, v1, v2, v3, v4, v5, v6, v7, v8, v9, v10, v11, v12, v13, v14, v15] T (0, 0)) := by
  unfold set16; rw [(row_set (row_set (row_set (row_set (row_set (row_set (row_set (row_set (row_set (row_set (row_set (row_set (row_set (row_set (row_set (row_set h v0) v1) v2) v3) v4) v5) v6) v7) v8) v9) v10) v11) v12) v13) v14) v15)]; simp only [List.setIfInBounds_toArray, List.set_cons_zero, List.set_cons_succ]
theorem kept_set16 {F : List Nat} {w W : World} {B : Nat} (k : Kept F w W) (hB : B ∈ F ∨ w.heap.size ≤ B) (v0 v1 v2 v3 v4 v5 v6 v7 v8 v9 v10 v11 v12 v13 v14 v15 : Value) : Kept F w (set16 W B v0 v1 v2 v3 v4 v5 v6 v7 v8 v9 v10 v11 v12 v13 v14 v15) :=
  ((((((((((((((((k.setCell (p := ⟨B, 0, none⟩) hB v0).setCell (p := ⟨B, 1, none⟩) hB v1).setCell (p := ⟨B, 2, none⟩) hB v2).setCell (p := ⟨B, 3, none⟩) hB v3).setCell (p := ⟨B, 4, none⟩) hB v4).setCell (p := ⟨B, 5, none⟩) hB v5).setCell (p := ⟨B, 6, none⟩) hB v6).setCell (p := ⟨B, 7, none⟩) hB v7).setCell (p := ⟨B, 8, none⟩) hB v8).setCell (p := ⟨B, 9, none⟩) hB v9).setCell (p := ⟨B, 10, none⟩) hB v10).setCell (p := ⟨B, 11, none⟩) hB v11).setCell (p := ⟨B, 12, none⟩) hB v12).setCell (p := ⟨B, 13, none⟩) hB v13).setCell (p := ⟨B, 14, none⟩) hB v14).setCell (p := ⟨B, 15, none⟩) hB v15)
theorem PlanBox.keptF {F : List Nat} {w w' : World} {y n a o u r : Nat} (h : PlanBox w y n a o u r) (k : Kept F w w') (hF : ∀ x ∈ F, x ≠ y ∧ x ≠ n ∧ x ≠ a ∧ x ≠ o ∧ x ≠ u ∧ x ≠ r) : PlanBox w' y n a o u r :=
  ⟨k.at h.y (fun e => (hF _ e).1 rfl), k.at h.n (fun e => (hF _ e).2.1 rfl), cell_keptF k (fun e => (hF _ e).2.2.1 rfl) h.a, cell_keptF k (fun e => (hF _ e).2.2.2.1 rfl) h.o, cell_keptF k (fun e => (hF _ e).2.2.2.2.1 rfl) h.u, cell_keptF k (fun e => (hF _ e).2.2.2.2.2 rfl) h.r⟩
set_option maxHeartbeats 1000000 in
set_option maxRecDepth 20000 in
theorem plans_any (w : World) : Calls Tryd.prog 106 #[] w fun e w' => ∃ y n a o u r, e = .returned (.agg (planTab y n a o u r)) ∧ PlanBox w' y n a o u r ∧ Kept [] w w' := by
  have HY : Hid (∀ W, Calls Tryd.prog 136 #[.int .u8 1, .slice none 0 0] W fun e w' => e = .returned (.agg #[.int .u8 1, .string nE, .slice none 0 0, .int .i64 1, .int .i64 1]) ∧ Kept [] W w') := planOf_0 1
  have HN : Hid (∀ W, Calls Tryd.prog 136 #[.int .u8 2, .slice none 0 0] W fun e w' => e = .returned (.agg #[.int .u8 2, .string nE, .slice none 0 0, .int .i64 1, .int .i64 1]) ∧ Kept [] W w') := planOf_0 2
  have T0 : Hid True := trivial
  have T1 : Hid True := trivial
  go_enter Tryd.func106, Tryd.ntmps106
  go_upto_region 6 with (first
      | (clear T0; go_at_call 136; refine (HY.out _).mono ?_; rintro e W1 ⟨rfl, k1⟩; have HK1 : Hid _ := k1; clear k1)
      | (clear T1; go_at_call 136; refine (HN.out _).mono ?_; rintro e W2 ⟨rfl, k2⟩; have HW2 : Hid (Kept [] _ W2) := HK1.out.trans k2 (H := []) (by simp) (by simp); clear k2))
  obtain ⟨V, hV⟩ : ∃ V, (((((W2.alloc (.cells #[.int .u8 1, .string nE, .slice none 0 0, .int .i64 1, .int .i64 1] 93)).alloc (.cells #[.int .u8 2, .string nE, .slice none 0 0, .int .i64 1, .int .i64 1] 93)).alloc (.cells #[.func (.func 137) #[] #[]] 157)).alloc (.cells #[.func (.func 138) #[] #[]] 157)).alloc (.cells #[.func (.func 139) #[] #[]] 157)).alloc (.cells #[.func (.func 140) #[] #[]] 157) = V := ⟨_, rfl⟩
  have kV : Kept [] W2 V := by rw [← hV]; exact ((((((Kept.refl [] W2).alloc _).alloc _).alloc _).alloc _).alloc _).alloc _
  have hB : PlanBox V W2.heap.size (W2.heap.size + 1) (W2.heap.size + 1 + 1) (W2.heap.size + 1 + 1 + 1) (W2.heap.size + 1 + 1 + 1 + 1) (W2.heap.size + 1 + 1 + 1 + 1 + 1) := by
    rw [← hV]
    exact ⟨alUp (alUp (alUp (alUp (alUp (al0 _ _) _) _) _) _) _, alUp (alUp (alUp (alUp (al1 _ _ _) _) _) _) _, (cell_of (alUp (alUp (alUp (al2 _ _ _ _) _) _) _) 0).trans rfl, (cell_of (alUp (alUp (al3 _ _ _ _ _) _) _) 0).trans rfl, (cell_of (alUp (al4 _ _ _ _ _ _) _) 0).trans rfl, (cell_of (al5 _ _ _ _ _ _ _) 0).trans rfl⟩
  have hg : V.heap[w.heap.size]? = some (.cells #[.nilFunc, .nilFunc, .nilFunc, .nilFunc, .nilFunc, .nilFunc, .nilFunc, .nilFunc, .nilFunc, .nilFunc, .nilFunc, .nilFunc, .nilFunc, .nilFunc, .nilFunc, .nilFunc] 129 (0, 0)) := (HW2.out.trans kV (H := []) (by simp) (by simp)).at (al0 w _) (by simp)
  have kw : Kept [] w V := ((Kept.refl [] w).alloc _).trans (HW2.out.trans kV (H := []) (by simp) (by simp)) (by simp) (by simp)
  have hl : w.heap.size < W2.heap.size := by have := HW2.out.size; simp at this; omega
  rw [hV]
  have c0 : V.cell? ⟨w.heap.size, 0, none⟩ = some .nilFunc := (cell_of hg 0).trans rfl
  have c1 : V.cell? ⟨w.heap.size, 1, none⟩ = some .nilFunc := (cell_of hg 1).trans rfl
  have c2 : V.cell? ⟨w.heap.size, 2, none⟩ = some .nilFunc := (cell_of hg 2).trans rfl
  have c3 : V.cell? ⟨w.heap.size, 3, none⟩ = some .nilFunc := (cell_of hg 3).trans rfl
  have c4 : V.cell? ⟨w.heap.size, 4, none⟩ = some .nilFunc := (cell_of hg 4).trans rfl
  have c5 : V.cell? ⟨w.heap.size, 5, none⟩ = some .nilFunc := (cell_of hg 5).trans rfl
  have c6 : V.cell? ⟨w.heap.size, 6, none⟩ = some .nilFunc := (cell_of hg 6).trans rfl
  have c7 : V.cell? ⟨w.heap.size, 7, none⟩ = some .nilFunc := (cell_of hg 7).trans rfl
  have c8 : V.cell? ⟨w.heap.size, 8, none⟩ = some .nilFunc := (cell_of hg 8).trans rfl
  have c9 : V.cell? ⟨w.heap.size, 9, none⟩ = some .nilFunc := (cell_of hg 9).trans rfl
  have c10 : V.cell? ⟨w.heap.size, 10, none⟩ = some .nilFunc := (cell_of hg 10).trans rfl
  have c11 : V.cell? ⟨w.heap.size, 11, none⟩ = some .nilFunc := (cell_of hg 11).trans rfl
  have c12 : V.cell? ⟨w.heap.size, 12, none⟩ = some .nilFunc := (cell_of hg 12).trans rfl
  have c13 : V.cell? ⟨w.heap.size, 13, none⟩ = some .nilFunc := (cell_of hg 13).trans rfl
  have c14 : V.cell? ⟨w.heap.size, 14, none⟩ = some .nilFunc := (cell_of hg 14).trans rfl
  have c15 : V.cell? ⟨w.heap.size, 15, none⟩ = some .nilFunc := (cell_of hg 15).trans rfl
  have cf : ∀ i, V.frozen? ⟨w.heap.size, i, none⟩ = false := fun i => free_of hg i
  have HG : Hid (V.heap[w.heap.size]? = some (.cells #[.nilFunc, .nilFunc, .nilFunc, .nilFunc, .nilFunc, .nilFunc, .nilFunc, .nilFunc, .nilFunc, .nilFunc, .nilFunc, .nilFunc, .nilFunc, .nilFunc, .nilFunc, .nilFunc] 129 (0, 0))) := hg
  have HB : Hid (PlanBox V W2.heap.size (W2.heap.size + 1) (W2.heap.size + 1 + 1) (W2.heap.size + 1 + 1 + 1) (W2.heap.size + 1 + 1 + 1 + 1) (W2.heap.size + 1 + 1 + 1 + 1 + 1)) := hB
  have HK : Hid (Kept [] w V) := kw
  clear hV kV hB hg kw
  go_wp2
  refine ret_tab rfl rfl rfl (row_set16 HG.out _ _ _ _ _ _ _ _ _ _ _ _ _ _ _ _) rfl ⟨_, _, _, _, _, _, rfl, HB.out.keptF (kept_set16 (Kept.refl [w.heap.size] V) (.inl (by simp)) _ _ _ _ _ _ _ _ _ _ _ _ _ _ _ _) (fun x hx => ?_), kept_set16 HK.out (.inr (Nat.le_refl _)) _ _ _ _ _ _ _ _ _ _ _ _ _ _ _ _⟩
  rw [List.mem_singleton.1 hx]
  omega
end Go.Proofs.YtnpeghaficghaaaDoor
