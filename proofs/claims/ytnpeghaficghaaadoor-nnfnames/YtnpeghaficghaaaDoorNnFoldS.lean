/- nnf.folded at formulas, nnf.Simple. -/
import Derived.Test.YtnpeghaficghaaaDoorNnRows
import Derived.Test.YtnpeghaficghaaaDoorNnMade
namespace Go.Proofs.YtnpeghaficghaaaDoor
open Go.RowKit Go.Shelf

def simpTab : Array Value := #[.nilFunc, .nilFunc, .nilFunc, .nilFunc, .func (.func 78) #[] #[], .func (.func 80) #[] #[], .func (.func 82) #[] #[], .func (.func 83) #[] #[], .func (.func 84) #[] #[], .func (.func 85) #[] #[], .func (.func 87) #[] #[], .func (.func 89) #[] #[], .func (.func 90) #[] #[], .func (.func 92) #[] #[], .func (.func 93) #[] #[], .func (.func 95) #[] #[]]
def fnRow (op : Nat) : Nat := if op = 4 then 78 else if op = 5 then 80 else if op = 6 then 82 else if op = 7 then 83 else if op = 8 then 84 else if op = 9 then 85 else if op = 10 then 87 else if op = 11 then 89 else if op = 12 then 90 else if op = 13 then 92 else if op = 14 then 93 else 95
theorem row_enters {op : Nat} (ho : Un op ∨ Bi op) : ∀ args w, (callFunc (fnRow op) args).run Tryd.prog w = .ok (.enter (fnRow op) args) w := by
  rcases ho with (rfl | rfl | rfl | rfl) | (rfl | rfl | rfl | rfl | rfl | rfl | rfl | rfl)
  · exact enters_of Tryd.func78 (by kernel_rfl) rfl
  · exact enters_of Tryd.func85 (by kernel_rfl) rfl
  · exact enters_of Tryd.func87 (by kernel_rfl) rfl
  · exact enters_of Tryd.func89 (by kernel_rfl) rfl
  · exact enters_of Tryd.func80 (by kernel_rfl) rfl
  · exact enters_of Tryd.func82 (by kernel_rfl) rfl
  · exact enters_of Tryd.func83 (by kernel_rfl) rfl
  · exact enters_of Tryd.func84 (by kernel_rfl) rfl
  · exact enters_of Tryd.func90 (by kernel_rfl) rfl
  · exact enters_of Tryd.func92 (by kernel_rfl) rfl
  · exact enters_of Tryd.func93 (by kernel_rfl) rfl
  · exact enters_of Tryd.func95 (by kernel_rfl) rfl
theorem tabS_one {op : Nat} (ho : Un op) : simpTab[op]? = some (.func (.func (fnRow op)) #[] #[]) ∧ RowOne (fnRow op) op := by
  rcases ho with rfl | rfl | rfl | rfl
  · exact ⟨rfl, row_4⟩
  · exact ⟨rfl, row_9⟩
  · exact ⟨rfl, row_10⟩
  · exact ⟨rfl, row_11⟩
theorem tabS_two {op : Nat} (ho : Bi op) : simpTab[op]? = some (.func (.func (fnRow op)) #[] #[]) ∧ RowTwo (fnRow op) op := by
  rcases ho with rfl | rfl | rfl | rfl | rfl | rfl | rfl | rfl
  · exact ⟨rfl, row_5⟩
  · exact ⟨rfl, row_6⟩
  · exact ⟨rfl, row_7⟩
  · exact ⟨rfl, row_8⟩
  · exact ⟨rfl, row_12⟩
  · exact ⟨rfl, row_13⟩
  · exact ⟨rfl, row_14⟩
  · exact ⟨rfl, row_15⟩
theorem ret_tabS {fn : Func} {p : Tmp} {act : Act} {w : World} {g : Nat} {cs : Array Value} {R : Ending → World → Prop} (h : fn.results = #[.cell p 74]) (hp : act.tmps.getD p undef = .pointer (some ⟨g, 0, none⟩)) (hd : act.defers = []) (hg : w.heap[g]? = some (.cells cs 74 (0, 0))) (hsz : cs.size = 16) (hR : R (.returned (.agg cs)) w) : bodyPost Tryd.prog fn R .ret act w :=
  bodyPost_ret (results_cell_row h _ w g 74 cs _ _ hp hg Tryd.underlying74 rfl (by rw [hsz]; kernel_rfl)) hd hR
set_option maxHeartbeats 1000000 in
set_option maxRecDepth 20000 in
theorem simpler_any (w : World) : Calls Tryd.prog 49 #[] w fun e w' => e = .returned (.agg simpTab) ∧ Kept [] w w' := by
  go_enter Tryd.func49, Tryd.ntmps49
  go_wp2
  exact ret_tabS rfl rfl rfl (al0 w _) rfl ⟨rfl, (Kept.refl [] w).alloc _⟩
structure FoldSAt (w : World) (a b c : Value) (tab K : Array Value) (wr : World) : Prop where
  kept : Kept [] w wr
  src : For3 wr w.heap.size a b c
  tab : wr.heap[w.heap.size + 1]? = some (.cells tab 74 (0, 0))
  res : For3 wr (w.heap.size + 1 + 1) (.int .u8 0) (.string ⟨#[]⟩) (.slice none 0 0)
  kids : wr.heap[w.heap.size + 1 + 1 + 1]? = some (.cells K 117 (0, 0))
theorem FoldSAt.next {w wr W : World} {a b c : Value} {tab K : Array Value} (h : FoldSAt w a b c tab K wr) (k : Kept [w.heap.size + 1 + 1 + 1] wr W) {K' : Array Value} (hK : W.heap[w.heap.size + 1 + 1 + 1]? = some (.cells K' 117 (0, 0))) : FoldSAt w a b c tab K' W :=
  ⟨h.kept.trans k (by simp) (fun x hx => .inr (by rw [List.mem_singleton.1 hx]; omega)), k.at h.src (by simp; omega), k.at h.tab (by simp), k.at h.res (by simp), hK⟩
theorem FoldSAt.keep {w wr W : World} {a b c : Value} {tab K : Array Value} (h : FoldSAt w a b c tab K wr) (k : Kept [] wr W) : FoldSAt w a b c tab K W :=
  ⟨h.kept.trans k (by simp) (by simp), k.at h.src (by simp), k.at h.tab (by simp), k.at h.res (by simp), k.at h.kids (by simp)⟩
def put3 (W : World) (B n : Nat) (a b c : Value) : World := ((W.setCell ⟨B, n, none⟩ a).setCell ⟨B, n + 1, none⟩ b).setCell ⟨B, n + 2, none⟩ c
theorem kept_put3 {F : List Nat} {w W : World} {B : Nat} (k : Kept F w W) (hB : B ∈ F ∨ w.heap.size ≤ B) (n : Nat) (a b c : Value) : Kept F w (put3 W B n a b c) :=
  ((k.setCell (p := ⟨B, n, none⟩) hB a).setCell (p := ⟨B, n + 1, none⟩) hB b).setCell (p := ⟨B, n + 2, none⟩) hB c
theorem row_putS0 {W : World} {B : Nat} {T : TypeId} {u0 u1 u2 u3 u4 u5 : Value} (q : W.heap[B]? = some (.cells #[u0, u1, u2, u3, u4, u5] T (0, 0))) (a b c : Value) : (put3 W B 0 a b c).heap[B]? = some (.cells #[a, b, c, u3, u4, u5] T (0, 0)) := by
  unfold put3; rw [row_set (row_set (row_set q a) b) c]; simp only [List.setIfInBounds_toArray, List.set_cons_zero, List.set_cons_succ, Nat.zero_add]
theorem row_putS1 {W : World} {B : Nat} {T : TypeId} {u0 u1 u2 u3 u4 u5 : Value} (q : W.heap[B]? = some (.cells #[u0, u1, u2, u3, u4, u5] T (0, 0))) (a b c : Value) : (put3 W B 3 a b c).heap[B]? = some (.cells #[u0, u1, u2, a, b, c] T (0, 0)) := by
  unfold put3; rw [row_set (row_set (row_set q a) b) c]; simp only [List.setIfInBounds_toArray, List.set_cons_zero, List.set_cons_succ]
theorem IsT.keptF {F : List Nat} {X : Nat → Prop} {W W' : World} {t : Tr} {kv : Value} (h : IsT X W t kv) (k : Kept F W W') (hF : ∀ b, X b → b ∉ F) : IsT X W' t kv := h.cells (fun _ h => h) (fun b _ _ hb c => cell_keptF k (hF b hb) c)
def FoldSDoes (t : Tr) : Prop := ∀ (kv : Value) (w : World), IsF w t kv → TurnTab w → t.size ≤ 1099511627776 →
  Calls Tryd.prog 47 #[.agg #[.int .u8 (t.op : Nat), .string t.name, kv], .func (.func 48) #[] #[], .agg simpTab] w (GivesX (fun k => w.heap.size ≤ k) w (simpT t))
set_option maxHeartbeats 1000000 in
set_option maxRecDepth 20000 in
theorem foldS_leaf (op : Nat) (s : ByteArray) : FoldSDoes ⟨op, s, []⟩ := by
  intro kv w hI hT hs
  obtain ⟨kad, kcap, rfl⟩ := hI.slice
  have HL : Hid (∀ W, Calls Tryd.prog 48 #[.agg #[.int .u8 (op : Nat), .string s, .slice kad 0 kcap]] W fun e w' => e = .returned (.agg #[.int .u8 (op : Nat), .string s, .slice none 0 0]) ∧ Kept [] W w') := fun W => leafAgain_any ⟨op, s, []⟩ kad 0 kcap W
  rw [simpT_0]
  show Calls Tryd.prog 47 #[.agg #[.int .u8 (op : Nat), .string s, .slice kad 0 kcap], .func (.func 48) #[] #[], .agg simpTab] w _
  clear hI hT hs
  unfold simpTab
  go_enter Tryd.func47, Tryd.ntmps47
  go_wp2_with (go_at_call 48; refine (HL.out _).mono ?_; rintro e W2 ⟨rfl, k2⟩; have hr : For3 W2 (w.heap.size + 1 + 1) (.int .u8 0) (.string ⟨#[]⟩) (.slice none 0 0) := Kept.at k2 (al2 w _ _ _) (by simp); obtain ⟨r0, r1, r2, rf⟩ := hr.cells; have HR : Hid (For3 W2 (w.heap.size + 1 + 1) (.int .u8 0) (.string ⟨#[]⟩) (.slice none 0 0)) := hr; have HK2 : Hid (Kept [] w W2) := ((((Kept.refl [] w).alloc _).alloc _).alloc _).trans k2 (by simp) (by simp); clear k2 hr)
  exact gives_end (t := ⟨op, s, []⟩) rfl rfl rfl HR.out (isT_leaf _ _ _ _) HK2.out (by omega)
set_option maxHeartbeats 2000000 in
set_option maxRecDepth 20000 in
theorem foldS_one (op : Nat) (ho : Un op) (x : Tr) (hGx : x.Good) (ih0 : FoldSDoes x) : FoldSDoes (nn1 op x) := by
  intro kv w hI hT hs
  obtain ⟨kad, kcap, rfl⟩ := hI.slice
  obtain ⟨kb, off, rfl, _, hk⟩ := hI.kid (show 0 < 1 by decide)
  obtain ⟨xv, c0, c1, c2, hIx⟩ := hk 0 (show 0 < 1 by decide)
  replace c0 : w.cell? ⟨kb, off + 0 * 3, none⟩ = some (.int .u8 (x.op : Nat)) := c0
  replace c1 : w.cell? ⟨kb, off + 0 * 3 + 1, none⟩ = some (.string x.name) := c1
  replace hIx : IsF w x xv := hIx
  rw [Nat.zero_mul, Nat.add_zero] at c0 c1 c2
  obtain ⟨xad, xcap, rfl⟩ := hIx.slice
  obtain ⟨hlb, hrow⟩ := tabS_one ho
  have hen := row_enters (op := op) (.inl ho)
  have hop : op < 16 := by unfold Un at ho; omega
  have hszn := (sz1 op x).1
  have hsz0 : x.size ≤ 1099511627776 := by omega
  have hless := simp_less x hGx
  rw [simpT_1]
  have HREC0 : Hid (∀ W, Kept [] w W → Calls Tryd.prog 47 #[.agg #[.int .u8 (x.op : Nat), .string x.name, .slice xad x.kids.length xcap], .func (.func 48) #[] #[], .agg simpTab] W (GivesX (fun k => W.heap.size ≤ k) W (simpT x))) := fun W k => ih0 _ W (hIx.kept k) (hT.kept k) hsz0
  have HCOL : Hid (∀ (W : World) a1 a2, Kept [] w W → w.heap.size + 1 + 1 < W.heap.size → IsT (fun k => w.heap.size ≤ k ∧ k ≠ w.heap.size + 1 + 1) W (simpT x) (.slice a1 (simpT x).kids.length a2) → Calls Tryd.prog (fnRow op) #[.agg #[.int .u8 ((simpT x).op : Nat), .string (simpT x).name, .slice a1 (simpT x).kids.length a2], zeroF] W (GivesX (fun k => w.heap.size ≤ k ∧ k ≠ w.heap.size + 1 + 1) W (sOp op (simpT x) (nn0 0)))) := fun W a1 a2 k hz hR => hrow _ _ _ _ W (fun b hb => ⟨by have := k.size; omega, by omega⟩) hR (hT.kept k) (simp_good x hGx) (by omega)
  generalize sOp op (simpT x) (nn0 0) = q at *
  generalize simpT x = p at *
  have HLB : Hid (simpTab[op]? = some (.func (.func (fnRow op)) #[] #[])) := hlb
  unfold zeroF at HCOL
  show Calls Tryd.prog 47 #[.agg #[.int .u8 (op : Nat), .string nE, .slice (some ⟨kb, off, none⟩) 1 kcap], .func (.func 48) #[] #[], .agg simpTab] w _
  have hopi : (op : Int) < 16 := by omega
  have HC00 : Hid _ := c0
  have HC01 : Hid _ := c1
  have HC02 : Hid _ := c2
  clear hI hk hIx ih0 hrow hlb c0 c1 c2 hT hs hszn hsz0 hless hGx ho
  generalize fnRow op = fc at *
  have HTB : Hid (simpTab = #[.nilFunc, .nilFunc, .nilFunc, .nilFunc, .func (.func 78) #[] #[], .func (.func 80) #[] #[], .func (.func 82) #[] #[], .func (.func 83) #[] #[], .func (.func 84) #[] #[], .func (.func 85) #[] #[], .func (.func 87) #[] #[], .func (.func 89) #[] #[], .func (.func 90) #[] #[], .func (.func 92) #[] #[], .func (.func 93) #[] #[], .func (.func 95) #[] #[]]) := rfl
  rw [HTB.out] at HREC0 HLB ⊢
  go_enter Tryd.func47, Tryd.ntmps47
  go_wp2
  go_loopw [20] (fun v wr => (v = .int .i64 0 ∧ Hid (FoldSAt w (.int .u8 (op : Nat)) (.string nE) (.slice (some ⟨kb, off, none⟩) 1 kcap) #[.nilFunc, .nilFunc, .nilFunc, .nilFunc, .func (.func 78) #[] #[], .func (.func 80) #[] #[], .func (.func 82) #[] #[], .func (.func 83) #[] #[], .func (.func 84) #[] #[], .func (.func 85) #[] #[], .func (.func 87) #[] #[], .func (.func 89) #[] #[], .func (.func 90) #[] #[], .func (.func 92) #[] #[], .func (.func 93) #[] #[], .func (.func 95) #[] #[]] #[.int .u8 0, .string ⟨#[]⟩, .slice none 0 0, .int .u8 0, .string ⟨#[]⟩, .slice none 0 0] wr)) ∨ (∃ a1 a2, v = .int .i64 1 ∧ Hid (FoldSAt w (.int .u8 (op : Nat)) (.string nE) (.slice (some ⟨kb, off, none⟩) 1 kcap) #[.nilFunc, .nilFunc, .nilFunc, .nilFunc, .func (.func 78) #[] #[], .func (.func 80) #[] #[], .func (.func 82) #[] #[], .func (.func 83) #[] #[], .func (.func 84) #[] #[], .func (.func 85) #[] #[], .func (.func 87) #[] #[], .func (.func 89) #[] #[], .func (.func 90) #[] #[], .func (.func 92) #[] #[], .func (.func 93) #[] #[], .func (.func 95) #[] #[]] #[.int .u8 (p.op : Nat), .string p.name, .slice a1 p.kids.length a2, .int .u8 0, .string ⟨#[]⟩, .slice none 0 0] wr) ∧ Hid (IsT (fun k => w.heap.size + 1 + 1 + 1 < k) wr p (.slice a1 p.kids.length a2)))) (fun v wr => 1 - (intOf v).toNat)
  case atStart =>
    exact .inl ⟨rfl, ⟨((((Kept.refl [] w).alloc _).alloc _).alloc _).alloc _, alUp (alUp (alUp (al0 w _) _) _) _, alUp (alUp (al1 w _ _) _) _, alUp (al2 w _ _ _) _, al3 w _ _ _ _⟩⟩
  case round =>
    rcases hrel with ⟨rfl, HR⟩ | ⟨a1, a2, rfl, HR, HQ⟩
    · skip
      have e0 := cell_kept0 HR.out.kept HC00.out
      have e1 := cell_kept0 HR.out.kept HC01.out
      have e2 := cell_kept0 HR.out.kept HC02.out
      have lw := lt_of HR.out.kids
      have lk : kb < wr.heap.size := World.block_lt_of_cell? wr _ e0
      have n3 : ¬ kb = wr.heap.size := by omega
      have n4 : ¬ wr.heap.size = kb := by omega
      have t0 : ∀ ob, (wr.alloc ob).cell? ⟨w.heap.size + 1, 0, none⟩ = some (.nilFunc) := fun ob => cell_kept0 ((Kept.refl [] wr).alloc ob) ((cell_of HR.out.tab 0).trans rfl)
      have t1 : ∀ ob, (wr.alloc ob).cell? ⟨w.heap.size + 1, 1, none⟩ = some (.nilFunc) := fun ob => cell_kept0 ((Kept.refl [] wr).alloc ob) ((cell_of HR.out.tab 1).trans rfl)
      have t2 : ∀ ob, (wr.alloc ob).cell? ⟨w.heap.size + 1, 2, none⟩ = some (.nilFunc) := fun ob => cell_kept0 ((Kept.refl [] wr).alloc ob) ((cell_of HR.out.tab 2).trans rfl)
      have t3 : ∀ ob, (wr.alloc ob).cell? ⟨w.heap.size + 1, 3, none⟩ = some (.nilFunc) := fun ob => cell_kept0 ((Kept.refl [] wr).alloc ob) ((cell_of HR.out.tab 3).trans rfl)
      have t4 : ∀ ob, (wr.alloc ob).cell? ⟨w.heap.size + 1, 4, none⟩ = some (.func (.func 78) #[] #[]) := fun ob => cell_kept0 ((Kept.refl [] wr).alloc ob) ((cell_of HR.out.tab 4).trans rfl)
      have t5 : ∀ ob, (wr.alloc ob).cell? ⟨w.heap.size + 1, 5, none⟩ = some (.func (.func 80) #[] #[]) := fun ob => cell_kept0 ((Kept.refl [] wr).alloc ob) ((cell_of HR.out.tab 5).trans rfl)
      have t6 : ∀ ob, (wr.alloc ob).cell? ⟨w.heap.size + 1, 6, none⟩ = some (.func (.func 82) #[] #[]) := fun ob => cell_kept0 ((Kept.refl [] wr).alloc ob) ((cell_of HR.out.tab 6).trans rfl)
      have t7 : ∀ ob, (wr.alloc ob).cell? ⟨w.heap.size + 1, 7, none⟩ = some (.func (.func 83) #[] #[]) := fun ob => cell_kept0 ((Kept.refl [] wr).alloc ob) ((cell_of HR.out.tab 7).trans rfl)
      have t8 : ∀ ob, (wr.alloc ob).cell? ⟨w.heap.size + 1, 8, none⟩ = some (.func (.func 84) #[] #[]) := fun ob => cell_kept0 ((Kept.refl [] wr).alloc ob) ((cell_of HR.out.tab 8).trans rfl)
      have t9 : ∀ ob, (wr.alloc ob).cell? ⟨w.heap.size + 1, 9, none⟩ = some (.func (.func 85) #[] #[]) := fun ob => cell_kept0 ((Kept.refl [] wr).alloc ob) ((cell_of HR.out.tab 9).trans rfl)
      have t10 : ∀ ob, (wr.alloc ob).cell? ⟨w.heap.size + 1, 10, none⟩ = some (.func (.func 87) #[] #[]) := fun ob => cell_kept0 ((Kept.refl [] wr).alloc ob) ((cell_of HR.out.tab 10).trans rfl)
      have t11 : ∀ ob, (wr.alloc ob).cell? ⟨w.heap.size + 1, 11, none⟩ = some (.func (.func 89) #[] #[]) := fun ob => cell_kept0 ((Kept.refl [] wr).alloc ob) ((cell_of HR.out.tab 11).trans rfl)
      have t12 : ∀ ob, (wr.alloc ob).cell? ⟨w.heap.size + 1, 12, none⟩ = some (.func (.func 90) #[] #[]) := fun ob => cell_kept0 ((Kept.refl [] wr).alloc ob) ((cell_of HR.out.tab 12).trans rfl)
      have t13 : ∀ ob, (wr.alloc ob).cell? ⟨w.heap.size + 1, 13, none⟩ = some (.func (.func 92) #[] #[]) := fun ob => cell_kept0 ((Kept.refl [] wr).alloc ob) ((cell_of HR.out.tab 13).trans rfl)
      have t14 : ∀ ob, (wr.alloc ob).cell? ⟨w.heap.size + 1, 14, none⟩ = some (.func (.func 93) #[] #[]) := fun ob => cell_kept0 ((Kept.refl [] wr).alloc ob) ((cell_of HR.out.tab 14).trans rfl)
      have t15 : ∀ ob, (wr.alloc ob).cell? ⟨w.heap.size + 1, 15, none⟩ = some (.func (.func 95) #[] #[]) := fun ob => cell_kept0 ((Kept.refl [] wr).alloc ob) ((cell_of HR.out.tab 15).trans rfl)
      go_wp2_with (go_at_call 47; refine (HREC0.out _ (HR.out.kept.alloc _)).mono ?_; rintro e W5 ⟨a1, a2, rfl, i1, k5⟩; have k5' : Kept [] wr W5 := ((Kept.refl [] wr).alloc _).trans k5 (by simp) (by simp); have hK5 := (HR.out.keep k5').kids; have kc0 : W5.cell? ⟨w.heap.size + 1 + 1 + 1, 0, none⟩ = some (.int .u8 0) := (cell_of hK5 0).trans rfl; have kc1 : W5.cell? ⟨w.heap.size + 1 + 1 + 1, 1, none⟩ = some (.string ⟨#[]⟩) := (cell_of hK5 1).trans rfl; have kc2 : W5.cell? ⟨w.heap.size + 1 + 1 + 1, 2, none⟩ = some (.slice none 0 0) := (cell_of hK5 2).trans rfl; have kc3 : W5.cell? ⟨w.heap.size + 1 + 1 + 1, 3, none⟩ = some (.int .u8 0) := (cell_of hK5 3).trans rfl; have kc4 : W5.cell? ⟨w.heap.size + 1 + 1 + 1, 4, none⟩ = some (.string ⟨#[]⟩) := (cell_of hK5 4).trans rfl; have kc5 : W5.cell? ⟨w.heap.size + 1 + 1 + 1, 5, none⟩ = some (.slice none 0 0) := (cell_of hK5 5).trans rfl; have kf := (fun i => free_of hK5 i); have HI1 : Hid (IsT (fun k => w.heap.size + 1 + 1 + 1 < k) W5 p (.slice a1 p.kids.length a2)) := i1.mono (fun b (hb : _ ≤ b) => (by simp at hb; omega)); have HK5 : Hid (Kept [] wr W5) := k5'; have HG5 : Hid _ := hK5; clear i1 k5 k5' hK5)
      go_roundw
      case rel => exact .inr ⟨a1, a2, rfl, HR.out.next (kept_put3 (HK5.out.mono (by simp)) (.inl (by simp)) 0 _ _ _) (row_putS0 HG5.out _ _ _), HI1.out.keptF (kept_put3 (Kept.refl [w.heap.size + 1 + 1 + 1] W5) (.inl (by simp)) 0 _ _ _) (fun b hb => by simp; omega)⟩
      case measure => simp [intOf]
    · obtain ⟨s0, s1, s2, -⟩ := HR.out.src.cells
      have kc0 : wr.cell? ⟨w.heap.size + 1 + 1 + 1, 0, none⟩ = some (.int .u8 (p.op : Nat)) := (cell_of HR.out.kids 0).trans rfl
      have kc1 : wr.cell? ⟨w.heap.size + 1 + 1 + 1, 1, none⟩ = some (.string p.name) := (cell_of HR.out.kids 1).trans rfl
      have kc2 : wr.cell? ⟨w.heap.size + 1 + 1 + 1, 2, none⟩ = some (.slice a1 p.kids.length a2) := (cell_of HR.out.kids 2).trans rfl
      have kc3 : wr.cell? ⟨w.heap.size + 1 + 1 + 1, 3, none⟩ = some (.int .u8 0) := (cell_of HR.out.kids 3).trans rfl
      have kc4 : wr.cell? ⟨w.heap.size + 1 + 1 + 1, 4, none⟩ = some (.string ⟨#[]⟩) := (cell_of HR.out.kids 4).trans rfl
      have kc5 : wr.cell? ⟨w.heap.size + 1 + 1 + 1, 5, none⟩ = some (.slice none 0 0) := (cell_of HR.out.kids 5).trans rfl
      have tO : wr.cell? ⟨w.heap.size + 1, op, none⟩ = some (.func (.func fc) #[] #[]) := (cell_of HR.out.tab op).trans HLB.out
      have lw := lt_of HR.out.kids
      have HS : Hid (∀ w', Kept [w.heap.size + 1 + 1] wr w' → w'.cell? ⟨w.heap.size, 0, none⟩ = some (.int .u8 (op : Nat)) ∧ w'.cell? ⟨w.heap.size + 1, op, none⟩ = some (.func (.func fc) #[] #[]) ∧ w'.cell? ⟨w.heap.size + 1 + 1 + 1, 0, none⟩ = some (.int .u8 (p.op : Nat)) ∧ w'.cell? ⟨w.heap.size + 1 + 1 + 1, 1, none⟩ = some (.string p.name) ∧ w'.cell? ⟨w.heap.size + 1 + 1 + 1, 2, none⟩ = some (.slice a1 p.kids.length a2) ∧ w'.cell? ⟨w.heap.size + 1 + 1 + 1, 3, none⟩ = some (.int .u8 0) ∧ w'.cell? ⟨w.heap.size + 1 + 1 + 1, 4, none⟩ = some (.string ⟨#[]⟩) ∧ w'.cell? ⟨w.heap.size + 1 + 1 + 1, 5, none⟩ = some (.slice none 0 0)) := fun w' k => ⟨cell_keptF k (by simp; omega) s0, cell_keptF k (by simp) tO, cell_keptF k (by simp) kc0, cell_keptF k (by simp) kc1, cell_keptF k (by simp) kc2, cell_keptF k (by simp) kc3, cell_keptF k (by simp) kc4, cell_keptF k (by simp) kc5⟩
      have HRES : Hid (∀ W, Kept [] wr W → For3 W (w.heap.size + 1 + 1) (.int .u8 0) (.string ⟨#[]⟩) (.slice none 0 0)) := fun W k => HR.out.res.kept k
      have HCC : Hid (∀ W, Kept [] wr W → Calls Tryd.prog fc #[.agg #[.int .u8 (p.op : Nat), .string p.name, .slice a1 p.kids.length a2], .agg #[.int .u8 0, .string ⟨#[]⟩, .slice none 0 0]] W (GivesX (fun k => w.heap.size ≤ k ∧ k ≠ w.heap.size + 1 + 1) W q)) := fun W k => HCOL.out W a1 a2 (HR.out.kept.trans k (by simp) (by simp)) (by have := k.size; omega) (IsT.cells (fun b hb => ⟨by omega, by omega⟩) (fun _ _ _ _ c => cell_kept0 k c) HQ.out)
      go_wp2_with fail
      go_region_held3 (fun w' => w'.cell? ⟨w.heap.size, 0, none⟩ = some (.int .u8 (op : Nat)) ∧ w'.cell? ⟨w.heap.size + 1, op, none⟩ = some (.func (.func fc) #[] #[]) ∧ w'.cell? ⟨w.heap.size + 1 + 1 + 1, 0, none⟩ = some (.int .u8 (p.op : Nat)) ∧ w'.cell? ⟨w.heap.size + 1 + 1 + 1, 1, none⟩ = some (.string p.name) ∧ w'.cell? ⟨w.heap.size + 1 + 1 + 1, 2, none⟩ = some (.slice a1 p.kids.length a2) ∧ w'.cell? ⟨w.heap.size + 1 + 1 + 1, 3, none⟩ = some (.int .u8 0) ∧ w'.cell? ⟨w.heap.size + 1 + 1 + 1, 4, none⟩ = some (.string ⟨#[]⟩) ∧ w'.cell? ⟨w.heap.size + 1 + 1 + 1, 5, none⟩ = some (.slice none 0 0))
        ((refine HS.out _ ?_; (repeat (first | (with_reducible exact Kept.refl _ _) | (with_reducible refine Kept.drew ?_) | (with_reducible refine Kept.setCell ?_ (Or.inl (by simp)) _) | with_reducible refine Kept.trans (F := [w.heap.size + 1 + 1]) (G := []) (H := [w.heap.size + 1 + 1]) ?_ HK6.out (by simp) (by simp)))))
        ((go_at_fn fc; refine (HCC.out _ (Kept.refl [] wr).drew).mono ?_; rintro e W6 ⟨u1, u2, rfl, i1, k6⟩; have HKV6 : Hid (Kept [] wr W6) := (Kept.refl [] wr).drew.trans k6 (by simp) (by simp); have HK6 : Hid (Kept [] _ W6) := k6; have HI1 : Hid (IsT (fun k => w.heap.size ≤ k ∧ k ≠ w.heap.size + 1 + 1) W6 q (.slice u1 q.kids.length u2)) := i1; obtain ⟨r0, r1', r2', rf⟩ := (HRES.out W6 HKV6.out).cells; clear i1 k6))
      all_goals go_wp2
      all_goals exact gives_end rfl rfl rfl (HRES.out W6 HKV6.out) HI1.out (HR.out.kept.trans HKV6.out (by simp) (by simp)) (by omega)
set_option maxHeartbeats 2000000 in
set_option maxRecDepth 20000 in
theorem foldS_two (op : Nat) (ho : Bi op) (x z : Tr) (hGx : x.Good) (hGz : z.Good) (ih0 : FoldSDoes x) (ih1 : FoldSDoes z) : FoldSDoes (nn2 op x z) := by
  intro kv w hI hT hs
  obtain ⟨kad, kcap, rfl⟩ := hI.slice
  obtain ⟨kb, off, rfl, _, hk⟩ := hI.kid (show 0 < 2 by decide)
  obtain ⟨xv, c00, c01, c02, hIx⟩ := hk 0 (show 0 < 2 by decide)
  obtain ⟨zv, c10, c11, c12, hIz⟩ := hk 1 (show 1 < 2 by decide)
  replace c00 : w.cell? ⟨kb, off + 0 * 3, none⟩ = some (.int .u8 (x.op : Nat)) := c00
  replace c01 : w.cell? ⟨kb, off + 0 * 3 + 1, none⟩ = some (.string x.name) := c01
  replace c10 : w.cell? ⟨kb, off + 1 * 3, none⟩ = some (.int .u8 (z.op : Nat)) := c10
  replace c11 : w.cell? ⟨kb, off + 1 * 3 + 1, none⟩ = some (.string z.name) := c11
  replace hIx : IsF w x xv := hIx
  replace hIz : IsF w z zv := hIz
  rw [Nat.zero_mul, Nat.add_zero] at c00 c01 c02
  rw [Nat.one_mul] at c10 c11 c12
  obtain ⟨xad, xcap, rfl⟩ := hIx.slice
  obtain ⟨zad, zcap, rfl⟩ := hIz.slice
  obtain ⟨hlb, hrow⟩ := tabS_two ho
  have hen := row_enters (op := op) (.inr ho)
  have hop : op < 16 := by unfold Bi at ho; omega
  have hszn := (sz2 op x z).1
  have hsz0 : x.size ≤ 1099511627776 := by omega
  have hsz1 : z.size ≤ 1099511627776 := by omega
  have hless := simp_less x hGx
  have hless2 := simp_less z hGz
  rw [simpT_2]
  have HREC0 : Hid (∀ W, Kept [] w W → Calls Tryd.prog 47 #[.agg #[.int .u8 (x.op : Nat), .string x.name, .slice xad x.kids.length xcap], .func (.func 48) #[] #[], .agg simpTab] W (GivesX (fun k => W.heap.size ≤ k) W (simpT x))) := fun W k => ih0 _ W (hIx.kept k) (hT.kept k) hsz0
  have HREC1 : Hid (∀ W, Kept [] w W → Calls Tryd.prog 47 #[.agg #[.int .u8 (z.op : Nat), .string z.name, .slice zad z.kids.length zcap], .func (.func 48) #[] #[], .agg simpTab] W (GivesX (fun k => W.heap.size ≤ k) W (simpT z))) := fun W k => ih1 _ W (hIz.kept k) (hT.kept k) hsz1
  have HCOL : Hid (∀ (W : World) a1 a2 b1 b2, Kept [] w W → w.heap.size + 1 + 1 < W.heap.size → IsT (fun k => w.heap.size ≤ k ∧ k ≠ w.heap.size + 1 + 1) W (simpT x) (.slice a1 (simpT x).kids.length a2) → IsT (fun k => w.heap.size ≤ k ∧ k ≠ w.heap.size + 1 + 1) W (simpT z) (.slice b1 (simpT z).kids.length b2) → Calls Tryd.prog (fnRow op) #[.agg #[.int .u8 ((simpT x).op : Nat), .string (simpT x).name, .slice a1 (simpT x).kids.length a2], .agg #[.int .u8 ((simpT z).op : Nat), .string (simpT z).name, .slice b1 (simpT z).kids.length b2]] W (GivesX (fun k => w.heap.size ≤ k ∧ k ≠ w.heap.size + 1 + 1) W (sOp op (simpT x) (simpT z)))) := fun W a1 a2 b1 b2 k hz hR hS => hrow _ _ _ _ _ W (fun b hb => ⟨by have := k.size; omega, by omega⟩) hR hS (hT.kept k) (simp_good x hGx) (simp_good z hGz) (by omega) (by omega)
  generalize sOp op (simpT x) (simpT z) = q at *
  generalize simpT x = p at *
  generalize simpT z = r at *
  have HLB : Hid (simpTab[op]? = some (.func (.func (fnRow op)) #[] #[])) := hlb
  show Calls Tryd.prog 47 #[.agg #[.int .u8 (op : Nat), .string nE, .slice (some ⟨kb, off, none⟩) 2 kcap], .func (.func 48) #[] #[], .agg simpTab] w _
  have hopi : (op : Int) < 16 := by omega
  have HC00 : Hid _ := c00
  have HC01 : Hid _ := c01
  have HC02 : Hid _ := c02
  have HC10 : Hid _ := c10
  have HC11 : Hid _ := c11
  have HC12 : Hid _ := c12
  clear hI hk hIx hIz ih0 ih1 hrow hlb c00 c01 c02 c10 c11 c12 hT hs hszn hsz0 hsz1 hless hless2 hGx hGz ho
  generalize fnRow op = fc at *
  have HTB : Hid (simpTab = #[.nilFunc, .nilFunc, .nilFunc, .nilFunc, .func (.func 78) #[] #[], .func (.func 80) #[] #[], .func (.func 82) #[] #[], .func (.func 83) #[] #[], .func (.func 84) #[] #[], .func (.func 85) #[] #[], .func (.func 87) #[] #[], .func (.func 89) #[] #[], .func (.func 90) #[] #[], .func (.func 92) #[] #[], .func (.func 93) #[] #[], .func (.func 95) #[] #[]]) := rfl
  rw [HTB.out] at HREC0 HREC1 HLB ⊢
  go_enter Tryd.func47, Tryd.ntmps47
  go_wp2
  go_loopw [20] (fun v wr => (v = .int .i64 0 ∧ Hid (FoldSAt w (.int .u8 (op : Nat)) (.string nE) (.slice (some ⟨kb, off, none⟩) 2 kcap) #[.nilFunc, .nilFunc, .nilFunc, .nilFunc, .func (.func 78) #[] #[], .func (.func 80) #[] #[], .func (.func 82) #[] #[], .func (.func 83) #[] #[], .func (.func 84) #[] #[], .func (.func 85) #[] #[], .func (.func 87) #[] #[], .func (.func 89) #[] #[], .func (.func 90) #[] #[], .func (.func 92) #[] #[], .func (.func 93) #[] #[], .func (.func 95) #[] #[]] #[.int .u8 0, .string ⟨#[]⟩, .slice none 0 0, .int .u8 0, .string ⟨#[]⟩, .slice none 0 0] wr)) ∨ (∃ a1 a2, v = .int .i64 1 ∧ Hid (FoldSAt w (.int .u8 (op : Nat)) (.string nE) (.slice (some ⟨kb, off, none⟩) 2 kcap) #[.nilFunc, .nilFunc, .nilFunc, .nilFunc, .func (.func 78) #[] #[], .func (.func 80) #[] #[], .func (.func 82) #[] #[], .func (.func 83) #[] #[], .func (.func 84) #[] #[], .func (.func 85) #[] #[], .func (.func 87) #[] #[], .func (.func 89) #[] #[], .func (.func 90) #[] #[], .func (.func 92) #[] #[], .func (.func 93) #[] #[], .func (.func 95) #[] #[]] #[.int .u8 (p.op : Nat), .string p.name, .slice a1 p.kids.length a2, .int .u8 0, .string ⟨#[]⟩, .slice none 0 0] wr) ∧ Hid (IsT (fun k => w.heap.size + 1 + 1 + 1 < k) wr p (.slice a1 p.kids.length a2))) ∨ (∃ a1 a2 b1 b2, v = .int .i64 2 ∧ Hid (FoldSAt w (.int .u8 (op : Nat)) (.string nE) (.slice (some ⟨kb, off, none⟩) 2 kcap) #[.nilFunc, .nilFunc, .nilFunc, .nilFunc, .func (.func 78) #[] #[], .func (.func 80) #[] #[], .func (.func 82) #[] #[], .func (.func 83) #[] #[], .func (.func 84) #[] #[], .func (.func 85) #[] #[], .func (.func 87) #[] #[], .func (.func 89) #[] #[], .func (.func 90) #[] #[], .func (.func 92) #[] #[], .func (.func 93) #[] #[], .func (.func 95) #[] #[]] #[.int .u8 (p.op : Nat), .string p.name, .slice a1 p.kids.length a2, .int .u8 (r.op : Nat), .string r.name, .slice b1 r.kids.length b2] wr) ∧ Hid (IsT (fun k => w.heap.size + 1 + 1 + 1 < k) wr p (.slice a1 p.kids.length a2)) ∧ Hid (IsT (fun k => w.heap.size + 1 + 1 + 1 < k) wr r (.slice b1 r.kids.length b2)))) (fun v wr => 2 - (intOf v).toNat)
  case atStart =>
    exact .inl ⟨rfl, ⟨((((Kept.refl [] w).alloc _).alloc _).alloc _).alloc _, alUp (alUp (alUp (al0 w _) _) _) _, alUp (alUp (al1 w _ _) _) _, alUp (al2 w _ _ _) _, al3 w _ _ _ _⟩⟩
  case round =>
    rcases hrel with ⟨rfl, HR⟩ | ⟨a1, a2, rfl, HR, HQ⟩ | ⟨a1, a2, b1, b2, rfl, HR, HQ, HQ2⟩
    · skip
      have e0 := cell_kept0 HR.out.kept HC00.out
      have e1 := cell_kept0 HR.out.kept HC01.out
      have e2 := cell_kept0 HR.out.kept HC02.out
      have lw := lt_of HR.out.kids
      have lk : kb < wr.heap.size := World.block_lt_of_cell? wr _ e0
      have n3 : ¬ kb = wr.heap.size := by omega
      have n4 : ¬ wr.heap.size = kb := by omega
      have t0 : ∀ ob, (wr.alloc ob).cell? ⟨w.heap.size + 1, 0, none⟩ = some (.nilFunc) := fun ob => cell_kept0 ((Kept.refl [] wr).alloc ob) ((cell_of HR.out.tab 0).trans rfl)
      have t1 : ∀ ob, (wr.alloc ob).cell? ⟨w.heap.size + 1, 1, none⟩ = some (.nilFunc) := fun ob => cell_kept0 ((Kept.refl [] wr).alloc ob) ((cell_of HR.out.tab 1).trans rfl)
      have t2 : ∀ ob, (wr.alloc ob).cell? ⟨w.heap.size + 1, 2, none⟩ = some (.nilFunc) := fun ob => cell_kept0 ((Kept.refl [] wr).alloc ob) ((cell_of HR.out.tab 2).trans rfl)
      have t3 : ∀ ob, (wr.alloc ob).cell? ⟨w.heap.size + 1, 3, none⟩ = some (.nilFunc) := fun ob => cell_kept0 ((Kept.refl [] wr).alloc ob) ((cell_of HR.out.tab 3).trans rfl)
      have t4 : ∀ ob, (wr.alloc ob).cell? ⟨w.heap.size + 1, 4, none⟩ = some (.func (.func 78) #[] #[]) := fun ob => cell_kept0 ((Kept.refl [] wr).alloc ob) ((cell_of HR.out.tab 4).trans rfl)
      have t5 : ∀ ob, (wr.alloc ob).cell? ⟨w.heap.size + 1, 5, none⟩ = some (.func (.func 80) #[] #[]) := fun ob => cell_kept0 ((Kept.refl [] wr).alloc ob) ((cell_of HR.out.tab 5).trans rfl)
      have t6 : ∀ ob, (wr.alloc ob).cell? ⟨w.heap.size + 1, 6, none⟩ = some (.func (.func 82) #[] #[]) := fun ob => cell_kept0 ((Kept.refl [] wr).alloc ob) ((cell_of HR.out.tab 6).trans rfl)
      have t7 : ∀ ob, (wr.alloc ob).cell? ⟨w.heap.size + 1, 7, none⟩ = some (.func (.func 83) #[] #[]) := fun ob => cell_kept0 ((Kept.refl [] wr).alloc ob) ((cell_of HR.out.tab 7).trans rfl)
      have t8 : ∀ ob, (wr.alloc ob).cell? ⟨w.heap.size + 1, 8, none⟩ = some (.func (.func 84) #[] #[]) := fun ob => cell_kept0 ((Kept.refl [] wr).alloc ob) ((cell_of HR.out.tab 8).trans rfl)
      have t9 : ∀ ob, (wr.alloc ob).cell? ⟨w.heap.size + 1, 9, none⟩ = some (.func (.func 85) #[] #[]) := fun ob => cell_kept0 ((Kept.refl [] wr).alloc ob) ((cell_of HR.out.tab 9).trans rfl)
      have t10 : ∀ ob, (wr.alloc ob).cell? ⟨w.heap.size + 1, 10, none⟩ = some (.func (.func 87) #[] #[]) := fun ob => cell_kept0 ((Kept.refl [] wr).alloc ob) ((cell_of HR.out.tab 10).trans rfl)
      have t11 : ∀ ob, (wr.alloc ob).cell? ⟨w.heap.size + 1, 11, none⟩ = some (.func (.func 89) #[] #[]) := fun ob => cell_kept0 ((Kept.refl [] wr).alloc ob) ((cell_of HR.out.tab 11).trans rfl)
      have t12 : ∀ ob, (wr.alloc ob).cell? ⟨w.heap.size + 1, 12, none⟩ = some (.func (.func 90) #[] #[]) := fun ob => cell_kept0 ((Kept.refl [] wr).alloc ob) ((cell_of HR.out.tab 12).trans rfl)
      have t13 : ∀ ob, (wr.alloc ob).cell? ⟨w.heap.size + 1, 13, none⟩ = some (.func (.func 92) #[] #[]) := fun ob => cell_kept0 ((Kept.refl [] wr).alloc ob) ((cell_of HR.out.tab 13).trans rfl)
      have t14 : ∀ ob, (wr.alloc ob).cell? ⟨w.heap.size + 1, 14, none⟩ = some (.func (.func 93) #[] #[]) := fun ob => cell_kept0 ((Kept.refl [] wr).alloc ob) ((cell_of HR.out.tab 14).trans rfl)
      have t15 : ∀ ob, (wr.alloc ob).cell? ⟨w.heap.size + 1, 15, none⟩ = some (.func (.func 95) #[] #[]) := fun ob => cell_kept0 ((Kept.refl [] wr).alloc ob) ((cell_of HR.out.tab 15).trans rfl)
      go_wp2_with (go_at_call 47; refine (HREC0.out _ (HR.out.kept.alloc _)).mono ?_; rintro e W5 ⟨a1, a2, rfl, i1, k5⟩; have k5' : Kept [] wr W5 := ((Kept.refl [] wr).alloc _).trans k5 (by simp) (by simp); have hK5 := (HR.out.keep k5').kids; have kc0 : W5.cell? ⟨w.heap.size + 1 + 1 + 1, 0, none⟩ = some (.int .u8 0) := (cell_of hK5 0).trans rfl; have kc1 : W5.cell? ⟨w.heap.size + 1 + 1 + 1, 1, none⟩ = some (.string ⟨#[]⟩) := (cell_of hK5 1).trans rfl; have kc2 : W5.cell? ⟨w.heap.size + 1 + 1 + 1, 2, none⟩ = some (.slice none 0 0) := (cell_of hK5 2).trans rfl; have kc3 : W5.cell? ⟨w.heap.size + 1 + 1 + 1, 3, none⟩ = some (.int .u8 0) := (cell_of hK5 3).trans rfl; have kc4 : W5.cell? ⟨w.heap.size + 1 + 1 + 1, 4, none⟩ = some (.string ⟨#[]⟩) := (cell_of hK5 4).trans rfl; have kc5 : W5.cell? ⟨w.heap.size + 1 + 1 + 1, 5, none⟩ = some (.slice none 0 0) := (cell_of hK5 5).trans rfl; have kf := (fun i => free_of hK5 i); have HI1 : Hid (IsT (fun k => w.heap.size + 1 + 1 + 1 < k) W5 p (.slice a1 p.kids.length a2)) := i1.mono (fun b (hb : _ ≤ b) => (by simp at hb; omega)); have HK5 : Hid (Kept [] wr W5) := k5'; have HG5 : Hid _ := hK5; clear i1 k5 k5' hK5)
      go_roundw
      case rel => exact .inr (.inl ⟨a1, a2, rfl, HR.out.next (kept_put3 (HK5.out.mono (by simp)) (.inl (by simp)) 0 _ _ _) (row_putS0 HG5.out _ _ _), HI1.out.keptF (kept_put3 (Kept.refl [w.heap.size + 1 + 1 + 1] W5) (.inl (by simp)) 0 _ _ _) (fun b hb => by simp; omega)⟩)
      case measure => simp [intOf]
    · skip
      have e0 := cell_kept0 HR.out.kept HC10.out
      have e1 := cell_kept0 HR.out.kept HC11.out
      have e2 := cell_kept0 HR.out.kept HC12.out
      have lw := lt_of HR.out.kids
      have lk : kb < wr.heap.size := World.block_lt_of_cell? wr _ e0
      have n3 : ¬ kb = wr.heap.size := by omega
      have n4 : ¬ wr.heap.size = kb := by omega
      have t0 : ∀ ob, (wr.alloc ob).cell? ⟨w.heap.size + 1, 0, none⟩ = some (.nilFunc) := fun ob => cell_kept0 ((Kept.refl [] wr).alloc ob) ((cell_of HR.out.tab 0).trans rfl)
      have t1 : ∀ ob, (wr.alloc ob).cell? ⟨w.heap.size + 1, 1, none⟩ = some (.nilFunc) := fun ob => cell_kept0 ((Kept.refl [] wr).alloc ob) ((cell_of HR.out.tab 1).trans rfl)
      have t2 : ∀ ob, (wr.alloc ob).cell? ⟨w.heap.size + 1, 2, none⟩ = some (.nilFunc) := fun ob => cell_kept0 ((Kept.refl [] wr).alloc ob) ((cell_of HR.out.tab 2).trans rfl)
      have t3 : ∀ ob, (wr.alloc ob).cell? ⟨w.heap.size + 1, 3, none⟩ = some (.nilFunc) := fun ob => cell_kept0 ((Kept.refl [] wr).alloc ob) ((cell_of HR.out.tab 3).trans rfl)
      have t4 : ∀ ob, (wr.alloc ob).cell? ⟨w.heap.size + 1, 4, none⟩ = some (.func (.func 78) #[] #[]) := fun ob => cell_kept0 ((Kept.refl [] wr).alloc ob) ((cell_of HR.out.tab 4).trans rfl)
      have t5 : ∀ ob, (wr.alloc ob).cell? ⟨w.heap.size + 1, 5, none⟩ = some (.func (.func 80) #[] #[]) := fun ob => cell_kept0 ((Kept.refl [] wr).alloc ob) ((cell_of HR.out.tab 5).trans rfl)
      have t6 : ∀ ob, (wr.alloc ob).cell? ⟨w.heap.size + 1, 6, none⟩ = some (.func (.func 82) #[] #[]) := fun ob => cell_kept0 ((Kept.refl [] wr).alloc ob) ((cell_of HR.out.tab 6).trans rfl)
      have t7 : ∀ ob, (wr.alloc ob).cell? ⟨w.heap.size + 1, 7, none⟩ = some (.func (.func 83) #[] #[]) := fun ob => cell_kept0 ((Kept.refl [] wr).alloc ob) ((cell_of HR.out.tab 7).trans rfl)
      have t8 : ∀ ob, (wr.alloc ob).cell? ⟨w.heap.size + 1, 8, none⟩ = some (.func (.func 84) #[] #[]) := fun ob => cell_kept0 ((Kept.refl [] wr).alloc ob) ((cell_of HR.out.tab 8).trans rfl)
      have t9 : ∀ ob, (wr.alloc ob).cell? ⟨w.heap.size + 1, 9, none⟩ = some (.func (.func 85) #[] #[]) := fun ob => cell_kept0 ((Kept.refl [] wr).alloc ob) ((cell_of HR.out.tab 9).trans rfl)
      have t10 : ∀ ob, (wr.alloc ob).cell? ⟨w.heap.size + 1, 10, none⟩ = some (.func (.func 87) #[] #[]) := fun ob => cell_kept0 ((Kept.refl [] wr).alloc ob) ((cell_of HR.out.tab 10).trans rfl)
      have t11 : ∀ ob, (wr.alloc ob).cell? ⟨w.heap.size + 1, 11, none⟩ = some (.func (.func 89) #[] #[]) := fun ob => cell_kept0 ((Kept.refl [] wr).alloc ob) ((cell_of HR.out.tab 11).trans rfl)
      have t12 : ∀ ob, (wr.alloc ob).cell? ⟨w.heap.size + 1, 12, none⟩ = some (.func (.func 90) #[] #[]) := fun ob => cell_kept0 ((Kept.refl [] wr).alloc ob) ((cell_of HR.out.tab 12).trans rfl)
      have t13 : ∀ ob, (wr.alloc ob).cell? ⟨w.heap.size + 1, 13, none⟩ = some (.func (.func 92) #[] #[]) := fun ob => cell_kept0 ((Kept.refl [] wr).alloc ob) ((cell_of HR.out.tab 13).trans rfl)
      have t14 : ∀ ob, (wr.alloc ob).cell? ⟨w.heap.size + 1, 14, none⟩ = some (.func (.func 93) #[] #[]) := fun ob => cell_kept0 ((Kept.refl [] wr).alloc ob) ((cell_of HR.out.tab 14).trans rfl)
      have t15 : ∀ ob, (wr.alloc ob).cell? ⟨w.heap.size + 1, 15, none⟩ = some (.func (.func 95) #[] #[]) := fun ob => cell_kept0 ((Kept.refl [] wr).alloc ob) ((cell_of HR.out.tab 15).trans rfl)
      go_wp2_with (go_at_call 47; refine (HREC1.out _ (HR.out.kept.alloc _)).mono ?_; rintro e W5 ⟨b1, b2, rfl, i1, k5⟩; have k5' : Kept [] wr W5 := ((Kept.refl [] wr).alloc _).trans k5 (by simp) (by simp); have hK5 := (HR.out.keep k5').kids; have kc0 : W5.cell? ⟨w.heap.size + 1 + 1 + 1, 0, none⟩ = some (.int .u8 (p.op : Nat)) := (cell_of hK5 0).trans rfl; have kc1 : W5.cell? ⟨w.heap.size + 1 + 1 + 1, 1, none⟩ = some (.string p.name) := (cell_of hK5 1).trans rfl; have kc2 : W5.cell? ⟨w.heap.size + 1 + 1 + 1, 2, none⟩ = some (.slice a1 p.kids.length a2) := (cell_of hK5 2).trans rfl; have kc3 : W5.cell? ⟨w.heap.size + 1 + 1 + 1, 3, none⟩ = some (.int .u8 0) := (cell_of hK5 3).trans rfl; have kc4 : W5.cell? ⟨w.heap.size + 1 + 1 + 1, 4, none⟩ = some (.string ⟨#[]⟩) := (cell_of hK5 4).trans rfl; have kc5 : W5.cell? ⟨w.heap.size + 1 + 1 + 1, 5, none⟩ = some (.slice none 0 0) := (cell_of hK5 5).trans rfl; have kf := (fun i => free_of hK5 i); have HI1 : Hid (IsT (fun k => w.heap.size + 1 + 1 + 1 < k) W5 r (.slice b1 r.kids.length b2)) := i1.mono (fun b (hb : _ ≤ b) => (by simp at hb; omega)); have HA5 : Hid (IsT (fun k => w.heap.size + 1 + 1 + 1 < k) W5 p (.slice a1 p.kids.length a2)) := HQ.out.keptX k5'; have HK5 : Hid (Kept [] wr W5) := k5'; have HG5 : Hid _ := hK5; clear i1 k5 k5' hK5)
      go_roundw
      case rel => exact .inr (.inr ⟨a1, a2, b1, b2, rfl, HR.out.next (kept_put3 (HK5.out.mono (by simp)) (.inl (by simp)) 3 _ _ _) (row_putS1 HG5.out _ _ _), HA5.out.keptF (kept_put3 (Kept.refl [w.heap.size + 1 + 1 + 1] W5) (.inl (by simp)) 3 _ _ _) (fun b hb => by simp; omega), HI1.out.keptF (kept_put3 (Kept.refl [w.heap.size + 1 + 1 + 1] W5) (.inl (by simp)) 3 _ _ _) (fun b hb => by simp; omega)⟩)
      case measure => simp [intOf]
    · obtain ⟨s0, s1, s2, -⟩ := HR.out.src.cells
      have kc0 : wr.cell? ⟨w.heap.size + 1 + 1 + 1, 0, none⟩ = some (.int .u8 (p.op : Nat)) := (cell_of HR.out.kids 0).trans rfl
      have kc1 : wr.cell? ⟨w.heap.size + 1 + 1 + 1, 1, none⟩ = some (.string p.name) := (cell_of HR.out.kids 1).trans rfl
      have kc2 : wr.cell? ⟨w.heap.size + 1 + 1 + 1, 2, none⟩ = some (.slice a1 p.kids.length a2) := (cell_of HR.out.kids 2).trans rfl
      have kc3 : wr.cell? ⟨w.heap.size + 1 + 1 + 1, 3, none⟩ = some (.int .u8 (r.op : Nat)) := (cell_of HR.out.kids 3).trans rfl
      have kc4 : wr.cell? ⟨w.heap.size + 1 + 1 + 1, 4, none⟩ = some (.string r.name) := (cell_of HR.out.kids 4).trans rfl
      have kc5 : wr.cell? ⟨w.heap.size + 1 + 1 + 1, 5, none⟩ = some (.slice b1 r.kids.length b2) := (cell_of HR.out.kids 5).trans rfl
      have tO : wr.cell? ⟨w.heap.size + 1, op, none⟩ = some (.func (.func fc) #[] #[]) := (cell_of HR.out.tab op).trans HLB.out
      have lw := lt_of HR.out.kids
      have HS : Hid (∀ w', Kept [w.heap.size + 1 + 1] wr w' → w'.cell? ⟨w.heap.size, 0, none⟩ = some (.int .u8 (op : Nat)) ∧ w'.cell? ⟨w.heap.size + 1, op, none⟩ = some (.func (.func fc) #[] #[]) ∧ w'.cell? ⟨w.heap.size + 1 + 1 + 1, 0, none⟩ = some (.int .u8 (p.op : Nat)) ∧ w'.cell? ⟨w.heap.size + 1 + 1 + 1, 1, none⟩ = some (.string p.name) ∧ w'.cell? ⟨w.heap.size + 1 + 1 + 1, 2, none⟩ = some (.slice a1 p.kids.length a2) ∧ w'.cell? ⟨w.heap.size + 1 + 1 + 1, 3, none⟩ = some (.int .u8 (r.op : Nat)) ∧ w'.cell? ⟨w.heap.size + 1 + 1 + 1, 4, none⟩ = some (.string r.name) ∧ w'.cell? ⟨w.heap.size + 1 + 1 + 1, 5, none⟩ = some (.slice b1 r.kids.length b2)) := fun w' k => ⟨cell_keptF k (by simp; omega) s0, cell_keptF k (by simp) tO, cell_keptF k (by simp) kc0, cell_keptF k (by simp) kc1, cell_keptF k (by simp) kc2, cell_keptF k (by simp) kc3, cell_keptF k (by simp) kc4, cell_keptF k (by simp) kc5⟩
      have HRES : Hid (∀ W, Kept [] wr W → For3 W (w.heap.size + 1 + 1) (.int .u8 0) (.string ⟨#[]⟩) (.slice none 0 0)) := fun W k => HR.out.res.kept k
      have HCC : Hid (∀ W, Kept [] wr W → Calls Tryd.prog fc #[.agg #[.int .u8 (p.op : Nat), .string p.name, .slice a1 p.kids.length a2], .agg #[.int .u8 (r.op : Nat), .string r.name, .slice b1 r.kids.length b2]] W (GivesX (fun k => w.heap.size ≤ k ∧ k ≠ w.heap.size + 1 + 1) W q)) := fun W k => HCOL.out W a1 a2 b1 b2 (HR.out.kept.trans k (by simp) (by simp)) (by have := k.size; omega) (IsT.cells (fun b hb => ⟨by omega, by omega⟩) (fun _ _ _ _ c => cell_kept0 k c) HQ.out) (IsT.cells (fun b hb => ⟨by omega, by omega⟩) (fun _ _ _ _ c => cell_kept0 k c) HQ2.out)
      go_wp2_with fail
      go_region_held3 (fun w' => w'.cell? ⟨w.heap.size, 0, none⟩ = some (.int .u8 (op : Nat)) ∧ w'.cell? ⟨w.heap.size + 1, op, none⟩ = some (.func (.func fc) #[] #[]) ∧ w'.cell? ⟨w.heap.size + 1 + 1 + 1, 0, none⟩ = some (.int .u8 (p.op : Nat)) ∧ w'.cell? ⟨w.heap.size + 1 + 1 + 1, 1, none⟩ = some (.string p.name) ∧ w'.cell? ⟨w.heap.size + 1 + 1 + 1, 2, none⟩ = some (.slice a1 p.kids.length a2) ∧ w'.cell? ⟨w.heap.size + 1 + 1 + 1, 3, none⟩ = some (.int .u8 (r.op : Nat)) ∧ w'.cell? ⟨w.heap.size + 1 + 1 + 1, 4, none⟩ = some (.string r.name) ∧ w'.cell? ⟨w.heap.size + 1 + 1 + 1, 5, none⟩ = some (.slice b1 r.kids.length b2))
        ((refine HS.out _ ?_; (repeat (first | (with_reducible exact Kept.refl _ _) | (with_reducible refine Kept.drew ?_) | (with_reducible refine Kept.setCell ?_ (Or.inl (by simp)) _) | with_reducible refine Kept.trans (F := [w.heap.size + 1 + 1]) (G := []) (H := [w.heap.size + 1 + 1]) ?_ HK6.out (by simp) (by simp)))))
        ((go_at_fn fc; refine (HCC.out _ (Kept.refl [] wr).drew).mono ?_; rintro e W6 ⟨u1, u2, rfl, i1, k6⟩; have HKV6 : Hid (Kept [] wr W6) := (Kept.refl [] wr).drew.trans k6 (by simp) (by simp); have HK6 : Hid (Kept [] _ W6) := k6; have HI1 : Hid (IsT (fun k => w.heap.size ≤ k ∧ k ≠ w.heap.size + 1 + 1) W6 q (.slice u1 q.kids.length u2)) := i1; obtain ⟨r0, r1', r2', rf⟩ := (HRES.out W6 HKV6.out).cells; clear i1 k6))
      all_goals go_wp2
      all_goals exact gives_end rfl rfl rfl (HRES.out W6 HKV6.out) HI1.out (HR.out.kept.trans HKV6.out (by simp) (by simp)) (by omega)
theorem foldS_any (t : Tr) (hG : t.Good) : FoldSDoes t :=
  good_ind (p := FoldSDoes) (fun op s _ _ => foldS_leaf op s) (fun op x ho hx ih => foldS_one op ho x hx ih) (fun op x z ho hx hz ih jh => foldS_two op ho x z hx hz ih jh) t hG
set_option maxHeartbeats 2000000 in
set_option maxRecDepth 20000 in
theorem simple_any (t : Tr) (kv : Value) (w : World) (hI : IsF w t kv) (hs : t.size ≤ 1099511627776) (hd : t.depth ≤ 1099511627776) (hF : t.Fine) (hT : KidsTab w) (hU : TurnTab w) :
    Calls Tryd.prog 19 #[.agg #[.int .u8 (t.op : Nat), .string t.name, kv]] w (MadeAs w (if rightN pastB t ≠ 0 then 70 else 0) (simpT t)) := by
  obtain ⟨kad, kcap, rfl⟩ := hI.slice
  obtain ⟨V, hV⟩ : ∃ V, (w.alloc (.cells #[.int .u8 (t.op : Nat), .string t.name, .slice kad t.kids.length kcap] 25)).alloc (.cells #[.int .u8 0, .string ⟨#[]⟩, .slice none 0 0] 25) = V := ⟨_, rfl⟩
  have kV : Kept [] w V := by rw [← hV]; exact ((Kept.refl [] w).alloc _).alloc _
  have v0 : For3 V w.heap.size (.int .u8 (t.op : Nat)) (.string t.name) (.slice kad t.kids.length kcap) := by rw [← hV]; exact alUp (al0 _ _) _
  have v1 : For3 V (w.heap.size + 1) (.int .u8 0) (.string ⟨#[]⟩) (.slice none 0 0) := by rw [← hV]; exact al1 _ _ _
  have HRI : Hid (Calls Tryd.prog 20 #[.agg #[.int .u8 (t.op : Nat), .string t.name, .slice kad t.kids.length kcap]] V fun e w' => e = .returned (.int .i64 (rightN pastB t : Nat)) ∧ Kept [] V w') := right_any t _ V (hI.kept kV) hs hd hF (hT.kept kV)
  have HVV : Hid (_ = V) := hV
  have HV1 : Hid (For3 V (w.heap.size + 1) (.int .u8 0) (.string ⟨#[]⟩) (.slice none 0 0)) := v1
  have HV0 : Hid (For3 V w.heap.size (.int .u8 (t.op : Nat)) (.string t.name) (.slice kad t.kids.length kcap)) := v0
  have HKV : Hid (Kept [] w V) := kV
  rw [← hV] at HRI
  by_cases hr : rightN pastB t = 0
  · have hG := (good_of_right0 hr).1
    rw [hr] at HRI
    rw [if_neg (by simp [hr])]
    have HFO : Hid (∀ W, Kept [] V W → Calls Tryd.prog 47 #[.agg #[.int .u8 (t.op : Nat), .string t.name, .slice kad t.kids.length kcap], .func (.func 48) #[] #[], .agg simpTab] W (GivesX (fun k => W.heap.size ≤ k) W (simpT t))) := fun W k => foldS_any t hG _ W ((hI.kept kV).kept k) ((hU.kept kV).kept k) hs
    generalize simpT t = q at *
    clear hI hF hT hU kV v0 v1 hV hr
    have T0 : Hid True := trivial
    have T1 : Hid True := trivial
    go_enter Tryd.func19, Tryd.ntmps19
    go_upto_region 3 with (go_at_call 20; refine HRI.out.mono ?_; rintro e W1 ⟨rfl, k1⟩; rw [HVV.out] at k1; have HK1 : Hid (Kept [] V W1) := k1; clear k1)
    obtain ⟨c0, c1, c2, -⟩ := (HV0.out.kept HK1.out).cells
    have HL1 : Hid (w.heap.size + 1 < W1.heap.size) := Nat.lt_of_lt_of_le (lt_of HV1.out) HK1.out.size
    have HS : Hid (∀ w', Kept [w.heap.size + 1] W1 w' → w'.cell? ⟨w.heap.size, 0, none⟩ = some (.int .u8 (t.op : Nat)) ∧ w'.cell? ⟨w.heap.size, 1, none⟩ = some (.string t.name) ∧ w'.cell? ⟨w.heap.size, 2, none⟩ = some (.slice kad t.kids.length kcap)) := fun w' k => ⟨cell_keptF k (by simp) c0, cell_keptF k (by simp) c1, cell_keptF k (by simp) c2⟩
    go_region_held3 (fun w' => w'.cell? ⟨w.heap.size, 0, none⟩ = some (.int .u8 (t.op : Nat)) ∧ w'.cell? ⟨w.heap.size, 1, none⟩ = some (.string t.name) ∧ w'.cell? ⟨w.heap.size, 2, none⟩ = some (.slice kad t.kids.length kcap))
      ((refine HS.out _ ?_; (repeat (first | (with_reducible exact Kept.refl _ _) | (with_reducible refine Kept.drew ?_) | (with_reducible refine Kept.setCell ?_ (Or.inl (by simp)) _) | with_reducible refine Kept.trans (F := [w.heap.size + 1]) (G := []) (H := [w.heap.size + 1]) ?_ HA1.out (by simp) (by simp) | with_reducible refine Kept.trans (F := [w.heap.size + 1]) (G := []) (H := [w.heap.size + 1]) ?_ HA0.out (by simp) (by simp)))))
      (first
      | (clear T0; go_at_call 49; refine (simpler_any _).mono ?_; rintro e U0 ⟨rfl, k⟩; have HA0 : Hid (Kept [] _ U0) := k; have HB0 : Hid (Kept [] V U0) := HK1.out.drew.trans k (by simp) (by simp); clear k)
      | (clear T1; go_at_call 47; refine (HFO.out _ HB0.out).mono ?_; rintro e U1 ⟨ra, rc, rfl, hT1, k⟩; have HA1 : Hid (Kept [] _ U1) := k; have HB1 : Hid (Kept [] V U1) := HB0.out.trans k (by simp) (by simp); obtain ⟨d0, d1, d2, df⟩ := (HV1.out.kept HB1.out).cells; have HIT : Hid (IsT (fun b => w.heap.size + 1 < b) U1 q (.slice ra q.kids.length rc)) := hT1.mono (fun b hb => Nat.lt_of_lt_of_le (Nat.lt_of_lt_of_le (lt_of HV1.out) HB0.out.size) hb); clear k hT1))
    all_goals go_wp2
    all_goals
      have hn : ¬ (w.heap.size + 1 < w.heap.size + 1) := by omega
      exact ret_fe rfl rfl rfl rfl ((HV1.out.kept HB1.out).set _ _ _) (.inr ⟨rfl, ra, rc, rfl, (((HIT.out.other hn _ _).other hn _ _).other hn _ _).mono (fun b hb => by omega), kept_set3 (HKV.out.trans HB1.out (by simp) (by simp)) (by omega) _ _ _⟩)
  · rw [if_pos (by simpa using hr)]
    have hne : ((rightN pastB t : Int) != 0) = true := by rw [bne_iff_ne]; omega
    clear hI hF hT hU kV v0 v1 hV
    go_enter Tryd.func19, Tryd.ntmps19
    go_wp2_with (go_at_call 20; refine HRI.out.mono ?_; rintro e W1 ⟨rfl, k1⟩; rw [HVV.out] at k1; have HK1 : Hid (Kept [] V W1) := k1; obtain ⟨d0, d1, d2, df⟩ := (HV1.out.kept k1).cells; clear k1)
    exact ret_fe rfl rfl rfl rfl ((HV1.out.kept HK1.out).set _ _ _) (.inl ⟨by decide, rfl, kept_set3 (HKV.out.trans HK1.out (by simp) (by simp)) (by omega) _ _ _⟩)
end Go.Proofs.YtnpeghaficghaaaDoor
