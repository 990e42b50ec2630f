/- tree.rebuilt: a tree in new memory. -/
import Derived.Test.YtddgciilcghbaaaDoorTrRight
import Derived.Laws.OwnMore
import Derived.Laws.ResultCell
namespace Go.Proofs.YtddgciilcghbaaaDoor
open Go.RowKit Go.Shelf

/-- A tree, with what leaf makes of each tree that has no kids. -/
def Tr.reb (leaf : Tr → Tr) : Tr → Tr := Tr.para (fun t rs => if t.kids.length = 0 then leaf ⟨t.op, t.name, []⟩ else ⟨t.op, t.name, rs⟩)
theorem Tr.reb_leaf (leaf : Tr → Tr) (t : Tr) (h : t.kids.length = 0) : t.reb leaf = leaf ⟨t.op, t.name, []⟩ := by
  unfold Tr.reb; rw [Tr.para_eq, if_pos h]
theorem Tr.reb_node (leaf : Tr → Tr) (t : Tr) (h : ¬ t.kids.length = 0) : t.reb leaf = ⟨t.op, t.name, t.kids.map (Tr.reb leaf)⟩ := by
  unfold Tr.reb; rw [Tr.para_eq, if_neg h]

/-- What a leaf function does, in each world that has come of w0. -/
def LeafDoes (g : Nat) (lb : Array Value) (leaf : Tr → Tr) (w0 : World) : Prop :=
  ∀ (o : Nat) (nm : ByteArray) (W : World), Kept [] w0 W → o < 256 → nm.size ≤ maxLen → Calls Tryd.prog g (#[.agg #[.int .u8 (o : Nat), .string nm, .slice none 0 0]] ++ lb) W fun e W' =>
    ∃ kad kcap, e = .returned (.agg #[.int .u8 ((leaf ⟨o, nm, []⟩).op : Nat), .string (leaf ⟨o, nm, []⟩).name, .slice kad (leaf ⟨o, nm, []⟩).kids.length kcap]) ∧ IsT (fun k => W.heap.size ≤ k) W' (leaf ⟨o, nm, []⟩) (.slice kad (leaf ⟨o, nm, []⟩).kids.length kcap) ∧ Kept [] W W'

theorem Tryd.infoFor : (Tryd.prog.info? 25).map (fun i => (i.zero, i.size, i.bytes)) = some (some (.agg #[.int .u8 0, .string ⟨#[]⟩, .slice none 0 0]), 3, 48) := by kernel_rfl

def zeros3 (k : Nat) : Array Value := madeCells (Value.cells (.agg #[.int .u8 0, .string ⟨#[]⟩, .slice none 0 0])) (k * 3)
theorem zeros3_size (k : Nat) : (zeros3 k).size = k * 3 := size_madeCells _ _
theorem make_for (w : World) (k : Nat) (hk : k ≤ 1099511627776) : Sem.run Tryd.prog (Instr.makeSlice 23 (.int .i64 k) (.int .i64 k)) w = .ok (.slice (some ⟨w.heap.size, 0, none⟩) k k) (w.alloc (.cells (zeros3 k) 25)) := by
  obtain ⟨i, hi, hz, hs, hb⟩ := info_parts Tryd.infoFor
  have h := run_make (P := Tryd.prog) w 23 25 i _ Tryd.underlying23 hi hz .i64 .i64 k k (by omega) (Int.le_refl _) (by rw [hb]; omega) (by omega)
  rw [h, hs, Int.toNat_natCast]
  rfl
/-- A formula in a block of its own. -/
def For3 (W : World) (B : Nat) (a b c : Value) : Prop := W.heap[B]? = some (.cells #[a, b, c] 25 (0, 0))
theorem For3.cells {W : World} {B : Nat} {a b c : Value} (h : For3 W B a b c) : W.cell? ⟨B, 0, none⟩ = some a ∧ W.cell? ⟨B, 1, none⟩ = some b ∧ W.cell? ⟨B, 2, none⟩ = some c ∧ ∀ i, W.frozen? ⟨B, i, none⟩ = false :=
  ⟨(cell_of h 0).trans rfl, (cell_of h 1).trans rfl, (cell_of h 2).trans rfl, fun i => free_of h i⟩
theorem For3.kept {W W' : World} {B : Nat} {a b c : Value} (h : For3 W B a b c) (k : Kept [] W W') : For3 W' B a b c := k.at h (by simp)
theorem For3.set {W : World} {B : Nat} {a b c : Value} (h : For3 W B a b c) (a' b' c' : Value) : For3 (((W.setCell ⟨B, 0, none⟩ a').setCell ⟨B, 1, none⟩ b').setCell ⟨B, 2, none⟩ c') B a' b' c' := by
  unfold For3; rw [row_set (row_set (row_set h a') b') c']; rfl
theorem ret_row {fn : Func} {p : Tmp} {a : Act} {w : World} {g : Nat} {cs : Array Value} {R : Ending → World → Prop} (h : fn.results = #[.cell p 25]) (hp : a.tmps.getD p undef = .pointer (some ⟨g, 0, none⟩)) (hd : a.defers = []) (hg : w.heap[g]? = some (.cells cs 25 (0, 0))) (hsz : cs.size = 3) (hR : R (.returned (.agg cs)) w) : bodyPost Tryd.prog fn R .ret a w :=
  bodyPost_ret (results_cell_row h _ w g 25 cs _ _ hp hg Tryd.underlying25 rfl (by rw [hsz]; kernel_rfl)) hd hR
theorem ret_for {fn : Func} {p : Tmp} {a : Act} {w : World} {g : Nat} {x y z : Value} {R : Ending → World → Prop} (h : fn.results = #[.cell p 25]) (hp : a.tmps.getD p undef = .pointer (some ⟨g, 0, none⟩)) (hd : a.defers = []) (hg : For3 w g x y z) (hR : R (.returned (.agg #[x, y, z])) w) : bodyPost Tryd.prog fn R .ret a w :=
  ret_row h hp hd hg rfl hR
theorem kept_set3 {w W : World} {B : Nat} (k : Kept [] w W) (hB : w.heap.size ≤ B) (a b c : Value) : Kept [] w (((W.setCell ⟨B, 0, none⟩ a).setCell ⟨B, 1, none⟩ b).setCell ⟨B, 2, none⟩ c) :=
  ((k.setCell (p := ⟨B, 0, none⟩) (.inr hB) a).setCell (p := ⟨B, 1, none⟩) (.inr hB) b).setCell (p := ⟨B, 2, none⟩) (.inr hB) c
/-- A store into another block leaves a tree. -/
theorem IsT.other {X : Nat → Prop} {W : World} {t : Tr} {kv : Value} (h : IsT X W t kv) {B : Nat} (hB : ¬ X B) (o : Nat) (v : Value) : IsT X (W.setCell ⟨B, o, none⟩ v) t kv :=
  h.keep (fun _ h => h) (fun k _ hk ho => (Below.heap_setCell _ _ _ _ (fun e => hB (by have e' : k = B := e; rw [← e']; exact hk))).trans ho)

/-- What stands between two rounds: the new list G has its first i kids. -/
structure RebAt (w : World) (G n : Nat) (us : List Tr) (a b c : Value) (i : Nat) (wr : World) : Prop where
  kept : Kept [] w wr
  src : For3 wr w.heap.size a b c
  res : For3 wr (w.heap.size + 1) (.int .u8 0) (.string ⟨#[]⟩) (.slice none 0 0)
  row : ∃ arr, wr.heap[G]? = some (.cells arr 25 (0, 0)) ∧ arr.size = n * 3 ∧ ∀ j (hj : j < us.length), j < i → ∃ ad cap, arr[j * 3]? = some (.int .u8 (us[j].op : Nat)) ∧ arr[j * 3 + 1]? = some (.string us[j].name) ∧ arr[j * 3 + 2]? = some (.slice ad us[j].kids.length cap) ∧ IsT (fun k => G < k) wr us[j] (.slice ad us[j].kids.length cap)
/-- One kid more: a call that makes it, and its store. -/
theorem RebAt.next {w wr W5 : World} {G n : Nat} {us : List Tr} {a b c : Value} {i : Nat} (h : RebAt w G n us a b c i wr) (hG : G = w.heap.size + 2) (hk : Kept [] wr W5) (hi : i < us.length) (hn : us.length = n) {ad : Option Addr} {cap : Nat} (hI : IsT (fun k => wr.heap.size ≤ k) W5 us[i] (.slice ad us[i].kids.length cap)) :
    (∃ v0 v1 v2, W5.cell? ⟨G, i * 3, none⟩ = some v0 ∧ W5.cell? ⟨G, i * 3 + 1, none⟩ = some v1 ∧ W5.cell? ⟨G, i * 3 + 2, none⟩ = some v2 ∧ ∀ k, W5.frozen? ⟨G, k, none⟩ = false) ∧
    RebAt w G n us a b c (i + 1) (((W5.setCell ⟨G, i * 3, none⟩ (.int .u8 (us[i].op : Nat))).setCell ⟨G, i * 3 + 1, none⟩ (.string us[i].name)).setCell ⟨G, i * 3 + 2, none⟩ (.slice ad us[i].kids.length cap)) := by
  obtain ⟨arr, hg, hsz, hr⟩ := h.row
  have hg5 : W5.heap[G]? = some (.cells arr 25 (0, 0)) := hk.at hg (by simp)
  have lg := lt_of hg
  refine ⟨⟨arr[i * 3]'(by omega), arr[i * 3 + 1]'(by omega), arr[i * 3 + 2]'(by omega), ?_, ?_, ?_, fun k => free_of hg5 k⟩, ?_, ?_, ?_, ?_⟩
  · rw [cell_of hg5]; exact Array.getElem?_eq_getElem _
  · rw [cell_of hg5]; exact Array.getElem?_eq_getElem _
  · rw [cell_of hg5]; exact Array.getElem?_eq_getElem _
  · have k5 := h.kept.trans hk (H := []) (by simp) (by simp)
    exact ((k5.setCell (p := ⟨G, i * 3, none⟩) (.inr (by show w.heap.size ≤ G; omega)) _).setCell (p := ⟨G, i * 3 + 1, none⟩) (.inr (by show w.heap.size ≤ G; omega)) _).setCell (p := ⟨G, i * 3 + 2, none⟩) (.inr (by show w.heap.size ≤ G; omega)) _
  · have := h.src.kept hk
    exact (Below.heap_setCell _ _ _ _ (by show w.heap.size ≠ G; omega)).trans ((Below.heap_setCell _ _ _ _ (by show w.heap.size ≠ G; omega)).trans ((Below.heap_setCell _ _ _ _ (by show w.heap.size ≠ G; omega)).trans this))
  · have := h.res.kept hk
    exact (Below.heap_setCell _ _ _ _ (by show w.heap.size + 1 ≠ G; omega)).trans ((Below.heap_setCell _ _ _ _ (by show w.heap.size + 1 ≠ G; omega)).trans ((Below.heap_setCell _ _ _ _ (by show w.heap.size + 1 ≠ G; omega)).trans this))
  · refine ⟨_, row_set (row_set (row_set hg5 _) _) _, by simp [hsz], fun j hj hji => ?_⟩
    have hnG : ¬ (G < G) := by omega
    rcases Nat.lt_or_ge j i with h' | h'
    · obtain ⟨ad', cap', a0, a1, a2, hIj⟩ := hr j hj h'
      refine ⟨ad', cap', ?_, ?_, ?_, ?_⟩
      · rw [Array.getElem?_setIfInBounds_ne (by omega), Array.getElem?_setIfInBounds_ne (by omega), Array.getElem?_setIfInBounds_ne (by omega)]; exact a0
      · rw [Array.getElem?_setIfInBounds_ne (by omega), Array.getElem?_setIfInBounds_ne (by omega), Array.getElem?_setIfInBounds_ne (by omega)]; exact a1
      · rw [Array.getElem?_setIfInBounds_ne (by omega), Array.getElem?_setIfInBounds_ne (by omega), Array.getElem?_setIfInBounds_ne (by omega)]; exact a2
      · exact ((((hIj.cells (fun _ h => h) (fun _ _ _ _ cc => cell_kept0 hk cc)).other hnG _ _).other hnG _ _).other hnG _ _)
    · obtain rfl : j = i := by omega
      refine ⟨ad, cap, ?_, ?_, ?_, ?_⟩
      · rw [Array.getElem?_setIfInBounds_ne (by omega), Array.getElem?_setIfInBounds_ne (by omega), Array.getElem?_setIfInBounds_self_of_lt (by omega)]
      · rw [Array.getElem?_setIfInBounds_ne (by omega), Array.getElem?_setIfInBounds_self_of_lt (by simp; omega)]
      · rw [Array.getElem?_setIfInBounds_self_of_lt (by simp; omega)]
      · exact (((hI.mono (fun k hk => by omega)).other hnG _ _).other hnG _ _).other hnG _ _

end Go.Proofs.YtddgciilcghbaaaDoor
