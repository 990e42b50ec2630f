/- What stands at a place of a text: package lex's rest and piece. -/
import Derived.Test.YtilgfnafkcjdgaaDoorLxTrim
import Derived.Lib.Bytealg
import Derived.BigQuiet
namespace Go.Proofs.YtilgfnafkcjdgaaDoor
open Go.RowKit

def strV (l : List UInt8) : Value := .string ⟨l.toArray⟩
def pieceV (p : Piece) : Value := .agg #[.int .u8 (p.kind.val : Nat), .string ⟨p.text.toArray⟩, .int .i64 (p.width : Nat), .int .i64 (p.err : Nat)]

set_option maxHeartbeats 1000000 in
theorem hasPrefix1_any (s p : ByteArray) (w : World) :
    Calls Tryd.prog 78 #[.string s, .string p] w fun e w' => e = .returned (.bool (Lib.hasPrefix s.data.toList p.data.toList)) ∧ w' = w := by
  rw [← Lib.hasPrefix_of_take, ← Lib.size_eq, ← Lib.size_eq]
  go_enter Tryd.func78, Tryd.ntmps78
  go_wp2
  · rename_i h
    go_ret
    refine ⟨?_, rfl⟩
    show Ending.returned (Value.bool ((s.extract 0 p.size).toList == p.toList)) = _
    rw [Lib.extract_toList, Lib.toList_data]
    simp [h]
  · rename_i h
    go_ret
    refine ⟨?_, rfl⟩
    show Ending.returned (Value.bool false) = _
    simp [h]
theorem hasPrefix_any (s p : ByteArray) (w : World) :
    Calls Tryd.prog 73 #[.string s, .string p] w fun e w' => e = .returned (.bool (Lib.hasPrefix s.data.toList p.data.toList)) ∧ w' = w := by
  go_enter Tryd.func73, Tryd.ntmps73
  go_wp2_with (go_at_call 78; refine (hasPrefix1_any _ _ _).mono ?_; rintro e w' ⟨rfl, rfl⟩)
  go_ret
  exact ⟨rfl, rfl⟩

/-- Where the first quote stands. -/
def idx34 (l : List UInt8) : Int := Lib.indexByte l 34
theorem idx34_eq : ∀ l : List UInt8, idx34 l = if (upto34 l).length < l.length then ((upto34 l).length : Int) else -1
  | [] => rfl
  | b :: l => by
    unfold idx34 upto34 Lib.indexByte
    rw [List.takeWhile_cons]
    by_cases h : b = 34
    · subst h; simp
    · have h1 : (b == 34) = false := by simpa using h
      have h2 : (b != 34) = true := by simpa using h
      have ih := idx34_eq l
      have hle := upto34_le l
      unfold idx34 upto34 at ih
      unfold upto34 at hle
      rw [h1, h2, ih]
      simp only [List.length_cons, Bool.false_eq_true, if_false, if_true]
      by_cases h3 : (List.takeWhile (fun b => b != 34) l).length < l.length
      · rw [if_pos h3, if_pos (show (List.takeWhile (fun b => b != 34) l).length + 1 < l.length + 1 by omega)]
        have : ¬ (((List.takeWhile (fun b => b != 34) l).length : Int) == -1) = true := by
          intro h4
          rw [beq_iff_eq] at h4
          omega
        rw [if_neg this]
        omega
      · rw [if_neg h3, if_neg (show ¬ (List.takeWhile (fun b => b != 34) l).length + 1 < l.length + 1 by omega)]; rfl
set_option maxHeartbeats 1000000 in
theorem indexByte_any (s : ByteArray) (w : World) :
    Calls Tryd.prog 82 #[.string s, .int .u8 34] w fun e w' => e = .returned (.int .i64 (idx34 s.data.toList)) ∧ w' = w := by
  go_enter Tryd.func82, Tryd.ntmps82
  go_wp2
  rw [run_callFunc_extern Tryd.func88 (by kernel_rfl) (by kernel_rfl) (by kernel_rfl) (e := Extern.BytealgIndexByte.indexByte) (by kernel_rfl), Lib.run_indexByteString]
  simp only [Result.andThen]
  rw [Oper.upon_value]
  go_wp2
  go_ret
  exact ⟨rfl, rfl⟩
set_option maxHeartbeats 1000000 in
theorem index_any (s : ByteArray) (w : World) :
    Calls Tryd.prog 79 #[.string s, .string ⟨#[34]⟩] w fun e w' => e = .returned (.int .i64 (idx34 s.data.toList)) ∧ w' = w := by
  cases h : ([34] == s.toList)
  · go_enter Tryd.func79, Tryd.ntmps79
    go_wp2_with (go_at_call 82; refine (indexByte_any _ _).mono ?_; rintro e w' ⟨rfl, rfl⟩)
    go_ret
    exact ⟨rfl, rfl⟩
  · have hi : idx34 s.data.toList = 0 := by
      rw [← Lib.toList_data, ← beq_iff_eq.1 h]; rfl
    rw [hi]
    go_enter Tryd.func79, Tryd.ntmps79
    go_wp2_with fail
    go_ret
    exact ⟨rfl, rfl⟩

set_option maxHeartbeats 1000000 in
theorem cut_yes (s : ByteArray) (k : Nat) (w : World) (hi : idx34 s.data.toList = (k : Int)) (hk : k < s.size) (hs : s.size ≤ 9223372036854775807) :
    Calls Tryd.prog 68 #[.string s, .string ⟨#[34]⟩] w fun e w' => e = .returned (.tuple #[.string (s.extract 0 k), .string (s.extract (k + 1) s.size), .bool true]) ∧ Kept [] w w' := by
  have hc := index_any s w
  rw [hi] at hc
  have h1 : Calls Tryd.prog 74 #[.string s, .string ⟨#[34]⟩] w fun e w' => e = .returned (.tuple #[.string (s.extract 0 k), .string (s.extract (k + 1) s.size), .bool true]) ∧ Kept [] w w' := by
    have h0 : (0 : Int) ≤ (k : Int) := by omega
    go_enter Tryd.func74, Tryd.ntmps74
    go_wp2_with (go_at_call 79; refine hc.mono ?_; rintro e w' ⟨rfl, rfl⟩)
    go_quiet (fail)
    go_wp2
    go_ret3
    exact ⟨rfl, (Kept.refl [] _).drewN _⟩
  go_enter Tryd.func68, Tryd.ntmps68
  go_wp2_with (go_at_call 74; refine h1.mono ?_; rintro e w' ⟨rfl, hk⟩)
  go_ret3
  exact ⟨rfl, hk⟩
set_option maxHeartbeats 1000000 in
theorem cut_no (s : ByteArray) (w : World) (hi : idx34 s.data.toList = -1) :
    Calls Tryd.prog 68 #[.string s, .string ⟨#[34]⟩] w fun e w' => e = .returned (.tuple #[.string s, .string ⟨#[]⟩, .bool false]) ∧ Kept [] w w' := by
  have hc := index_any s w
  rw [hi] at hc
  have h1 : Calls Tryd.prog 74 #[.string s, .string ⟨#[34]⟩] w fun e w' => e = .returned (.tuple #[.string s, .string ⟨#[]⟩, .bool false]) ∧ Kept [] w w' := by
    go_enter Tryd.func74, Tryd.ntmps74
    go_wp2_with (go_at_call 79; refine hc.mono ?_; rintro e w' ⟨rfl, rfl⟩)
    go_ret3
    exact ⟨rfl, Kept.refl [] _⟩
  go_enter Tryd.func68, Tryd.ntmps68
  go_wp2_with (go_at_call 74; refine h1.mono ?_; rintro e w' ⟨rfl, hk⟩)
  go_ret3
  exact ⟨rfl, hk⟩

theorem row_set {w : World} {g i : Nat} {cs : Array Value} {T : TypeId} {fz : Nat × Nat} (h : w.heap[g]? = some (.cells cs T fz)) (v : Value) : (w.setCell ⟨g, i, none⟩ v).heap[g]? = some (.cells (cs.setIfInBounds i v) T fz) := by
  simp only [World.setCell, Array.getElem?_modify, if_true]
  rw [h]
  simp
theorem ret_piece {fn : Func} {p : Tmp} {a : Act} {w : World} {g : Nat} {cs : Array Value} {R : Ending → World → Prop} (h : fn.results = #[.cell p 85]) (hp : a.tmps.getD p undef = .pointer (some ⟨g, 0, none⟩)) (hd : a.defers = []) (hg : w.heap[g]? = some (.cells cs 85 (0, 0))) (hsz : cs.size = 4) (hR : R (.returned (.agg cs)) w) : bodyPost Tryd.prog fn R .ret a w :=
  bodyPost_ret (results_cell_row h _ w g 85 cs _ _ hp hg Tryd.underlying85 rfl (by rw [hsz]; kernel_rfl)) hd hR
/-- The zero piece, in its block. -/
def Zero4 (w : World) (g : Nat) : Prop := w.heap[g]? = some (.cells #[.int .u8 0, .string ⟨#[]⟩, .int .i64 0, .int .i64 0] 85 (0, 0))
theorem Zero4.kept {w w' : World} {g : Nat} (h : Zero4 w g) (k : Kept [] w w') : Zero4 w' g := k.at h (by simp)
theorem Zero4.cells {w : World} {g : Nat} (h : Zero4 w g) : w.cell? ⟨g, 0, none⟩ = some (.int .u8 0) ∧ w.cell? ⟨g, 1, none⟩ = some (.string ⟨#[]⟩) ∧ w.cell? ⟨g, 2, none⟩ = some (.int .i64 0) ∧ w.cell? ⟨g, 3, none⟩ = some (.int .i64 0) ∧ (∀ i, w.frozen? ⟨g, i, none⟩ = false) :=
  ⟨(cell_of h 0).trans rfl, (cell_of h 1).trans rfl, (cell_of h 2).trans rfl, (cell_of h 3).trans rfl, fun i => free_of h i⟩
theorem Zero4.set {w : World} {g : Nat} (h : Zero4 w g) (a b c d : Value) : ((((w.setCell ⟨g, 0, none⟩ a).setCell ⟨g, 1, none⟩ b).setCell ⟨g, 2, none⟩ c).setCell ⟨g, 3, none⟩ d).heap[g]? = some (.cells #[a, b, c, d] 85 (0, 0)) := by
  rw [row_set (row_set (row_set (row_set h a) b) c) d]; rfl

def zero4 : Obj := .cells #[.int .u8 0, .string ⟨#[]⟩, .int .i64 0, .int .i64 0] 85
/-- A function that has laid its own piece calls one that hands a piece back. -/
def PieceCall (w : World) (p : Piece) (e : Ending) (w1 : World) : Prop :=
  e = .returned (.agg #[.int .u8 (p.kind.val : Nat), .string ⟨p.text.toArray⟩, .int .i64 (p.width : Nat), .int .i64 (p.err : Nat)]) ∧ Hid (Zero4 w1 w.heap.size) ∧ Hid (Kept [] w w1) ∧ w1.cell? ⟨w.heap.size, 0, none⟩ = some (.int .u8 0) ∧ w1.cell? ⟨w.heap.size, 1, none⟩ = some (.string ⟨#[]⟩) ∧ w1.cell? ⟨w.heap.size, 2, none⟩ = some (.int .i64 0) ∧ w1.cell? ⟨w.heap.size, 3, none⟩ = some (.int .i64 0) ∧ (∀ i, w1.frozen? ⟨w.heap.size, i, none⟩ = false)
theorem piece_call {f : Nat} {args : Array Value} {w w0 : World} {p : Piece} (hw0 : Zero4 w0 w.heap.size) (hk0 : Kept [] w w0) (h : Calls Tryd.prog f args w0 fun e w' => e = .returned (pieceV p) ∧ Kept [] w0 w') : Calls Tryd.prog f args w0 (PieceCall w p) := by
  refine h.mono ?_
  rintro e w1 ⟨rfl, hk⟩
  exact ⟨rfl, hw0.kept hk, hk0.trans hk (by simp) (by simp), (hw0.kept hk).cells⟩
theorem ret_set {fn : Func} {q : Tmp} {a : Act} {w w1 : World} {g : Nat} {p : Piece} {v0 v1 v2 v3 : Value} (h : fn.results = #[.cell q 85]) (hp : a.tmps.getD q undef = .pointer (some ⟨g, 0, none⟩)) (hd : a.defers = []) (hz : Zero4 w1 g) (hk : Kept [] w w1) (hg : w.heap.size ≤ g) (hv : pieceV p = .agg #[v0, v1, v2, v3]) :
    bodyPost Tryd.prog fn (fun e w' => e = .returned (pieceV p) ∧ Kept [] w w') .ret a ((((w1.setCell ⟨g, 0, none⟩ v0).setCell ⟨g, 1, none⟩ v1).setCell ⟨g, 2, none⟩ v2).setCell ⟨g, 3, none⟩ v3) :=
  ret_piece h hp hd (hz.set _ _ _ _) rfl ⟨by rw [hv], (((hk.setCell (Or.inr hg) _).setCell (Or.inr hg) _).setCell (Or.inr hg) _).setCell (Or.inr hg) _⟩

set_option maxHeartbeats 1000000 in
theorem none_any (s : ByteArray) (w : World) :
    Calls Tryd.prog 59 #[.string s] w fun e w' => e = .returned (pieceV noneP) ∧ Kept [] w w' := by
  go_enter Tryd.func59, Tryd.ntmps59
  go_wp2
  refine ret_piece rfl rfl rfl (heap_alloc_new w _) rfl ?_
  exact ⟨rfl, (Kept.refl [] w).alloc _⟩

set_option maxHeartbeats 1000000 in
theorem exactly_any (s p : ByteArray) (w : World) :
    Calls Tryd.prog 67 #[.string s, .string p] w fun e w' => e = .returned (pieceV (exactlyP s.data.toList p.data.toList)) ∧ Kept [] w w' := by
  cases h : Lib.hasPrefix s.data.toList p.data.toList
  · have he : exactlyP s.data.toList p.data.toList = noneP := by
      unfold exactlyP
      exact if_neg (by rw [show p.data.toList.isPrefixOf s.data.toList = Lib.hasPrefix s.data.toList p.data.toList from rfl, h]; simp)
    rw [he]
    have hn := piece_call (w := w) (heap_alloc_new w _) ((Kept.refl [] w).alloc _) (none_any s (w.alloc (.cells #[.int .u8 0, .string ⟨#[]⟩, .int .i64 0, .int .i64 0] 85)))
    go_enter Tryd.func67, Tryd.ntmps67
    go_wp2_with (first
      | (go_at_call 73; refine (hasPrefix_any s p _).mono ?_; rintro e w' ⟨rfl, rfl⟩)
      | (go_at_call 59; refine hn.mono ?_; rintro e w1 ⟨rfl, hz, hk, c0, c1, c2, c3, cf⟩))
    exact ret_set rfl rfl rfl hz.out hk.out (Nat.le_refl _) rfl
  · have he : exactlyP s.data.toList p.data.toList = ⟨4, p.data.toList, p.size, 0⟩ := by
      unfold exactlyP
      rw [show p.data.toList.isPrefixOf s.data.toList = Lib.hasPrefix s.data.toList p.data.toList from rfl, if_pos h, ← Lib.size_eq]
    have he2 : Hid (pieceV ⟨4, p.data.toList, p.size, 0⟩ = .agg #[.int .u8 4, .string p, .int .i64 p.size, .int .i64 0]) := by
      unfold Hid pieceV
      rw [Lib.mk_data]
      rfl
    rw [he]
    go_enter Tryd.func67, Tryd.ntmps67
    go_wp2_with (go_at_call 73; refine (hasPrefix_any s p _).mono ?_; rintro e w' ⟨rfl, hw⟩; rw [hw])
    refine ret_piece rfl rfl rfl (heap_alloc_new w _) rfl ?_
    rw [he2.out]
    exact ⟨rfl, (Kept.refl [] w).alloc _⟩

set_option maxHeartbeats 1000000 in
theorem named_any (s : ByteArray) (n : Nat) (w : World) :
    Calls Tryd.prog 66 #[.string s, .int .i64 (n : Nat)] w fun e w' => e = .returned (pieceV (namedP s.data.toList n)) ∧ Kept [] w w' := by
  cases h : goodLenB s.data.toList
  · rw [show namedP s.data.toList n = ⟨0, [], 0, 22⟩ from if_neg (by rw [h]; simp)]
    go_enter Tryd.func66, Tryd.ntmps66
    go_wp2_with (go_at_call 41; refine (goodLen_any s _).mono ?_; rintro e w' ⟨rfl, hw⟩; rw [hw])
    refine ret_piece rfl rfl rfl (heap_alloc_new w _) rfl ?_
    exact ⟨rfl, (Kept.refl [] w).alloc _⟩
  · rw [show namedP s.data.toList n = ⟨2, s.data.toList, n, 0⟩ from if_pos h]
    have he2 : Hid (pieceV ⟨2, s.data.toList, n, 0⟩ = .agg #[.int .u8 2, .string s, .int .i64 n, .int .i64 0]) := by
      unfold Hid pieceV
      rw [Lib.mk_data]
      rfl
    go_enter Tryd.func66, Tryd.ntmps66
    go_wp2_with (go_at_call 41; refine (goodLen_any s _).mono ?_; rintro e w' ⟨rfl, hw⟩; rw [hw])
    refine ret_piece rfl rfl rfl (heap_alloc_new w _) rfl ?_
    rw [he2.out]
    exact ⟨rfl, (Kept.refl [] w).alloc _⟩

set_option maxHeartbeats 1000000 in
theorem arrow_any (s : ByteArray) (w : World) :
    Calls Tryd.prog 63 #[.string s] w fun e w' => e = .returned (pieceV (exactlyP s.data.toList [45, 62])) ∧ Kept [] w w' := by
  have hn := piece_call (w := w) (heap_alloc_new w _) ((Kept.refl [] w).alloc _) (exactly_any s ⟨#[45, 62]⟩ (w.alloc (.cells #[.int .u8 0, .string ⟨#[]⟩, .int .i64 0, .int .i64 0] 85)))
  rw [show (⟨#[45, 62]⟩ : ByteArray).data.toList = [45, 62] from rfl] at hn
  generalize exactlyP s.data.toList [45, 62] = p at hn ⊢
  go_enter Tryd.func63, Tryd.ntmps63
  go_wp2_with (go_at_call 67; refine hn.mono ?_; rintro e w1 ⟨rfl, hz, hk, c0, c1, c2, c3, cf⟩)
  exact ret_set rfl rfl rfl hz.out hk.out (Nat.le_refl _) rfl
set_option maxHeartbeats 1000000 in
theorem doubleArrow_any (s : ByteArray) (w : World) :
    Calls Tryd.prog 64 #[.string s] w fun e w' => e = .returned (pieceV (exactlyP s.data.toList [60, 45, 62])) ∧ Kept [] w w' := by
  have hn := piece_call (w := w) (heap_alloc_new w _) ((Kept.refl [] w).alloc _) (exactly_any s ⟨#[60, 45, 62]⟩ (w.alloc (.cells #[.int .u8 0, .string ⟨#[]⟩, .int .i64 0, .int .i64 0] 85)))
  rw [show (⟨#[60, 45, 62]⟩ : ByteArray).data.toList = [60, 45, 62] from rfl] at hn
  generalize exactlyP s.data.toList [60, 45, 62] = p at hn ⊢
  go_enter Tryd.func64, Tryd.ntmps64
  go_wp2_with (go_at_call 67; refine hn.mono ?_; rintro e w1 ⟨rfl, hz, hk, c0, c1, c2, c3, cf⟩)
  exact ret_set rfl rfl rfl hz.out hk.out (Nat.le_refl _) rfl
set_option maxHeartbeats 1000000 in
theorem sign_any (s : ByteArray) (b : UInt8) (r : List UInt8) (hs : s.data.toList = b :: r) (w : World) :
    Calls Tryd.prog 61 #[.string s] w fun e w' => e = .returned (pieceV (exactlyP s.data.toList [b])) ∧ Kept [] w w' := by
  have hn := piece_call (w := w) (heap_alloc_new w _) ((Kept.refl [] w).alloc _) (exactly_any s (s.extract 0 1) (w.alloc (.cells #[.int .u8 0, .string ⟨#[]⟩, .int .i64 0, .int .i64 0] 85)))
  rw [show (s.extract 0 1).data.toList = [b] from by rw [Lib.extract_data, hs]; rfl] at hn
  generalize exactlyP s.data.toList [b] = p at hn ⊢
  have hz1 : 1 ≤ s.size := by rw [Lib.size_eq, hs]; simp
  clear hs
  go_enter Tryd.func61, Tryd.ntmps61
  go_wp2_with (go_at_call 67; refine hn.mono ?_; rintro e w1 ⟨rfl, hz, hk, c0, c1, c2, c3, cf⟩)
  exact ret_set rfl rfl rfl hz.out hk.out (Nat.le_refl _) rfl

set_option maxHeartbeats 1000000 in
theorem bare_any (s : ByteArray) (w : World) (hs : s.size ≤ 9223372036854775807) :
    Calls Tryd.prog 60 #[.string s] w fun e w' => e = .returned (pieceV (bareP s.data.toList)) ∧ Kept [] w w' := by
  have hb := bareLen_any s (w.alloc (.cells #[.int .u8 0, .string ⟨#[]⟩, .int .i64 0, .int .i64 0] 85)) hs
  have hle := bareN_le s.data.toList
  rw [← Lib.size_eq] at hle
  obtain ⟨n, hn⟩ : ∃ n, bareN s.data.toList = n := ⟨_, rfl⟩
  have hd : (s.extract 0 n).data.toList = s.data.toList.take n := by rw [Lib.extract_data]; simp
  unfold bareP
  rw [hn] at hb hle ⊢
  rw [← hd]
  have hzs : (s.extract 0 n).size = n := by rw [Lib.size_eq, hd, List.length_take, ← Lib.size_eq]; omega
  obtain ⟨t, ht⟩ : ∃ t, s.extract 0 n = t := ⟨_, rfl⟩
  rw [ht] at hd hzs ⊢
  have HD : Hid _ := hd
  clear hd
  cases hw : isWordB t.data.toList
  · have hc := piece_call (w := w) (heap_alloc_new w _) ((Kept.refl [] w).alloc _) (named_any t n (w.alloc (.cells #[.int .u8 0, .string ⟨#[]⟩, .int .i64 0, .int .i64 0] 85)))
    rw [if_neg (by simp)]
    generalize namedP t.data.toList n = p at hc ⊢
    go_enter Tryd.func60, Tryd.ntmps60
    go_wp2_with (first
      | (go_at_call 42; refine hb.mono ?_; rintro e w' ⟨rfl, hw⟩; rw [hw])
      | (go_at_call 43; refine (isWord_any t _).mono ?_; rintro e w' ⟨rfl, hw⟩; rw [hw])
      | (go_at_call 66; refine hc.mono ?_; rintro e w1 ⟨rfl, hz, hk, c0, c1, c2, c3, cf⟩))
    exact ret_set rfl rfl rfl hz.out hk.out (Nat.le_refl _) rfl
  · rw [if_pos rfl]
    have he2 : Hid (pieceV ⟨3, t.data.toList, n, 0⟩ = .agg #[.int .u8 3, .string t, .int .i64 n, .int .i64 0]) := by
      unfold Hid pieceV
      rw [Lib.mk_data]
      rfl
    go_enter Tryd.func60, Tryd.ntmps60
    go_wp2_with (first
      | (go_at_call 42; refine hb.mono ?_; rintro e w' ⟨rfl, hw⟩; rw [hw])
      | (go_at_call 43; refine (isWord_any t _).mono ?_; rintro e w' ⟨rfl, hw⟩; rw [hw]))
    refine ret_piece rfl rfl rfl (heap_alloc_new w _) rfl ?_
    rw [he2.out]
    exact ⟨rfl, (Kept.refl [] w).alloc _⟩

theorem named2_any (s : ByteArray) (k : Nat) (w : World) :
    Calls Tryd.prog 66 #[.string s, .int .i64 ((k : Int) + 2)] w fun e w' => e = .returned (pieceV (namedP s.data.toList (k + 2))) ∧ Kept [] w w' := named_any s (k + 2) w
set_option maxHeartbeats 1000000 in
theorem quoted_any (s : ByteArray) (b : UInt8) (r : List UInt8) (hr : s.data.toList = b :: r) (w : World) (hs : s.size ≤ 9223372036854775800) :
    Calls Tryd.prog 62 #[.string s] w fun e w' => e = .returned (pieceV (quotedP r)) ∧ Kept [] w w' := by
  have hz1 : 1 ≤ s.size := by rw [Lib.size_eq, hr]; simp
  obtain ⟨t, ht⟩ : ∃ t, s.extract 1 s.size = t := ⟨_, rfl⟩
  have hd : t.data.toList = r := by rw [← ht, Lib.extract_to_end, hr]; rfl
  have hts : t.size = s.size - 1 := by rw [Lib.size_eq, hd, Lib.size_eq, hr]; simp
  have hx := idx34_eq t.data.toList
  rw [← Lib.size_eq] at hx
  rw [← hd]
  have HD : Hid _ := hd
  have HR : Hid _ := hr
  clear hd hr
  unfold quotedP
  rw [← Lib.size_eq]
  by_cases hq : (upto34 t.data.toList).length < t.size
  · obtain ⟨k, hk⟩ : ∃ k, (upto34 t.data.toList).length = k := ⟨_, rfl⟩
    rw [if_pos hq] at hx
    rw [hk] at hx hq ⊢
    obtain ⟨u, hu⟩ : ∃ u, t.extract 0 k = u := ⟨_, rfl⟩
    have hud : u.data.toList = upto34 t.data.toList := by
      rw [← hu, Lib.extract_data, List.drop_zero, Nat.sub_zero, ← hk]
      exact (List.prefix_iff_eq_take.1 (List.takeWhile_prefix _)).symm
    have hus : u.size = k := by rw [Lib.size_eq, hud, hk]
    rw [← hud]
    have hcut := cut_yes t k (w.alloc (.cells #[.int .u8 0, .string ⟨#[]⟩, .int .i64 0, .int .i64 0] 85)) hx hq (by omega)
    rw [hu] at hcut
    have hcut2 := hcut.mono (R' := fun e w1 => e = .returned (.tuple #[.string u, .string (t.extract (k + 1) t.size), .bool true]) ∧ Hid (Zero4 w1 w.heap.size) ∧ Hid (Kept [] w w1) ∧ w1.cell? ⟨w.heap.size, 0, none⟩ = some (.int .u8 0) ∧ w1.cell? ⟨w.heap.size, 1, none⟩ = some (.string ⟨#[]⟩) ∧ w1.cell? ⟨w.heap.size, 2, none⟩ = some (.int .i64 0) ∧ w1.cell? ⟨w.heap.size, 3, none⟩ = some (.int .i64 0) ∧ (∀ i, w1.frozen? ⟨w.heap.size, i, none⟩ = false))
      (by rintro e w1 ⟨rfl, h1⟩; exact ⟨rfl, Zero4.kept (heap_alloc_new w _) h1, ((Kept.refl [] w).alloc _).trans h1 (by simp) (by simp), (Zero4.kept (heap_alloc_new w _) h1).cells⟩)
    clear hcut
    have HX : Hid _ := hx
    have HUD : Hid _ := hud
    clear hx hud
    generalize t.extract (k + 1) t.size = aft at hcut2
    cases hqb : quotableB u.data.toList
    · rw [if_neg (by simp)]
      go_enter Tryd.func62, Tryd.ntmps62
      go_wp2_with (first
        | (go_at_call 68; refine hcut2.mono ?_; rintro e w1 ⟨rfl, hz, hk, c0, c1, c2, c3, cf⟩)
        | (go_at_call 44; refine (quotable_any u _ (by omega)).mono ?_; rintro e w' ⟨rfl, hw⟩; rw [hw]))
      exact ret_set (p := ⟨0, [], 0, 21⟩) rfl rfl rfl hz.out hk.out (Nat.le_refl _) rfl
    · rw [if_pos (by simp [hq])]
      go_enter Tryd.func62, Tryd.ntmps62
      go_wp2_with (first
        | (go_at_call 68; refine hcut2.mono ?_; rintro e w1 ⟨rfl, hz, hk, c0, c1, c2, c3, cf⟩)
        | (go_at_call 44; refine (quotable_any u _ (by omega)).mono ?_; rintro e w' ⟨rfl, hw⟩; rw [hw])
        | (go_at_call 66; refine (piece_call (w := w) hz.out hk.out (named2_any u k _)).mono ?_; rintro e w2 ⟨rfl, hz2, hk2, d0, d1, d2, d3, df⟩))
      exact ret_set rfl rfl rfl hz2.out hk2.out (Nat.le_refl _) rfl
  · rw [if_neg hq] at hx
    rw [if_neg (by simp [hq])]
    have hcut := cut_no t (w.alloc (.cells #[.int .u8 0, .string ⟨#[]⟩, .int .i64 0, .int .i64 0] 85)) hx
    have hcut2 := hcut.mono (R' := fun e w1 => e = .returned (.tuple #[.string t, .string ⟨#[]⟩, .bool false]) ∧ Hid (Zero4 w1 w.heap.size) ∧ Hid (Kept [] w w1) ∧ w1.cell? ⟨w.heap.size, 0, none⟩ = some (.int .u8 0) ∧ w1.cell? ⟨w.heap.size, 1, none⟩ = some (.string ⟨#[]⟩) ∧ w1.cell? ⟨w.heap.size, 2, none⟩ = some (.int .i64 0) ∧ w1.cell? ⟨w.heap.size, 3, none⟩ = some (.int .i64 0) ∧ (∀ i, w1.frozen? ⟨w.heap.size, i, none⟩ = false))
      (by rintro e w1 ⟨rfl, h1⟩; exact ⟨rfl, Zero4.kept (heap_alloc_new w _) h1, ((Kept.refl [] w).alloc _).trans h1 (by simp) (by simp), (Zero4.kept (heap_alloc_new w _) h1).cells⟩)
    clear hcut
    have HX : Hid _ := hx
    clear hx
    go_enter Tryd.func62, Tryd.ntmps62
    go_wp2_with (go_at_call 68; refine hcut2.mono ?_; rintro e w1 ⟨rfl, hz, hk, c0, c1, c2, c3, cf⟩)
    exact ret_set (p := ⟨0, [], 0, 21⟩) rfl rfl rfl hz.out hk.out (Nat.le_refl _) rfl

/-- The function that begins at a byte. -/
def fnOf (b : UInt8) : Nat := if isLetterB b then 60 else if isSignB b then 61 else if b = 34 then 62 else if b = 45 then 63 else if b = 60 then 64 else 59
theorem piece_any (s : ByteArray) (b : UInt8) (r : List UInt8) (hr : s.data.toList = b :: r) (w : World) (hs : s.size ≤ 9223372036854775800) :
    Calls Tryd.prog (fnOf b) #[.string s] w fun e w' => e = .returned (pieceV (pieceOf (b :: r))) ∧ Kept [] w w' := by
  unfold fnOf
  rw [pieceOf_cons]
  by_cases h1 : isLetterB b = true
  · rw [if_pos h1, if_pos h1, ← hr]; exact bare_any s w (by omega)
  rw [if_neg h1, if_neg h1]
  by_cases h2 : isSignB b = true
  · rw [if_pos h2, if_pos h2, ← hr]; exact sign_any s b r hr w
  rw [if_neg h2, if_neg h2]
  by_cases h3 : b = 34
  · rw [if_pos h3, if_pos h3]; exact quoted_any s b r hr w hs
  rw [if_neg h3, if_neg h3]
  by_cases h4 : b = 45
  · rw [if_pos h4, if_pos h4, ← hr]; exact arrow_any s w
  rw [if_neg h4, if_neg h4]
  by_cases h5 : b = 60
  · rw [if_pos h5, if_pos h5, ← hr]; exact doubleArrow_any s w
  rw [if_neg h5, if_neg h5]
  exact none_any s w
end Go.Proofs.YtilgfnafkcjdgaaDoor
