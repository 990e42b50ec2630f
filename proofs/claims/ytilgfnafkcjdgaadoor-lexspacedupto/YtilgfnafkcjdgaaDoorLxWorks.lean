/- works: what the chapter's first example fixes, and a wrong one. -/
import Derived.Test.YtilgfnafkcjdgaaDoorLxToks
import Derived.Laws.StructEq
namespace Go.Proofs.YtilgfnafkcjdgaaDoor
open Go.RowKit Go.Shelf
attribute [local go_sem] Oper.semAt_some

def text1 : List UInt8 := [71, 40, 114, 101, 113, 45, 62, 70, 32, 34, 97, 99, 107, 32, 49, 34, 41]
def toks1 : List Item := [⟨3, [71], 0, 0⟩, ⟨4, [40], 1, 0⟩, ⟨2, [114, 101, 113], 2, 0⟩, ⟨4, [45, 62], 5, 0⟩, ⟨3, [70], 7, 0⟩, ⟨2, [97, 99, 107, 32, 49], 9, 0⟩, ⟨4, [41], 16, 0⟩, ⟨1, [], 17, 0⟩]
theorem ex1 : tokensE (itemsOf text1) = (toks1, 0, 0) := by rfl
theorem ex2 : tokensE (itemsOf [97, 32, 45, 32, 62, 32, 98]) = ([], 20, 2) := by rfl
theorem ex3 : toksOf [97] = [⟨2, [97], 0, 0⟩, ⟨1, [], 1, 0⟩] := by rfl
theorem ex4 : quoteL [88] = [34, 88, 34] := by rfl
theorem ex5 : quoteL [97, 95, 49] = [97, 95, 49] := by rfl
theorem ex6 : isNameB [116, 114, 117, 101] = false := by rfl

def sumK (xs : List Item) : Nat := (xs.map fun x => x.kind.val).sum
theorem sumK_le (xs : List Item) : sumK xs ≤ 4 * xs.length := by
  induction xs with
  | nil => exact Nat.le_refl _
  | cons x r ih => unfold sumK at ih ⊢; have := x.kind.isLt; simp only [List.map_cons, List.sum_cons, List.length_cons]; omega
theorem sumK_snoc (xs : List Item) (x : Item) : sumK (xs ++ [x]) = sumK xs + x.kind.val := by simp [sumK]

/-- A row of tokens in a block. -/
def RowT (g : Nat) (cur : Array Value) (X : Nat → Prop) (W : World) : Prop := W.heap[g]? = some (.cells cur 50 (0, 0)) ∧ ¬ X g
theorem RowT.more {g : Nat} {cur : Array Value} {X X' : Nat → Prop} {W : World} (h : RowT g cur X W) (hX : ∀ k, X' k → X k ∨ W.heap.size ≤ k) : RowT g cur X' W := by
  have := lt_of h.1
  exact ⟨h.1, fun hk => (hX _ hk).elim h.2 (by omega)⟩
theorem RowT.turn {g : Nat} {cur : Array Value} {X : Nat → Prop} {W W' : World} {row : Option Nat} (h : RowT g cur X W) (hg : W.grownBy W' row) (hr : ∀ r, row = some r → X r) : RowT g cur X W' :=
  ⟨(hg.block _ (lt_of h.1) (fun e => h.2 (hr _ e.symm))).trans h.1, h.2⟩
theorem own_some {W : World} {base : Nat} {e : TypeId} {v : Value} {xs : List Item} (h : W.ownsRow base e 3 v xs.length (flatI xs)) (hx : 0 < xs.length) :
    ∃ g cap cur, v = .slice (some ⟨g, 0, none⟩) xs.length cap ∧ base ≤ g ∧ W.heap[g]? = some (.cells cur e (0, 0)) ∧ xs.length ≤ cap ∧ ∀ j, j < xs.length * 3 → cur[j]? = (flatI xs)[j]? := by
  rcases h.2 with ⟨_, h0⟩ | ⟨g, cap, cur, rfl, hb, hc, hn, _, _, ht⟩
  · omega
  · refine ⟨g, cap, cur, rfl, hb, hc, hn, fun j hj => ?_⟩
    rw [← ht, List.getElem?_take, if_pos hj, Array.getElem?_toList]

theorem eql_func_nil (fn : Fn) (f c : Array Value) (w : World) : (binOp .eql 46 (.func fn f c) .nilFunc).run Tryd.prog w = .ok (.bool false) w := by
  have h : ∀ d, (Op.equalIn (d + 1) 46 (.func fn f c) .nilFunc).run Tryd.prog w = .ok false w := fun d => by simp [Op.equalIn, run_underlying Tryd.underlying46]
  simp only [binOp]
  simp [Op.equal, Op.maxDepth, h 9999]
theorem works_t1 (w : World) : Calls Tryd.prog 12 #[.string ⟨#[71, 40, 114, 101, 113, 45, 62, 70, 32, 34, 97, 99, 107, 32, 49, 34, 41]⟩] w fun e w' => ∃ g cap cur, e = .returned (.tuple #[.slice (some ⟨g, 0, none⟩) 8 cap, .int .i64 0, .int .i64 0]) ∧ Hid (w'.heap[g]? = some (.cells cur 50 (0, 0))) ∧ Hid (∀ j, j < 24 → cur[j]? = (flatI toks1)[j]?) ∧ Hid (Below w.heap.size w w') := by
  refine (tokens_walk _ w (by decide)).mono ?_
  rintro e w' ⟨v, rfl, hown, hb⟩
  have e1 : tokensE (itemsOf (⟨#[71, 40, 114, 101, 113, 45, 62, 70, 32, 34, 97, 99, 107, 32, 49, 34, 41]⟩ : ByteArray).data.toList) = (toks1, 0, 0) := ex1
  rw [e1] at hown ⊢
  obtain ⟨g, cap, cur, rfl, _, hc, _, hcur⟩ := own_some hown (by decide)
  exact ⟨g, cap, cur, rfl, hc, hcur, hb⟩
theorem works_t2 (w : World) : Calls Tryd.prog 12 #[.string ⟨#[97, 32, 45, 32, 62, 32, 98]⟩] w fun e w' => ∃ v, e = .returned (.tuple #[v, .int .i64 20, .int .i64 2]) ∧ Hid (Below w.heap.size w w') := by
  refine (tokens_walk _ w (by decide)).mono ?_
  rintro e w' ⟨v, rfl, _, hb⟩
  have e1 : tokensE (itemsOf (⟨#[97, 32, 45, 32, 62, 32, 98]⟩ : ByteArray).data.toList) = ([], 20, 2) := ex2
  rw [e1]
  exact ⟨v, rfl, hb⟩
theorem works_q1 (w : World) : Calls Tryd.prog 19 #[.string ⟨#[88]⟩] w fun e w' => e = .returned (.string ⟨#[34, 88, 34]⟩) ∧ w' = w := quote_any ⟨#[88]⟩ w (by decide)
theorem works_q2 (w : World) : Calls Tryd.prog 19 #[.string ⟨#[97, 95, 49]⟩] w fun e w' => e = .returned (.string ⟨#[97, 95, 49]⟩) ∧ w' = w := quote_any ⟨#[97, 95, 49]⟩ w (by decide)
theorem works_q3 (w : World) : Calls Tryd.prog 18 #[.string ⟨#[116, 114, 117, 101]⟩] w fun e w' => e = .returned (.bool false) ∧ w' = w := isName_any ⟨#[116, 114, 117, 101]⟩ w (by decide)

set_option maxHeartbeats 2000000 in
set_option maxRecDepth 20000 in
theorem works_walk (w : World) :
    Calls Tryd.prog 9 #[] w fun e w' => e = .returned (.bool true) ∧ Below w.heap.size w w' := by
  refine (callsIn_wide (n := 9)).1 ?_
  refine callsIn_of_wp_marks Tryd.func9 rfl trivial ?_ rfl
  simp only [Tryd.ntmps9, List.size_toArray, List.length_nil, Nat.reduceSub, Array.replicate_succ, Array.replicate_zero, List.push_toArray, List.append_toArray, List.nil_append, List.cons_append]
  have H1 : Hid _ := works_t1
  have H2 : Hid _ := works_t2
  have H3 : Hid _ := works_q1
  have H4 : Hid _ := works_q2
  gi_wp2_with (refine ⟨trivial, ?_⟩; first
    | (gi_at_call 12; refine (callsIn_wide.2 (H1.out _)).mono ?_; clear H1; rintro e w1 ⟨g, cap, cur, rfl, hrow1, hcur, hb1⟩)
    | (gi_at_call 12; refine (callsIn_wide.2 (H2.out _)).mono ?_; clear H2; rintro e w2 ⟨v2, rfl, hb2⟩)
    | (gi_at_call 19; refine (callsIn_wide.2 (H3.out _)).mono ?_; clear H3; rintro e w3 ⟨rfl, hw3⟩; rw [hw3]; clear hw3)
    | (gi_at_call 19; refine (callsIn_wide.2 (H4.out _)).mono ?_; clear H4; rintro e w4 ⟨rfl, hw4⟩; rw [hw4]; clear hw4)
    | (gi_at_call 18; refine (callsIn_wide.2 (works_q3 _)).mono ?_; rintro e w5 ⟨rfl, hw5⟩; rw [hw5]; clear hw5)
    | (gi_at_call 16; refine (callsIn_wide.2 (all_any ⟨#[97]⟩ _)).mono ?_; rintro e V ⟨Bs, Bt, Bb, rfl, hA, hBs, hBt, hBb, hk⟩; have HA : Hid _ := hA; have HK : Hid _ := hk; clear hA hk))
  rw [eql_func_nil]
  simp only [Result.andThen]
  gi_wp2
  obtain ⟨U, hU⟩ : ∃ U, V.alloc (.cells #[.int .i64 0] 3) = U := ⟨_, rfl⟩
  have kU : Kept [] V U := by rw [← hU]; exact (Kept.refl [] V).alloc _
  have zU : U.heap.size = V.heap.size + 1 := by rw [← hU]; simp
  have bU : Boxed U V.heap.size 3 (.int .i64 0) := by rw [← hU]; exact Boxed.new V _ _
  have k1 : Kept [] w w1 := ⟨hb1.out.os, hb1.out.tape, hb1.out.output, hb1.out.size, fun k hk _ => hb1.out.block k hk⟩
  have k2 : Kept [] w1 w2 := ⟨hb2.out.os, hb2.out.tape, hb2.out.output, hb2.out.size, fun k hk _ => hb2.out.block k hk⟩
  have kw := ((k1.trans k2 (H := []) (by simp) (by simp)).trans HK.out (H := []) (by simp) (by simp)).trans kU (H := []) (by simp) (by simp)
  have rU : U.heap[g]? = some (.cells cur 50 (0, 0)) := kU.at (HK.out.at (k2.at hrow1.out (by simp)) (by simp)) (by simp)
  have gU : g < w2.heap.size := lt_of (k2.at hrow1.out (by simp))
  have hlA : ∀ k, allX Bs Bt Bb k → k < V.heap.size := fun k hk => HA.out.lt k hk
  have HAU : Hid _ := HA.out.kept kU
  have HKW : Hid _ := kw
  have HRU : Hid _ := rU
  have hwz := kw.size
  have hwz2 := (k1.trans k2 (H := []) (by simp) (by simp)).size
  have hV : w2.heap.size ≤ V.heap.size := HK.out.size
  have HNI : Hid ((itemsOf (⟨#[97]⟩ : ByteArray).data.toList).length = 2) := by unfold Hid; rfl
  rw [hU]
  clear hU k1 k2 kw rU hb1 hb2 kU hrow1 HK HA
  refine rangeTok rfl (by omega) (gf := 40) (lb := #[.pointer (some ⟨Bs, 0, none⟩)]) rfl trivial (enters_of Tryd.func40 (by kernel_rfl) rfl)
    (all_goes (9 - 1) (by omega) Bs Bt Bb ⟨#[97]⟩ (by decide) U HAU.out) (fun k hk => HAU.out.lt k hk) (fun _ => rfl)
    (fun X pre W => Bx1 V.heap.size 3 (.int .i64 (sumK pre : Nat)) X W ∧ RowT g cur X W ∧ Bw w.heap.size w X W)
    (fun _ _ _ _ => False)
    ⟨fun h hX => ⟨h.1.more hX, h.2.1.more hX, h.2.2.more hX⟩, fun h hg hr => ⟨h.1.turn hg hr, h.2.1.turn hg hr, h.2.2.turn hg hr⟩⟩
    (fun c => ⟨fun h _ => h, fun h _ _ => h⟩)
    ⟨⟨bU, fun h => ?n1⟩, ⟨HRU.out, fun h => ?n2⟩, HKW.out.below, hwz, fun k h => ?n3⟩ ?a1 ?assign ?body ?done ?stop
  case n1 => exact absurd (hlA _ h) (Nat.lt_irrefl _)
  case n2 => rcases h with h | h | h <;> omega
  case n3 => rcases h with h | h | h <;> omega
  case assign =>
    intro l x W Bx K hBx hK
    dsimp only [tokA, tokV]
    dsimp only [tokC] at hK
    gi_wp2
    exact hK
  case body =>
    rintro l' X pre x Bx W1 _ _ hXb ⟨q1, q2, q3⟩ hBx hrow hlen
    rw [HNI.out] at hlen
    have t0 : W1.cell? ⟨Bx, 0, none⟩ = some (.int .u8 (x.kind.val : Nat)) := (cell_of hrow 0).trans rfl
    have hc := q1.1.cell
    have hf := q1.1.frozen
    have hsum := sumK_le pre
    have hkl := x.kind.isLt
    have Hq1 : Hid (Bx1 _ _ _ _ _) := q1
    have Hq2 : Hid (RowT _ _ _ _) := q2
    have Hq3 : Hid (Bw _ _ _ _) := q3
    clear q1 q2 q3 hrow
    have HE : Hid (((sumK pre : Nat) : Int) + ((x.kind.val : Nat) : Int) = ((sumK (pre ++ [x]) : Nat) : Int)) := by unfold Hid; rw [sumK_snoc]; omega
    gi_wp2
    rw [HE.out]
    refine ⟨KpX.setCell Hq1.out.2 _, ⟨Boxed.set _ Hq1.out.1, Hq1.out.2⟩, ⟨(Below.heap_setCell _ _ _ _ (by show g ≠ V.heap.size; omega)).trans Hq2.out.1, Hq2.out.2⟩, Hq3.out.1.setCell (p := ⟨V.heap.size, 0, none⟩) (by show w.heap.size ≤ V.heap.size; omega) _, ?_, Hq3.out.2.2⟩
    have := Hq3.out.2.1
    simpa [World.setCell] using this
  case done =>
    rintro D X xs W1 hD hXD rfl ⟨q1, q2, q3⟩ hK
    rw [show toksOf (⟨#[97]⟩ : ByteArray).data.toList = [⟨2, [97], 0, 0⟩, ⟨1, [], 1, 0⟩] from ex3] at q1
    have cn : W1.cell? ⟨V.heap.size, 0, none⟩ = some (.int .i64 3) := q1.1.cell
    have r0 : W1.cell? ⟨g, 0, none⟩ = some (.int .u8 3) := (cell_of q2.1 0).trans (hcur.out 0 (by omega))
    have r1 : W1.cell? ⟨g, 1, none⟩ = some (.string ⟨#[71]⟩) := (cell_of q2.1 1).trans (hcur.out 1 (by omega))
    have r2 : W1.cell? ⟨g, 2, none⟩ = some (.int .i64 0) := (cell_of q2.1 2).trans (hcur.out 2 (by omega))
    have r15 : W1.cell? ⟨g, 15, none⟩ = some (.int .u8 2) := (cell_of q2.1 15).trans (hcur.out 15 (by omega))
    have r16 : W1.cell? ⟨g, 16, none⟩ = some (.string ⟨#[97, 99, 107, 32, 49]⟩) := (cell_of q2.1 16).trans (hcur.out 16 (by omega))
    have r17 : W1.cell? ⟨g, 17, none⟩ = some (.int .i64 9) := (cell_of q2.1 17).trans (hcur.out 17 (by omega))
    have r21 : W1.cell? ⟨g, 21, none⟩ = some (.int .u8 1) := (cell_of q2.1 21).trans (hcur.out 21 (by omega))
    have r22 : W1.cell? ⟨g, 22, none⟩ = some (.string ⟨#[]⟩) := (cell_of q2.1 22).trans (hcur.out 22 (by omega))
    have r23 : W1.cell? ⟨g, 23, none⟩ = some (.int .i64 17) := (cell_of q2.1 23).trans (hcur.out 23 (by omega))
    have s1 : Tryd.prog.eqGuardType Tryd.prog.depth 50 = false := by kernel_rfl
    have s2 : Tryd.prog.stoodInHeld 50 = false := by kernel_rfl
    have Hq3 : Hid (Bw _ _ _ _) := q3
    have HKD : Hid _ := hK
    clear q1 q2 q3 hK
    gi_wp2
    exact ⟨by simp, .inl ⟨_, _, rfl, run_takeDeferred HKD.out, ⟨_, results_tmp rfl _ _ _, rfl, Hq3.out.1.trans (belowK_b (w := w) (Nat.le_refl _) _ D _ _ (by have := Hq3.out.2.2 D hXD; omega) HKD.out rfl rfl)⟩⟩⟩
  case stop =>
    rintro D X c pre W1 _ _ _ h _
    exact h.elim
theorem works_any (w : World) : Calls Tryd.prog 9 #[] w fun e w' => e = .returned (.bool true) ∧ Kept [] w w' := by
  refine (works_walk w).mono ?_
  rintro e w' ⟨rfl, hb⟩
  exact ⟨rfl, hb.os, hb.tape, hb.output, hb.size, fun k hk _ => hb.block k hk⟩
end Go.Proofs.YtilgfnafkcjdgaaDoor
