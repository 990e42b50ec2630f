/- Set.All: the closure that goes through the members, rising, as an iterator's contract. -/
import Derived.RangeFuncNested
import Derived.RangeFuncBound
import Derived.RangeFuncCalls
import Derived.RangeFuncLeaves
import Derived.Shelf.Abstract
import Derived.WalkKit
import Derived.OwnWalkIn
import Derived.TacticsInMore
import Derived.LoopNIn
import Derived.LoopIn
import Derived.Test.YtkkhilgcjaigcaaDoorReadsK
import Derived.Test.YtkkhilgcjaigcaaDoorCopyK
namespace Go.Proofs.YtkkhilgcjaigcaaDoor
open Go.RowKit Go.Shelf

/-- The members from s on, rising: f numbers are looked at. -/
def elemsF (ws : List Nat) : Nat → Nat → List Nat
  | 0, _ => []
  | f + 1, i => if mem ws i then i :: elemsF ws f (i + 1) else elemsF ws f (i + 1)
def elemsW (n : Nat) (ws : List Nat) (s : Nat) : List Nat := elemsF ws (n - s) s
theorem elems_skip (n : Nat) (ws : List Nat) : ∀ d s, (∀ k, s ≤ k → k < s + d → mem ws k = false) → s + d ≤ n → elemsW n ws s = elemsW n ws (s + d)
  | 0, _, _, _ => rfl
  | d + 1, s, h, hn => by
    have e : elemsW n ws s = elemsW n ws (s + 1) := by
      unfold elemsW
      rw [show n - s = (n - (s + 1)) + 1 from by omega]
      show (if mem ws s then _ else _) = _
      rw [h s (Nat.le_refl _) (by omega)]
      rfl
    rw [e, elems_skip n ws d (s + 1) (fun k h1 h2 => h k (by omega) (by omega)) (by omega), show s + 1 + d = s + (d + 1) from by omega]
theorem elems_none {n : Nat} {ws : List Nat} {s : Nat} (h : ∀ j, s ≤ j → mem ws j = false) : elemsW n ws s = [] := by
  by_cases hs : s ≤ n
  · have := elems_skip n ws (n - s) s (fun k h1 _ => h k h1) (by omega)
    rw [this, show s + (n - s) = n from by omega]
    unfold elemsW; rw [Nat.sub_self]; rfl
  · unfold elemsW; rw [show n - s = 0 from by omega]; rfl
theorem elems_cons {n : Nat} {ws : List Nat} (hG : Good n ws) {s j : Nat} (hj : s ≤ j) (hm : mem ws j = true) (h : ∀ k, s ≤ k → k < j → mem ws k = false) : elemsW n ws s = j :: elemsW n ws (j + 1) ∧ j < n := by
  have hn : j < n := by
    rcases Nat.lt_or_ge j n with h' | h'
    · exact h'
    · rw [hG.trim j h'] at hm; cases hm
  refine ⟨?_, hn⟩
  have := elems_skip n ws (j - s) s (fun k h1 h2 => h k h1 (by omega)) (by omega)
  rw [this, show s + (j - s) = j from by omega]
  unfold elemsW
  rw [show n - j = (n - (j + 1)) + 1 from by omega]
  show (if mem ws j then _ else _) = _
  rw [hm]; rfl

/-- How much is left to go through, off the slot's value. -/
def leftAll (n : Nat) (v : Value) : Nat := if intOf v < 0 then 0 else n - (intOf v).toNat

theorem leftAll_nat (n j : Nat) : leftAll n (.int .i64 (j : Nat)) = n - j := by
  unfold leftAll
  have : ¬ ((j : Nat) : Int) < 0 := by omega
  rw [show intOf (Value.int .i64 (j : Nat)) = ((j : Nat) : Int) from rfl, if_neg this]; rfl
theorem leftAll_none (n : Nat) : leftAll n (.int .i64 (-1)) = 0 := rfl

/-- What the iterator leans on: its box, its set, the library's table: all of it below n₀. -/
structure AllAt (n₀ Bn b g c n : Nat) (ws : List Nat) (W : World) : Prop where
  box : W.cell? ⟨Bn, 0, none⟩ = some (.pointer (some ⟨b, 0, none⟩))
  set : IsSet W b g c n ws
  tab : Tab W
  lB : Bn < n₀
  lb : b < n₀
  lg : g < n₀
  l0 : 0 < n₀
theorem AllAt.below {n₀ Bn b g c n : Nat} {ws : List Nat} {W W' : World} (h : AllAt n₀ Bn b g c n ws W) (k : Below n₀ W W') : AllAt n₀ Bn b g c n ws W' := by
  obtain ⟨h1, ⟨s1, ⟨cur, s2, s3⟩, s4, s5, s6⟩, ⟨t1, t2⟩, h4, h5, h6, h7⟩ := h
  refine ⟨(k.cell (p := ⟨Bn, 0, none⟩) h4).trans h1, ⟨(k.block b h5).trans s1, ⟨cur, (k.block g h6).trans s2, s3⟩, s4, s5, s6⟩, ⟨Nat.lt_of_lt_of_le t1 k.size, fun j hj => (k.cell (p := ⟨0, j, none⟩) h7).trans (t2 j hj)⟩, h4, h5, h6, h7⟩

set_option maxRecDepth 100000 in
set_option maxHeartbeats 1600000 in
theorem all1_in (m : Nat) (hm : 1 ≤ m) (l n₀ Bn b g c n : Nat) (ws : List Nat) (hG : Good n ws) (J Jx : List Nat → World → Prop)
    (hJ : ∀ pre W q, J pre W → J pre (W.drewN q))
    (hY : ∀ pre x W, J pre W → pre.length < (elemsW n ws 0).length → YieldAt Fence.wide (m - 1) Tryd.prog l #[.int .i64 (x : Nat)] W fun e W' =>
      (e = .returned (.bool true) ∧ J (pre ++ [x]) W' ∧ Below n₀ W W') ∨ (e = .returned (.bool false) ∧ Jx (pre ++ [x]) W'))
    (W : World) (hA : AllAt n₀ Bn b g c n ws W) (h0 : J [] W) :
    CallsIn Fence.wide m Tryd.prog 54 #[.func (.yield l) #[] #[], .pointer (some ⟨Bn, 0, none⟩)] W fun e W' => (∃ v, e = .returned v) ∧
      ((∃ ys, ys = elemsW n ws 0 ∧ J ys W') ∨ (∃ pre, pre <+: elemsW n ws 0 ∧ Jx pre W')) := by
  have hbox := hA.box
  refine callsIn_of_wp Tryd.func54 rfl trivial ?_ rfl
  simp only [Tryd.ntmps54, List.size_toArray, List.length_cons, List.length_nil, Nat.reduceAdd, Nat.reduceSub, Array.replicate_succ, Array.replicate_zero, List.push_toArray, List.append_toArray, List.nil_append, List.cons_append]
  have HA : Hid (AllAt n₀ Bn b g c n ws W) := hA
  have HY : Hid _ := hY
  have HG : Hid (Good n ws) := hG
  have HJ : Hid _ := hJ
  clear hA hY hG hJ
  gi_wp2_with (refine ⟨trivial, ?_⟩; gi_at_call 55; refine (callsIn_wide.2 (first_any b g c n ws _ HA.out.set HG.out HA.out.tab)).mono ?_; rintro e w1 ⟨r, rfl, hl, q, rfl⟩)
  have h1 := HJ.out [] W q h0
  have hb1 : Below n₀ W (W.drewN q) := ⟨rfl, rfl, rfl, Nat.le_refl _, fun _ _ => rfl⟩
  gi_loopw [3] (fun i wr => ∃ (r : Int) (s : Nat) (pre : List Nat), i = .int .i64 r ∧ LeastK ws s r ∧ elemsW n ws 0 = pre ++ elemsW n ws s ∧ J pre wr ∧ Below n₀ W wr) (fun i _ => leftAll n i)
  case atStart => exact ⟨r, 0, [], rfl, hl, rfl, h1, hb1⟩
  case round =>
    obtain ⟨r, s, pre, rfl, hle, hx, hJs, hbr⟩ := hrel
    rcases hle with ⟨rfl, hno⟩ | ⟨j, rfl, hsj, hmj, hbel⟩
    · have he := elems_none (n := n) hno
      rw [he, List.append_nil] at hx
      gi_wp2
      go_end0
      exact ⟨⟨_, rfl⟩, .inl ⟨pre, hx.symm, hJs⟩⟩
    · obtain ⟨hc, hjn⟩ := elems_cons HG.out hsj hmj hbel
      have hx2 : elemsW n ws 0 = (pre ++ [j]) ++ elemsW n ws (j + 1) := by rw [hx, hc]; simp
      obtain ⟨fn, tmps, assign, body, hy, hR⟩ := HY.out pre j wr hJs (by rw [hx2]; simp)
      have HX2 : Hid _ := hx2
      have hjp : (0 : Int) ≤ (j : Int) := by omega
      clear hx hx2 hc hbel hmj hsj hl h1 hb1 h0
      gi_wp2
      refine hR.mono ?_
      rintro e W3 (⟨rfl, hJ3, hk3⟩ | ⟨rfl, hJx3⟩)
      · have hA3 := HA.out.below (hbr.trans hk3)
        have HA3 : Hid _ := hA3
        have hbox3 := hA3.box
        clear hA3
        gi_wp2_with (refine ⟨trivial, ?_⟩; gi_at_call 56; refine (callsIn_wide.2 (after_any b g c n ws j _ HA3.out.set HG.out HA3.out.tab)).mono ?_; rintro e w4 ⟨r4, rfl, hl4, q4, rfl⟩)
        have ea : afterAt (j : Int) = j + 1 := by unfold afterAt; rw [if_neg (by omega)]; omega
        rw [ea] at hl4
        clear ea
        go_roundw
        case rel => exact ⟨r4, j + 1, pre ++ [j], rfl, hl4, HX2.out, HJ.out _ _ q4 hJ3, hbr.trans (hk3.trans ⟨rfl, rfl, rfl, Nat.le_refl _, fun _ _ => rfl⟩)⟩
        case measure =>
          have hq : r4 = -1 ∨ ∃ i : Nat, r4 = (i : Int) ∧ j + 1 ≤ i := by
            rcases hl4 with ⟨h, _⟩ | ⟨i, h, h2, _⟩
            · exact Or.inl h
            · exact Or.inr ⟨i, h, h2⟩
          rcases hq with rfl | ⟨i, rfl, hi⟩
          · rw [leftAll_none, leftAll_nat]; omega
          · rw [leftAll_nat, leftAll_nat]; omega
      · gi_wp2
        refine bodyPost_ret (results_none rfl _ _ _) rfl ?_
        exact ⟨⟨_, rfl⟩, .inr ⟨pre ++ [j], ⟨_, HX2.out.symm⟩, hJx3⟩⟩

/-- The function value that All hands back goes through the members, rising: to their end, or till a round has said 'no more'. -/
theorem all_stops (m : Nat) (hm : 1 ≤ m) (n₀ Bn b g c n : Nat) (ws : List Nat) (hG : Good n ws) (w : World) (hn₀ : n₀ ≤ w.heap.size) (hA : AllAt n₀ Bn b g c n ws w) :
    SeqStopsK Fence.wide m Tryd.prog 54 #[.pointer (some ⟨Bn, 0, none⟩)] (fun x : Nat => #[Value.int .i64 (x : Nat)]) (Below n₀) (fun ys => ys = elemsW n ws 0) (fun pre => pre <+: elemsW n ws 0) (elemsW n ws 0).length w :=
  fun l J Jx W hW hJ _ hY h0 =>
    all1_in m hm l n₀ Bn b g c n ws hG J Jx (fun pre W q h => hJ pre W _ none h ⟨rfl, rfl, rfl, Nat.le_refl _, fun _ _ _ => rfl⟩ (fun r e => by cases e)) hY W (hA.below (hW.mono hn₀)) h0

set_option maxHeartbeats 800000 in
/-- All: a copy of the set, in a box that the function value holds. -/
theorem all_any (b g c n : Nat) (ws : List Nat) (w : World) (hs : IsSet w b g c n ws) (hG : Good n ws) (hT : Tab w) :
    Calls Tryd.prog 41 #[.pointer (some ⟨b, 0, none⟩)] w fun e w' => ∃ Bn b' g' c', e = .returned (.func (.func 54) #[] #[.pointer (some ⟨Bn, 0, none⟩)]) ∧ AllAt w'.heap.size Bn b' g' c' n ws w' ∧ w.heap.size ≤ Bn ∧ w.heap.size ≤ b' ∧ w.heap.size ≤ g' ∧ Kept [] w w' := by
  go_enter Tryd.func41, Tryd.ntmps41
  go_wp2_with fail
  refine (copy_any b g c n ws _ hs hG).mono ?_
  rintro e w1 ⟨b', g', c', rfl, hs1, hb1, hg1, hk1⟩
  have HS1 : Hid _ := hs1
  clear hs1
  go_wp2
  go_ret
  have z := hk1.size
  refine ⟨w1.heap.size, b', g', c', rfl, ⟨?_, HS1.out.alloc _, (hT.kept hk1 (by simp)).kept ((Kept.refl [] w1).alloc _) (by simp), ?_, ?_, ?_, ?_⟩, z, hb1, hg1, hk1.alloc _⟩
  · rw [cell_of (heap_alloc_new w1 _)]; rfl
  · simp
  · have := HS1.out.ltb; simp; omega
  · have := HS1.out.ltg; simp; omega
  · simp
end Go.Proofs.YtkkhilgcjaigcaaDoor
