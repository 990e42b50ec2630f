/- Set.All's closure, as an iterator for callers who write what is older than it. -/
import Derived.Test.YtkkhilgcjaigcaaDoorAllK
import Derived.Test.YtkkhilgcjaigcaaDoorRgAt
namespace Go.Proofs.YtkkhilgcjaigcaaDoor
open Go.RowKit Go.Shelf

theorem cell_ownA {X : Nat → Prop} {W W' : World} (k : KpX X W W') {b o : Nat} {v : Value} (hb : X b) (h : W.cell? ⟨b, o, none⟩ = some v) : W'.cell? ⟨b, o, none⟩ = some v := by
  obtain ⟨ob, hob⟩ : ∃ ob, W.heap[b]? = some ob := ⟨_, Array.getElem?_eq_getElem (World.block_lt_of_cell? W _ h)⟩
  exact (World.cell?_of_block (w := W) (a := ⟨b, o, none⟩) ((k.own b ob hb hob).trans hob.symm)).trans h
theorem KpX.of_below {T : Nat → Prop} {W W' : World} {n : Nat} (h : Below n W W') (hT : ∀ k, T k → k < n) : KpX T W W' :=
  ⟨h.size, fun k _ hk ho => (h.block k (hT k hk)).trans ho⟩
/-- What the iterator leans on: its box, its set, the library's table: all of it in T. -/
structure AllT (T : Nat → Prop) (Bn b g c n : Nat) (ws : List Nat) (W : World) : Prop where
  box : W.cell? ⟨Bn, 0, none⟩ = some (.pointer (some ⟨b, 0, none⟩))
  set : IsSet W b g c n ws
  tab : Tab W
  lB : T Bn
  lb : T b
  lg : T g
  l0 : T 0
theorem AllT.kpx {T : Nat → Prop} {Bn b g c n : Nat} {ws : List Nat} {W W' : World} (h : AllT T Bn b g c n ws W) (k : KpX T W W') : AllT T Bn b g c n ws W' := by
  obtain ⟨h1, ⟨s1, ⟨cur, s2, s3⟩, s4, s5, s6⟩, ⟨t1, t2⟩, h4, h5, h6, h7⟩ := h
  exact ⟨cell_ownA k h4 h1, ⟨k.own _ _ h5 s1, ⟨cur, k.own _ _ h6 s2, s3⟩, s4, s5, s6⟩, ⟨Nat.lt_of_lt_of_le t1 k.size, fun j hj => cell_ownA k h7 (t2 j hj)⟩, h4, h5, h6, h7⟩
/-- The four blocks that it leans on. -/
def allB (Bn b g k : Nat) : Prop := k = Bn ∨ k = b ∨ k = g ∨ k = 0
theorem AllAt.allT {n₀ Bn b g c n : Nat} {ws : List Nat} {W : World} (h : AllAt n₀ Bn b g c n ws W) : AllT (allB Bn b g) Bn b g c n ws W :=
  ⟨h.box, h.set, h.tab, .inl rfl, .inr (.inl rfl), .inr (.inr (.inl rfl)), .inr (.inr (.inr rfl))⟩
theorem AllAt.lt {n₀ Bn b g c n : Nat} {ws : List Nat} {W : World} (h : AllAt n₀ Bn b g c n ws W) : ∀ k, allB Bn b g k → k < n₀ := by
  rintro k (rfl | rfl | rfl | rfl)
  · exact h.lB
  · exact h.lb
  · exact h.lg
  · exact h.l0

set_option maxRecDepth 100000 in
set_option maxHeartbeats 1600000 in
theorem all1_at (m : Nat) (hm : 1 ≤ m) (l Bn b g c n : Nat) (T X : Nat → Prop) (ws : List Nat) (hG : Good n ws) (J Jx : (Nat → Prop) → List Nat → World → Prop)
    (hJ : Abide J)
    (hY : ∀ pre x W, J X pre W → (x < n ∧ mem ws x = true) → (∀ k, X k → k < W.heap.size) → pre.length < (elemsW n ws 0).length → YieldAt Fence.wide (m - 1) Tryd.prog l #[.int .i64 (x : Nat)] W fun e W' =>
      (e = .returned (.bool true) ∧ J X (pre ++ [x]) W' ∧ KpX (orT T X) W W') ∨ (e = .returned (.bool false) ∧ Jx X (pre ++ [x]) W' ∧ KpX (orT T X) W W'))
    (W : World) (hA : AllT T Bn b g c n ws W) (hX : ∀ k, X k → k < W.heap.size) (h0 : J X [] W) :
    CallsIn Fence.wide m Tryd.prog 54 #[.func (.yield l) #[] #[], .pointer (some ⟨Bn, 0, none⟩)] W fun e W' => (∃ v, e = .returned v) ∧
      ((∃ ys X', ys = elemsW n ws 0 ∧ J X' ys W') ∨ (∃ pre X', pre <+: elemsW n ws 0 ∧ Jx X' pre W')) := by
  have hbox := hA.box
  refine callsIn_of_wp Tryd.func54 rfl trivial ?_ rfl
  simp only [Tryd.ntmps54, List.size_toArray, List.length_cons, List.length_nil, Nat.reduceAdd, Nat.reduceSub, Array.replicate_succ, Array.replicate_zero, List.push_toArray, List.append_toArray, List.nil_append, List.cons_append]
  have HA : Hid (AllT T Bn b g c n ws W) := hA
  have HY : Hid _ := hY
  have HG : Hid (Good n ws) := hG
  have HJ : Hid (∀ pre W q, J X pre W → J X pre (W.drewN q)) := fun pre W q h => hJ.kept h ((Kept.refl [] W).drewN q)
  have HXS : Hid (∀ k, X k → k < W.heap.size) := hX
  clear hA hY hG hJ hX
  gi_wp2_with (refine ⟨trivial, ?_⟩; gi_at_call 55; refine (callsIn_wide.2 (first_any b g c n ws _ HA.out.set HG.out HA.out.tab)).mono ?_; rintro e w1 ⟨r, rfl, hl, q, rfl⟩)
  have h1 := HJ.out [] W q h0
  have hb1 : KpX T W (W.drewN q) := KpX.of_kept ((Kept.refl [] W).drewN q)
  gi_loopw [3] (fun i wr => ∃ (r : Int) (s : Nat) (pre : List Nat), i = .int .i64 r ∧ LeastK ws s r ∧ elemsW n ws 0 = pre ++ elemsW n ws s ∧ J X pre wr ∧ KpX T W wr) (fun i _ => leftAll n i)
  case atStart => exact ⟨r, 0, [], rfl, hl, rfl, h1, hb1⟩
  case round =>
    obtain ⟨r, s, pre, rfl, hle, hx, hJs, hbr⟩ := hrel
    rcases hle with ⟨rfl, hno⟩ | ⟨j, rfl, hsj, hmj, hbel⟩
    · have he := elems_none (n := n) hno
      rw [he, List.append_nil] at hx
      gi_wp2
      go_end0
      exact ⟨⟨_, rfl⟩, .inl ⟨pre, X, hx.symm, hJs⟩⟩
    · obtain ⟨hc, hjn⟩ := elems_cons HG.out hsj hmj hbel
      have hx2 : elemsW n ws 0 = (pre ++ [j]) ++ elemsW n ws (j + 1) := by rw [hx, hc]; simp
      obtain ⟨fn, tmps, assign, body, hy, hR⟩ := HY.out pre j wr hJs ⟨hjn, hmj⟩ (fun k hk => Nat.lt_of_lt_of_le (HXS.out k hk) hbr.size) (by rw [hx2]; simp)
      have HX2 : Hid _ := hx2
      have hjp : (0 : Int) ≤ (j : Int) := by omega
      clear hx hx2 hc hbel hmj hsj hl h1 hb1 h0
      gi_wp2
      refine hR.mono ?_
      rintro e W3 (⟨rfl, hJ3, hk3⟩ | ⟨rfl, hJx3, _⟩)
      · have hk3' : KpX T wr W3 := hk3.mono (fun _ h => .inr h)
        have hA3 := HA.out.kpx (hbr.trans hk3')
        have HA3 : Hid (AllT T Bn b g c n ws W3) := hA3
        have hbox3 := hA3.box
        clear hA3 hk3
        gi_wp2_with (refine ⟨trivial, ?_⟩; gi_at_call 56; refine (callsIn_wide.2 (after_any b g c n ws j _ HA3.out.set HG.out HA3.out.tab)).mono ?_; rintro e w4 ⟨r4, rfl, hl4, q4, rfl⟩)
        have ea : afterAt (j : Int) = j + 1 := by unfold afterAt; rw [if_neg (by omega)]; omega
        rw [ea] at hl4
        clear ea
        go_roundw
        case rel => exact ⟨r4, j + 1, pre ++ [j], rfl, hl4, HX2.out, HJ.out _ _ q4 hJ3, hbr.trans (hk3'.trans (KpX.of_kept ((Kept.refl [] W3).drewN q4)))⟩
        case measure =>
          have hq : r4 = -1 ∨ ∃ i : Nat, r4 = (i : Int) ∧ j + 1 ≤ i := by
            rcases hl4 with ⟨h, _⟩ | ⟨i, h, h2, _⟩
            · exact Or.inl h
            · exact Or.inr ⟨i, h, h2⟩
          rcases hq with rfl | ⟨i, rfl, hi⟩
          · rw [leftAll_none, leftAll_nat]; omega
          · rw [leftAll_nat, leftAll_nat]; omega
      · gi_wp2
        refine bodyPost_ret (results_none rfl _ _ _) rfl ?_
        exact ⟨⟨_, rfl⟩, .inr ⟨pre ++ [j], X, ⟨_, HX2.out.symm⟩, hJx3⟩⟩

/-- The function value that All hands back goes through the members, rising. -/
theorem all_goes (m : Nat) (hm : 1 ≤ m) (T : Nat → Prop) (Bn b g c n : Nat) (ws : List Nat) (hG : Good n ws) (w : World) (hT : ∀ k, T k → k < w.heap.size) (hA : AllT T Bn b g c n ws w) :
    GoesAt Fence.wide m Tryd.prog 54 #[.pointer (some ⟨Bn, 0, none⟩)] (fun x : Nat => #[Value.int .i64 (x : Nat)]) (fun x _ => x < n ∧ mem ws x = true) T (fun _ => False) (fun ys => ys = elemsW n ws 0) (fun pre => pre <+: elemsW n ws 0) (elemsW n ws 0).length w :=
  fun l J Jx X W hW hJ _ hY h0 _ hX =>
    all1_at m hm l Bn b g c n T X ws hG J Jx hJ (fun pre x W1 h1 h2 h3 h4 => hY X pre x W1 h1 h2 h3 h4) W (hA.kpx (KpX.of_below hW hT)) hX h0
theorem memAt_kept (n : Nat) (ws : List Nat) : AtKept (fun (x : Nat) (_ : World) => x < n ∧ mem ws x = true) := ⟨fun _ h => h, fun _ _ h => h⟩
end Go.Proofs.YtkkhilgcjaigcaaDoor
