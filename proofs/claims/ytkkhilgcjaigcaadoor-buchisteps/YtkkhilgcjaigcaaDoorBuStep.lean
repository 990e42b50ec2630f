/- package buchi: step over one state with one edge. -/
import Derived.Test.YtkkhilgcjaigcaaDoorBuCheck
import Derived.Test.YtkkhilgcjaigcaaDoorAllG
import Derived.Test.YtkkhilgcjaigcaaDoorOfK
namespace Go.Proofs.YtkkhilgcjaigcaaDoor
open Go.RowKit Go.Shelf
attribute [local go_sem] Oper.semAt_some

theorem good0 : Good 1 [0] := ⟨by omega, rfl, by simp, fun i _ => by
  unfold mem
  rcases Nat.eq_zero_or_pos (i / 64) with h | h
  · rw [h]; simp
  · obtain ⟨k, hk⟩ : ∃ k, i / 64 = k + 1 := ⟨i / 64 - 1, by omega⟩
    rw [hk]; simp⟩
theorem good1 : Good 1 [1] := ⟨by omega, rfl, by simp, fun i hi => by
  unfold mem
  rcases Nat.eq_zero_or_pos (i / 64) with h | h
  · rw [h]
    show Nat.testBit 1 (i % 64) = false
    obtain ⟨k, hk⟩ : ∃ k, i % 64 = k + 1 := ⟨i % 64 - 1, by omega⟩
    rw [hk]
    simp [Nat.testBit_succ]
  · obtain ⟨k, hk⟩ : ∃ k, i / 64 = k + 1 := ⟨i / 64 - 1, by omega⟩
    rw [hk]
    simp⟩
theorem elems1 : elemsW 1 [1] 0 = [0] := by rfl
theorem mem1 {x : Nat} (h : x < 1 ∧ mem [1] x = true) : x = 0 := by omega
theorem width_any (b g c n : Nat) (ws : List Nat) (w : World) (hs : IsSet w b g c n ws) : Calls Tryd.prog 15 #[.pointer (some ⟨b, 0, none⟩)] w fun e w' => e = .returned (.int .i64 n) ∧ w' = w := by
  have c0 := hs.c0
  go_enter Tryd.func15, Tryd.ntmps15
  go_wp2_with fail
  go_ret
  exact ⟨rfl, rfl⟩
/-- The set that is made, and the boxes of step. -/
structure StG (w W : World) (Br Bl Bt tb tg tc RB rc : Nat) (ws : List Nat) (X : Nat → Prop) : Prop where
  kept : Kept [] w W
  set : IsSet W tb tg tc 1 ws
  br : Boxed W Br 61 (.slice (some ⟨RB, 0, none⟩) 1 rc)
  bl : Boxed W Bl 27 (.int .u16 1)
  bt : Boxed W Bt 37 (.pointer (some ⟨tb, 0, none⟩))
  x1 : ¬ X Br
  x2 : ¬ X Bl
  x3 : ¬ X Bt
  x4 : ¬ X tb
  x5 : ¬ X tg
  lo : ∀ k, X k → w.heap.size ≤ k
theorem StG.more {w W : World} {Br Bl Bt tb tg tc RB rc : Nat} {ws : List Nat} {X X' : Nat → Prop} (h : StG w W Br Bl Bt tb tg tc RB rc ws X) (hX : ∀ k, X' k → X k ∨ W.heap.size ≤ k) : StG w W Br Bl Bt tb tg tc RB rc ws X' := by
  have l1 := h.br.lt
  have l2 := h.bl.lt
  have l3 := h.bt.lt
  have l4 := h.set.ltb
  have l5 := h.set.ltg
  exact ⟨h.kept, h.set, h.br, h.bl, h.bt, fun q => (hX _ q).elim h.x1 (by omega), fun q => (hX _ q).elim h.x2 (by omega), fun q => (hX _ q).elim h.x3 (by omega), fun q => (hX _ q).elim h.x4 (by omega), fun q => (hX _ q).elim h.x5 (by omega), fun k q => (hX k q).elim (h.lo k) (fun p => Nat.le_trans h.kept.size p)⟩
theorem StG.turn {w W W' : World} {Br Bl Bt tb tg tc RB rc : Nat} {ws : List Nat} {X : Nat → Prop} {row : Option Nat} (h : StG w W Br Bl Bt tb tg tc RB rc ws X) (hg : W.grownBy W' row) (hr : ∀ r, row = some r → X r) : StG w W' Br Bl Bt tb tg tc RB rc ws X := by
  have hne : ∀ k, ¬ X k → row ≠ some k := fun k hk e => hk (hr k e)
  obtain ⟨s1, ⟨cur, s2, s3⟩, s4, s5, s6⟩ := h.set
  exact ⟨h.kept.grown hg (fun k e => .inr (h.lo k (hr k e))), ⟨(hg.block _ (lt_of s1) (fun e => hne _ h.x4 e.symm)).trans s1, ⟨cur, (hg.block _ (lt_of s2) (fun e => hne _ h.x5 e.symm)).trans s2, s3⟩, s4, s5, s6⟩, h.br.kept hg (fun e => hne _ h.x1 e.symm), h.bl.kept hg (fun e => hne _ h.x2 e.symm), h.bt.kept hg (fun e => hne _ h.x3 e.symm), h.x1, h.x2, h.x3, h.x4, h.x5, h.lo⟩
def StI (w : World) (Br Bl Bt tb tg tc RB rc : Nat) (X : Nat → Prop) (pre : List Nat) (W : World) : Prop :=
  (pre = [] ∧ StG w W Br Bl Bt tb tg tc RB rc [0] X) ∨ (pre = [0] ∧ StG w W Br Bl Bt tb tg tc RB rc [1] X)
theorem stI_abide (w : World) (Br Bl Bt tb tg tc RB rc : Nat) : Abide (StI w Br Bl Bt tb tg tc RB rc) :=
  ⟨fun h hX => h.imp (fun q => ⟨q.1, q.2.more hX⟩) (fun q => ⟨q.1, q.2.more hX⟩), fun h hg hr => h.imp (fun q => ⟨q.1, q.2.turn hg hr⟩) (fun q => ⟨q.1, q.2.turn hg hr⟩)⟩
def StEnds (w : World) (e : Ending) (w' : World) : Prop := ∃ b' g' c', e = .returned (.pointer (some ⟨b', 0, none⟩)) ∧ IsSet w' b' g' c' 1 [1] ∧ Kept [] w w'
set_option maxHeartbeats 4000000 in
set_option maxRecDepth 20000 in
theorem step_one (RB rc EB ec b g c : Nat) (w : World)
    (hr : w.cell? ⟨RB, 0, none⟩ = some (.slice (some ⟨EB, 0, none⟩) 1 ec))
    (he : w.cell? ⟨EB, 0, none⟩ = some (.int .i64 0) ∧ w.cell? ⟨EB, 1, none⟩ = some (.int .i64 0) ∧ w.cell? ⟨EB, 2, none⟩ = some (.int .u16 1) ∧ w.cell? ⟨EB, 3, none⟩ = some (.int .u16 0))
    (hs : IsSet w b g c 1 [1]) (hT : Tab w) :
    Calls Tryd.prog 25 #[.slice (some ⟨RB, 0, none⟩) 1 rc, .pointer (some ⟨b, 0, none⟩), .int .u16 1] w (StEnds w) := by
  have HS : Hid (∀ W, Kept [] w W → IsSet W b g c 1 [1]) := fun W k => hs.kept k (by simp) (by simp)
  have HT : Hid (∀ W, Kept [] w W → Tab W) := fun W k => hT.kept k (by simp)
  have HCL : Hid (∀ W, Kept [] w W → W.cell? ⟨RB, 0, none⟩ = some (.slice (some ⟨EB, 0, none⟩) 1 ec) ∧ W.cell? ⟨EB, 0, none⟩ = some (.int .i64 0) ∧ W.cell? ⟨EB, 1, none⟩ = some (.int .i64 0) ∧ W.cell? ⟨EB, 2, none⟩ = some (.int .u16 1) ∧ W.cell? ⟨EB, 3, none⟩ = some (.int .u16 0)) := fun W k =>
    ⟨cell_kept0 k hr, cell_kept0 k he.1, cell_kept0 k he.2.1, cell_kept0 k he.2.2.1, cell_kept0 k he.2.2.2⟩
  have H0 : Hid (0 < w.heap.size) := hT.1
  obtain ⟨V, hV⟩ : ∃ V, (w.alloc (.cells #[.slice (some ⟨RB, 0, none⟩) 1 rc] 61)).alloc (.cells #[.int .u16 1] 27) = V := ⟨_, rfl⟩
  have HKV : Hid (Kept [] w V) := by show Kept [] w V; rw [← hV]; exact ((Kept.refl [] w).alloc _).alloc _
  have HBR : Hid (Boxed V w.heap.size 61 (.slice (some ⟨RB, 0, none⟩) 1 rc)) := by show Boxed _ _ _ _; rw [← hV]; exact alUp (al0 _ _) _
  have HBL : Hid (Boxed V (w.heap.size + 1) 27 (.int .u16 1)) := by show Boxed _ _ _ _; rw [← hV]; exact al1 _ _ _
  have HV : Hid (_ = V) := hV
  have HZV : Hid (V.heap.size = w.heap.size + 2) := by show _ = _; rw [← hV]; simp
  have HNEW : Hid (Calls Tryd.prog 39 #[.int .i64 1] V (Makes V 1 [0])) := new_in 1 V (by omega)
  clear hs hT hr he hV
  refine (callsIn_wide (n := 9)).1 ?_
  refine callsIn_of_wp_marks Tryd.func25 rfl trivial ?_ rfl
  simp only [Tryd.ntmps25, List.size_toArray, List.length_cons, List.length_nil, Nat.reduceAdd, Nat.reduceSub, Array.replicate_succ, Array.replicate_zero, List.push_toArray, List.append_toArray, List.nil_append, List.cons_append]
  gi_wp2_with (first
    | (refine ⟨trivial, ?_⟩; gi_at_call 15; rw [HV.out]; refine (callsIn_wide.2 (width_any b g c 1 [1] _ (HS.out _ HKV.out))).mono ?_; rintro e V0 ⟨rfl, hv0⟩; rw [hv0]; clear hv0)
    | (refine ⟨trivial, ?_⟩; gi_at_call 39; refine (callsIn_wide.2 HNEW.out).mono ?_; rintro e U ⟨tb, tg, tc, rfl, hst, htb, htg, hkU⟩; have HST : Hid (IsSet U tb tg tc 1 [0]) := hst; have HKU : Hid (Kept [] V U) := hkU; clear hst hkU)
    | (refine ⟨trivial, ?_⟩; gi_at_call 41; refine (callsIn_wide.2 (all_any b g c 1 [1] _ (HS.out _ ((keptB HKV.out HKU.out).alloc _)) good1 (HT.out _ ((keptB HKV.out HKU.out).alloc _)))).mono ?_; rintro e V1 ⟨Bn, b', g', c', rfl, hA, hBn, hb', hg', hk1⟩))
  obtain ⟨P1, hP1⟩ : ∃ P1, U.alloc (.cells #[.pointer (some ⟨tb, 0, none⟩)] 37) = P1 := ⟨_, rfl⟩
  have kP : Kept [] U P1 := by rw [← hP1]; exact (Kept.refl [] U).alloc _
  have bP : Boxed P1 U.heap.size 37 (.pointer (some ⟨tb, 0, none⟩)) := by rw [← hP1]; exact al0 _ _
  have zP : P1.heap.size = U.heap.size + 1 := by rw [← hP1]; simp
  rw [hP1] at hBn hb' hg' hk1
  have kUV : Kept [] U V1 := keptB kP hk1
  have kVV : Kept [] V V1 := keptB HKU.out kUV
  have hG0 : StG w V1 w.heap.size (w.heap.size + 1) U.heap.size tb tg tc RB rc [0] (fun _ => False) :=
    ⟨keptB HKV.out kVV, HST.out.kept kUV (by simp) (by simp), kVV.at HBR.out (by simp), kVV.at HBL.out (by simp), hk1.at bP (by simp), id, id, id, id, id, fun _ h => h.elim⟩
  have HLB : Hid (w.heap.size + 2 ≤ U.heap.size ∧ U.heap.size < Bn ∧ U.heap.size < b' ∧ U.heap.size < g' ∧ tb < U.heap.size ∧ tg < U.heap.size ∧ w.heap.size + 2 ≤ tb ∧ w.heap.size + 2 ≤ tg) := by
    have z1 := HZV.out
    have z2 := HKU.out.size
    have z3 := HST.out.ltb
    have z4 := HST.out.ltg
    exact ⟨by omega, by omega, by omega, by omega, by omega, by omega, by omega, by omega⟩
  clear hP1 kP bP zP kUV kVV hBn hb' hg' hk1 htb htg
  refine rangeAt1 rfl (by omega) (gf := 54) (lb := #[.pointer (some ⟨Bn, 0, none⟩)]) rfl trivial (enters_of Tryd.func54 (by kernel_rfl) rfl)
    (all_goes (9 - 1) (by omega) (allB Bn b' g') Bn b' g' c' 1 [1] good1 V1 hA.lt hA.allT) (memAt_kept 1 [1]) hA.lt (fun k h => h.elim) (fun _ => rfl)
    (StI w w.heap.size (w.heap.size + 1) U.heap.size tb tg tc RB rc) (fun _ _ _ _ => False) (stI_abide _ _ _ _ _ _ _ _ _) (fun _ => ⟨fun h _ => h, fun h _ _ => h⟩) (.inl ⟨rfl, hG0⟩) ?a1 ?assign ?body ?done ?stop
  case assign =>
    intro l x W K hK
    gi_wp2
    exact hK
  case body =>
    rintro l X pre x W _ _ hXb hI hat hlt
    obtain rfl := mem1 hat
    rw [elems1] at hlt
    rcases hI with ⟨rfl, hG⟩ | ⟨rfl, _⟩
    rotate_left
    · simp at hlt
    have cr := hG.br.cell
    have cl := hG.bl.cell
    have ct := hG.bt.cell
    obtain ⟨r0, e0, e1, e2, e3⟩ := HCL.out W hG.kept
    have HG : Hid (StG w W w.heap.size (w.heap.size + 1) U.heap.size tb tg tc RB rc [0] X) := hG
    obtain ⟨W1, hW1⟩ : ∃ W1, W.alloc (.cells #[.int .i64 0, .int .i64 0, .int .u16 1, .int .u16 0] 52) = W1 := ⟨_, rfl⟩
    have k1 : Kept [] W W1 := by rw [← hW1]; exact (Kept.refl [] W).alloc _
    have b1 : W1.heap[W.heap.size]? = some (.cells #[.int .i64 0, .int .i64 0, .int .u16 1, .int .u16 0] 52 (0, 0)) := by rw [← hW1]; exact al0 _ _
    have HW1 : Hid (W.alloc (.cells #[.int .i64 0, .int .i64 0, .int .u16 1, .int .u16 0] 52) = W1) := hW1
    have HK1 : Hid (Kept [] W W1) := k1
    have f0 : W1.cell? ⟨W.heap.size, 0, none⟩ = some (.int .i64 0) := (cell_of b1 0).trans rfl
    have f1 : W1.cell? ⟨W.heap.size, 1, none⟩ = some (.int .i64 0) := (cell_of b1 1).trans rfl
    have f2 : W1.cell? ⟨W.heap.size, 2, none⟩ = some (.int .u16 1) := (cell_of b1 2).trans rfl
    have f3 : W1.cell? ⟨W.heap.size, 3, none⟩ = some (.int .u16 0) := (cell_of b1 3).trans rfl
    have cl1 := fun o => cell_kept0 ((Kept.refl [] W).alloc o) cl
    have HCT : Hid (W1.cell? ⟨U.heap.size, 0, none⟩ = some (.pointer (some ⟨tb, 0, none⟩)) ∧ W1.cell? ⟨W.heap.size, 1, none⟩ = some (.int .i64 0)) := ⟨cell_kept0 k1 ct, f1⟩
    have HGO : Hid (Calls Tryd.prog 42 #[.agg #[.int .i64 0, .int .i64 0, .int .u16 1, .int .u16 0], .int .u16 1] W1 fun e' w' => e' = .returned (.bool true) ∧ Kept [] W1 w') := goes_any ⟨0, 0, 1, 0⟩ 1 W1 (by decide) (by decide)
    clear hG hlt hat hG0 k1 b1 hW1
    gi_wp2_with fail
    refine wpIn_loop_rounds 2 ?_
    rw [roundsIn_succ]
    gi_wp2_with (first
      | (refine ⟨trivial, ?_⟩; gi_at_call 42; rw [HW1.out]; refine (CallsIn.inRound l (callsIn_wide.2 HGO.out)).mono ?_; rintro e W2 ⟨rfl, hk2⟩; have HK2 : Hid (Kept [] W1 W2) := hk2; have g1 := cell_kept0 hk2 HCT.out.1; have g2 := cell_kept0 hk2 HCT.out.2; clear hk2)
      | (refine ⟨trivial, ?_⟩; gi_at_call 40; refine (CallsIn.inRound l (callsIn_wide.2 (put_in tb tg tc 1 [0] 0 W2 ((HG.out.set.kept HK1.out (by simp) (by simp)).kept HK2.out (by simp) (by simp)) good0 (by omega)))).mono ?_; rintro e W3 ⟨rfl, hs3, hk3⟩; have HS3 : Hid (IsSet W3 tb tg tc 1 [1]) := hs3; have HK3 : Hid (Kept [tg] W2 W3) := hk3; clear hs3 hk3))
    rw [roundsIn_succ]
    gi_wp2_with fail
    have hq := HLB.out
    have k3 : Kept [tg] W W3 := ((HK1.out.trans HK2.out (by simp) (by simp) : Kept [] W W2).mono (G := [tg]) (by simp)).trans HK3.out (fun _ h => h) (fun _ h => .inl h)
    refine ⟨KpX.of_keptF k3 (fun x hx => ?_), .inr ⟨rfl, HG.out.kept.trans k3 (by simp) (by simp; omega), HS3.out, k3.at HG.out.br (by simp; omega), k3.at HG.out.bl (by simp; omega), k3.at HG.out.bt (by simp; omega), HG.out.x1, HG.out.x2, HG.out.x3, HG.out.x4, HG.out.x5, HG.out.lo⟩⟩
    simp at hx
    subst hx
    rintro (h | h | h | h | h)
    · exact HG.out.x5 h
    · omega
    · omega
    · omega
    · omega
  case done =>
    rintro D X xs W1 hD hXD hS hI hK
    rw [hS, elems1] at hI
    rcases hI with ⟨h, _⟩ | ⟨_, hG⟩
    · cases h
    have ct := hG.bt.cell
    have HG : Hid (StG w W1 w.heap.size (w.heap.size + 1) U.heap.size tb tg tc RB rc [1] X) := hG
    have HKD : Hid (W1.heap[D]? = some (.deferred (some []))) := hK
    clear hG hK hS
    gi_wp2
    have hG' := HG.out.turn (W' := W1.putObj D (.deferred none)) (grownBy_putObj' _ _ _) (fun r e => by cases e; exact hXD)
    exact ⟨by simp, .inl ⟨_, _, rfl, run_takeDeferred HKD.out, ⟨_, results_tmp rfl _ _ _, tb, tg, tc, rfl, hG'.set, hG'.kept⟩⟩⟩
  case stop =>
    rintro D X c pre W _ _ _ h _
    exact h.elim
end Go.Proofs.YtkkhilgcjaigcaaDoor
