/- TreeWithin: the walk. -/
import Derived.Test.YtnljjbpbgjgnkaaGreatDoorTrAll
import Derived.Test.YtnljjbpbgjgnkaaGreatDoorTrWithinM
import Derived.Test.YtnljjbpbgjgnkaaGreatDoorTrAwk3
import Derived.Test.YtnljjbpbgjgnkaaGreatDoorTrMuch
import Derived.Deep.CutRange
import Derived.Deep.RegionHeld3
namespace Go.Proofs.YtnljjbpbgjgnkaaGreatDoor
open Go.RowKit Go.Shelf
attribute [local go_sem] Oper.semAt_some

section
variable {F : Fence} {n : Nat} {P : Program}
theorem rangeAl {g : Operand} {ps : Array Tmp} {assign body : Code} {Q : Exit → Act → World → Prop} {a : Act} {w : World}
    (hro : F.round = none) (h1 : 1 ≤ n) {gf : Nat} {lb : Array Value} (hg : a.eval g = .func (.func gf) #[] lb) (hFg : F.fn gf) (eg : ∀ args w, (callFunc gf args).run P w = .ok (.enter gf args) w)
    {encs : Al → Array Value} {At : (Nat → Prop) → Al → World → Prop} {T X₀ : Nat → Prop} {S Sp : List Al → Prop} {N : Nat} (hseq : GoesAtX F (n - 1) P gf lb encs At T X₀ S Sp N w) (hAt : AtKeptX At) (hT : ∀ k, T k → k < w.heap.size) (hX₀ : ∀ k, X₀ k → k < w.heap.size) (hps : ∀ x, (encs x).size = ps.size)
    (I : (Nat → Prop) → List Al → World → Prop) (Ix : Code → (Nat → Prop) → List Al → World → Prop) (hI : Abide I) (hIx : ∀ c, Abide (Ix c)) (h0 : I X₀ [] w) (a₁ : Al → Nat → Act)
    (hassign : ∀ (l : Nat) (x : Al) (W : World) (Bx : Nat) (K : Act → World → Prop), W.heap.size = Bx → K (a₁ x Bx) (W.alloc (.cells (alC x) 25)) →
      assign.wpIn (F.inRound l) (n - 1 - 1) P (Exit.then K (fun _ _ _ => False)) { tmps := (ps.zip (encs x)).foldl (fun t (p, v) => t.setIfInBounds p v) a.tmps, defers := [] } W)
    (hbody : ∀ (l : Nat) (X : Nat → Prop) (pre : List Al) (x : Al) (Bx : Nat) (W : World), (∃ r, W.heap[l]? = some (.loop r)) → X l → (∀ k, X k → k < W.heap.size) → I X pre W → w.heap.size ≤ Bx → W.heap[Bx]? = some (.cells (alC x) 25 (0, 0)) → At X x W → pre.length < N →
      body.wpIn (F.inRound l) (n - 1 - 1) P (bodyOwesT T X I Ix (pre ++ [x]) W) (a₁ x Bx) W)
    (hdone : ∀ (D : Nat) (X : Nat → Prop) (xs : List Al) (W : World), w.heap.size ≤ D → X D → S xs → I X xs W → W.heap[D]? = some (.deferred (some [])) → Q .normal { a with defers := { target := .collected D, args := #[] } :: a.defers } W)
    (hstop : ∀ (D : Nat) (X : Nat → Prop) (c : Code) (pre : List Al) (W : World), w.heap.size ≤ D → X D → Sp pre → Ix c X pre W → W.heap[D]? = some (.deferred (some [])) → c.wpIn F n P Q { a with defers := { target := .collected D, args := #[] } :: a.defers } W) :
    (Code.rangeFunc g ps assign body).wpIn F n P Q a w :=
  rangeAtX hro h1 hg hFg eg hseq hAt hT hX₀ hps I Ix hI hIx h0 (fun x a' W => ∃ Bx, w.heap.size ≤ Bx ∧ W.heap[Bx]? = some (.cells (alC x) 25 (0, 0)) ∧ a' = a₁ x Bx)
    (fun x a' W l o o' hl hc ⟨Bx, q1, q2, q3⟩ => ⟨Bx, q1, (World.putObj_heap_other (fun e => by subst e; rw [q2] at hl; cases hl; cases hc)).trans q2, q3⟩)
    (fun l X pre x W K hi _ hw hK => hassign l x W _ K rfl (hK _ _ ((Kept.refl [] W).alloc _) ⟨W.heap.size, hw, heap_alloc_new W _, rfl⟩))
    (fun l X pre x a' W hr hl hX hi hx hat hN => by obtain ⟨Bx, q1, q2, q3⟩ := hx; subst q3; exact hbody l X pre x Bx W hr hl hX hi q1 q2 hat hN) hdone hstop
end
theorem isF_lone {W : World} {b : Nat} {t : Tr} {kv : Value} (hb : W.heap[b]? = some (.cells #[.int .u8 (t.op : Nat), .string t.name, kv] 25 (0, 0))) (h : IsF W t kv) : IsF W ⟨0, ⟨#[]⟩, [t]⟩ (.slice (some ⟨b, 0, none⟩) 1 1) := by
  refine (isT_eq (X := fun k => k < W.heap.size) ⟨0, ⟨#[]⟩, [t]⟩ _).2 ⟨_, _, rfl, .inr ⟨b, 0, rfl, lt_of hb, fun i hi => ?_⟩⟩
  obtain rfl : i = 0 := by simp at hi; omega
  exact ⟨kv, (cell_of hb 0).trans rfl, (cell_of hb 1).trans rfl, (cell_of hb 2).trans rfl, h⟩
theorem IsT.off8 {X Y : Nat → Prop} {w : World} (hX : ∀ b o (n : Nat), X b → w.cell? ⟨b, o, none⟩ = some (.int .u8 (n : Nat)) → Y b) {t : Tr} : ∀ {kv : Value}, IsT X w t kv → IsT Y w t kv := by
  induction t using Tr.ind with
  | h t ih =>
    intro kv h
    obtain ⟨ad, cap, e, h⟩ := (isT_eq t kv).1 h
    refine (isT_eq t kv).2 ⟨ad, cap, e, ?_⟩
    rcases Nat.eq_zero_or_pos t.kids.length with h0 | h0
    · exact .inl h0
    · rcases h with h | ⟨b, off, e1, e2, hk⟩
      · exact .inl h
      · refine .inr ⟨b, off, e1, ?_, fun i hi => ?_⟩
        · obtain ⟨kv', c1, _⟩ := hk 0 h0
          exact hX b _ _ e2 c1
        · obtain ⟨kv', c1, c2, c3, c4⟩ := hk i hi
          exact ⟨kv', c1, c2, c3, ih _ (List.getElem_mem hi) c4⟩
theorem box_i64 {W : World} {B o : Nat} {t : TypeId} {m n : Nat} (h : Boxed W B t (.int .i64 (m : Nat))) (hc : W.cell? ⟨B, o, none⟩ = some (.int .u8 (n : Nat))) : False := by
  rw [cell_of (show W.heap[B]? = _ from h)] at hc
  cases o with
  | zero => simp at hc
  | succ o => simp at hc
/-- The boxes that a round reads. -/
structure WiS (W : World) (Br Bn Bf Bx m : Nat) (f0 f1 f2 x0 x1 x2 : Value) : Prop where
  r : Boxed W Br 4 (.bool false)
  n : Boxed W Bn 3 (.int .i64 (m : Nat))
  f : For3 W Bf f0 f1 f2
  x : For3 W Bx x0 x1 x2
theorem WiS.kept {W W' : World} {Br Bn Bf Bx m : Nat} {f0 f1 f2 x0 x1 x2 : Value} (h : WiS W Br Bn Bf Bx m f0 f1 f2 x0 x1 x2) (k : Kept [] W W') : WiS W' Br Bn Bf Bx m f0 f1 f2 x0 x1 x2 :=
  ⟨k.at h.r (by simp), k.at h.n (by simp), h.f.kept k, h.x.kept k⟩
theorem WiS.cells {W : World} {Br Bn Bf Bx m : Nat} {f0 f1 f2 x0 x1 x2 : Value} (h : WiS W Br Bn Bf Bx m f0 f1 f2 x0 x1 x2) :
    (W.cell? ⟨Bf, 0, none⟩ = some f0 ∧ W.cell? ⟨Bf, 1, none⟩ = some f1 ∧ W.cell? ⟨Bf, 2, none⟩ = some f2) ∧ (W.cell? ⟨Bx, 0, none⟩ = some x0 ∧ W.cell? ⟨Bx, 1, none⟩ = some x1 ∧ W.cell? ⟨Bx, 2, none⟩ = some x2) ∧ W.cell? ⟨Bn, 0, none⟩ = some (.int .i64 (m : Nat)) :=
  ⟨⟨h.f.cells.1, h.f.cells.2.1, h.f.cells.2.2.1⟩, ⟨h.x.cells.1, h.x.cells.2.1, h.x.cells.2.2.1⟩, h.n.cell⟩
/-- A region that does not panic asks its post of the plain end alone. -/
def normOnly (Q : Exit → Act → World → Prop) : Exit → Act → World → Prop
  | .normal, a, w => Q .normal a w
  | _, _, _ => False
theorem wpIn_norm {F : Fence} {n : Nat} {P : Program} {c : Code} {Q : Exit → Act → World → Prop} {a : Act} {w : World} (h : c.wpIn F n P (normOnly Q) a w) : c.wpIn F n P Q a w := by
  refine wpIn_mono h ?_
  intro e a w h
  cases e with
  | normal => exact h
  | ret => exact h.elim
  | exit id => exact h.elim
  | goto t => exact h.elim
  | panic ch => exact h.elim
  | outgrown => exact h.elim
theorem leaveW0 {n : Nat} {W : World} {B : Nat} {b : Bool} {R : Ending → World → Prop} {tmps : Array Value} (p2 : tmps[2]?.getD undef = .pointer (some ⟨B, 0, none⟩)) (bb : Boxed W B 4 (.bool b)) (hR : R (.returned (.bool b)) W) :
    bodyPostM Fence.wide n Tryz.prog Tryz.f4 R .ret { tmps := tmps, defers := [] } W := by
  have c := bb.cell
  refine ⟨.bool b, ?_, hR⟩
  simp [results, Tryz.f4, go_sem, p2, c]
theorem leaveW1 {n : Nat} {W : World} {B D : Nat} {b : Bool} {R : Ending → World → Prop} {tmps : Array Value} (p2 : tmps[2]?.getD undef = .pointer (some ⟨B, 0, none⟩)) (bb : Boxed W B 4 (.bool b)) (hK : W.heap[D]? = some (.deferred (some []))) (hR : R (.returned (.bool b)) (W.putObj D (.deferred none))) :
    bodyPostM Fence.wide n Tryz.prog Tryz.f4 R .ret { tmps := tmps, defers := [{ target := .collected D, args := #[] }] } W := by
  have bb' : Boxed (W.putObj D (.deferred none)) B 4 (.bool b) := (World.putObj_heap_other (fun e => by subst e; rw [show W.heap[B]? = _ from bb] at hK; cases hK)).trans bb
  have c := bb'.cell
  refine ⟨by simp, .inl ⟨_, _, rfl, run_takeDeferred hK, ⟨.bool b, ?_, hR⟩⟩⟩
  simp [results, Tryz.f4, go_sem, p2, c]
set_option maxHeartbeats 8000000 in
set_option maxRecDepth 20000 in
theorem within_walk (f : Tr) (fad : Option Addr) (fcap : Nat) (w : World) (hF : IsF w f (.slice fad f.kids.length fcap)) (fF : f.Fine) (mF : f.Modest) (hT : KidsTab w) (hN : NumAt w) :
    Calls Tryz.prog 4 #[.agg #[.int .u8 (f.op : Nat), .string f.name, .slice fad f.kids.length fcap]] w fun e w' => e = .returned (.bool true) ∧ Below w.heap.size w w' := by
  obtain ⟨V, hV⟩ : ∃ V, (w.alloc (.cells #[.int .u8 (f.op : Nat), .string f.name, .slice fad f.kids.length fcap] 25)).alloc (.cells #[.bool false] 4) = V := ⟨_, rfl⟩
  have kV : Kept [] w V := by rw [← hV]; exact ((Kept.refl [] w).alloc _).alloc _
  have HB0 : Hid (For3 V w.heap.size (.int .u8 (f.op : Nat)) (.string f.name) (.slice fad f.kids.length fcap)) := by show For3 V _ _ _ _; rw [← hV]; exact alUp (al0 _ _) _
  have HR0 : Hid (Boxed V (w.heap.size + 1) 4 (.bool false)) := by show Boxed _ _ _ _; rw [← hV]; exact al1 _ _ _
  have HIF : Hid (∀ W, Kept [] w W → IsF W f (.slice fad f.kids.length fcap)) := fun W k => hF.kept k
  have HAW : Hid (Calls Tryz.prog 5 #[] V fun e w' => e = .returned (.bool true) ∧ Kept [] V w') := awake_any V (hT.kept kV) (hN.kept kV)
  have HMU : Hid (∀ t ∈ [f], t.Modest) := fun t ht => by obtain rfl := List.mem_singleton.1 ht; exact mF
  have HKV : Hid (Kept [] w V) := kV
  have HV : Hid (_ = V) := hV
  have HFF : Hid (f.Fine) := fF
  have HTK : Hid (∀ W, Kept [] w W → KidsTab W) := fun W k => hT.kept k
  have HNW : Hid (NumAt w) := hN
  clear hV kV hF hT hN fF mF
  refine (callsIn_wide (n := 9)).1 ?_
  refine callsIn_of_wp_marks Tryz.func4 rfl trivial ?_ rfl
  simp only [Tryz.ntmps4, List.size_toArray, List.length_cons, List.length_nil, Nat.reduceSub, Nat.reduceAdd, Array.replicate_succ, Array.replicate_zero, List.push_toArray, List.append_toArray, List.nil_append, List.cons_append]
  refine wpIn_wide.2 ?_
  go_upto_region 5 with (first
    | (go_at_call 5; rw [HV.out]; refine HAW.out.mono ?_; rintro e W1 ⟨rfl, hk⟩; obtain ⟨a0, a1, a2⟩ := box_cells HB0.out hk; have HK : Hid (Kept [] V W1) := hk; clear hk)
    | (go_at_call 6; refine (much_any [f] _ _ (isF_lone (al0 _ _) (HIF.out _ (keptT HKV.out (HK.out.alloc _)))) HMU.out (by simp)).mono ?_; rintro e W2 ⟨n, rfl, hn, hk⟩; have HK2 : Hid (Kept [] V W2) := (HK.out.alloc _).trans hk (by simp) (by simp); have HN : Hid _ := hn; clear hk hn HK a0 a1 a2))
  clear HAW HV HMU
  obtain ⟨r, hr⟩ : ∃ r, rightN pastB f = r := ⟨_, rfl⟩
  obtain ⟨rp, hrp⟩ : ∃ rp, rightN futureB f = rp := ⟨_, rfl⟩
  rcases Nat.lt_or_ge 1048576 n with hb | hb
  · have b1 : Boxed W2 (w.heap.size + 1) 4 (.bool false) := HK2.out.at HR0.out (by simp)
    have c1 := b1.cell
    have f1 := b1.frozen
    have HB1 : Hid (Boxed W2 (w.heap.size + 1) 4 (.bool false)) := b1
    clear b1
    go_wp2_with fail
    exact leaveW0 rfl (Boxed.set _ HB1.out) ⟨rfl, ((keptT HKV.out HK2.out).below).setCell (p := ⟨w.heap.size + 1, 0, none⟩) (Nat.le_succ _) _⟩
  · have hsz := HN.out hb
    have hsf : f.size ≤ 1048576 := Nat.le_trans f.size_wsum (hsz f (by simp))
    have hdf : f.depth ≤ 1048576 := Nat.le_trans f.depth_size hsf
    have HRF0 : Hid (∀ W, Kept [] w W → Calls Tryz.prog 12 #[.agg #[.int .u8 (f.op : Nat), .string f.name, .slice fad f.kids.length fcap]] W fun e w' => e = .returned (.int .i64 (r : Nat)) ∧ Hid (Kept [] W w')) := fun W k => by rw [← hr]; exact right_any f _ W (HIF.out W k) (by omega) (by omega) HFF.out (HTK.out W k)
    have HPF0 : Hid (∀ W, Kept [] w W → Calls Tryz.prog 13 #[.agg #[.int .u8 (f.op : Nat), .string f.name, .slice fad f.kids.length fcap]] W fun e w' => e = .returned (.int .i64 (rp : Nat)) ∧ Hid (Kept [] W w')) := fun W k => by rw [← hrp]; exact rightPast_any f _ W (HIF.out W k) (by omega) (by omega) HFF.out (HTK.out W k)
    have HSF0 : Hid (∀ W, Kept [] w W → Calls Tryz.prog 7 #[.agg #[.int .u8 (f.op : Nat), .string f.name, .slice fad f.kids.length fcap]] W fun e w' => e = .returned (.int .i64 (f.size : Nat)) ∧ Hid (Kept [] W w')) := fun W k => size_any f _ W (HIF.out W k) (by omega)
    have HDF0 : Hid (∀ W, Kept [] w W → Calls Tryz.prog 14 #[.agg #[.int .u8 (f.op : Nat), .string f.name, .slice fad f.kids.length fcap]] W fun e w' => e = .returned (.int .i64 (f.depth : Nat)) ∧ Hid (Kept [] W w')) := fun W k => depth_any f _ W (HIF.out W k) (by omega) (by omega)
    have HRS : Hid (rightN pastB f = r) := hr
    have HPS : Hid (rightN futureB f = rp) := hrp
    have hb0 : ¬ (1048576 < n) := by omega
    clear hsz HN hb hr hrp
    obtain ⟨bb, hbb⟩ : ∃ bb : Bool, (decide (r ≠ 0) && decide (rp ≠ 0)) = bb := ⟨_, rfl⟩
    obtain ⟨a0, a1, a2⟩ := box_cells HB0.out HK2.out
    rw [show decide (1048576 < n) = false from decide_eq_false hb0]
    go_cut [24] from 14 to 24 (fun s24 wx => s24 = .bool bb ∧ Hid (Kept [] V wx))
    case first =>
      by_cases hr0 : r = 0
      · subst hr0
        obtain rfl : false = bb := by rw [← hbb]; rfl
        clear hbb
        go_wp2_with (go_at_call 12; refine (HRF0.out W2 (keptT HKV.out HK2.out)).mono ?_; rintro e W3 ⟨rfl, HK3⟩; clear a0 a1 a2; obtain ⟨a0, a1, a2⟩ := box_cells HB0.out (keptT HK2.out HK3.out))
        go_meet
        exact ⟨rfl, keptT HK2.out HK3.out⟩
      · have z1 : ((r : Int) == 0) = false := by rw [beq_eq_false_iff_ne]; omega
        by_cases hp0 : rp = 0
        · subst hp0
          obtain rfl : false = bb := by rw [← hbb]; simp
          clear hbb
          go_wp2_with (first
            | (go_at_call 12; refine (HRF0.out W2 (keptT HKV.out HK2.out)).mono ?_; rintro e W3 ⟨rfl, HK3⟩; clear a0 a1 a2; obtain ⟨a0, a1, a2⟩ := box_cells HB0.out (keptT HK2.out HK3.out))
            | (go_at_call 13; refine (HPF0.out W3 (keptT HKV.out (keptT HK2.out HK3.out))).mono ?_; rintro e W4 ⟨rfl, HK4⟩))
          go_meet
          exact ⟨rfl, keptT HK2.out (keptT HK3.out HK4.out)⟩
        · have z2 : ((rp : Int) == 0) = false := by rw [beq_eq_false_iff_ne]; omega
          obtain rfl : true = bb := by rw [← hbb]; simp [hr0, hp0]
          have z3 : ((r : Int) != 0) = true := by rw [bne, z1]; rfl
          have z4 : ((rp : Int) != 0) = true := by rw [bne, z2]; rfl
          clear hbb
          go_wp2_with (first
            | (go_at_call 12; refine (HRF0.out W2 (keptT HKV.out HK2.out)).mono ?_; rintro e W3 ⟨rfl, HK3⟩; clear a0 a1 a2; obtain ⟨a0, a1, a2⟩ := box_cells HB0.out (keptT HK2.out HK3.out))
            | (go_at_call 13; refine (HPF0.out W3 (keptT HKV.out (keptT HK2.out HK3.out))).mono ?_; rintro e W4 ⟨rfl, HK4⟩))
          go_meet
          exact ⟨rfl, keptT HK2.out (keptT HK3.out HK4.out)⟩
    case rest =>
      obtain ⟨rfl, HKG⟩ := hcut
      rename World => G
      clear a0 a1 a2
      have bg : Boxed G (w.heap.size + 1) 4 (.bool false) := HKG.out.at HR0.out (by simp)
      have HBG : Hid (Boxed G (w.heap.size + 1) 4 (.bool false)) := bg
      cases bb with
      | true =>
        have c1 := bg.cell
        have f1 := bg.frozen
        clear bg
        go_wp2_with fail
        exact leaveW0 rfl (Boxed.set _ HBG.out) ⟨rfl, ((keptT HKV.out HKG.out).below).setCell (p := ⟨w.heap.size + 1, 0, none⟩) (Nat.le_succ _) _⟩
      | false =>
        clear bg
        have hor : r = 0 ∨ rp = 0 := by
          rcases Nat.eq_zero_or_pos r with h | h
          · exact .inl h
          · rcases Nat.eq_zero_or_pos rp with h2 | h2
            · exact .inr h2
            · exfalso
              have e1 : decide (r ≠ 0) = true := by simp; omega
              have e2 : decide (rp ≠ 0) = true := by simp; omega
              rw [e1, e2] at hbb
              cases hbb
        have hsml : f.size ≤ 1000 ∧ f.depth ≤ 100 := by
          rcases hor with h | h
          · exact right_small (HRS.out.trans h)
          · exact right_small (HPS.out.trans h)
        clear hbb
        go_upto_region 8 with fail
        obtain ⟨U, hU⟩ : ∃ U, G.alloc (.cells #[.int .i64 0] 3) = U := ⟨_, rfl⟩
        have kGU : Kept [] G U := by rw [← hU]; exact (Kept.refl [] G).alloc _
        have bnU : Boxed U G.heap.size 3 (.int .i64 0) := by rw [← hU]; exact al0 _ _
        rw [hU]
        have HKU : Hid (Kept [] V U) := keptT HKG.out kGU
        have HBN : Hid (Boxed U G.heap.size 3 (.int .i64 0)) := bnU
        have HZU : Hid (V.heap.size ≤ G.heap.size ∧ G.heap.size < U.heap.size) := ⟨HKG.out.size, bnU.lt⟩
        obtain ⟨Bn, hBn⟩ : ∃ Bn, G.heap.size = Bn := ⟨_, rfl⟩
        rw [hBn] at HBN HZU ⊢
        clear hU hBn kGU bnU
        obtain ⟨a0, a1, a2⟩ := box_cells HB0.out HKU.out
        have HAL : Hid (Calls Tryz.prog 8 #[.agg #[.int .u8 (f.op : Nat), .string f.name, .slice fad f.kids.length fcap]] U fun e w' => ∃ Bk kad kcap, e = .returned (.func (.func 24) #[] #[.pointer (some ⟨Bk, 0, none⟩)]) ∧ Hid (PartsAt Bk (fun k => U.heap.size ≤ k ∧ k < w'.heap.size) f kad kcap w') ∧ Hid (U.heap.size ≤ Bk) ∧ Hid (Kept [] U w')) := treeAll_any f _ U (HIF.out U (keptT HKV.out HKU.out)) (by omega) HFF.out
        go_wp2_with (go_at_call 8; refine HAL.out.mono ?_; rintro e Y ⟨Bk, kad, kcap, rfl, HPA, HBK, HKY⟩)
        clear a0 a1 a2 HAL
        have HKwY : Hid (Kept [] w Y) := keptT HKV.out (keptT HKU.out HKY.out)
        have hbr : Boxed Y (w.heap.size + 1) 4 (.bool false) := (keptT HKU.out HKY.out).at HR0.out (by simp)
        have hbf : For3 Y w.heap.size (.int .u8 (f.op : Nat)) (.string f.name) (.slice fad f.kids.length fcap) := HB0.out.kept (keptT HKU.out HKY.out)
        have hbn : Boxed Y Bn 3 (.int .i64 0) := HKY.out.at HBN.out (by simp)
        have z1 : w.heap.size + 1 < V.heap.size := HR0.out.lt
        have z2 := HZU.out
        have z3 := HKY.out.size
        have hpw : PowTab w := HNW.out.tab
        have hpl := hpw.lt
        have hpY : PowTab Y := hpw.kept HKwY.out
        have HD0 : Hid (w.heap.size + 1 < Bn ∧ Bn < U.heap.size ∧ U.heap.size ≤ Y.heap.size) := ⟨by omega, by omega, by omega⟩
        refine (wpIn_wide (n := 9)).1 ?_
        refine rangeAl rfl (by omega) (gf := 24) (lb := #[.pointer (some ⟨Bk, 0, none⟩)]) rfl trivial (enters_of Tryz.func24 (by kernel_rfl) rfl)
          (treeAll_goes (9 - 1) Bk _ f kad kcap Y HPA.out (by omega) (by omega) HFF.out hpY) (alAt_kept f) (fun k h => by rcases h with h | h <;> omega) (fun k h => h.elim) (fun _ => rfl)
          (fun X pre W => Bx1 (w.heap.size + 1) 4 (.bool false) X W ∧ Bx1 Bn 3 (.int .i64 (pre.length : Nat)) X W ∧ Blk w.heap.size #[.int .u8 (f.op : Nat), .string f.name, .slice fad f.kids.length fcap] 25 X W ∧ Bw w.heap.size w X W)
          (fun _ _ _ _ => False)
          (abide_and (abide_bx _ _ _) (abide_and (abide_bx _ _ (fun pre : List Al => .int .i64 (pre.length : Nat))) (abide_and (abide_blk _ _ _) (abide_bw _ _)))) (fun _ => ⟨fun h _ => h, fun h _ _ => h⟩)
          ⟨⟨hbr, fun h => h⟩, ⟨hbn, fun h => h⟩, ⟨hbf, fun h => h⟩, HKwY.out.below, HKwY.out.size, fun _ h => h.elim⟩ ?a1 ?assign ?body ?done ?stop
        case assign =>
          intro l x W Bx K hBx hK
          dsimp only [alV]
          dsimp only [alC] at hK
          gi_wp2
          exact hK
        case body =>
          rintro l X pre x Bx W _ _ hXb ⟨hIr, hIn, hIf, hIb⟩ hBx hrow hat hlen
          dsimp only [alC] at hrow
          clear hbr hbf hbn z1 z2 z3 hpw hpY hpl
          obtain ⟨ps1, ps2, ps3, ps4⟩ := part_sub f [] x.key hat.mem
          obtain ⟨pfine, _⟩ := part_all f [] x.key HFF.out hat.mem
          have ps1' : x.t.size ≤ f.size := ps1
          have ps2' : x.t.depth ≤ f.depth := ps2
          have hkW : Kept [] w W := kept_of_below hIb.1
          obtain ⟨mm, hmm⟩ : ∃ mm : Nat, (pre.length : Int) + 1 = mm := ⟨pre.length + 1, by omega⟩
          have hmb : mm ≤ 1000 := by omega
          obtain ⟨W1, hW1⟩ : ∃ W1, W.setCell ⟨Bn, 0, none⟩ (.int .i64 (mm : Nat)) = W1 := ⟨_, rfl⟩
          have hdz := HD0.out
          have nfn : w.heap.size ≠ Bn := by omega
          have nrn : w.heap.size + 1 ≠ Bn := by omega
          have nxn : Bx ≠ Bn := by omega
          have HSP0 : (⟨(pathB x.path).toArray⟩ : ByteArray) = ⟨(pathB x.path).toArray⟩ := rfl
          have kw1 : Kept [] w W1 := by rw [← hW1]; exact hkW.setCell (p := ⟨Bn, 0, none⟩) (.inr (by show w.heap.size ≤ Bn; omega)) _
          have hiF1 : IsT (fun k => k < W.heap.size) W x.t (.slice x.kad x.t.kids.length x.kcap) := hat.tree.isF
          have hx1 : IsF W1 x.t (.slice x.kad x.t.kids.length x.kcap) := by
            rw [← hW1]
            refine IsT.isF (X := fun k => k ≠ Bn) (IsT.cells (X := fun k => k ≠ Bn) (fun _ h => h) (fun b o v hb hv => (World.cell?_of_block (w := W) (a := ⟨b, o, none⟩) (Below.heap_setCell _ _ _ _ hb)).trans hv) (hat.tree.off8 (fun b o n _ hv e => ?_)))
            subst e
            exact box_i64 hIn.1 hv
          have HRX0 : Hid (∀ W2, Kept [] W1 W2 → Calls Tryz.prog 12 #[.agg #[.int .u8 (x.t.op : Nat), .string x.t.name, .slice x.kad x.t.kids.length x.kcap]] W2 fun e w' => e = .returned (.int .i64 (rightN pastB x.t : Nat)) ∧ Hid (Kept [] W2 w')) := fun W2 k => right_any x.t _ W2 (hx1.kept k) (by omega) (by omega) pfine (HTK.out W2 (keptT kw1 k))
          have HPX0 : Hid (∀ W2, Kept [] W1 W2 → Calls Tryz.prog 13 #[.agg #[.int .u8 (x.t.op : Nat), .string x.t.name, .slice x.kad x.t.kids.length x.kcap]] W2 fun e w' => e = .returned (.int .i64 (rightN futureB x.t : Nat)) ∧ Hid (Kept [] W2 w')) := fun W2 k => rightPast_any x.t _ W2 (hx1.kept k) (by omega) (by omega) pfine (HTK.out W2 (keptT kw1 k))
          have HSX : Hid (∀ W2, Kept [] W1 W2 → Calls Tryz.prog 7 #[.agg #[.int .u8 (x.t.op : Nat), .string x.t.name, .slice x.kad x.t.kids.length x.kcap]] W2 fun e w' => e = .returned (.int .i64 (x.t.size : Nat)) ∧ Hid (Kept [] W2 w')) := fun W2 k => size_any x.t _ W2 (hx1.kept k) (by omega)
          have HDX : Hid (∀ W2, Kept [] W1 W2 → Calls Tryz.prog 14 #[.agg #[.int .u8 (x.t.op : Nat), .string x.t.name, .slice x.kad x.t.kids.length x.kcap]] W2 fun e w' => e = .returned (.int .i64 (x.t.depth : Nat)) ∧ Hid (Kept [] W2 w')) := fun W2 k => depth_any x.t _ W2 (hx1.kept k) (by omega) (by omega)
          have HRF : Hid (∀ W2, Kept [] W1 W2 → Calls Tryz.prog 12 #[.agg #[.int .u8 (f.op : Nat), .string f.name, .slice fad f.kids.length fcap]] W2 fun e w' => e = .returned (.int .i64 (r : Nat)) ∧ Hid (Kept [] W2 w')) := fun W2 k => HRF0.out W2 (keptT kw1 k)
          have HPF : Hid (∀ W2, Kept [] W1 W2 → Calls Tryz.prog 13 #[.agg #[.int .u8 (f.op : Nat), .string f.name, .slice fad f.kids.length fcap]] W2 fun e w' => e = .returned (.int .i64 (rp : Nat)) ∧ Hid (Kept [] W2 w')) := fun W2 k => HPF0.out W2 (keptT kw1 k)
          have HSF : Hid (∀ W2, Kept [] W1 W2 → Calls Tryz.prog 7 #[.agg #[.int .u8 (f.op : Nat), .string f.name, .slice fad f.kids.length fcap]] W2 fun e w' => e = .returned (.int .i64 (f.size : Nat)) ∧ Hid (Kept [] W2 w')) := fun W2 k => HSF0.out W2 (keptT kw1 k)
          have HDF : Hid (∀ W2, Kept [] W1 W2 → Calls Tryz.prog 14 #[.agg #[.int .u8 (f.op : Nat), .string f.name, .slice fad f.kids.length fcap]] W2 fun e w' => e = .returned (.int .i64 (f.depth : Nat)) ∧ Hid (Kept [] W2 w')) := fun W2 k => HDF0.out W2 (keptT kw1 k)
          have HSD : Hid (x.path ≠ [] → x.t.size < f.size ∧ x.t.depth < f.depth) := ps4
          have HR00 : Hid (r = 0 → rightN pastB x.t = 0) := fun e => right_sub hat.mem (HRS.out.trans e)
          have HP00 : Hid (rp = 0 → rightN futureB x.t = 0) := fun e => right_sub hat.mem (HPS.out.trans e)
          have bn1 : Boxed W1 Bn 3 (.int .i64 (mm : Nat)) := by rw [← hW1]; exact Boxed.set _ hIn.1
          have br1 : Boxed W1 (w.heap.size + 1) 4 (.bool false) := by rw [← hW1]; exact (Below.heap_setCell _ _ _ _ nrn).trans hIr.1
          have bf1 : For3 W1 w.heap.size (.int .u8 (f.op : Nat)) (.string f.name) (.slice fad f.kids.length fcap) := by show W1.heap[w.heap.size]? = _; rw [← hW1]; exact (Below.heap_setCell _ _ _ _ nfn).trans hIf.1
          have bx1 : For3 W1 Bx (.int .u8 (x.t.op : Nat)) (.string x.t.name) (.slice x.kad x.t.kids.length x.kcap) := by show W1.heap[Bx]? = _; rw [← hW1]; exact (Below.heap_setCell _ _ _ _ nxn).trans hrow
          have HS1 : Hid (WiS W1 (w.heap.size + 1) Bn w.heap.size Bx mm (.int .u8 (f.op : Nat)) (.string f.name) (.slice fad f.kids.length fcap) (.int .u8 (x.t.op : Nat)) (.string x.t.name) (.slice x.kad x.t.kids.length x.kcap)) := ⟨br1, bn1, bf1, bx1⟩
          have HEND : Hid (∀ We, Kept [] W1 We → KpX (orT (orP fun k => U.heap.size ≤ k ∧ k < Y.heap.size) X) W We ∧ Bx1 (w.heap.size + 1) 4 (.bool false) X We ∧ Bx1 Bn 3 (.int .i64 ((pre ++ [x]).length : Nat)) X We ∧ Blk w.heap.size #[.int .u8 (f.op : Nat), .string f.name, .slice fad f.kids.length fcap] 25 X We ∧ Bw w.heap.size w X We) := fun We ke => by
            refine ⟨?_, ⟨ke.at br1 (by simp), hIr.2⟩, ⟨?_, hIn.2⟩, ⟨ke.at bf1 (by simp), hIf.2⟩, ?_⟩
            · refine KpX.trans ?_ (KpX.of_kept ke)
              rw [← hW1]
              refine KpX.setCell (p := ⟨Bn, 0, none⟩) (fun h => ?_) _
              rcases h with h | h | h
              · exact hIn.2 h
              · simp only at h; omega
              · simp only at h
                have := HNW.out.tab
                have hl := (show PowTab w from this).lt
                omega
            · rw [List.length_append, List.length_singleton, show pre.length + 1 = mm by omega]
              exact ke.at bn1 (by simp)
            · have hb1 : Bw w.heap.size w X W1 := by rw [← hW1]; exact hIb.set (b := Bn) (by omega) _
              exact hb1.kept0 ke
          have HKW1 : Hid (Kept [] W1 W1) := Kept.refl [] W1
          have cn0 := hIn.1.cell
          have fn0 := hIn.1.frozen
          have h1000 : ¬ ((1000 : Int) < (mm : Int)) := by omega
          have h1000d : decide ((1000 : Int) < (mm : Int)) = false := decide_eq_false h1000
          have h1000n : ¬ (1000 < mm) := by omega
          have h1000e : decide (1000 < mm) = false := decide_eq_false h1000n
          clear hIr hIn hIf hIb hrow hat hlen hXb ps1 ps2 ps3 ps4 hkW kw1 hiF1 hx1 bn1 br1 bf1 bx1 HSP0 pfine
          gi_upto_region 12 with fail
          first | rw [hW1] | skip
          clear hW1 cn0 fn0
          obtain ⟨⟨g0, g1, g2⟩, ⟨x0, x1, x2⟩, cn⟩ := HS1.out.cells
          gi_cut [49] from 32 (fun s49 wx => s49 = .bool false ∧ Hid (Kept [] W1 wx))
          case first =>
            by_cases hr0 : r = 0
            · subst hr0
              have HRX : Hid (∀ W2, Kept [] W1 W2 → Calls Tryz.prog 12 #[.agg #[.int .u8 (x.t.op : Nat), .string x.t.name, .slice x.kad x.t.kids.length x.kcap]] W2 fun e w' => e = .returned (.int .i64 0) ∧ Hid (Kept [] W2 w')) := fun W2 k => by have h := HRX0.out W2 k; rw [HR00.out rfl] at h; exact h
              clear HRX0
              by_cases hp0 : rp = 0
              · subst hp0
                have HPX : Hid (∀ W2, Kept [] W1 W2 → Calls Tryz.prog 13 #[.agg #[.int .u8 (x.t.op : Nat), .string x.t.name, .slice x.kad x.t.kids.length x.kcap]] W2 fun e w' => e = .returned (.int .i64 0) ∧ Hid (Kept [] W2 w')) := fun W2 k => by have h := HPX0.out W2 k; rw [HP00.out rfl] at h; exact h
                clear HPX0
                have TWa : Hid True := trivial
                have TWb : Hid True := trivial
                have TWc : Hid True := trivial
                have TWd : Hid True := trivial
                gi_wp2_with (refine ⟨trivial, ?_⟩; first
                  | (clear TWa; gi_at_call 12; refine (CallsIn.inRound l (callsIn_wide.2 (HRF.out W1 HKW1.out))).mono ?_; rintro e Wa ⟨rfl, hkWa⟩; have HKWa : Hid (Kept [] W1 Wa) := keptT HKW1.out hkWa.out; clear hkWa; clear x0 x1 x2 g0 g1 g2 cn; obtain ⟨⟨g0, g1, g2⟩, ⟨x0, x1, x2⟩, cn⟩ := (HS1.out.kept HKWa.out).cells)
                  | (clear TWb; gi_at_call 12; refine (CallsIn.inRound l (callsIn_wide.2 (HRX.out Wa HKWa.out))).mono ?_; rintro e Wb ⟨rfl, hkWb⟩; have HKWb : Hid (Kept [] W1 Wb) := keptT HKWa.out hkWb.out; clear hkWb; clear x0 x1 x2 g0 g1 g2 cn; obtain ⟨⟨g0, g1, g2⟩, ⟨x0, x1, x2⟩, cn⟩ := (HS1.out.kept HKWb.out).cells)
                  | (clear TWc; gi_at_call 13; refine (CallsIn.inRound l (callsIn_wide.2 (HPF.out Wb HKWb.out))).mono ?_; rintro e Wc ⟨rfl, hkWc⟩; have HKWc : Hid (Kept [] W1 Wc) := keptT HKWb.out hkWc.out; clear hkWc; clear x0 x1 x2 g0 g1 g2 cn; obtain ⟨⟨g0, g1, g2⟩, ⟨x0, x1, x2⟩, cn⟩ := (HS1.out.kept HKWc.out).cells)
                  | (clear TWd; gi_at_call 13; refine (CallsIn.inRound l (callsIn_wide.2 (HPX.out Wc HKWc.out))).mono ?_; rintro e Wd ⟨rfl, hkWd⟩; have HKWd : Hid (Kept [] W1 Wd) := keptT HKWc.out hkWd.out; clear hkWd; clear x0 x1 x2 g0 g1 g2 cn; obtain ⟨⟨g0, g1, g2⟩, ⟨x0, x1, x2⟩, cn⟩ := (HS1.out.kept HKWd.out).cells)
                  | skip)
                gi_meet
                exact ⟨rfl, HKWd.out⟩

              · have z2 : ((rp : Int) == 0) = false := by rw [beq_eq_false_iff_ne]; omega
                have TWa : Hid True := trivial
                have TWb : Hid True := trivial
                have TWc : Hid True := trivial
                gi_wp2_with (refine ⟨trivial, ?_⟩; first
                  | (clear TWa; gi_at_call 12; refine (CallsIn.inRound l (callsIn_wide.2 (HRF.out W1 HKW1.out))).mono ?_; rintro e Wa ⟨rfl, hkWa⟩; have HKWa : Hid (Kept [] W1 Wa) := keptT HKW1.out hkWa.out; clear hkWa; clear x0 x1 x2 g0 g1 g2 cn; obtain ⟨⟨g0, g1, g2⟩, ⟨x0, x1, x2⟩, cn⟩ := (HS1.out.kept HKWa.out).cells)
                  | (clear TWb; gi_at_call 12; refine (CallsIn.inRound l (callsIn_wide.2 (HRX.out Wa HKWa.out))).mono ?_; rintro e Wb ⟨rfl, hkWb⟩; have HKWb : Hid (Kept [] W1 Wb) := keptT HKWa.out hkWb.out; clear hkWb; clear x0 x1 x2 g0 g1 g2 cn; obtain ⟨⟨g0, g1, g2⟩, ⟨x0, x1, x2⟩, cn⟩ := (HS1.out.kept HKWb.out).cells)
                  | (clear TWc; gi_at_call 13; refine (CallsIn.inRound l (callsIn_wide.2 (HPF.out Wb HKWb.out))).mono ?_; rintro e Wc ⟨rfl, hkWc⟩; have HKWc : Hid (Kept [] W1 Wc) := keptT HKWb.out hkWc.out; clear hkWc; clear x0 x1 x2 g0 g1 g2 cn; obtain ⟨⟨g0, g1, g2⟩, ⟨x0, x1, x2⟩, cn⟩ := (HS1.out.kept HKWc.out).cells)
                  | skip)
                gi_meet
                exact ⟨rfl, HKWc.out⟩

            · have z1 : ((r : Int) == 0) = false := by rw [beq_eq_false_iff_ne]; omega
              obtain rfl : rp = 0 := hor.resolve_left hr0
              have HPX : Hid (∀ W2, Kept [] W1 W2 → Calls Tryz.prog 13 #[.agg #[.int .u8 (x.t.op : Nat), .string x.t.name, .slice x.kad x.t.kids.length x.kcap]] W2 fun e w' => e = .returned (.int .i64 0) ∧ Hid (Kept [] W2 w')) := fun W2 k => by have h := HPX0.out W2 k; rw [HP00.out rfl] at h; exact h
              clear HPX0
              have TWa : Hid True := trivial
              have TWb : Hid True := trivial
              have TWc : Hid True := trivial
              gi_wp2_with (refine ⟨trivial, ?_⟩; first
                | (clear TWa; gi_at_call 12; refine (CallsIn.inRound l (callsIn_wide.2 (HRF.out W1 HKW1.out))).mono ?_; rintro e Wa ⟨rfl, hkWa⟩; have HKWa : Hid (Kept [] W1 Wa) := keptT HKW1.out hkWa.out; clear hkWa; clear x0 x1 x2 g0 g1 g2 cn; obtain ⟨⟨g0, g1, g2⟩, ⟨x0, x1, x2⟩, cn⟩ := (HS1.out.kept HKWa.out).cells)
                | (clear TWb; gi_at_call 13; refine (CallsIn.inRound l (callsIn_wide.2 (HPF.out Wa HKWa.out))).mono ?_; rintro e Wb ⟨rfl, hkWb⟩; have HKWb : Hid (Kept [] W1 Wb) := keptT HKWa.out hkWb.out; clear hkWb; clear x0 x1 x2 g0 g1 g2 cn; obtain ⟨⟨g0, g1, g2⟩, ⟨x0, x1, x2⟩, cn⟩ := (HS1.out.kept HKWb.out).cells)
                | (clear TWc; gi_at_call 13; refine (CallsIn.inRound l (callsIn_wide.2 (HPX.out Wb HKWb.out))).mono ?_; rintro e Wc ⟨rfl, hkWc⟩; have HKWc : Hid (Kept [] W1 Wc) := keptT HKWb.out hkWc.out; clear hkWc; clear x0 x1 x2 g0 g1 g2 cn; obtain ⟨⟨g0, g1, g2⟩, ⟨x0, x1, x2⟩, cn⟩ := (HS1.out.kept HKWc.out).cells)
                | skip)
              gi_meet
              exact ⟨rfl, HKWc.out⟩

          case rest =>
            obtain ⟨rfl, HKWz⟩ := hcut
            rename World => Wz
            clear x0 x1 x2 g0 g1 g2 cn
            obtain ⟨⟨g0, g1, g2⟩, ⟨x0, x1, x2⟩, cn⟩ := (HS1.out.kept HKWz.out).cells
            gi_wp2_with fail
            obtain ⟨sp, hsp⟩ : ∃ sp : ByteArray, (⟨(pathB x.path).toArray⟩ : ByteArray) = sp := ⟨_, rfl⟩
            have HSP : Hid ((⟨(pathB x.path).toArray⟩ : ByteArray) = sp) := hsp
            rw [hsp]
            clear hsp
            gi_cut [69] from 50 (fun s69 wx => s69 = .bool false ∧ Hid (Kept [] W1 wx))
            case first =>
              by_cases hpe : x.path = []
              · have hne : sp.toList.isEmpty = true := by
                  rw [← HSP.out, ByteArray.toList_eq, hpe]
                  rfl
                clear hpe
                gi_region_with (first | (refine ⟨trivial, ?_⟩) | (rw [if_neg (by simp [undef])]))
                all_goals (gi_wp2_with fail)
                all_goals gi_meet
                all_goals exact ⟨rfl, HKWz.out.drew⟩
              · have hne : sp.toList.isEmpty = false := by
                  rw [← HSP.out, ByteArray.toList_eq]
                  have := pathB_pos (List.length_pos_iff.2 hpe)
                  cases he : pathB x.path with
                  | nil => rw [he] at this; simp at this
                  | cons a b => rfl
                obtain ⟨hs1, hd1⟩ := HSD.out hpe
                have s1 : ¬ ((f.size : Int) ≤ (x.t.size : Int)) := by omega
                have s2 : decide ((f.size : Int) ≤ (x.t.size : Int)) = false := decide_eq_false s1
                have s3 : ¬ (f.size ≤ x.t.size) := by omega
                have s4 : ¬ ((f.depth : Int) ≤ (x.t.depth : Int)) := by omega
                have s5 : decide ((f.depth : Int) ≤ (x.t.depth : Int)) = false := decide_eq_false s4
                have s6 : ¬ (f.depth ≤ x.t.depth) := by omega
                have s7 : decide (f.size ≤ x.t.size) = false := decide_eq_false s3
                have s8 : decide (f.depth ≤ x.t.depth) = false := decide_eq_false s6
                clear hpe
                have TWp : Hid True := trivial
                have TWq : Hid True := trivial
                have TWu : Hid True := trivial
                have TWv : Hid True := trivial
                gi_region_with (first
                  | (clear TWp; refine ⟨trivial, ?_⟩; gi_at_call 7; refine (CallsIn.inRound l (callsIn_wide.2 (HSX.out _ (HKWz.out.drew)))).mono ?_; rintro e Wp ⟨rfl, hkWp⟩; have HKWp : Hid (Kept [] W1 Wp) := keptT (HKWz.out.drew) hkWp.out; clear hkWp; obtain ⟨⟨g00, g10, g20⟩, ⟨x00, x10, x20⟩, cn0⟩ := (HS1.out.kept HKWp.out).cells)
                  | (clear TWq; refine ⟨trivial, ?_⟩; gi_at_call 7; refine (CallsIn.inRound l (callsIn_wide.2 (HSF.out Wp (HKWp.out)))).mono ?_; rintro e Wq ⟨rfl, hkWq⟩; have HKWq : Hid (Kept [] W1 Wq) := keptT (HKWp.out) hkWq.out; clear hkWq; obtain ⟨⟨g01, g11, g21⟩, ⟨x01, x11, x21⟩, cn1⟩ := (HS1.out.kept HKWq.out).cells)
                  | (clear TWu; refine ⟨trivial, ?_⟩; gi_at_call 14; refine (CallsIn.inRound l (callsIn_wide.2 (HDX.out Wq (HKWq.out)))).mono ?_; rintro e Wu ⟨rfl, hkWu⟩; have HKWu : Hid (Kept [] W1 Wu) := keptT (HKWq.out) hkWu.out; clear hkWu; obtain ⟨⟨g02, g12, g22⟩, ⟨x02, x12, x22⟩, cn2⟩ := (HS1.out.kept HKWu.out).cells)
                  | (clear TWv; refine ⟨trivial, ?_⟩; gi_at_call 14; refine (CallsIn.inRound l (callsIn_wide.2 (HDF.out Wu (HKWu.out)))).mono ?_; rintro e Wv ⟨rfl, hkWv⟩; have HKWv : Hid (Kept [] W1 Wv) := keptT (HKWu.out) hkWv.out; clear hkWv; obtain ⟨⟨g03, g13, g23⟩, ⟨x03, x13, x23⟩, cn3⟩ := (HS1.out.kept HKWv.out).cells))
                all_goals (gi_wp2_with fail)
                all_goals gi_meet
                all_goals exact ⟨rfl, HKWv.out⟩
            case rest =>
              obtain ⟨rfl, HKe⟩ := hcut
              rename World => We
              gi_wp2_with fail
              exact HEND.out We HKe.out

        case done =>
          rintro D1 X xs W1 hD hXD hS ⟨hIr, hIn, hIf, hIb⟩ hK
          have hlen : xs.length = f.size := by
            have := congrArg List.length (show xs.map Al.key = f.parts [] from hS)
            rw [List.length_map, Tr.parts_length] at this
            exact this
          rw [hlen] at hIn
          have hkW : Kept [] w W1 := kept_of_below hIb.1
          have HKW : Hid (Kept [] w W1) := hkW
          have HIR : Hid (Boxed W1 (w.heap.size + 1) 4 (.bool false)) := hIr.1
          have HIN : Hid (Boxed W1 Bn 3 (.int .i64 (f.size : Nat))) := hIn.1
          have HIQ : Hid (For3 W1 w.heap.size (.int .u8 (f.op : Nat)) (.string f.name) (.slice fad f.kids.length fcap)) := hIf.1
          have HLOW : Hid (Bw w.heap.size w X W1) := hIb
          have HKD : Hid (W1.heap[D1]? = some (.deferred (some []))) := hK
          have HXD : Hid (X D1) := hXD
          have hbe : (((f.size : Nat) : Int) == ((f.size : Nat) : Int)) = true := by simp
          obtain ⟨g0, g1, g2, _⟩ := HIQ.out.cells
          have cn := HIN.out.cell
          have cr := HIR.out.cell
          have fr := HIR.out.frozen
          clear hIr hIn hIf hIb hK hXD hS hD hlen hkW
          go_wp2_with fail
          refine (wpIn_wide (n := 9)).1 ?_
          refine wpIn_norm ?_
          gi_region_with (refine ⟨trivial, ?_⟩; gi_at_call 7; refine (callsIn_wide.2 (HSF0.out _ (HKW.out.drew))).mono ?_; rintro e W9 ⟨rfl, hk9⟩; have HK9 : Hid (Kept [] W1 W9) := keptT (Kept.refl [] W1).drew hk9.out; clear hk9; have cn9 := cell_kept0 HK9.out HIN.out.cell; have cr9 := cell_kept0 HK9.out HIR.out.cell; have fr9 := (show Boxed W9 (w.heap.size + 1) 4 (.bool false) from HK9.out.at HIR.out (by simp)).frozen)
          all_goals (dsimp only [normOnly]; gi_wp2_with fail; go_wp2_with fail)
          all_goals (
            have hK2 : (W9.setCell ⟨w.heap.size + 1, 0, none⟩ (.bool true)).heap[D1]? = some (.deferred (some [])) := (Below.heap_setCell _ _ _ _ (fun e => by have h1 := HIR.out; have h2 := HKD.out; rw [e] at h2; rw [show W1.heap[w.heap.size + 1]? = _ from h1] at h2; cases h2)).trans (HK9.out.at HKD.out (by simp))
            have hB2 := (HLOW.out.kept0 HK9.out).set (Nat.le_succ w.heap.size) (o := 0) (.bool true)
            exact leaveW1 rfl (Boxed.set _ (show Boxed W9 (w.heap.size + 1) 4 (.bool false) from HK9.out.at HIR.out (by simp))) hK2 ⟨rfl, hB2.1.trans (belowK_b (w := w) (Nat.le_refl _) _ D1 _ _ (hB2.2.2 D1 HXD.out) hK2 rfl rfl)⟩)
        case stop =>
          rintro D1 X c pre W1 hD hXD hS h hK
          exact h.elim
theorem treeWithin_walk (f : Tr) (fv : Value) (w : World) (hF : IsF w f fv) (fF : f.Fine) (mF : f.Modest) (hT : KidsTab w) (hN : NumAt w) :
    Calls Tryz.prog 4 #[.agg #[.int .u8 (f.op : Nat), .string f.name, fv]] w fun e w' => e = .returned (.bool true) ∧ Kept [] w w' := by
  obtain ⟨fad, fcap, rfl⟩ := hF.slice
  refine (within_walk f fad fcap w hF fF mF hT hN).mono ?_
  rintro e w' ⟨rfl, hb⟩
  exact ⟨rfl, kept_of_below hb⟩
end Go.Proofs.YtnljjbpbgjgnkaaGreatDoor
