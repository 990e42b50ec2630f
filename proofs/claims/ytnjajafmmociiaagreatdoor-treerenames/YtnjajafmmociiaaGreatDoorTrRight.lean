/- tree.Right, tree.RightPast. -/
import Derived.Test.YtnjajafmmociiaaGreatDoorTrWell
namespace Go.Proofs.YtnjajafmmociiaaGreatDoor
open Go.RowKit Go.Shelf
attribute [local go_sem] Oper.semAt_some

/-- What Right tells, ob being what an Op of the other time is. -/
def rightQ (ob : Nat → Bool) (x : Tr) : Bool := formedB x && !ob x.op
def rightN (ob : Nat → Bool) (t : Tr) : Nat := if t.every (rightQ ob) then (if decide (t.size ≤ 1000) && decide (t.depth ≤ 100) then 0 else 31) else 30
def measC (a d : Nat) : Array Value := #[.int .i64 (a : Nat), .int .i64 (d : Nat)]
def fnV (g : Nat) : Value := .func (.func g) #[] #[]

set_option maxHeartbeats 1000000 in
set_option maxRecDepth 20000 in
theorem within_any (g : Nat) (ob : Nat → Bool) (hen : ∀ args w, (callFunc g args).run Tryz.prog w = .ok (.enter g args) w) (hg : ∀ o w, o < 256 → Calls Tryz.prog g #[.int .u8 (o : Nat)] w fun e w' => e = .returned (.bool (ob o)) ∧ w' = w)
    (t : Tr) (kv : Value) (w : World) (hI : IsF w t kv) (hs : t.size ≤ 1099511627776) (hd : t.depth ≤ 1099511627776) (hF : t.Fine) (hT : KidsTab w) :
    Calls Tryz.prog 77 #[.agg #[.int .u8 (t.op : Nat), .string t.name, kv], .func (.func g) #[] #[]] w fun e w' => e = .returned (.int .i64 (rightN ob t : Nat)) ∧ Kept [] w w' := by
  obtain ⟨r, hr⟩ : ∃ r, rightN ob t = r := ⟨_, rfl⟩
  rw [hr]
  obtain ⟨kad, kcap, rfl⟩ := hI.slice
  have HR : Hid _ := hr
  have HF : Hid t.Fine := hF
  have HTab : Hid (KidsTab w) := hT
  have HG : Hid _ := hg
  have HI : Hid (IsF w t (.slice kad t.kids.length kcap)) := hI
  clear hI hF hr hT hg
  refine (callsIn_wide (n := 9)).1 ?_
  refine callsIn_of_wp_marks Tryz.func77 rfl trivial ?_ rfl
  simp only [Tryz.ntmps77, List.size_toArray, List.length_cons, List.length_nil, Nat.reduceAdd, Nat.reduceSub, Array.replicate_succ, Array.replicate_zero, List.push_toArray, List.append_toArray, List.nil_append, List.cons_append]
  gi_wp2_with (refine ⟨trivial, ?_⟩; gi_at_call 73; refine (callsIn_wide.2 (parts_any t _ _)).mono ?_; rintro e V ⟨rfl, rfl⟩)
  obtain ⟨V, hV⟩ : ∃ V, ((((w.alloc (.cells #[.int .u8 (t.op : Nat), .string t.name, .slice kad t.kids.length kcap] 25)).alloc (.cells #[.func (.func g) #[] #[]] 121)).alloc (.cells #[.int .i64 0] 28)).alloc (.cells #[.int .i64 0, .int .i64 0] 126)).alloc (.cells #[.int .u8 (t.op : Nat), .string t.name, .slice kad t.kids.length kcap] 25) = V := ⟨_, rfl⟩
  have kV : Kept [] w V := by rw [← hV]; exact (((((Kept.refl [] w).alloc _).alloc _).alloc _).alloc _).alloc _
  have zV : V.heap.size = w.heap.size + 5 := by rw [← hV]; simp
  have v1 : Boxed V (w.heap.size + 1) 121 (fnV g) := by rw [← hV]; exact alUp (alUp (alUp (al1 _ _ _) _) _) _
  have v2 : Boxed V (w.heap.size + 1 + 1) 28 (.int .i64 0) := by rw [← hV]; exact alUp (alUp (al2 _ _ _ _) _) _
  have v3 : V.heap[w.heap.size + 1 + 1 + 1]? = some (.cells (measC 0 0) 126 (0, 0)) := by rw [← hV]; exact alUp (al3 _ _ _ _ _) _
  have v4 : V.heap[w.heap.size + 1 + 1 + 1 + 1]? = some (.cells #[.int .u8 (t.op : Nat), .string t.name, .slice kad t.kids.length kcap] 25 (0, 0)) := by rw [← hV]; exact al4 _ _ _ _ _ _
  rw [hV]
  clear hV
  refine rangePart rfl (by omega) (gf := 100) (lb := #[.pointer (some ⟨w.heap.size + 1 + 1 + 1 + 1, 0, none⟩)]) rfl trivial (enters_of Tryz.func100 (by kernel_rfl) rfl)
    (parts_goes (9 - 1) (w.heap.size + 1 + 1 + 1 + 1) (fun k => k < w.heap.size) t kad kcap V ⟨v4, IsT.cells (fun _ h => h) (fun _ _ _ _ c => cell_kept0 kV c) HI.out, fun k h => by omega⟩ hs) (partAt_kept _ _) (fun k h => by omega) (fun k h => by omega) (fun _ => rfl)
    (fun X pre W => (∀ y ∈ pre, rightQ ob y.t = true) ∧ Bx1 (w.heap.size + 1) 121 (fnV g) X W ∧ Bx1 (w.heap.size + 1 + 1) 28 (.int .i64 0) X W ∧ Blk (w.heap.size + 1 + 1 + 1) (measC pre.length (dmax 0 (pre.map Part.key))) 126 X W ∧ Bw w.heap.size w X W)
    (fun c X pre W => c = .ret ∧ (∃ (pre' : List Part) (x : Part), pre = pre' ++ [x] ∧ rightQ ob x.t = false) ∧ Bx1 (w.heap.size + 1 + 1) 28 (.int .i64 30) X W ∧ Bw w.heap.size w X W)
    (abide_and (abide_pure _) (abide_and (abide_bx _ _ _) (abide_and (abide_bx _ _ _) (abide_and (abide_blk _ (fun pre : List Part => measC pre.length (dmax 0 (pre.map Part.key))) _) (abide_bw _ _))))) (fun _ => abide_and (abide_pure _) (abide_and (abide_pure _) (abide_and (abide_bx _ _ _) (abide_bw _ _))))
    ⟨by simp, ⟨v1, by omega⟩, ⟨v2, by omega⟩, ⟨v3, by omega⟩, kV.below, kV.size, fun k h => by omega⟩ ?a1 ?assign ?body ?done ?stop
  case assign =>
    intro l x W Bx K hBx hK
    dsimp only [partV]
    dsimp only [partC] at hK
    gi_wp2
    exact hK
  case body =>
    rintro l X pre x Bx W _ _ hXb ⟨q1, ho, hb, hm, hB⟩ hBx hrow hat hN
    dsimp only [partC] at hrow
    have hxl : x.path.length + 1 ≤ t.depth := by
      have := dmax_mem hat.mem 0
      rw [Tr.parts_depth] at this
      simpa [Part.key] using this
    have t0 : W.cell? ⟨Bx, 0, none⟩ = some (.int .u8 (x.t.op : Nat)) := (cell_of hrow 0).trans rfl
    have t1 : W.cell? ⟨Bx, 1, none⟩ = some (.string x.t.name) := (cell_of hrow 1).trans rfl
    have t2 : W.cell? ⟨Bx, 2, none⟩ = some (.slice x.kad x.t.kids.length x.kcap) := (cell_of hrow 2).trans rfl
    have hfx := HF.out.part hat.mem
    have hform := formed_any x.t x.kad x.kcap W (HTab.out.kept (kept_of_below hB.1)) hfx.1 hfx.2
    have hoth := fun w => HG.out x.t.op w hfx.1
    have HBO : Hid (Bx1 (w.heap.size + 1) 121 (fnV g) X W) := ho
    have HB1 : Hid (Bx1 (w.heap.size + 1 + 1) 28 (.int .i64 0) X W) := hb
    have HM : Hid (Blk (w.heap.size + 1 + 1 + 1) (measC pre.length (dmax 0 (pre.map Part.key))) 126 X W) := hm
    have HB2 : Hid (Bw w.heap.size w X W) := hB
    have HQ1 : Hid _ := q1
    have HFO : Hid _ := hform
    have HOT : Hid _ := hoth
    have HROW : Hid _ := hrow
    clear ho hb hm hB q1 hform hoth hfx hat hrow
    by_cases hx : formedB x.t = true
    · rw [hx] at HFO
      have hxq : rightQ ob x.t = !ob x.t.op := by simp [rightQ, hx]
      by_cases hy : ob x.t.op = true
      · rw [hy] at HOT
        gi_wp2_with (first | (refine ⟨trivial, ?_⟩; gi_at_call 84; refine (CallsIn.inRound l (callsIn_wide.2 HFO.out)).mono ?_; rintro e W2 ⟨rfl, hk2⟩; have ho2 : W2.cell? ⟨w.heap.size + 1, 0, none⟩ = some (.func (.func g) #[] #[]) := (HBO.out.kept0 hk2).1.cell; have hc2 := (HB1.out.kept0 hk2).1.cell; have hf2 := (HB1.out.kept0 hk2).1.frozen; have t02 := cell_kept0 hk2 t0; have HK2 : Hid _ := hk2; clear hk2) | (refine ⟨trivial, ?_⟩; gi_at_fn g; refine (CallsIn.inRound l (callsIn_wide.2 (HOT.out _))).mono ?_; rintro e W3 ⟨rfl, rfl⟩))
        exact ⟨(KpX.of_kept HK2.out).trans (KpX.setCell (fun h => h.elim HB1.out.2 (fun (h : w.heap.size + 1 + 1 < w.heap.size) => by omega)) _), rfl, ⟨pre, x, rfl, by rw [hxq, hy]; rfl⟩, (HB1.out.kept0 HK2.out).set _, (HB2.out.kept0 HK2.out).set (by omega) _⟩
      · have hy' : ob x.t.op = false := by simpa using hy
        rw [hy'] at HOT
        clear hy
        gi_wp2_with (first | (refine ⟨trivial, ?_⟩; gi_at_call 84; refine (CallsIn.inRound l (callsIn_wide.2 HFO.out)).mono ?_; rintro e W2 ⟨rfl, hk2⟩; have ho2 : W2.cell? ⟨w.heap.size + 1, 0, none⟩ = some (.func (.func g) #[] #[]) := (HBO.out.kept0 hk2).1.cell; have t02 := cell_kept0 hk2 t0; have HK2 : Hid _ := hk2; clear hk2) | (refine ⟨trivial, ?_⟩; gi_at_fn g; refine (CallsIn.inRound l (callsIn_wide.2 (HOT.out _))).mono ?_; rintro e W3 ⟨rfl, rfl⟩) | (refine ⟨trivial, ?_⟩; gi_at_call 85; refine (CallsIn.inRound l (callsIn_wide.2 (add_any (w.heap.size + 1 + 1 + 1) pre.length (dmax 0 (pre.map Part.key)) 1 (x.path.length + 1) _ (HM.out.kept0 HK2.out).1 (by omega)))).mono ?_; rintro e W4 ⟨⟨v, rfl⟩, hm4, hk4⟩))
        have k4 := (HB2.out.kept0 HK2.out)
        refine ⟨(KpX.of_kept HK2.out).trans (KpX.of_keptF hk4 (fun x hx h => ?_)), ?_, (HBO.out.kept0 HK2.out).keptF hk4 (by simp), (HB1.out.kept0 HK2.out).keptF hk4 (by simp), ⟨?_, HM.out.2⟩, k4.keptF hk4 (by simp; omega)⟩
        · obtain rfl : x = w.heap.size + 1 + 1 + 1 := by simpa using hx
          exact h.elim HM.out.2 (fun (h : w.heap.size + 1 + 1 + 1 < w.heap.size) => by omega)
        · intro y hy
          rcases List.mem_append.1 hy with h | h
          · exact HQ1.out y h
          · rw [List.mem_singleton.1 h, hxq, hy']; rfl
        · rw [List.map_append, dmax_append, List.length_append]
          exact hm4
    · have hx' : formedB x.t = false := by simpa using hx
      rw [hx'] at HFO
      clear hx
      gi_wp2_with (refine ⟨trivial, ?_⟩; gi_at_call 84; refine (CallsIn.inRound l (callsIn_wide.2 HFO.out)).mono ?_; rintro e W2 ⟨rfl, hk2⟩; have hc2 := (HB1.out.kept0 hk2).1.cell; have hf2 := (HB1.out.kept0 hk2).1.frozen; have HK2 : Hid _ := hk2; clear hk2)
      refine ⟨fun _ h => (by cases h), ?_⟩
      gi_wp2
      exact ⟨(KpX.of_kept HK2.out).trans (KpX.setCell (fun h => h.elim HB1.out.2 (fun (h : w.heap.size + 1 + 1 < w.heap.size) => by omega)) _), rfl, ⟨pre, x, rfl, by simp [rightQ, hx']⟩, (HB1.out.kept0 HK2.out).set _, (HB2.out.kept0 HK2.out).set (by omega) _⟩
  case done =>
    rintro D X xs W hD hXD hS ⟨q1, ho, hb, hm, hB⟩ hK
    have hl : xs.length = t.size := by rw [← Tr.parts_length t [], ← hS, List.length_map]
    have hdp : dmax 0 (xs.map Part.key) = t.depth := by rw [hS, Tr.parts_depth]; simp
    have hr0 : (if decide (t.size ≤ 1000) && decide (t.depth ≤ 100) then 0 else 31) = r := by rw [← HR.out]; unfold rightN; rw [every_yes (q := rightQ ob) hS q1]; rfl
    rw [hl, hdp] at hm
    have HM : Hid _ := hm
    have HB1 : Hid (Bx1 (w.heap.size + 1 + 1) 28 (.int .i64 0) X W) := hb
    have HB2 : Hid (Bw w.heap.size w X W) := hB
    have HQ : Hid _ := hK
    have HFI : Hid _ := fits_any (w.heap.size + 1 + 1 + 1) t.size t.depth W hm.1 (by omega) (by omega)
    clear ho hb hm hB hS hK q1 hl hdp
    by_cases hfit : (decide (t.size ≤ 1000) && decide (t.depth ≤ 100)) = true
    · rw [hfit] at HFI hr0
      subst hr0
      gi_wp2_with (refine ⟨trivial, ?_⟩; gi_at_call 86; refine (callsIn_wide.2 HFI.out).mono ?_; rintro e W2 ⟨rfl, hk2⟩; have hc2 := (HB1.out.kept0 hk2).1.cell; have hf2 := (HB1.out.kept0 hk2).1.frozen; have HK2 : Hid _ := hk2; clear hk2)
      have hD' : (W2.setCell ⟨w.heap.size + 1 + 1, 0, none⟩ (.int .i64 0)).heap[D]? = some (.deferred (some [])) := (Below.heap_setCell _ _ _ _ (by show D ≠ w.heap.size + 1 + 1; omega)).trans (HK2.out.at HQ.out (by simp))
      exact leave1 rfl rfl ((HB1.out.kept0 HK2.out).1.set _) (fun _ => by rfl) hD' ⟨rfl, nil_or_eq hD' ((HB2.out.kept0 HK2.out).set (by omega) _).1 (by omega)⟩
    · have hfit' : (decide (t.size ≤ 1000) && decide (t.depth ≤ 100)) = false := by simpa using hfit
      rw [hfit'] at HFI hr0
      subst hr0
      clear hfit
      gi_wp2_with (refine ⟨trivial, ?_⟩; gi_at_call 86; refine (callsIn_wide.2 HFI.out).mono ?_; rintro e W2 ⟨rfl, hk2⟩; have hc2 := (HB1.out.kept0 hk2).1.cell; have hf2 := (HB1.out.kept0 hk2).1.frozen; have HK2 : Hid _ := hk2; clear hk2)
      have hD' : (W2.setCell ⟨w.heap.size + 1 + 1, 0, none⟩ (.int .i64 31)).heap[D]? = some (.deferred (some [])) := (Below.heap_setCell _ _ _ _ (by show D ≠ w.heap.size + 1 + 1; omega)).trans (HK2.out.at HQ.out (by simp))
      exact leave1 rfl rfl ((HB1.out.kept0 HK2.out).1.set _) (fun _ => by rfl) hD' ⟨rfl, nil_or_eq hD' ((HB2.out.kept0 HK2.out).set (by omega) _).1 (by omega)⟩
  case stop =>
    rintro D X c pre W hD _ hS ⟨rfl, ⟨pre', x, rfl, hx⟩, hb, hB⟩ hK
    have hr : 30 = r := by rw [← HR.out]; unfold rightN; rw [every_no hS hx]; rfl
    subst hr
    gi_wp2
    exact leave1 rfl rfl hb.1 (fun _ => by rfl) hK ⟨rfl, nil_or_eq hK hB.1 (by omega)⟩

set_option maxHeartbeats 400000 in
theorem right_any (t : Tr) (kv : Value) (w : World) (hI : IsF w t kv) (hs : t.size ≤ 1099511627776) (hd : t.depth ≤ 1099511627776) (hF : t.Fine) (hT : KidsTab w) :
    Calls Tryz.prog 27 #[.agg #[.int .u8 (t.op : Nat), .string t.name, kv]] w fun e w' => e = .returned (.int .i64 (rightN pastB t : Nat)) ∧ Kept [] w w' := by
  have hw := fun W (k : Kept [] w W) => within_any 78 pastB (enters_of Tryz.func78 (by kernel_rfl) rfl) isPast_any t kv W (hI.kept k) hs hd hF (hT.kept k)
  have HW : Hid _ := hw
  obtain ⟨kad, kcap, rfl⟩ := hI.slice
  clear hw hI hT hF
  go_enter Tryz.func27, Tryz.ntmps27
  go_wp2_with (go_at_call 77; refine (HW.out _ ((Kept.refl [] w).alloc _)).mono ?_; rintro e w' ⟨rfl, hk⟩)
  go_ret
  exact ⟨rfl, ((Kept.refl [] w).alloc _).trans hk (by simp) (by simp)⟩
set_option maxHeartbeats 400000 in
theorem rightPast_any (t : Tr) (kv : Value) (w : World) (hI : IsF w t kv) (hs : t.size ≤ 1099511627776) (hd : t.depth ≤ 1099511627776) (hF : t.Fine) (hT : KidsTab w) :
    Calls Tryz.prog 28 #[.agg #[.int .u8 (t.op : Nat), .string t.name, kv]] w fun e w' => e = .returned (.int .i64 (rightN futureB t : Nat)) ∧ Kept [] w w' := by
  have hw := fun W (k : Kept [] w W) => within_any 79 futureB (enters_of Tryz.func79 (by kernel_rfl) rfl) isFuture_any t kv W (hI.kept k) hs hd hF (hT.kept k)
  have HW : Hid _ := hw
  obtain ⟨kad, kcap, rfl⟩ := hI.slice
  clear hw hI hT hF
  go_enter Tryz.func28, Tryz.ntmps28
  go_wp2_with (go_at_call 77; refine (HW.out _ ((Kept.refl [] w).alloc _)).mono ?_; rintro e w' ⟨rfl, hk⟩)
  go_ret
  exact ⟨rfl, ((Kept.refl [] w).alloc _).trans hk (by simp) (by simp)⟩
end Go.Proofs.YtnjajafmmociiaaGreatDoor
