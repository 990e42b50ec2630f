/- tree.wellFormed. -/
import Derived.Test.YtnjajafmmociiaaGreatDoorTrBox
namespace Go.Proofs.YtnjajafmmociiaaGreatDoor
open Go.RowKit Go.Shelf
attribute [local go_sem] Oper.semAt_some

/-- Is all that stands in a tree so. -/
def Tr.every (q : Tr → Bool) (t : Tr) : Bool := (t.parts []).all fun x => q x.2
theorem every_yes {q : Tr → Bool} {t : Tr} {xs : List Part} (hS : xs.map Part.key = t.parts []) (h : ∀ y ∈ xs, q y.t = true) : t.every q = true := by
  unfold Tr.every
  rw [← hS, List.all_map, List.all_eq_true]
  exact h
theorem every_no {q : Tr → Bool} {t : Tr} {pre : List Part} {x : Part} (hS : (pre ++ [x]).map Part.key <+: t.parts []) (h : q x.t = false) : t.every q = false := by
  unfold Tr.every
  rw [List.all_eq_false]
  exact ⟨x.key, hS.subset (List.mem_map.2 ⟨x, by simp, rfl⟩), by simp [Part.key, h]⟩

set_option maxHeartbeats 1000000 in
set_option maxRecDepth 20000 in
theorem well_any (t : Tr) (kv : Value) (w : World) (hI : IsF w t kv) (hs : t.size ≤ 1099511627776) (hF : t.Fine) (hT : KidsTab w) :
    Calls Tryz.prog 39 #[.agg #[.int .u8 (t.op : Nat), .string t.name, kv]] w fun e w' => e = .returned (.bool (t.every formedB)) ∧ Kept [] w w' := by
  obtain ⟨r, hr⟩ : ∃ r, t.every formedB = r := ⟨_, rfl⟩
  rw [hr]
  obtain ⟨kad, kcap, rfl⟩ := hI.slice
  have HR : Hid _ := hr
  have HF : Hid _ := hF
  have HTab : Hid (KidsTab w) := hT
  have HI : Hid (IsF w t (.slice kad t.kids.length kcap)) := hI
  clear hI hF hr hT
  refine (callsIn_wide (n := 9)).1 ?_
  refine callsIn_of_wp_marks Tryz.func39 rfl trivial ?_ rfl
  simp only [Tryz.ntmps39, List.size_toArray, List.length_cons, List.length_nil, Nat.reduceAdd, Nat.reduceSub, Array.replicate_succ, Array.replicate_zero, List.push_toArray, List.append_toArray, List.nil_append, List.cons_append]
  gi_wp2_with (refine ⟨trivial, ?_⟩; gi_at_call 73; refine (callsIn_wide.2 (parts_any t _ _)).mono ?_; rintro e V ⟨rfl, rfl⟩)
  obtain ⟨V, hV⟩ : ∃ V, ((w.alloc (.cells #[.int .u8 (t.op : Nat), .string t.name, .slice kad t.kids.length kcap] 25)).alloc (.cells #[.bool false] 4)).alloc (.cells #[.int .u8 (t.op : Nat), .string t.name, .slice kad t.kids.length kcap] 25) = V := ⟨_, rfl⟩
  have kV : Kept [] w V := by rw [← hV]; exact (((Kept.refl [] w).alloc _).alloc _).alloc _
  have zV : V.heap.size = w.heap.size + 3 := by rw [← hV]; simp
  have v1 : Boxed V (w.heap.size + 1) 4 (.bool false) := by
    rw [← hV]; refine Boxed.alloc ?_ _
    have := Boxed.new (w.alloc (.cells #[.int .u8 (t.op : Nat), .string t.name, .slice kad t.kids.length kcap] 25)) 4 (.bool false)
    rwa [World.size_alloc] at this
  have v2 : V.heap[w.heap.size + 1 + 1]? = some (.cells #[.int .u8 (t.op : Nat), .string t.name, .slice kad t.kids.length kcap] 25 (0, 0)) := by
    rw [← hV]
    have := heap_alloc_new ((w.alloc (.cells #[.int .u8 (t.op : Nat), .string t.name, .slice kad t.kids.length kcap] 25)).alloc (.cells #[.bool false] 4)) (.cells #[.int .u8 (t.op : Nat), .string t.name, .slice kad t.kids.length kcap] 25)
    rwa [World.size_alloc, World.size_alloc] at this
  rw [hV]
  clear hV
  refine rangePart rfl (by omega) (gf := 100) (lb := #[.pointer (some ⟨w.heap.size + 1 + 1, 0, none⟩)]) rfl trivial (enters_of Tryz.func100 (by kernel_rfl) rfl)
    (parts_goes (9 - 1) (w.heap.size + 1 + 1) (fun k => k < w.heap.size) t kad kcap V ⟨v2, IsT.cells (fun _ h => h) (fun _ _ _ _ c => cell_kept0 kV c) HI.out, fun k h => by omega⟩ hs) (partAt_kept _ _) (fun k h => by omega) (fun k h => by omega) (fun _ => rfl)
    (fun X pre W => (∀ y ∈ pre, formedB y.t = true) ∧ Bx1 (w.heap.size + 1) 4 (.bool false) X W ∧ Bw w.heap.size w X W)
    (fun c X pre W => c = .ret ∧ (∃ (pre' : List Part) (x : Part), pre = pre' ++ [x] ∧ formedB x.t = false) ∧ Bx1 (w.heap.size + 1) 4 (.bool false) X W ∧ Bw w.heap.size w X W)
    (abide_and (abide_pure _) (abide_and (abide_bx _ _ _) (abide_bw _ _))) (fun _ => abide_and (abide_pure _) (abide_and (abide_pure _) (abide_and (abide_bx _ _ _) (abide_bw _ _))))
    ⟨by simp, ⟨v1, by omega⟩, kV.below, kV.size, fun k h => by omega⟩ ?a1 ?assign ?body ?done ?stop
  case assign =>
    intro l x W Bx K hBx hK
    dsimp only [partV]
    dsimp only [partC] at hK
    gi_wp2
    exact hK
  case body =>
    rintro l X pre x Bx W _ _ hXb ⟨q1, hb, hB⟩ hBx hrow hat hN
    dsimp only [partC] at hrow
    have t0 : W.cell? ⟨Bx, 0, none⟩ = some (.int .u8 (x.t.op : Nat)) := (cell_of hrow 0).trans rfl
    have t1 : W.cell? ⟨Bx, 1, none⟩ = some (.string x.t.name) := (cell_of hrow 1).trans rfl
    have t2 : W.cell? ⟨Bx, 2, none⟩ = some (.slice x.kad x.t.kids.length x.kcap) := (cell_of hrow 2).trans rfl
    have hfx := HF.out.part hat.mem
    have hform := formed_any x.t x.kad x.kcap W (HTab.out.kept (kept_of_below hB.1)) hfx.1 hfx.2
    have hc := hb.1.cell
    have hf := hb.1.frozen
    have HB1 : Hid (Bx1 (w.heap.size + 1) 4 (.bool false) X W) := hb
    have HB2 : Hid (Bw w.heap.size w X W) := hB
    have HQ1 : Hid _ := q1
    have HFO : Hid _ := hform
    clear hb hB q1 hform hfx hat hrow
    by_cases hx : formedB x.t = true
    · rw [hx] at HFO
      gi_wp2_with (refine ⟨trivial, ?_⟩; gi_at_call 84; refine (CallsIn.inRound l (callsIn_wide.2 HFO.out)).mono ?_; rintro e W2 ⟨rfl, hk2⟩)
      refine ⟨KpX.of_kept hk2, ?_, HB1.out.kept0 hk2, HB2.out.kept0 hk2⟩
      intro y hy
      rcases List.mem_append.1 hy with h | h
      · exact HQ1.out y h
      · rw [List.mem_singleton.1 h]; exact hx
    · have hx' : formedB x.t = false := by simpa using hx
      rw [hx'] at HFO
      clear hx
      gi_wp2_with (refine ⟨trivial, ?_⟩; gi_at_call 84; refine (CallsIn.inRound l (callsIn_wide.2 HFO.out)).mono ?_; rintro e W2 ⟨rfl, hk2⟩; have hc2 := (HB1.out.kept0 hk2).1.cell; have hf2 := (HB1.out.kept0 hk2).1.frozen; have HK2 : Hid _ := hk2; clear hk2)
      exact ⟨(KpX.of_kept HK2.out).trans (KpX.setCell (fun h => h.elim HB1.out.2 (fun (h : w.heap.size + 1 < w.heap.size) => by omega)) _), rfl, ⟨pre, x, rfl, hx'⟩, (HB1.out.kept0 HK2.out).set _, (HB2.out.kept0 HK2.out).set (by omega) _⟩
  case done =>
    rintro D X xs W hD hXD hS ⟨q1, hb, hB⟩ hK
    have hr := (every_yes hS q1).symm.trans HR.out
    subst hr
    have hc := hb.1.cell
    have hf := hb.1.frozen
    have HB1 : Hid (Bx1 (w.heap.size + 1) 4 (.bool false) X W) := hb
    have HB2 : Hid (Bw w.heap.size w X W) := hB
    have HQ : Hid _ := hK
    clear hb hB hS hK q1
    gi_wp2
    have hD' : (W.setCell ⟨w.heap.size + 1, 0, none⟩ (.bool true)).heap[D]? = some (.deferred (some [])) := (Below.heap_setCell _ _ _ _ (by show D ≠ w.heap.size + 1; omega)).trans HQ.out
    exact leave1 rfl rfl (HB1.out.1.set _) (fun _ => by rfl) hD' ⟨rfl, nil_or_eq hD' (HB2.out.set (by omega) _).1 (by omega)⟩
  case stop =>
    rintro D X c pre W hD _ hS ⟨rfl, ⟨pre', x, rfl, hx⟩, hb, hB⟩ hK
    have hr := (every_no hS hx).symm.trans HR.out
    subst hr
    gi_wp2
    exact leave1 rfl rfl hb.1 (fun _ => by rfl) hK ⟨rfl, nil_or_eq hK hB.1 (by omega)⟩
end Go.Proofs.YtnjajafmmociiaaGreatDoor
