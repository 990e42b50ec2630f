/- tree.Size, tree.Depth. -/
import Derived.Test.YtnjajafmmociiaaGreatDoorTrParts
namespace Go.Proofs.YtnjajafmmociiaaGreatDoor
open Go.RowKit Go.Shelf
attribute [local go_sem] Oper.semAt_some

/-- A formula that lies in memory. -/
def IsF (w : World) (t : Tr) (kv : Value) : Prop := IsT (fun k => k < w.heap.size) w t kv
theorem IsT.isF {X : Nat → Prop} {w : World} {t : Tr} {kv : Value} (h : IsT X w t kv) : IsF w t kv := by
  unfold IsF
  induction t using Tr.ind generalizing kv with
  | h t ih =>
    obtain ⟨ad, cap, e, h⟩ := (isT_eq t kv).1 h
    refine (isT_eq t kv).2 ⟨ad, cap, e, ?_⟩
    rcases Nat.eq_zero_or_pos t.kids.length with h0 | h0
    · exact .inl h0
    · obtain ⟨b, off, e1, hb, hk⟩ := h.resolve_left (by omega)
      obtain ⟨kv0, c0, _⟩ := hk 0 h0
      refine .inr ⟨b, off, e1, World.block_lt_of_cell? w _ c0, fun i hi => ?_⟩
      obtain ⟨kv', c0, c1, c2, hr⟩ := hk i hi
      exact ⟨kv', c0, c1, c2, ih _ (List.getElem_mem _) hr⟩
theorem IsF.kept {w w' : World} {t : Tr} {kv : Value} (h : IsF w t kv) (k : Kept [] w w') : IsF w' t kv :=
  IsT.cells (fun _ h => Nat.lt_of_lt_of_le h k.size) (fun _ _ _ _ c => cell_kept0 k c) h
theorem IsF.slice {w : World} {t : Tr} {kv : Value} (h : IsF w t kv) : ∃ ad cap, kv = .slice ad t.kids.length cap := IsT.slice h
theorem kept_of_below {w w' : World} (h : Below w.heap.size w w') : Kept [] w w' := ⟨h.os, h.tape, h.output, h.size, fun k hk _ => h.block k hk⟩
theorem nil_or_eq {W : World} {D : Nat} (hK : W.heap[D]? = some (.deferred (some []))) {w : World} (h : Below w.heap.size w W) (hD : w.heap.size ≤ D) : Kept [] w (W.putObj D (.deferred none)) :=
  kept_of_below (h.trans (belowK_b (w := w) (Nat.le_refl _) _ D _ _ hD hK rfl rfl))

set_option maxHeartbeats 1000000 in
set_option maxRecDepth 20000 in
theorem size_any (t : Tr) (kv : Value) (w : World) (hI : IsF w t kv) (hs : t.size ≤ 1099511627776) :
    Calls Tryz.prog 29 #[.agg #[.int .u8 (t.op : Nat), .string t.name, kv]] w fun e w' => e = .returned (.int .i64 (t.size : Nat)) ∧ Kept [] w w' := by
  obtain ⟨kad, kcap, rfl⟩ := hI.slice
  have HI : Hid (IsF w t (.slice kad t.kids.length kcap)) := hI
  clear hI
  refine (callsIn_wide (n := 9)).1 ?_
  refine callsIn_of_wp_marks Tryz.func29 rfl trivial ?_ rfl
  simp only [Tryz.ntmps29, List.size_toArray, List.length_cons, List.length_nil, Nat.reduceAdd, Nat.reduceSub, Array.replicate_succ, Array.replicate_zero, List.push_toArray, List.append_toArray, List.nil_append, List.cons_append]
  gi_wp2_with (refine ⟨trivial, ?_⟩; gi_at_call 73; refine (callsIn_wide.2 (parts_any t _ _)).mono ?_; rintro e V ⟨rfl, rfl⟩)
  obtain ⟨V, hV⟩ : ∃ V, ((w.alloc (.cells #[.int .u8 (t.op : Nat), .string t.name, .slice kad t.kids.length kcap] 25)).alloc (.cells #[.int .i64 0] 3)).alloc (.cells #[.int .u8 (t.op : Nat), .string t.name, .slice kad t.kids.length kcap] 25) = V := ⟨_, rfl⟩
  have kV : Kept [] w V := by rw [← hV]; exact (((Kept.refl [] w).alloc _).alloc _).alloc _
  have zV : V.heap.size = w.heap.size + 3 := by rw [← hV]; simp
  have v1 : Boxed V (w.heap.size + 1) 3 (.int .i64 0) := by
    rw [← hV]; refine Boxed.alloc ?_ _
    have := Boxed.new (w.alloc (.cells #[.int .u8 (t.op : Nat), .string t.name, .slice kad t.kids.length kcap] 25)) 3 (.int .i64 0)
    rwa [World.size_alloc] at this
  have v2 : V.heap[w.heap.size + 1 + 1]? = some (.cells #[.int .u8 (t.op : Nat), .string t.name, .slice kad t.kids.length kcap] 25 (0, 0)) := by
    rw [← hV]
    have := heap_alloc_new ((w.alloc (.cells #[.int .u8 (t.op : Nat), .string t.name, .slice kad t.kids.length kcap] 25)).alloc (.cells #[.int .i64 0] 3)) (.cells #[.int .u8 (t.op : Nat), .string t.name, .slice kad t.kids.length kcap] 25)
    rwa [World.size_alloc, World.size_alloc] at this
  rw [hV]
  clear hV
  refine rangeAt1 rfl (by omega) (gf := 100) (lb := #[.pointer (some ⟨w.heap.size + 1 + 1, 0, none⟩)]) rfl trivial (enters_of Tryz.func100 (by kernel_rfl) rfl)
    (parts_goes (9 - 1) (w.heap.size + 1 + 1) (fun k => k < w.heap.size) t kad kcap V ⟨v2, IsT.cells (fun _ h => h) (fun _ _ _ _ c => cell_kept0 kV c) HI.out, fun k h => by omega⟩ hs) (partAt_kept _ _) (fun k h => by omega) (fun k h => by omega) (fun _ => rfl)
    (fun X pre W => Bx1 (w.heap.size + 1) 3 (.int .i64 (pre.length : Nat)) X W ∧ Bw w.heap.size w X W) (fun _ _ _ _ => False)
    ⟨fun h hX => ⟨h.1.more hX, h.2.more hX⟩, fun h hg hr => ⟨h.1.turn hg hr, h.2.turn hg hr⟩⟩ (fun _ => ⟨fun h _ => h, fun h _ _ => h⟩)
    ⟨⟨v1, by omega⟩, kV.below, kV.size, fun k h => by omega⟩ ?a1 ?assign ?body ?done ?stop
  case assign =>
    intro l x W K hK
    dsimp only [partV]
    gi_wp2
    exact hK
  case body =>
    rintro l X pre x W _ _ hXb ⟨hb, hB⟩ _ hN
    have hc := hb.1.cell
    have hf := hb.1.frozen
    have HB1 : Hid (Bx1 (w.heap.size + 1) 3 (.int .i64 (pre.length : Nat)) X W) := hb
    have HB2 : Hid (Bw w.heap.size w X W) := hB
    have hpl : pre.length ≤ 1099511627776 := by omega
    clear hb hB
    gi_wp2
    refine ⟨KpX.setCell (fun h => h.elim HB1.out.2 (fun (h : w.heap.size + 1 < w.heap.size) => by omega)) _, ⟨?_, HB1.out.2⟩, HB2.out.1.setCell (p := ⟨w.heap.size + 1, 0, none⟩) (by show w.heap.size ≤ w.heap.size + 1; omega) _, by have := HB2.out.2.1; simp [World.setCell]; exact this, HB2.out.2.2⟩
    rw [List.length_append, List.length_singleton]
    exact Boxed.set _ HB1.out.1
  case done =>
    rintro D X xs W hD hXD hS ⟨hb, hB⟩ hK
    have hc := hb.1.cell
    have HB2 : Hid (Bw w.heap.size w X W) := hB
    have hl : xs.length = t.size := by rw [← Tr.parts_length t [], ← hS, List.length_map]
    have HL : Hid _ := hl
    have HQ : Hid _ := hK
    clear hb hB hl hS hK
    gi_wp2
    refine ⟨by simp, .inl ⟨_, _, rfl, run_takeDeferred HQ.out, ?_⟩⟩
    exact ⟨_, results_tmp rfl _ _ _, by rw [← HL.out]; rfl, nil_or_eq HQ.out HB2.out.1 (by omega)⟩
  case stop =>
    rintro D X c pre W _ _ _ h _
    exact h.elim
/-- How deep the places are. -/
def dmax (d : Nat) (l : List (List Nat × Tr)) : Nat := l.foldl (fun d x => max d (x.1.length + 1)) d
theorem dmax_append (d : Nat) (l m : List (List Nat × Tr)) : dmax d (l ++ m) = dmax (dmax d l) m := by simp [dmax]
theorem dmax_le (d : Nat) (l : List (List Nat × Tr)) : d ≤ dmax d l := by
  induction l generalizing d with
  | nil => exact Nat.le_refl _
  | cons x r ih => exact Nat.le_trans (Nat.le_max_left _ _) (ih (max d (x.1.length + 1)))
theorem dmax_mem {l : List (List Nat × Tr)} {x : List Nat × Tr} (h : x ∈ l) (d : Nat) : x.1.length + 1 ≤ dmax d l := by
  induction l generalizing d with
  | nil => cases h
  | cons y r ih =>
    rcases List.mem_cons.1 h with rfl | h
    · exact Nat.le_trans (Nat.le_max_right _ _) (dmax_le (max d (x.1.length + 1)) r)
    · exact ih h _
theorem fold_max (c : Nat) (l : List Nat) : ∀ d e, l.foldl (fun a x => max a (c + x)) (max d (c + e)) = max d (c + l.foldl max e) := by
  induction l with
  | nil => intro d e; rfl
  | cons x r ih => intro d e; rw [List.foldl_cons, List.foldl_cons, ← ih d (max e x)]; congr 1; omega
theorem rows_depth (p : List Nat) (ks : List Tr) (hk : ∀ k ∈ ks, ∀ p d, dmax d (k.parts p) = max d (p.length + k.depth)) : ∀ i d, dmax d (rowsFrom p i (ks.map Tr.parts)) = (ks.map Tr.depth).foldl (fun a x => max a (p.length + 1 + x)) d := by
  induction ks with
  | nil => intro i d; rfl
  | cons k r ih =>
    intro i d
    rw [List.map_cons, rowsFrom, dmax_append, ih (fun k h => hk k (by simp [h])), hk k (by simp), List.map_cons, List.foldl_cons, List.length_append, List.length_singleton]
theorem Tr.parts_depth' (t : Tr) : ∀ p d, dmax d (t.parts p) = max d (p.length + t.depth) := by
  induction t using Tr.ind with
  | h t ih =>
    intro p d
    rw [Tr.parts_eq]
    show dmax (max d (p.length + 1)) (kidsParts p t.kids) = _
    unfold kidsParts
    rw [rows_depth p t.kids (fun k hk p d => ih k hk p d) 0, show max d (p.length + 1) = max d (p.length + 1 + 0) from rfl, fold_max, Tr.depth_eq]
    omega
theorem Tr.parts_depth (t : Tr) (p : List Nat) : dmax 0 (t.parts p) = p.length + t.depth := by rw [Tr.parts_depth']; omega

set_option maxHeartbeats 1000000 in
set_option maxRecDepth 20000 in
theorem depth_any (t : Tr) (kv : Value) (w : World) (hI : IsF w t kv) (hs : t.size ≤ 1099511627776) (hd : t.depth ≤ 1099511627776) :
    Calls Tryz.prog 30 #[.agg #[.int .u8 (t.op : Nat), .string t.name, kv]] w fun e w' => e = .returned (.int .i64 (t.depth : Nat)) ∧ Kept [] w w' := by
  obtain ⟨kad, kcap, rfl⟩ := hI.slice
  have HI : Hid (IsF w t (.slice kad t.kids.length kcap)) := hI
  clear hI
  refine (callsIn_wide (n := 9)).1 ?_
  refine callsIn_of_wp_marks Tryz.func30 rfl trivial ?_ rfl
  simp only [Tryz.ntmps30, List.size_toArray, List.length_cons, List.length_nil, Nat.reduceAdd, Nat.reduceSub, Array.replicate_succ, Array.replicate_zero, List.push_toArray, List.append_toArray, List.nil_append, List.cons_append]
  gi_wp2_with (refine ⟨trivial, ?_⟩; gi_at_call 73; refine (callsIn_wide.2 (parts_any t _ _)).mono ?_; rintro e V ⟨rfl, rfl⟩)
  obtain ⟨V, hV⟩ : ∃ V, ((w.alloc (.cells #[.int .u8 (t.op : Nat), .string t.name, .slice kad t.kids.length kcap] 25)).alloc (.cells #[.int .i64 0] 3)).alloc (.cells #[.int .u8 (t.op : Nat), .string t.name, .slice kad t.kids.length kcap] 25) = V := ⟨_, rfl⟩
  have kV : Kept [] w V := by rw [← hV]; exact (((Kept.refl [] w).alloc _).alloc _).alloc _
  have zV : V.heap.size = w.heap.size + 3 := by rw [← hV]; simp
  have v1 : Boxed V (w.heap.size + 1) 3 (.int .i64 0) := by
    rw [← hV]; refine Boxed.alloc ?_ _
    have := Boxed.new (w.alloc (.cells #[.int .u8 (t.op : Nat), .string t.name, .slice kad t.kids.length kcap] 25)) 3 (.int .i64 0)
    rwa [World.size_alloc] at this
  have v2 : V.heap[w.heap.size + 1 + 1]? = some (.cells #[.int .u8 (t.op : Nat), .string t.name, .slice kad t.kids.length kcap] 25 (0, 0)) := by
    rw [← hV]
    have := heap_alloc_new ((w.alloc (.cells #[.int .u8 (t.op : Nat), .string t.name, .slice kad t.kids.length kcap] 25)).alloc (.cells #[.int .i64 0] 3)) (.cells #[.int .u8 (t.op : Nat), .string t.name, .slice kad t.kids.length kcap] 25)
    rwa [World.size_alloc, World.size_alloc] at this
  rw [hV]
  clear hV
  refine rangeAt1 rfl (by omega) (gf := 100) (lb := #[.pointer (some ⟨w.heap.size + 1 + 1, 0, none⟩)]) rfl trivial (enters_of Tryz.func100 (by kernel_rfl) rfl)
    (parts_goes (9 - 1) (w.heap.size + 1 + 1) (fun k => k < w.heap.size) t kad kcap V ⟨v2, IsT.cells (fun _ h => h) (fun _ _ _ _ c => cell_kept0 kV c) HI.out, fun k h => by omega⟩ hs) (partAt_kept _ _) (fun k h => by omega) (fun k h => by omega) (fun _ => rfl)
    (fun X pre W => Bx1 (w.heap.size + 1) 3 (.int .i64 (dmax 0 (pre.map Part.key) : Nat)) X W ∧ Bw w.heap.size w X W) (fun _ _ _ _ => False)
    ⟨fun h hX => ⟨h.1.more hX, h.2.more hX⟩, fun h hg hr => ⟨h.1.turn hg hr, h.2.turn hg hr⟩⟩ (fun _ => ⟨fun h _ => h, fun h _ _ => h⟩)
    ⟨⟨v1, by omega⟩, kV.below, kV.size, fun k h => by omega⟩ ?a1 ?assign ?body ?done ?stop
  case assign =>
    intro l x W K hK
    dsimp only [partV]
    gi_wp2
    exact hK
  case body =>
    rintro l X pre x W _ _ hXb ⟨hb, hB⟩ hat hN
    obtain ⟨dm, hdm⟩ : ∃ dm, dmax 0 (pre.map Part.key) = dm := ⟨_, rfl⟩
    rw [hdm] at hb
    have hxl : x.path.length + 1 ≤ t.depth := by
      have := dmax_mem hat.mem 0
      rw [Tr.parts_depth] at this
      simpa [Part.key] using this
    have HDM : Hid _ := hdm
    clear hdm
    have hc := hb.1.cell
    have hf := hb.1.frozen
    have HB1 : Hid (Bx1 (w.heap.size + 1) 3 (.int .i64 (dm : Nat)) X W) := hb
    have HB2 : Hid (Bw w.heap.size w X W) := hB
    clear hb hB
    gi_wp2
    all_goals
      refine ⟨KpX.setCell (fun h => h.elim HB1.out.2 (fun (h : w.heap.size + 1 < w.heap.size) => by omega)) _, ⟨?_, HB1.out.2⟩, HB2.out.1.setCell (p := ⟨w.heap.size + 1, 0, none⟩) (by show w.heap.size ≤ w.heap.size + 1; omega) _, by have := HB2.out.2.1; simp [World.setCell]; exact this, HB2.out.2.2⟩
      rw [List.map_append, dmax_append, HDM.out, show dmax dm (List.map Part.key [x]) = max dm (x.path.length + 1) from rfl]
      first
        | (rw [Nat.max_eq_right (by omega)]; exact Boxed.set _ HB1.out.1)
        | (rw [Nat.max_eq_left (by omega)]; exact Boxed.set _ HB1.out.1)
  case done =>
    rintro D X xs W hD hXD hS ⟨hb, hB⟩ hK
    have hc := hb.1.cell
    have HB2 : Hid (Bw w.heap.size w X W) := hB
    have hl : dmax 0 (xs.map Part.key) = t.depth := by rw [hS, Tr.parts_depth]; simp
    have HL : Hid _ := hl
    have HQ : Hid _ := hK
    clear hb hB hl hS hK
    gi_wp2
    refine ⟨by simp, .inl ⟨_, _, rfl, run_takeDeferred HQ.out, ?_⟩⟩
    exact ⟨_, results_tmp rfl _ _ _, by rw [← HL.out]; rfl, nil_or_eq HQ.out HB2.out.1 (by omega)⟩
  case stop =>
    rintro D X c pre W _ _ _ h _
    exact h.elim
end Go.Proofs.YtnjajafmmociiaaGreatDoor
