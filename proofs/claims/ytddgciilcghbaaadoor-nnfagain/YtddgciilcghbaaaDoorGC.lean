/- tree.Size, tree.Depth. -/
import Derived.Test.YtddgciilcghbaaaDoorTrPartsM
import Derived.BigQuiet
import Derived.Deep.QuietTactic
import Derived.Lib.SlicesS
namespace Go.Proofs.YtddgciilcghbaaaDoor
open Go.RowKit Go.Shelf
attribute [local go_sem] Oper.semAt_some

/-- A formula that lies in memory. -/
def IsF (w : World) (t : Tr) (kv : Value) : Prop := IsT (fun k => k < w.heap.size) w t kv
theorem IsT.isF {X : Nat → Prop} {w : World} {t : Tr} {kv : Value} (h : IsT X w t kv) : IsF w t kv := by
  unfold IsF
  induction t using Tr.ind generalizing kv with
  | h t ih =>
    obtain ⟨ad, cap, e, h⟩ := (isT_eq t kv).1 h
    refine (isT_eq t kv).2 ⟨ad, cap, e, ?_⟩
    rcases Nat.eq_zero_or_pos t.kids.length with h0 | h0
    · exact .inl h0
    · obtain ⟨b, off, e1, hb, hk⟩ := h.resolve_left (by omega)
      obtain ⟨kv0, c0, _⟩ := hk 0 h0
      refine .inr ⟨b, off, e1, World.block_lt_of_cell? w _ c0, fun i hi => ?_⟩
      obtain ⟨kv', c0, c1, c2, hr⟩ := hk i hi
      exact ⟨kv', c0, c1, c2, ih _ (List.getElem_mem _) hr⟩
theorem IsF.kept {w w' : World} {t : Tr} {kv : Value} (h : IsF w t kv) (k : Kept [] w w') : IsF w' t kv :=
  IsT.cells (fun _ h => Nat.lt_of_lt_of_le h k.size) (fun _ _ _ _ c => cell_kept0 k c) h
theorem IsF.slice {w : World} {t : Tr} {kv : Value} (h : IsF w t kv) : ∃ ad cap, kv = .slice ad t.kids.length cap := IsT.slice h
theorem kept_of_below {w w' : World} (h : Below w.heap.size w w') : Kept [] w w' := ⟨h.os, h.tape, h.output, h.size, fun k hk _ => h.block k hk⟩
theorem nil_or_eq {W : World} {D : Nat} (hK : W.heap[D]? = some (.deferred (some []))) {w : World} (h : Below w.heap.size w W) (hD : w.heap.size ≤ D) : Kept [] w (W.putObj D (.deferred none)) :=
  kept_of_below (h.trans (belowK_b (w := w) (Nat.le_refl _) _ D _ _ hD hK rfl rfl))

set_option maxHeartbeats 1000000 in
set_option maxRecDepth 20000 in
theorem size_any (t : Tr) (kv : Value) (w : World) (hI : IsF w t kv) (hs : t.size ≤ 1099511627776) :
    Calls Tryd.prog 21 #[.agg #[.int .u8 (t.op : Nat), .string t.name, kv]] w fun e w' => e = .returned (.int .i64 (t.size : Nat)) ∧ Kept [] w w' := by
  obtain ⟨kad, kcap, rfl⟩ := hI.slice
  have HI : Hid (IsF w t (.slice kad t.kids.length kcap)) := hI
  clear hI
  refine (callsIn_wide (n := 9)).1 ?_
  refine callsIn_of_wp_marks Tryd.func21 rfl trivial ?_ rfl
  simp only [Tryd.ntmps21, List.size_toArray, List.length_cons, List.length_nil, Nat.reduceAdd, Nat.reduceSub, Array.replicate_succ, Array.replicate_zero, List.push_toArray, List.append_toArray, List.nil_append, List.cons_append]
  gi_wp2_with (refine ⟨trivial, ?_⟩; gi_at_call 56; refine (callsIn_wide.2 (parts_any t _ _)).mono ?_; rintro e V ⟨rfl, rfl⟩)
  obtain ⟨V, hV⟩ : ∃ V, ((w.alloc (.cells #[.int .u8 (t.op : Nat), .string t.name, .slice kad t.kids.length kcap] 25)).alloc (.cells #[.int .i64 0] 3)).alloc (.cells #[.int .u8 (t.op : Nat), .string t.name, .slice kad t.kids.length kcap] 25) = V := ⟨_, rfl⟩
  have kV : Kept [] w V := by rw [← hV]; exact (((Kept.refl [] w).alloc _).alloc _).alloc _
  have zV : V.heap.size = w.heap.size + 3 := by rw [← hV]; simp
  have v1 : Boxed V (w.heap.size + 1) 3 (.int .i64 0) := by
    rw [← hV]; refine Boxed.alloc ?_ _
    have := Boxed.new (w.alloc (.cells #[.int .u8 (t.op : Nat), .string t.name, .slice kad t.kids.length kcap] 25)) 3 (.int .i64 0)
    rwa [World.size_alloc] at this
  have v2 : V.heap[w.heap.size + 1 + 1]? = some (.cells #[.int .u8 (t.op : Nat), .string t.name, .slice kad t.kids.length kcap] 25 (0, 0)) := by
    rw [← hV]
    have := heap_alloc_new ((w.alloc (.cells #[.int .u8 (t.op : Nat), .string t.name, .slice kad t.kids.length kcap] 25)).alloc (.cells #[.int .i64 0] 3)) (.cells #[.int .u8 (t.op : Nat), .string t.name, .slice kad t.kids.length kcap] 25)
    rwa [World.size_alloc, World.size_alloc] at this
  rw [hV]
  clear hV
  refine rangeAt1 rfl (by omega) (gf := 101) (lb := #[.pointer (some ⟨w.heap.size + 1 + 1, 0, none⟩)]) rfl trivial (enters_of Tryd.func101 (by kernel_rfl) rfl)
    (parts_goes (9 - 1) (w.heap.size + 1 + 1) (fun k => k < w.heap.size) t kad kcap V ⟨v2, IsT.cells (fun _ h => h) (fun _ _ _ _ c => cell_kept0 kV c) HI.out, fun k h => by omega⟩ hs) (partAt_kept _ _) (fun k h => by omega) (fun k h => by omega) (fun _ => rfl)
    (fun X pre W => Bx1 (w.heap.size + 1) 3 (.int .i64 (pre.length : Nat)) X W ∧ Bw w.heap.size w X W) (fun _ _ _ _ => False)
    ⟨fun h hX => ⟨h.1.more hX, h.2.more hX⟩, fun h hg hr => ⟨h.1.turn hg hr, h.2.turn hg hr⟩⟩ (fun _ => ⟨fun h _ => h, fun h _ _ => h⟩)
    ⟨⟨v1, by omega⟩, kV.below, kV.size, fun k h => by omega⟩ ?a1 ?assign ?body ?done ?stop
  case assign =>
    intro l x W K hK
    dsimp only [partV]
    gi_wp2
    exact hK
  case body =>
    rintro l X pre x W _ _ hXb ⟨hb, hB⟩ _ hN
    have hc := hb.1.cell
    have hf := hb.1.frozen
    have HB1 : Hid (Bx1 (w.heap.size + 1) 3 (.int .i64 (pre.length : Nat)) X W) := hb
    have HB2 : Hid (Bw w.heap.size w X W) := hB
    have hpl : pre.length ≤ 1099511627776 := by omega
    clear hb hB
    gi_wp2
    refine ⟨KpX.setCell (fun h => h.elim HB1.out.2 (fun (h : w.heap.size + 1 < w.heap.size) => by omega)) _, ⟨?_, HB1.out.2⟩, HB2.out.1.setCell (p := ⟨w.heap.size + 1, 0, none⟩) (by show w.heap.size ≤ w.heap.size + 1; omega) _, by have := HB2.out.2.1; simp [World.setCell]; exact this, HB2.out.2.2⟩
    rw [List.length_append, List.length_singleton]
    exact Boxed.set _ HB1.out.1
  case done =>
    rintro D X xs W hD hXD hS ⟨hb, hB⟩ hK
    have hc := hb.1.cell
    have HB2 : Hid (Bw w.heap.size w X W) := hB
    have hl : xs.length = t.size := by rw [← Tr.parts_length t [], ← hS, List.length_map]
    have HL : Hid _ := hl
    have HQ : Hid _ := hK
    clear hb hB hl hS hK
    gi_wp2
    refine ⟨by simp, .inl ⟨_, _, rfl, run_takeDeferred HQ.out, ?_⟩⟩
    exact ⟨_, results_tmp rfl _ _ _, by rw [← HL.out]; rfl, nil_or_eq HQ.out HB2.out.1 (by omega)⟩
  case stop =>
    rintro D X c pre W _ _ _ h _
    exact h.elim
/-- How deep the places are. -/
def dmax (d : Nat) (l : List (List Nat × Tr)) : Nat := l.foldl (fun d x => max d (x.1.length + 1)) d
theorem dmax_append (d : Nat) (l m : List (List Nat × Tr)) : dmax d (l ++ m) = dmax (dmax d l) m := by simp [dmax]
theorem dmax_le (d : Nat) (l : List (List Nat × Tr)) : d ≤ dmax d l := by
  induction l generalizing d with
  | nil => exact Nat.le_refl _
  | cons x r ih => exact Nat.le_trans (Nat.le_max_left _ _) (ih (max d (x.1.length + 1)))
theorem dmax_mem {l : List (List Nat × Tr)} {x : List Nat × Tr} (h : x ∈ l) (d : Nat) : x.1.length + 1 ≤ dmax d l := by
  induction l generalizing d with
  | nil => cases h
  | cons y r ih =>
    rcases List.mem_cons.1 h with rfl | h
    · exact Nat.le_trans (Nat.le_max_right _ _) (dmax_le (max d (x.1.length + 1)) r)
    · exact ih h _
theorem fold_max (c : Nat) (l : List Nat) : ∀ d e, l.foldl (fun a x => max a (c + x)) (max d (c + e)) = max d (c + l.foldl max e) := by
  induction l with
  | nil => intro d e; rfl
  | cons x r ih => intro d e; rw [List.foldl_cons, List.foldl_cons, ← ih d (max e x)]; congr 1; omega
theorem rows_depth (p : List Nat) (ks : List Tr) (hk : ∀ k ∈ ks, ∀ p d, dmax d (k.parts p) = max d (p.length + k.depth)) : ∀ i d, dmax d (rowsFrom p i (ks.map Tr.parts)) = (ks.map Tr.depth).foldl (fun a x => max a (p.length + 1 + x)) d := by
  induction ks with
  | nil => intro i d; rfl
  | cons k r ih =>
    intro i d
    rw [List.map_cons, rowsFrom, dmax_append, ih (fun k h => hk k (by simp [h])), hk k (by simp), List.map_cons, List.foldl_cons, List.length_append, List.length_singleton]
theorem Tr.parts_depth' (t : Tr) : ∀ p d, dmax d (t.parts p) = max d (p.length + t.depth) := by
  induction t using Tr.ind with
  | h t ih =>
    intro p d
    rw [Tr.parts_eq]
    show dmax (max d (p.length + 1)) (kidsParts p t.kids) = _
    unfold kidsParts
    rw [rows_depth p t.kids (fun k hk p d => ih k hk p d) 0, show max d (p.length + 1) = max d (p.length + 1 + 0) from rfl, fold_max, Tr.depth_eq]
    omega
theorem Tr.parts_depth (t : Tr) (p : List Nat) : dmax 0 (t.parts p) = p.length + t.depth := by rw [Tr.parts_depth']; omega

set_option maxHeartbeats 1000000 in
set_option maxRecDepth 20000 in
theorem depth_any (t : Tr) (kv : Value) (w : World) (hI : IsF w t kv) (hs : t.size ≤ 1099511627776) (hd : t.depth ≤ 1099511627776) :
    Calls Tryd.prog 22 #[.agg #[.int .u8 (t.op : Nat), .string t.name, kv]] w fun e w' => e = .returned (.int .i64 (t.depth : Nat)) ∧ Kept [] w w' := by
  obtain ⟨kad, kcap, rfl⟩ := hI.slice
  have HI : Hid (IsF w t (.slice kad t.kids.length kcap)) := hI
  clear hI
  refine (callsIn_wide (n := 9)).1 ?_
  refine callsIn_of_wp_marks Tryd.func22 rfl trivial ?_ rfl
  simp only [Tryd.ntmps22, List.size_toArray, List.length_cons, List.length_nil, Nat.reduceAdd, Nat.reduceSub, Array.replicate_succ, Array.replicate_zero, List.push_toArray, List.append_toArray, List.nil_append, List.cons_append]
  gi_wp2_with (refine ⟨trivial, ?_⟩; gi_at_call 56; refine (callsIn_wide.2 (parts_any t _ _)).mono ?_; rintro e V ⟨rfl, rfl⟩)
  obtain ⟨V, hV⟩ : ∃ V, ((w.alloc (.cells #[.int .u8 (t.op : Nat), .string t.name, .slice kad t.kids.length kcap] 25)).alloc (.cells #[.int .i64 0] 3)).alloc (.cells #[.int .u8 (t.op : Nat), .string t.name, .slice kad t.kids.length kcap] 25) = V := ⟨_, rfl⟩
  have kV : Kept [] w V := by rw [← hV]; exact (((Kept.refl [] w).alloc _).alloc _).alloc _
  have zV : V.heap.size = w.heap.size + 3 := by rw [← hV]; simp
  have v1 : Boxed V (w.heap.size + 1) 3 (.int .i64 0) := by
    rw [← hV]; refine Boxed.alloc ?_ _
    have := Boxed.new (w.alloc (.cells #[.int .u8 (t.op : Nat), .string t.name, .slice kad t.kids.length kcap] 25)) 3 (.int .i64 0)
    rwa [World.size_alloc] at this
  have v2 : V.heap[w.heap.size + 1 + 1]? = some (.cells #[.int .u8 (t.op : Nat), .string t.name, .slice kad t.kids.length kcap] 25 (0, 0)) := by
    rw [← hV]
    have := heap_alloc_new ((w.alloc (.cells #[.int .u8 (t.op : Nat), .string t.name, .slice kad t.kids.length kcap] 25)).alloc (.cells #[.int .i64 0] 3)) (.cells #[.int .u8 (t.op : Nat), .string t.name, .slice kad t.kids.length kcap] 25)
    rwa [World.size_alloc, World.size_alloc] at this
  rw [hV]
  clear hV
  refine rangeAt1 rfl (by omega) (gf := 101) (lb := #[.pointer (some ⟨w.heap.size + 1 + 1, 0, none⟩)]) rfl trivial (enters_of Tryd.func101 (by kernel_rfl) rfl)
    (parts_goes (9 - 1) (w.heap.size + 1 + 1) (fun k => k < w.heap.size) t kad kcap V ⟨v2, IsT.cells (fun _ h => h) (fun _ _ _ _ c => cell_kept0 kV c) HI.out, fun k h => by omega⟩ hs) (partAt_kept _ _) (fun k h => by omega) (fun k h => by omega) (fun _ => rfl)
    (fun X pre W => Bx1 (w.heap.size + 1) 3 (.int .i64 (dmax 0 (pre.map Part.key) : Nat)) X W ∧ Bw w.heap.size w X W) (fun _ _ _ _ => False)
    ⟨fun h hX => ⟨h.1.more hX, h.2.more hX⟩, fun h hg hr => ⟨h.1.turn hg hr, h.2.turn hg hr⟩⟩ (fun _ => ⟨fun h _ => h, fun h _ _ => h⟩)
    ⟨⟨v1, by omega⟩, kV.below, kV.size, fun k h => by omega⟩ ?a1 ?assign ?body ?done ?stop
  case assign =>
    intro l x W K hK
    dsimp only [partV]
    gi_wp2
    exact hK
  case body =>
    rintro l X pre x W _ _ hXb ⟨hb, hB⟩ hat hN
    obtain ⟨dm, hdm⟩ : ∃ dm, dmax 0 (pre.map Part.key) = dm := ⟨_, rfl⟩
    rw [hdm] at hb
    have hxl : x.path.length + 1 ≤ t.depth := by
      have := dmax_mem hat.mem 0
      rw [Tr.parts_depth] at this
      simpa [Part.key] using this
    have HDM : Hid _ := hdm
    clear hdm
    have hc := hb.1.cell
    have hf := hb.1.frozen
    have HB1 : Hid (Bx1 (w.heap.size + 1) 3 (.int .i64 (dm : Nat)) X W) := hb
    have HB2 : Hid (Bw w.heap.size w X W) := hB
    clear hb hB
    gi_wp2
    all_goals
      refine ⟨KpX.setCell (fun h => h.elim HB1.out.2 (fun (h : w.heap.size + 1 < w.heap.size) => by omega)) _, ⟨?_, HB1.out.2⟩, HB2.out.1.setCell (p := ⟨w.heap.size + 1, 0, none⟩) (by show w.heap.size ≤ w.heap.size + 1; omega) _, by have := HB2.out.2.1; simp [World.setCell]; exact this, HB2.out.2.2⟩
      rw [List.map_append, dmax_append, HDM.out, show dmax dm (List.map Part.key [x]) = max dm (x.path.length + 1) from rfl]
      first
        | (rw [Nat.max_eq_right (by omega)]; exact Boxed.set _ HB1.out.1)
        | (rw [Nat.max_eq_left (by omega)]; exact Boxed.set _ HB1.out.1)
  case done =>
    rintro D X xs W hD hXD hS ⟨hb, hB⟩ hK
    have hc := hb.1.cell
    have HB2 : Hid (Bw w.heap.size w X W) := hB
    have hl : dmax 0 (xs.map Part.key) = t.depth := by rw [hS, Tr.parts_depth]; simp
    have HL : Hid _ := hl
    have HQ : Hid _ := hK
    clear hb hB hl hS hK
    gi_wp2
    refine ⟨by simp, .inl ⟨_, _, rfl, run_takeDeferred HQ.out, ?_⟩⟩
    exact ⟨_, results_tmp rfl _ _ _, by rw [← HL.out]; rfl, nil_or_eq HQ.out HB2.out.1 (by omega)⟩
  case stop =>
    rintro D X c pre W _ _ _ h _
    exact h.elim
end Go.Proofs.YtddgciilcghbaaaDoor

/- The small functions of package tree: names, times, forms, measures. -/
namespace Go.Proofs.YtddgciilcghbaaaDoor
open Go.RowKit Go.Shelf

/-- May a byte stand in a name; is a text a name. -/
def okB (b : Nat) : Bool := decide (32 ≤ b) && decide (b ≤ 126) && !(b == 34) && !(b == 92)
def nameB (l : List UInt8) : Bool := decide (1 ≤ l.length) && decide (l.length ≤ 32) && l.all fun b => okB b.toNat

theorem nameB_short {l : List UInt8} (h : l.length = 0) : nameB l = false := by
  unfold nameB; rw [show decide (1 ≤ l.length) = false from by rw [decide_eq_false_iff_not]; omega]; rfl
theorem nameB_long {l : List UInt8} (h : 32 < l.length) : nameB l = false := by
  unfold nameB; rw [show decide (l.length ≤ 32) = false from by rw [decide_eq_false_iff_not]; omega, Bool.and_false]; rfl
theorem nameB_bad {l : List UInt8} {c : UInt8} (h : c ∈ l) (hc : okB c.toNat = false) : nameB l = false := by
  unfold nameB
  rw [show (l.all fun b => okB b.toNat) = false from List.all_eq_false.2 ⟨c, h, by simp [hc]⟩, Bool.and_false]
theorem nameB_good {l : List UInt8} (h0 : 1 ≤ l.length) (h1 : l.length ≤ 32) (h : ∀ j (hj : j < l.length), okB (l[j]).toNat = true) : nameB l = true := by
  unfold nameB
  rw [show (l.all fun b => okB b.toNat) = true from List.all_eq_true.2 fun b hb => by obtain ⟨j, hj, rfl⟩ := List.getElem_of_mem hb; exact h j hj]
  simp [h0, h1]
theorem okB_no {c : Nat} (h : c < 32 ∨ 126 < c ∨ c = 34 ∨ c = 92) : okB c = false := by
  unfold okB
  rcases h with h | h | h | h
  · rw [show decide (32 ≤ c) = false from by rw [decide_eq_false_iff_not]; omega]; rfl
  · rw [show decide (c ≤ 126) = false from by rw [decide_eq_false_iff_not]; omega, Bool.and_false]; rfl
  · subst h; rfl
  · subst h; rfl
theorem okB_yes {c : Nat} (h1 : ¬ c < 32) (h2 : ¬ 126 < c) (h3 : ¬ c = 34) (h4 : ¬ c = 92) : okB c = true := by
  unfold okB
  simp [h3, h4]; omega

set_option maxHeartbeats 1000000 in
theorem isName_any (s : ByteArray) (w : World) (hs : s.size ≤ maxLen) :
    Calls Tryd.prog 134 #[.string s] w fun e w' => e = .returned (.bool (nameB s.data.toList)) ∧ w' = w := by
  have hl : s.size = s.data.toList.length := rfl
  unfold maxLen at hs
  obtain ⟨r, hr⟩ : ∃ r, nameB s.data.toList = r := ⟨_, rfl⟩
  rw [hr]
  have HR : Hid _ := hr
  have HL : Hid _ := hl
  clear hr hl
  by_cases h0 : s.size = 0
  · have h0i : ((s.size : Int) == 0) = true := by rw [beq_iff_eq]; omega
    go_enter Tryd.func134, Tryd.ntmps134
    go_wp2
    go_ret
    exact ⟨ret_bool ((nameB_short (HL.out.symm.trans h0)).symm.trans HR.out), rfl⟩
  have h0i : ((s.size : Int) == 0) = false := by rw [beq_eq_false_iff_ne]; omega
  by_cases h1 : 32 < s.size
  · have h1i : (32 : Int) < (s.size : Int) := by omega
    go_enter Tryd.func134, Tryd.ntmps134
    go_wp2
    go_ret
    exact ⟨ret_bool ((nameB_long (by rw [← HL.out]; exact h1)).symm.trans HR.out), rfl⟩
  have h1i : ¬ (32 : Int) < (s.size : Int) := by omega
  go_enter Tryd.func134, Tryd.ntmps134
  go_wp2
  go_loop [15] (fun v => ∃ k : Nat, k ≤ s.size ∧ v = .int .i64 (k : Nat) ∧ Hid (∀ j (h : j < s.data.toList.length), j < k → okB (s.data.toList[j]).toNat = true)) (fun v => s.size - (intOf v).toNat)
  case atStart => exact ⟨0, Nat.zero_le _, rfl, fun j _ h => by omega⟩
  case round =>
    obtain ⟨k, hk, rfl, HA⟩ := hrel
    by_cases hlt : k < s.size
    · obtain ⟨c, hc⟩ : ∃ c : UInt8, s[k] = c := ⟨_, rfl⟩
      have hcd : s.data.toList[k]'(by rw [← HL.out]; exact hlt) = c := hc
      have HC : Hid _ := hcd
      have hki : (k : Int) < (s.size : Int) := by omega
      have hbad : okB c.toNat = false → false = r := fun h => (nameB_bad (by rw [← HC.out]; exact List.getElem_mem _) h).symm.trans HR.out
      have HB : Hid _ := hbad
      clear hcd hbad
      by_cases c1 : (c.toNat : Int) < 32
      · go_wp2
        go_ret
        exact ⟨ret_bool (HB.out (okB_no (by omega))), rfl⟩
      by_cases c2 : (126 : Int) < (c.toNat : Int)
      · go_wp2
        go_ret
        exact ⟨ret_bool (HB.out (okB_no (by omega))), rfl⟩
      by_cases c3 : (c.toNat : Int) = 34
      · have c3' : ((c.toNat : Int) == 34) = true := by rw [beq_iff_eq]; exact c3
        have HC3 : Hid _ := c3
        clear c3
        go_wp2
        go_ret
        exact ⟨ret_bool (HB.out (okB_no (by have := HC3.out; omega))), rfl⟩
      have c3' : ((c.toNat : Int) == 34) = false := by rw [beq_eq_false_iff_ne]; exact c3
      by_cases c4 : (c.toNat : Int) = 92
      · have c4' : ((c.toNat : Int) == 92) = true := by rw [beq_iff_eq]; exact c4
        have HC4 : Hid _ := c4
        clear c4
        go_wp2
        go_ret
        exact ⟨ret_bool (HB.out (okB_no (by have := HC4.out; omega))), rfl⟩
      have c4' : ((c.toNat : Int) == 92) = false := by rw [beq_eq_false_iff_ne]; exact c4
      go_wp2
      go_round
      case rel =>
        refine ⟨k + 1, by omega, by go_num, fun j h hj => ?_⟩
        rcases Nat.lt_or_ge j k with h' | h'
        · exact HA.out j h h'
        · obtain rfl : j = k := by omega
          rw [HC.out]
          exact okB_yes (by omega) (by omega) (by omega) (by omega)
      case measure => simp [intOf]; omega
    · go_wp2
      go_ret
      exact ⟨ret_bool ((nameB_good (by rw [← HL.out]; omega) (by rw [← HL.out]; omega) (fun j hj => HA.out j hj (by have := HL.out; omega))).symm.trans HR.out), rfl⟩

/-- Of which time an Op is alone. -/
def pastB (o : Nat) : Bool := decide (16 ≤ o) && decide (o ≤ 21)
def futureB (o : Nat) : Bool := decide (9 ≤ o) && decide (o ≤ 15)
set_option maxHeartbeats 400000 in
theorem isPast_any (o : Nat) (w : World) (ho : o < 256) : Calls Tryd.prog 50 #[.int .u8 (o : Nat)] w fun e w' => e = .returned (.bool (pastB o)) ∧ w' = w := by
  by_cases h1 : (16 : Int) ≤ (o : Int)
  · by_cases h2 : (o : Int) ≤ 21
    · go_enter Tryd.func50, Tryd.ntmps50
      go_wp2
      go_ret
      exact ⟨ret_bool (by simp [pastB]; omega), rfl⟩
    · go_enter Tryd.func50, Tryd.ntmps50
      go_wp2
      go_ret
      exact ⟨ret_bool (by simp [pastB]; omega), rfl⟩
  · go_enter Tryd.func50, Tryd.ntmps50
    go_wp2
    go_ret
    exact ⟨ret_bool (by simp [pastB]; omega), rfl⟩
/-- How many kids an Op has: the table, and where it lies. -/
def kidsL : List Nat := [0, 0, 0, 0, 1, 2, 2, 2, 2, 1, 1, 1, 2, 2, 2, 2, 1, 1, 1, 1, 2, 2]
def kidsN (o : Nat) : Nat := kidsL.getD o 0
def KidsTab (w : World) : Prop := ∀ i, i < 22 → w.cell? ⟨1, i, none⟩ = some (.int .i64 (kidsN i : Nat))
theorem KidsTab.kept {w w' : World} (h : KidsTab w) (k : Kept [] w w') : KidsTab w' := fun i hi => cell_kept0 k (h i hi)
/-- Is a tree well formed, its kids not looked at. -/
def formedB (t : Tr) : Bool := decide (1 ≤ t.op) && decide (t.op ≤ 21) && (t.kids.length == kidsN t.op) && (if t.op = 3 then nameB t.name.data.toList else t.name.toList.isEmpty)

set_option maxHeartbeats 1000000 in
theorem formed_any (t : Tr) (kad : Option Addr) (kcap : Nat) (w : World) (hT : KidsTab w) (ho : t.op < 256) (hn : t.name.size ≤ maxLen) :
    Calls Tryd.prog 95 #[.agg #[.int .u8 (t.op : Nat), .string t.name, .slice kad t.kids.length kcap]] w fun e w' => e = .returned (.bool (formedB t)) ∧ Kept [] w w' := by
  obtain ⟨r, hr⟩ : ∃ r, formedB t = r := ⟨_, rfl⟩
  rw [hr]
  have HR : Hid _ := hr
  clear hr
  have hnm := isName_any t.name
  have HN : Hid _ := hnm
  have HK : ∀ o n, Hid (Kept [] w ((w.alloc o).drewN n)) := fun o n => ((Kept.refl [] w).alloc o).drewN n
  have HNS : Hid _ := hn
  clear hnm hn
  have hc : t.op < 22 → w.cell? ⟨1, t.op, none⟩ = some (.int .i64 (kidsN t.op : Nat)) := hT t.op
  have h0 : 1 < w.heap.size := World.block_lt_of_cell? w _ (hT 0 (by omega))
  have h0a : ¬ 1 = w.heap.size := by omega
  have h0b : ¬ w.heap.size = 1 := by omega
  have HC : Hid _ := hc
  obtain ⟨k, hkk⟩ : ∃ k, kidsN t.op = k := ⟨_, rfl⟩
  have hkl : k ≤ 2 := by
    rw [← hkk]; unfold kidsN kidsL
    rcases Nat.lt_or_ge t.op 22 with h | h
    · revert h; generalize t.op = o; intro h
      have : ∀ o : Fin 22, [0, 0, 0, 0, 1, 2, 2, 2, 2, 1, 1, 1, 2, 2, 2, 2, 1, 1, 1, 1, 2, 2].getD o.val 0 ≤ 2 := by decide
      exact this ⟨o, h⟩
    · rw [List.getD_eq_getElem?_getD, List.getElem?_eq_none (by simpa using h)]; simp
  have HKK : Hid _ := hkk
  clear hT hc hkk h0
  by_cases h1 : (t.op : Int) < 1
  · have hd1 : decide ((t.op : Int) < 1) = true := by rw [decide_eq_true_iff]; exact h1
    go_enter Tryd.func95, Tryd.ntmps95
    go_wp2
    go_quiet (fail)
    go_wp2
    go_ret
    exact ⟨ret_bool (by rw [← HR.out]; unfold formedB; rw [show decide (1 ≤ t.op) = false from by rw [decide_eq_false_iff_not]; omega]; rfl), (HK _ _).out⟩
  have hd1 : decide ((t.op : Int) < 1) = false := by rw [decide_eq_false_iff_not]; exact h1
  by_cases h2 : (21 : Int) < (t.op : Int)
  · have hd2 : decide ((21 : Int) < (t.op : Int)) = true := by rw [decide_eq_true_iff]; exact h2
    go_enter Tryd.func95, Tryd.ntmps95
    go_wp2
    go_quiet (fail)
    go_wp2
    go_ret
    exact ⟨ret_bool (by rw [← HR.out]; unfold formedB; rw [show decide (t.op ≤ 21) = false from by rw [decide_eq_false_iff_not]; omega, Bool.and_false]; rfl), (HK _ _).out⟩
  have hd2 : decide ((21 : Int) < (t.op : Int)) = false := by rw [decide_eq_false_iff_not]; exact h2
  have hlt : t.op < 22 := by omega
  have hlti : (t.op : Int) < 22 := by omega
  have hc := HC.out hlt
  rw [HKK.out] at hc
  have hc2 : ∀ o, (w.alloc o).cell? ⟨1, t.op, none⟩ = some (.int .i64 (k : Nat)) := fun o => cell_kept0 ((Kept.refl [] w).alloc o) hc
  have hc3 : ∀ o n, ((w.alloc o).drewN n).cell? ⟨1, t.op, none⟩ = some (.int .i64 (k : Nat)) := fun o n => cell_kept0 (((Kept.refl [] w).alloc o).drewN n) hc
  have HF : Hid (formedB t = ((t.kids.length == k) && (if t.op = 3 then nameB t.name.data.toList else t.name.toList.isEmpty))) := by
    show formedB t = _
    unfold formedB
    rw [show decide (1 ≤ t.op) = true from by rw [decide_eq_true_iff]; omega, show decide (t.op ≤ 21) = true from by rw [decide_eq_true_iff]; omega, HKK.out, Bool.true_and, Bool.true_and]
  by_cases h3 : t.kids.length = k
  · have hb3 : ((t.kids.length : Int) != (k : Int)) = false := by rw [bne_eq_false_iff_eq]; omega
    have HF3 : Hid (formedB t = (if t.op = 3 then nameB t.name.data.toList else t.name.toList.isEmpty)) := by
      show formedB t = _
      rw [HF.out, show (t.kids.length == k) = true from by rw [beq_iff_eq]; exact h3, Bool.true_and]
    have H3 : Hid _ := h3
    clear h3 HF
    by_cases h4 : t.op = 3
    · have hb4 : ((t.op : Int) == 3) = true := by rw [beq_iff_eq]; omega
      have H4 : Hid _ := h4
      clear h4
      go_enter Tryd.func95, Tryd.ntmps95
      go_wp2
      go_quiet (fail)
      go_wp2_with (go_at_call 134; refine (HN.out _ HNS.out).mono ?_; rintro e w' ⟨rfl, rfl⟩)
      go_ret
      exact ⟨ret_bool (by rw [← HR.out, HF3.out, if_pos H4.out]), (HK _ _).out⟩
    · have hb4 : ((t.op : Int) == 3) = false := by rw [beq_eq_false_iff_ne]; omega
      have H4 : Hid _ := h4
      clear h4
      go_enter Tryd.func95, Tryd.ntmps95
      go_wp2
      go_quiet (fail)
      go_wp2
      go_ret
      exact ⟨ret_bool (by rw [← HR.out, HF3.out, if_neg H4.out]), (HK _ _).out⟩
  · have hb3 : ((t.kids.length : Int) != (k : Int)) = true := by rw [bne_iff_ne]; omega
    have H3 : Hid _ := h3
    clear h3
    go_enter Tryd.func95, Tryd.ntmps95
    go_wp2
    go_quiet (fail)
    go_wp2
    go_ret
    exact ⟨ret_bool (by rw [← HR.out, HF.out, show (t.kids.length == k) = false from by rw [beq_eq_false_iff_ne]; exact H3.out]; rfl), (HK _ _).out⟩

/-- A measure: how great, how deep. -/
def MeasAt (B a d : Nat) (W : World) : Prop := W.heap[B]? = some (.cells #[.int .i64 (a : Nat), .int .i64 (d : Nat)] 121 (0, 0))
theorem MeasAt.set {B a d a' d' : Nat} {W : World} (h : MeasAt B a d W) : MeasAt B a' d' ((W.setCell ⟨B, 0, none⟩ (.int .i64 (a' : Nat))).setCell ⟨B, 1, none⟩ (.int .i64 (d' : Nat))) := by
  unfold MeasAt at h ⊢
  rw [row_set (row_set h _) _]; rfl
set_option maxHeartbeats 400000 in
theorem add_any (B a d x y : Nat) (w : World) (h : MeasAt B a d w) (ha : a + x ≤ 9223372036854775807) :
    Calls Tryd.prog 96 #[.pointer (some ⟨B, 0, none⟩), .int .i64 (x : Nat), .int .i64 (y : Nat)] w fun e w' => (∃ v, e = .returned v) ∧ MeasAt B (a + x) (max d y) w' ∧ Kept [B] w w' := by
  have c0 : w.cell? ⟨B, 0, none⟩ = some (.int .i64 (a : Nat)) := (cell_of h 0).trans rfl
  have c1 : w.cell? ⟨B, 1, none⟩ = some (.int .i64 (d : Nat)) := (cell_of h 1).trans rfl
  have f0 : w.frozen? ⟨B, 0, none⟩ = false := free_of h 0
  have f1 : w.frozen? ⟨B, 1, none⟩ = false := free_of h 1
  have HM : Hid (MeasAt B a d w) := h
  clear h
  by_cases hc : (d : Int) < (y : Int)
  · go_enter Tryd.func96, Tryd.ntmps96
    go_wp2
    go_end0
    refine ⟨⟨_, rfl⟩, ?_, ((Kept.refl [B] w).setCell (p := ⟨B, 0, none⟩) (.inl (by simp)) _).setCell (p := ⟨B, 1, none⟩) (.inl (by simp)) _⟩
    rw [Nat.max_eq_right (by omega)]
    exact HM.out.set
  · go_enter Tryd.func96, Tryd.ntmps96
    go_wp2
    go_end0
    refine ⟨⟨_, rfl⟩, ?_, ((Kept.refl [B] w).setCell (p := ⟨B, 0, none⟩) (.inl (by simp)) _).setCell (p := ⟨B, 1, none⟩) (.inl (by simp)) _⟩
    rw [Nat.max_eq_left (by omega)]
    exact HM.out.set
set_option maxHeartbeats 400000 in
theorem fits_any (B a d : Nat) (w : World) (h : MeasAt B a d w) (ha : a ≤ 9223372036854775807) (hd : d ≤ 9223372036854775807) :
    Calls Tryd.prog 97 #[.pointer (some ⟨B, 0, none⟩)] w fun e w' => e = .returned (.bool (decide (a ≤ 1000) && decide (d ≤ 100))) ∧ Kept [] w w' := by
  have c0 : w.cell? ⟨B, 0, none⟩ = some (.int .i64 (a : Nat)) := (cell_of h 0).trans rfl
  have c1 : w.cell? ⟨B, 1, none⟩ = some (.int .i64 (d : Nat)) := (cell_of h 1).trans rfl
  clear h
  by_cases h1 : (a : Int) ≤ 1000
  · have e1 : decide (a ≤ 1000) = true := by rw [decide_eq_true_iff]; omega
    rw [e1]
    by_cases h2 : (d : Int) ≤ 100
    · have e2 : decide (d ≤ 100) = true := by rw [decide_eq_true_iff]; omega
      rw [e2]
      clear e1 e2
      go_enter Tryd.func97, Tryd.ntmps97
      go_wp2
      go_ret
      exact ⟨rfl, Kept.refl _ _⟩
    · have e2 : decide (d ≤ 100) = false := by rw [decide_eq_false_iff_not]; omega
      rw [e2]
      clear e1 e2
      go_enter Tryd.func97, Tryd.ntmps97
      go_wp2
      go_ret
      exact ⟨rfl, Kept.refl _ _⟩
  · have e1 : decide (a ≤ 1000) = false := by rw [decide_eq_false_iff_not]; omega
    rw [e1]
    clear e1
    go_enter Tryd.func97, Tryd.ntmps97
    go_wp2
    go_ret
    exact ⟨rfl, Kept.refl _ _⟩
end Go.Proofs.YtddgciilcghbaaaDoor

/- Loops over what stands in a tree, where the part is a variable in a block of its own. -/
namespace Go.Proofs.YtddgciilcghbaaaDoor
open Go.RowKit Go.Shelf
attribute [local go_sem] Oper.semAt_some

def partC (x : Part) : Array Value := #[.int .u8 (x.t.op : Nat), .string x.t.name, .slice x.kad x.t.kids.length x.kcap]
variable {F : Fence} {n : Nat} {P : Program}
theorem rangePart {g : Operand} {ps : Array Tmp} {assign body : Code} {Q : Exit → Act → World → Prop} {a : Act} {w : World}
    (hro : F.round = none) (h1 : 1 ≤ n) {gf : Nat} {lb : Array Value} (hg : a.eval g = .func (.func gf) #[] lb) (hFg : F.fn gf) (eg : ∀ args w, (callFunc gf args).run P w = .ok (.enter gf args) w)
    {encs : Part → Array Value} {At : Part → World → Prop} {T X₀ : Nat → Prop} {S Sp : List Part → Prop} {N : Nat} (hseq : GoesAt F (n - 1) P gf lb encs At T X₀ S Sp N w) (hAt : AtKept At) (hT : ∀ k, T k → k < w.heap.size) (hX₀ : ∀ k, X₀ k → k < w.heap.size) (hps : ∀ x, (encs x).size = ps.size)
    (I : (Nat → Prop) → List Part → World → Prop) (Ix : Code → (Nat → Prop) → List Part → World → Prop) (hI : Abide I) (hIx : ∀ c, Abide (Ix c)) (h0 : I X₀ [] w) (a₁ : Part → Nat → Act)
    (hassign : ∀ (l : Nat) (x : Part) (W : World) (Bx : Nat) (K : Act → World → Prop), W.heap.size = Bx → K (a₁ x Bx) (W.alloc (.cells (partC x) 25)) →
      assign.wpIn (F.inRound l) (n - 1 - 1) P (Exit.then K (fun _ _ _ => False)) { tmps := (ps.zip (encs x)).foldl (fun t (p, v) => t.setIfInBounds p v) a.tmps, defers := [] } W)
    (hbody : ∀ (l : Nat) (X : Nat → Prop) (pre : List Part) (x : Part) (Bx : Nat) (W : World), (∃ r, W.heap[l]? = some (.loop r)) → X l → (∀ k, X k → k < W.heap.size) → I X pre W → w.heap.size ≤ Bx → W.heap[Bx]? = some (.cells (partC x) 25 (0, 0)) → At x W → pre.length < N →
      body.wpIn (F.inRound l) (n - 1 - 1) P (bodyOwesT T X I Ix (pre ++ [x]) W) (a₁ x Bx) W)
    (hdone : ∀ (D : Nat) (X : Nat → Prop) (xs : List Part) (W : World), w.heap.size ≤ D → X D → S xs → I X xs W → W.heap[D]? = some (.deferred (some [])) → Q .normal { a with defers := { target := .collected D, args := #[] } :: a.defers } W)
    (hstop : ∀ (D : Nat) (X : Nat → Prop) (c : Code) (pre : List Part) (W : World), w.heap.size ≤ D → X D → Sp pre → Ix c X pre W → W.heap[D]? = some (.deferred (some [])) → c.wpIn F n P Q { a with defers := { target := .collected D, args := #[] } :: a.defers } W) :
    (Code.rangeFunc g ps assign body).wpIn F n P Q a w :=
  rangeAt hro h1 hg hFg eg hseq hAt hT hX₀ hps I Ix hI hIx h0 (fun x a' W => ∃ Bx, w.heap.size ≤ Bx ∧ W.heap[Bx]? = some (.cells (partC x) 25 (0, 0)) ∧ a' = a₁ x Bx)
    (fun x a' W l o o' hl hc ⟨Bx, q1, q2, q3⟩ => ⟨Bx, q1, (World.putObj_heap_other (fun e => by subst e; rw [q2] at hl; cases hl; cases hc)).trans q2, q3⟩)
    (fun l X pre x W K hi _ hw hK => hassign l x W _ K rfl (hK _ _ ((Kept.refl [] W).alloc _) ⟨W.heap.size, hw, heap_alloc_new W _, rfl⟩))
    (fun l X pre x a' W hr hl hX hi hx hat hN => by obtain ⟨Bx, q1, q2, q3⟩ := hx; subst q3; exact hbody l X pre x Bx W hr hl hX hi q1 q2 hat hN) hdone hstop

/-- A return behind one loop, the answer in its box. -/
theorem leave1 {fn : Func} {p : Tmp} {ty : TypeId} {W : World} {B D : Nat} {v : Value} {R : Ending → World → Prop} {tmps : Array Value} (hres : fn.results = #[.cell p ty]) (hp : tmps[p]?.getD undef = .pointer (some ⟨B, 0, none⟩)) (hb : Boxed W B ty v) (h1 : ∀ w, (isAgg ty).run P w = .ok false w) (hK : W.heap[D]? = some (.deferred (some []))) (hR : R (.returned v) (W.putObj D (.deferred none))) :
    bodyPostM Fence.wide n P fn R .ret { tmps := tmps, defers := [{ target := .collected D, args := #[] }] } W := by
  have c2 := (box_shut (o := .deferred none) hb hK).cell
  refine ⟨by simp, .inl ⟨_, _, rfl, run_takeDeferred hK, ⟨v, ?_, hR⟩⟩⟩
  simp [results, hres, go_sem, hp, c2, h1]
end Go.Proofs.YtddgciilcghbaaaDoor

/- tree.wellFormed. -/
namespace Go.Proofs.YtddgciilcghbaaaDoor
open Go.RowKit Go.Shelf
attribute [local go_sem] Oper.semAt_some

/-- Is all that stands in a tree so. -/
def Tr.every (q : Tr → Bool) (t : Tr) : Bool := (t.parts []).all fun x => q x.2
theorem every_yes {q : Tr → Bool} {t : Tr} {xs : List Part} (hS : xs.map Part.key = t.parts []) (h : ∀ y ∈ xs, q y.t = true) : t.every q = true := by
  unfold Tr.every
  rw [← hS, List.all_map, List.all_eq_true]
  exact h
theorem every_no {q : Tr → Bool} {t : Tr} {pre : List Part} {x : Part} (hS : (pre ++ [x]).map Part.key <+: t.parts []) (h : q x.t = false) : t.every q = false := by
  unfold Tr.every
  rw [List.all_eq_false]
  exact ⟨x.key, hS.subset (List.mem_map.2 ⟨x, by simp, rfl⟩), by simp [Part.key, h]⟩

end Go.Proofs.YtddgciilcghbaaaDoor

/- tree.Right, tree.RightPast. -/
namespace Go.Proofs.YtddgciilcghbaaaDoor
open Go.RowKit Go.Shelf
attribute [local go_sem] Oper.semAt_some

/-- What Right tells, ob being what an Op of the other time is. -/
def rightQ (ob : Nat → Bool) (x : Tr) : Bool := formedB x && !ob x.op
def rightN (ob : Nat → Bool) (t : Tr) : Nat := if t.every (rightQ ob) then (if decide (t.size ≤ 1000) && decide (t.depth ≤ 100) then 0 else 31) else 30
def measC (a d : Nat) : Array Value := #[.int .i64 (a : Nat), .int .i64 (d : Nat)]
def fnV (g : Nat) : Value := .func (.func g) #[] #[]

set_option maxHeartbeats 1000000 in
set_option maxRecDepth 20000 in
theorem within_any (g : Nat) (ob : Nat → Bool) (hen : ∀ args w, (callFunc g args).run Tryd.prog w = .ok (.enter g args) w) (hg : ∀ o w, o < 256 → Calls Tryd.prog g #[.int .u8 (o : Nat)] w fun e w' => e = .returned (.bool (ob o)) ∧ w' = w)
    (t : Tr) (kv : Value) (w : World) (hI : IsF w t kv) (hs : t.size ≤ 1099511627776) (hd : t.depth ≤ 1099511627776) (hF : t.Fine) (hT : KidsTab w) :
    Calls Tryd.prog 49 #[.agg #[.int .u8 (t.op : Nat), .string t.name, kv], .func (.func g) #[] #[]] w fun e w' => e = .returned (.int .i64 (rightN ob t : Nat)) ∧ Kept [] w w' := by
  obtain ⟨r, hr⟩ : ∃ r, rightN ob t = r := ⟨_, rfl⟩
  rw [hr]
  obtain ⟨kad, kcap, rfl⟩ := hI.slice
  have HR : Hid _ := hr
  have HF : Hid t.Fine := hF
  have HTab : Hid (KidsTab w) := hT
  have HG : Hid _ := hg
  have HI : Hid (IsF w t (.slice kad t.kids.length kcap)) := hI
  clear hI hF hr hT hg
  refine (callsIn_wide (n := 9)).1 ?_
  refine callsIn_of_wp_marks Tryd.func49 rfl trivial ?_ rfl
  simp only [Tryd.ntmps49, List.size_toArray, List.length_cons, List.length_nil, Nat.reduceAdd, Nat.reduceSub, Array.replicate_succ, Array.replicate_zero, List.push_toArray, List.append_toArray, List.nil_append, List.cons_append]
  gi_wp2_with (refine ⟨trivial, ?_⟩; gi_at_call 56; refine (callsIn_wide.2 (parts_any t _ _)).mono ?_; rintro e V ⟨rfl, rfl⟩)
  obtain ⟨V, hV⟩ : ∃ V, ((((w.alloc (.cells #[.int .u8 (t.op : Nat), .string t.name, .slice kad t.kids.length kcap] 25)).alloc (.cells #[.func (.func g) #[] #[]] 77)).alloc (.cells #[.int .i64 0] 36)).alloc (.cells #[.int .i64 0, .int .i64 0] 121)).alloc (.cells #[.int .u8 (t.op : Nat), .string t.name, .slice kad t.kids.length kcap] 25) = V := ⟨_, rfl⟩
  have kV : Kept [] w V := by rw [← hV]; exact (((((Kept.refl [] w).alloc _).alloc _).alloc _).alloc _).alloc _
  have zV : V.heap.size = w.heap.size + 5 := by rw [← hV]; simp
  have v1 : Boxed V (w.heap.size + 1) 77 (fnV g) := by rw [← hV]; exact alUp (alUp (alUp (al1 _ _ _) _) _) _
  have v2 : Boxed V (w.heap.size + 1 + 1) 36 (.int .i64 0) := by rw [← hV]; exact alUp (alUp (al2 _ _ _ _) _) _
  have v3 : V.heap[w.heap.size + 1 + 1 + 1]? = some (.cells (measC 0 0) 121 (0, 0)) := by rw [← hV]; exact alUp (al3 _ _ _ _ _) _
  have v4 : V.heap[w.heap.size + 1 + 1 + 1 + 1]? = some (.cells #[.int .u8 (t.op : Nat), .string t.name, .slice kad t.kids.length kcap] 25 (0, 0)) := by rw [← hV]; exact al4 _ _ _ _ _ _
  rw [hV]
  clear hV
  refine rangePart rfl (by omega) (gf := 101) (lb := #[.pointer (some ⟨w.heap.size + 1 + 1 + 1 + 1, 0, none⟩)]) rfl trivial (enters_of Tryd.func101 (by kernel_rfl) rfl)
    (parts_goes (9 - 1) (w.heap.size + 1 + 1 + 1 + 1) (fun k => k < w.heap.size) t kad kcap V ⟨v4, IsT.cells (fun _ h => h) (fun _ _ _ _ c => cell_kept0 kV c) HI.out, fun k h => by omega⟩ hs) (partAt_kept _ _) (fun k h => by omega) (fun k h => by omega) (fun _ => rfl)
    (fun X pre W => (∀ y ∈ pre, rightQ ob y.t = true) ∧ Bx1 (w.heap.size + 1) 77 (fnV g) X W ∧ Bx1 (w.heap.size + 1 + 1) 36 (.int .i64 0) X W ∧ Blk (w.heap.size + 1 + 1 + 1) (measC pre.length (dmax 0 (pre.map Part.key))) 121 X W ∧ Bw w.heap.size w X W)
    (fun c X pre W => c = .ret ∧ (∃ (pre' : List Part) (x : Part), pre = pre' ++ [x] ∧ rightQ ob x.t = false) ∧ Bx1 (w.heap.size + 1 + 1) 36 (.int .i64 30) X W ∧ Bw w.heap.size w X W)
    (abide_and (abide_pure _) (abide_and (abide_bx _ _ _) (abide_and (abide_bx _ _ _) (abide_and (abide_blk _ (fun pre : List Part => measC pre.length (dmax 0 (pre.map Part.key))) _) (abide_bw _ _))))) (fun _ => abide_and (abide_pure _) (abide_and (abide_pure _) (abide_and (abide_bx _ _ _) (abide_bw _ _))))
    ⟨by simp, ⟨v1, by omega⟩, ⟨v2, by omega⟩, ⟨v3, by omega⟩, kV.below, kV.size, fun k h => by omega⟩ ?a1 ?assign ?body ?done ?stop
  case assign =>
    intro l x W Bx K hBx hK
    dsimp only [partV]
    dsimp only [partC] at hK
    gi_wp2
    exact hK
  case body =>
    rintro l X pre x Bx W _ _ hXb ⟨q1, ho, hb, hm, hB⟩ hBx hrow hat hN
    dsimp only [partC] at hrow
    have hxl : x.path.length + 1 ≤ t.depth := by
      have := dmax_mem hat.mem 0
      rw [Tr.parts_depth] at this
      simpa [Part.key] using this
    have t0 : W.cell? ⟨Bx, 0, none⟩ = some (.int .u8 (x.t.op : Nat)) := (cell_of hrow 0).trans rfl
    have t1 : W.cell? ⟨Bx, 1, none⟩ = some (.string x.t.name) := (cell_of hrow 1).trans rfl
    have t2 : W.cell? ⟨Bx, 2, none⟩ = some (.slice x.kad x.t.kids.length x.kcap) := (cell_of hrow 2).trans rfl
    have hfx := HF.out.part hat.mem
    have hform := formed_any x.t x.kad x.kcap W (HTab.out.kept (kept_of_below hB.1)) hfx.1 hfx.2
    have hoth := fun w => HG.out x.t.op w hfx.1
    have HBO : Hid (Bx1 (w.heap.size + 1) 77 (fnV g) X W) := ho
    have HB1 : Hid (Bx1 (w.heap.size + 1 + 1) 36 (.int .i64 0) X W) := hb
    have HM : Hid (Blk (w.heap.size + 1 + 1 + 1) (measC pre.length (dmax 0 (pre.map Part.key))) 121 X W) := hm
    have HB2 : Hid (Bw w.heap.size w X W) := hB
    have HQ1 : Hid _ := q1
    have HFO : Hid _ := hform
    have HOT : Hid _ := hoth
    have HROW : Hid _ := hrow
    clear ho hb hm hB q1 hform hoth hfx hat hrow
    by_cases hx : formedB x.t = true
    · rw [hx] at HFO
      have hxq : rightQ ob x.t = !ob x.t.op := by simp [rightQ, hx]
      by_cases hy : ob x.t.op = true
      · rw [hy] at HOT
        gi_wp2_with (first | (refine ⟨trivial, ?_⟩; gi_at_call 95; refine (CallsIn.inRound l (callsIn_wide.2 HFO.out)).mono ?_; rintro e W2 ⟨rfl, hk2⟩; have ho2 : W2.cell? ⟨w.heap.size + 1, 0, none⟩ = some (.func (.func g) #[] #[]) := (HBO.out.kept0 hk2).1.cell; have hc2 := (HB1.out.kept0 hk2).1.cell; have hf2 := (HB1.out.kept0 hk2).1.frozen; have t02 := cell_kept0 hk2 t0; have HK2 : Hid _ := hk2; clear hk2) | (refine ⟨trivial, ?_⟩; gi_at_fn g; refine (CallsIn.inRound l (callsIn_wide.2 (HOT.out _))).mono ?_; rintro e W3 ⟨rfl, rfl⟩))
        exact ⟨(KpX.of_kept HK2.out).trans (KpX.setCell (fun h => h.elim HB1.out.2 (fun (h : w.heap.size + 1 + 1 < w.heap.size) => by omega)) _), rfl, ⟨pre, x, rfl, by rw [hxq, hy]; rfl⟩, (HB1.out.kept0 HK2.out).set _, (HB2.out.kept0 HK2.out).set (by omega) _⟩
      · have hy' : ob x.t.op = false := by simpa using hy
        rw [hy'] at HOT
        clear hy
        gi_wp2_with (first | (refine ⟨trivial, ?_⟩; gi_at_call 95; refine (CallsIn.inRound l (callsIn_wide.2 HFO.out)).mono ?_; rintro e W2 ⟨rfl, hk2⟩; have ho2 : W2.cell? ⟨w.heap.size + 1, 0, none⟩ = some (.func (.func g) #[] #[]) := (HBO.out.kept0 hk2).1.cell; have t02 := cell_kept0 hk2 t0; have HK2 : Hid _ := hk2; clear hk2) | (refine ⟨trivial, ?_⟩; gi_at_fn g; refine (CallsIn.inRound l (callsIn_wide.2 (HOT.out _))).mono ?_; rintro e W3 ⟨rfl, rfl⟩) | (refine ⟨trivial, ?_⟩; gi_at_call 96; refine (CallsIn.inRound l (callsIn_wide.2 (add_any (w.heap.size + 1 + 1 + 1) pre.length (dmax 0 (pre.map Part.key)) 1 (x.path.length + 1) _ (HM.out.kept0 HK2.out).1 (by omega)))).mono ?_; rintro e W4 ⟨⟨v, rfl⟩, hm4, hk4⟩))
        have k4 := (HB2.out.kept0 HK2.out)
        refine ⟨(KpX.of_kept HK2.out).trans (KpX.of_keptF hk4 (fun x hx h => ?_)), ?_, (HBO.out.kept0 HK2.out).keptF hk4 (by simp), (HB1.out.kept0 HK2.out).keptF hk4 (by simp), ⟨?_, HM.out.2⟩, k4.keptF hk4 (by simp; omega)⟩
        · obtain rfl : x = w.heap.size + 1 + 1 + 1 := by simpa using hx
          exact h.elim HM.out.2 (fun (h : w.heap.size + 1 + 1 + 1 < w.heap.size) => by omega)
        · intro y hy
          rcases List.mem_append.1 hy with h | h
          · exact HQ1.out y h
          · rw [List.mem_singleton.1 h, hxq, hy']; rfl
        · rw [List.map_append, dmax_append, List.length_append]
          exact hm4
    · have hx' : formedB x.t = false := by simpa using hx
      rw [hx'] at HFO
      clear hx
      gi_wp2_with (refine ⟨trivial, ?_⟩; gi_at_call 95; refine (CallsIn.inRound l (callsIn_wide.2 HFO.out)).mono ?_; rintro e W2 ⟨rfl, hk2⟩; have hc2 := (HB1.out.kept0 hk2).1.cell; have hf2 := (HB1.out.kept0 hk2).1.frozen; have HK2 : Hid _ := hk2; clear hk2)
      refine ⟨fun _ h => (by cases h), ?_⟩
      gi_wp2
      exact ⟨(KpX.of_kept HK2.out).trans (KpX.setCell (fun h => h.elim HB1.out.2 (fun (h : w.heap.size + 1 + 1 < w.heap.size) => by omega)) _), rfl, ⟨pre, x, rfl, by simp [rightQ, hx']⟩, (HB1.out.kept0 HK2.out).set _, (HB2.out.kept0 HK2.out).set (by omega) _⟩
  case done =>
    rintro D X xs W hD hXD hS ⟨q1, ho, hb, hm, hB⟩ hK
    have hl : xs.length = t.size := by rw [← Tr.parts_length t [], ← hS, List.length_map]
    have hdp : dmax 0 (xs.map Part.key) = t.depth := by rw [hS, Tr.parts_depth]; simp
    have hr0 : (if decide (t.size ≤ 1000) && decide (t.depth ≤ 100) then 0 else 31) = r := by rw [← HR.out]; unfold rightN; rw [every_yes (q := rightQ ob) hS q1]; rfl
    rw [hl, hdp] at hm
    have HM : Hid _ := hm
    have HB1 : Hid (Bx1 (w.heap.size + 1 + 1) 36 (.int .i64 0) X W) := hb
    have HB2 : Hid (Bw w.heap.size w X W) := hB
    have HQ : Hid _ := hK
    have HFI : Hid _ := fits_any (w.heap.size + 1 + 1 + 1) t.size t.depth W hm.1 (by omega) (by omega)
    clear ho hb hm hB hS hK q1 hl hdp
    by_cases hfit : (decide (t.size ≤ 1000) && decide (t.depth ≤ 100)) = true
    · rw [hfit] at HFI hr0
      subst hr0
      gi_wp2_with (refine ⟨trivial, ?_⟩; gi_at_call 97; refine (callsIn_wide.2 HFI.out).mono ?_; rintro e W2 ⟨rfl, hk2⟩; have hc2 := (HB1.out.kept0 hk2).1.cell; have hf2 := (HB1.out.kept0 hk2).1.frozen; have HK2 : Hid _ := hk2; clear hk2)
      have hD' : (W2.setCell ⟨w.heap.size + 1 + 1, 0, none⟩ (.int .i64 0)).heap[D]? = some (.deferred (some [])) := (Below.heap_setCell _ _ _ _ (by show D ≠ w.heap.size + 1 + 1; omega)).trans (HK2.out.at HQ.out (by simp))
      exact leave1 rfl rfl ((HB1.out.kept0 HK2.out).1.set _) (fun _ => by rfl) hD' ⟨rfl, nil_or_eq hD' ((HB2.out.kept0 HK2.out).set (by omega) _).1 (by omega)⟩
    · have hfit' : (decide (t.size ≤ 1000) && decide (t.depth ≤ 100)) = false := by simpa using hfit
      rw [hfit'] at HFI hr0
      subst hr0
      clear hfit
      gi_wp2_with (refine ⟨trivial, ?_⟩; gi_at_call 97; refine (callsIn_wide.2 HFI.out).mono ?_; rintro e W2 ⟨rfl, hk2⟩; have hc2 := (HB1.out.kept0 hk2).1.cell; have hf2 := (HB1.out.kept0 hk2).1.frozen; have HK2 : Hid _ := hk2; clear hk2)
      have hD' : (W2.setCell ⟨w.heap.size + 1 + 1, 0, none⟩ (.int .i64 31)).heap[D]? = some (.deferred (some [])) := (Below.heap_setCell _ _ _ _ (by show D ≠ w.heap.size + 1 + 1; omega)).trans (HK2.out.at HQ.out (by simp))
      exact leave1 rfl rfl ((HB1.out.kept0 HK2.out).1.set _) (fun _ => by rfl) hD' ⟨rfl, nil_or_eq hD' ((HB2.out.kept0 HK2.out).set (by omega) _).1 (by omega)⟩
  case stop =>
    rintro D X c pre W hD _ hS ⟨rfl, ⟨pre', x, rfl, hx⟩, hb, hB⟩ hK
    have hr : 30 = r := by rw [← HR.out]; unfold rightN; rw [every_no hS hx]; rfl
    subst hr
    gi_wp2
    exact leave1 rfl rfl hb.1 (fun _ => by rfl) hK ⟨rfl, nil_or_eq hK hB.1 (by omega)⟩

set_option maxHeartbeats 400000 in
theorem right_any (t : Tr) (kv : Value) (w : World) (hI : IsF w t kv) (hs : t.size ≤ 1099511627776) (hd : t.depth ≤ 1099511627776) (hF : t.Fine) (hT : KidsTab w) :
    Calls Tryd.prog 19 #[.agg #[.int .u8 (t.op : Nat), .string t.name, kv]] w fun e w' => e = .returned (.int .i64 (rightN pastB t : Nat)) ∧ Kept [] w w' := by
  have hw := fun W (k : Kept [] w W) => within_any 50 pastB (enters_of Tryd.func50 (by kernel_rfl) rfl) isPast_any t kv W (hI.kept k) hs hd hF (hT.kept k)
  have HW : Hid _ := hw
  obtain ⟨kad, kcap, rfl⟩ := hI.slice
  clear hw hI hT hF
  go_enter Tryd.func19, Tryd.ntmps19
  go_wp2_with (go_at_call 49; refine (HW.out _ ((Kept.refl [] w).alloc _)).mono ?_; rintro e w' ⟨rfl, hk⟩)
  go_ret
  exact ⟨rfl, ((Kept.refl [] w).alloc _).trans hk (by simp) (by simp)⟩
end Go.Proofs.YtddgciilcghbaaaDoor
