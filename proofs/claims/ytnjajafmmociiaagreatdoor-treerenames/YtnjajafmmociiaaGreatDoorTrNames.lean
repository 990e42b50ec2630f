/- tree.Names. -/
import Derived.Test.YtnjajafmmociiaaGreatDoorTrWell
import Derived.Maps.OwnIn
import Derived.Maps.OwnSet
import Derived.Maps.Views
namespace Go.Proofs.YtnjajafmmociiaaGreatDoor
open Go.RowKit Go.Shelf Go.Maps
attribute [local go_sem] Oper.semAt_some

/-- The names of what has come, each once. -/
def addName (l : List ByteArray) (t : Tr) : List ByteArray := if t.op = 3 then (if l.any (fun s => s.data.toList == t.name.data.toList) then l else l ++ [t.name]) else l
def Tr.names (t : Tr) : List ByteArray := (t.parts []).foldl (fun l x => addName l x.2) []
def namesOf (l : List (List Nat × Tr)) : List ByteArray := l.foldl (fun l x => addName l x.2) []
theorem namesOf_snoc (l : List (List Nat × Tr)) (x : List Nat × Tr) : namesOf (l ++ [x]) = addName (namesOf l) x.2 := by simp [namesOf]
theorem addName_len (l : List ByteArray) (t : Tr) : (addName l t).length ≤ l.length + 1 := by
  unfold addName; split
  · split
    · omega
    · simp
  · omega
theorem namesOf_len (l : List (List Nat × Tr)) : (namesOf l).length ≤ l.length := by
  have key : ∀ (l : List (List Nat × Tr)) (a : List ByteArray), (l.foldl (fun l x => addName l x.2) a).length ≤ a.length + l.length := by
    intro l
    induction l with
    | nil => intro a; simp
    | cons x r ih =>
      intro a
      rw [List.foldl_cons, List.length_cons]
      have := ih (addName a x.2)
      have := addName_len a x.2
      omega
  simpa [namesOf] using key l []
def strs (l : List ByteArray) : List Value := l.map Value.string
theorem Tryz.infoStr : (Tryz.prog.info? 9).map (fun i => (i.zero, i.size, i.bytes)) = some (some (.string ⟨#[]⟩), 1, 16) := by kernel_rfl
theorem lawStr : Keyed Tryz.prog 9 := string_keyed Tryz.underlying9
theorem zeroUnit (w : World) : (zeroValue 110).run Tryz.prog w = .ok (.agg #[]) w := by kernel_rfl

/-- The caller's own: the names in their box, the set in its. -/
structure NmAt (n₀ Bv Bs Bm : Nat) (l : List ByteArray) (X : Nat → Prop) (W : World) : Prop where
  coll : ∃ v, Boxed W Bv 51 v ∧ W.ownsRow n₀ 9 1 v l.length (strs l) ∧ ∀ k, X k → v.ownBlock ≠ some k
  nv : ¬ X Bv
  seen : Bx1 Bs 105 (.map (some Bm)) X W
  map : ∃ D : DataW Unit, W.ownsMap Tryz.prog 9 unitElem Bm l.length D ∧ ∀ s : List UInt8, Maps.has D (.string s) = l.any (fun x => x.data.toList == s)
  nm : ¬ X Bm
theorem NmAt.lt {n₀ Bv Bs Bm : Nat} {l : List ByteArray} {X : Nat → Prop} {W : World} (h : NmAt n₀ Bv Bs Bm l X W) : Bm < W.heap.size := by
  obtain ⟨D, ⟨es, clock, hb, _⟩, _⟩ := h.map
  exact lt_of hb
theorem NmAt.more {n₀ Bv Bs Bm : Nat} {l : List ByteArray} {X X' : Nat → Prop} {W : World} (h : NmAt n₀ Bv Bs Bm l X W) (hX : ∀ k, X' k → X k ∨ W.heap.size ≤ k) : NmAt n₀ Bv Bs Bm l X' W := by
  obtain ⟨v, h1, h2, h3⟩ := h.coll
  have l1 := h1.lt
  have l2 := h.lt
  refine ⟨⟨v, h1, h2, fun k hk e => ?_⟩, fun hk => (hX _ hk).elim h.nv (by omega), h.seen.more hX, h.map, fun hk => (hX _ hk).elim h.nm (by omega)⟩
  rcases hX k hk with q | q
  · exact h3 k q e
  · have := (own_lt h2 e).2; omega
theorem row_turn {W W' : World} {n₀ : Nat} {e : TypeId} {size : Nat} {v : Value} {n : Nat} {xs : List Value} {row : Option Nat} (h : W.ownsRow n₀ e size v n xs) (hg : W.grownBy W' row) (hne : ∀ g, v.ownBlock = some g → row ≠ some g) : W'.ownsRow n₀ e size v n xs := by
  refine h.kept hg ?_
  rcases h.2 with ⟨rfl, _⟩ | ⟨g, cap, cur, rfl, _⟩
  · exact .inl rfl
  · exact .inr (fun q => hne g rfl q.symm)
theorem row_not_map {W : World} {n₀ : Nat} {e k : TypeId} {size : Nat} {v : Value} {n b m : Nat} {xs : List Value} {P : Program} {R : Value → Option (DataW Unit × List MemPlace)} {D : DataW Unit} (h : W.ownsRow n₀ e size v n xs) (hm : W.ownsMap P k R b m D) : ∀ g, v.ownBlock = some g → (some b : Option Nat) ≠ some g := by
  intro g he q
  cases q
  obtain ⟨es, cl, hb, _⟩ := hm
  rcases h.2 with ⟨rfl, _⟩ | ⟨g', cap', cur, rfl, _, hgb, _⟩
  · cases he
  · cases he; rw [hgb] at hb; cases hb
theorem NmAt.turn {n₀ Bv Bs Bm : Nat} {l : List ByteArray} {X : Nat → Prop} {W W' : World} {row : Option Nat} (h : NmAt n₀ Bv Bs Bm l X W) (hg : W.grownBy W' row) (hr : ∀ r, row = some r → X r) : NmAt n₀ Bv Bs Bm l X W' := by
  obtain ⟨v, h1, h2, h3⟩ := h.coll
  obtain ⟨D, m1, m2⟩ := h.map
  exact ⟨⟨v, h1.kept hg (fun e => h.nv (hr _ e.symm)), row_turn h2 hg (fun g e q => h3 g (hr g q) e), h3⟩, h.nv, h.seen.turn hg hr, ⟨D, m1.kept hg (fun e => h.nm (hr _ e.symm)), m2⟩, h.nm⟩
theorem NmAt.kept0 {n₀ Bv Bs Bm : Nat} {l : List ByteArray} {X : Nat → Prop} {W W' : World} (h : NmAt n₀ Bv Bs Bm l X W) (k : Kept [] W W') : NmAt n₀ Bv Bs Bm l X W' := h.turn (grownBy_of_kept k) (fun r e => by cases e)
theorem abide_nm {α : Type} (n₀ Bv Bs Bm : Nat) (l : List α → List ByteArray) : Abide (fun X (xs : List α) W => NmAt n₀ Bv Bs Bm (l xs) X W) := ⟨fun q hX => q.more hX, fun q hg hr => q.turn hg hr⟩

/-- One name more: into the set, and behind the list. -/
theorem NmAt.add {n₀ Bv Bs Bm gr cap : Nat} {l : List ByteArray} {X T : Nat → Prop} {w W w2 w3 : World} {s : ByteArray} {v : Value} {D : DataW Unit} {tmp : Obj} (h : NmAt n₀ Bv Bs Bm l X W) (hw : Bw n₀ w X W) (hT : ∀ k, T k → k < n₀) (hXl : ∀ k, X k → k < W.heap.size) (hb1 : n₀ ≤ Bv) (hb3 : n₀ ≤ Bm) (hne : Bv ≠ Bs) (hne2 : Bv ≠ Bm) (hne3 : Bs ≠ Bm)
    (hv : Boxed W Bv 51 v) (hrow : W.ownsRow n₀ 9 1 v l.length (strs l)) (hvX : ∀ k, X k → v.ownBlock ≠ some k) (hD : ∀ q : List UInt8, Maps.has D (.string q) = l.any (fun x => x.data.toList == q)) (hDm : Maps.IsMap D)
    (hm : w2.ownsMap Tryz.prog 9 unitElem Bm (l.length + 1) (D.put (.string s.data.toList) (.agg []))) (hg2 : W.grownBy w2 (some Bm))
    (hr : w3.ownsRow n₀ 9 1 (.slice (some ⟨gr, 0, none⟩) (l.length + 1) cap) (l.length + 1) (strs l ++ [.string s])) (hg3 : (w2.alloc tmp).grownBy w3 v.ownBlock) (hat : v.ownBlock = some gr ∨ gr = (w2.alloc tmp).heap.size) :
    Boxed w3 Bv 51 v ∧ NmAt n₀ Bv Bs Bm (l ++ [s]) X (w3.setCell ⟨Bv, 0, none⟩ (.slice (some ⟨gr, 0, none⟩) (l.length + 1) cap)) ∧ KpX (orT T X) W (w3.setCell ⟨Bv, 0, none⟩ (.slice (some ⟨gr, 0, none⟩) (l.length + 1) cap)) ∧ Bw n₀ w X (w3.setCell ⟨Bv, 0, none⟩ (.slice (some ⟨gr, 0, none⟩) (l.length + 1) cap)) := by
  have lm := h.lt
  have hlow : ∀ g, v.ownBlock = some g → n₀ ≤ g ∧ g < W.heap.size := fun g e => own_lt hrow e
  have hgm : ∀ g, v.ownBlock = some g → g ≠ Bm := by
    intro g e q
    subst q
    obtain ⟨D', ⟨es, clock, hb, _⟩, _⟩ := h.map
    rcases hrow.2 with ⟨rfl, _⟩ | ⟨g', cap', cur, rfl, _, hgb, _⟩
    · cases e
    · cases e; rw [hgb] at hb; cases hb
  have z2 := hg2.size
  have z3 := hg3.size
  have za : (w2.alloc tmp).heap.size = w2.heap.size + 1 := by simp
  have hv2 : Boxed w2 Bv 51 v := hv.kept hg2 (by simp; exact hne2)
  have hv3 : Boxed w3 Bv 51 v := (hv2.alloc tmp).kept hg3 (hv.not_row (by decide) hrow)
  have hs2 : Boxed w2 Bs _ _ := h.seen.1.kept hg2 (by simp; exact hne3)
  have hs3 : Boxed w3 Bs _ _ := (hs2.alloc tmp).kept hg3 (h.seen.1.not_row (by decide) hrow)
  have hm3 := (hm.alloc tmp).kept hg3 (fun e => hgm Bm e.symm rfl)
  refine ⟨hv3, ⟨⟨_, hv3.set _, ?_, ?_⟩, h.nv, ⟨box_other hs3 hne.symm, h.seen.2⟩, ⟨D.put (.string s.data.toList) (.agg []), ?_, ?_⟩, h.nm⟩, ?_, ?_⟩
  · have := own_set hr hv3 (by decide) (.slice (some ⟨gr, 0, none⟩) (l.length + 1) cap)
    rw [List.length_append, show strs (l ++ [s]) = strs l ++ [.string s] from by simp [strs]]
    exact this
  · intro k hk e
    obtain rfl : gr = k := by simpa [Value.ownBlock] using e
    rcases hat with q | q
    · exact hvX _ hk q
    · have := hXl _ hk; omega
  · rw [List.length_append]
    exact hm3.setCell (a := ⟨Bv, 0, none⟩) (fun e => hne2 e.symm) _
  · intro q
    rw [List.any_append]
    by_cases e : q = s.data.toList
    · subst e; rw [Maps.has_put_same hDm (by trivial)]; simp
    · rw [Maps.has_put_other (fun h => e (by cases h; rfl)), hD q]
      have : (s.data.toList == q) = false := by rw [beq_eq_false_iff_ne]; exact fun h => e h.symm
      simp [this]
  · refine (KpX.grown hg2 (fun r e hr => ?_)).trans ((KpX.of_kept ((Kept.refl [] w2).alloc tmp)).trans ((KpX.grown hg3 (fun r e hr => ?_)).trans (KpX.setCell (fun hr => ?_) _)))
    · cases e
      exact hr.elim h.nm (fun q => by have := hT _ q; omega)
    · exact hr.elim (fun q => hvX r q e) (fun q => by have := hT _ q; have := (hlow r e).1; omega)
    · exact hr.elim h.nv (fun q => by have q' : Bv < n₀ := hT _ q; omega)
  · refine Bw.set ?_ hb1 _
    have b2 : Below n₀ w w2 := hw.1.grown hg2 hw.2.1 (fun k e => by cases e; exact hb3)
    have b3 : Below n₀ w (w2.alloc tmp) := b2.alloc (Nat.le_trans hw.2.1 z2) _
    exact ⟨b3.grown hg3 (Nat.le_trans (Nat.le_trans hw.2.1 z2) (by omega)) (fun k e => (hlow k e).1), Nat.le_trans hw.2.1 (by omega), hw.2.2⟩

set_option maxHeartbeats 1000000 in
set_option maxRecDepth 20000 in
theorem names_any (t : Tr) (kv : Value) (w : World) (hI : IsF w t kv) (hs : t.size ≤ 1099511627776) (hF : t.Fine) :
    Calls Tryz.prog 23 #[.agg #[.int .u8 (t.op : Nat), .string t.name, kv]] w fun e w' => ∃ v, e = .returned v ∧ w'.ownsRow w.heap.size 9 1 v t.names.length (strs t.names) ∧ Kept [] w w' := by
  have hmm := @run_makeMap Tryz.prog
  obtain ⟨kad, kcap, rfl⟩ := hI.slice
  have HF : Hid t.Fine := hF
  have HI : Hid (IsF w t (.slice kad t.kids.length kcap)) := hI
  clear hI hF
  refine (callsIn_wide (n := 9)).1 ?_
  refine callsIn_of_wp_marks Tryz.func23 rfl trivial ?_ rfl
  simp only [Tryz.ntmps23, List.size_toArray, List.length_cons, List.length_nil, Nat.reduceAdd, Nat.reduceSub, Array.replicate_succ, Array.replicate_zero, List.push_toArray, List.append_toArray, List.nil_append, List.cons_append]
  gi_wp2_with (refine ⟨trivial, ?_⟩; gi_at_call 73; refine (callsIn_wide.2 (parts_any t _ _)).mono ?_; rintro e V ⟨rfl, rfl⟩)
  obtain ⟨V, hV⟩ : ∃ V, ((((w.alloc (.cells #[.int .u8 (t.op : Nat), .string t.name, .slice kad t.kids.length kcap] 25)).alloc (.cells #[.slice none 0 0] 51)).alloc (.map #[] 0)).alloc (.cells #[.map (some (w.heap.size + 1 + 1))] 105)).alloc (.cells #[.int .u8 (t.op : Nat), .string t.name, .slice kad t.kids.length kcap] 25) = V := ⟨_, rfl⟩
  have kV : Kept [] w V := by rw [← hV]; exact (((((Kept.refl [] w).alloc _).alloc _).alloc _).alloc _).alloc _
  have zV : V.heap.size = w.heap.size + 5 := by rw [← hV]; simp
  have v1 : Boxed V (w.heap.size + 1) 51 (.slice none 0 0) := by rw [← hV]; exact alUp (alUp (alUp (al1 _ _ _) _) _) _
  have v2 : V.ownsMap Tryz.prog 9 unitElem (w.heap.size + 1 + 1) 0 (.map [] : DataW Unit) := by
    rw [← hV]
    have := World.ownsMap_made (H := Unit) ((w.alloc (.cells #[.int .u8 (t.op : Nat), .string t.name, .slice kad t.kids.length kcap] 25)).alloc (.cells #[.slice none 0 0] 51)) Tryz.prog 9 unitElem
    rw [World.size_alloc, World.size_alloc] at this
    exact (this.alloc _).alloc _
  have v3 : Boxed V (w.heap.size + 1 + 1 + 1) 105 (.map (some (w.heap.size + 1 + 1))) := by rw [← hV]; exact alUp (al3 _ _ _ _ _) _
  have v4 : V.heap[w.heap.size + 1 + 1 + 1 + 1]? = some (.cells #[.int .u8 (t.op : Nat), .string t.name, .slice kad t.kids.length kcap] 25 (0, 0)) := by rw [← hV]; exact al4 _ _ _ _ _ _
  rw [hV]
  clear hV hmm
  refine rangePart rfl (by omega) (gf := 100) (lb := #[.pointer (some ⟨w.heap.size + 1 + 1 + 1 + 1, 0, none⟩)]) rfl trivial (enters_of Tryz.func100 (by kernel_rfl) rfl)
    (parts_goes (9 - 1) (w.heap.size + 1 + 1 + 1 + 1) (fun k => k < w.heap.size) t kad kcap V ⟨v4, IsT.cells (fun _ h => h) (fun _ _ _ _ c => cell_kept0 kV c) HI.out, fun k h => by omega⟩ hs) (partAt_kept _ _) (fun k h => by omega) (fun k h => by omega) (fun _ => rfl)
    (fun X pre W => NmAt w.heap.size (w.heap.size + 1) (w.heap.size + 1 + 1 + 1) (w.heap.size + 1 + 1) (namesOf (pre.map Part.key)) X W ∧ Bw w.heap.size w X W) (fun _ _ _ _ => False)
    (abide_and (abide_nm _ _ _ _ (fun pre : List Part => namesOf (pre.map Part.key))) (abide_bw _ _)) (fun _ => ⟨fun h _ => h, fun h _ _ => h⟩)
    ⟨⟨⟨_, v1, World.ownsRow_nil _ _ _ _, fun k _ h => by cases h⟩, by omega, ⟨v3, by omega⟩, ⟨_, v2, fun s => rfl⟩, by omega⟩, kV.below, kV.size, fun k h => by omega⟩ ?a1 ?assign ?body ?done ?stop
  case assign =>
    intro l x W Bx K hBx hK
    dsimp only [partV]
    dsimp only [partC] at hK
    gi_wp2
    exact hK
  case body =>
    rintro l X pre x Bx W _ _ hXb ⟨hN, hB⟩ hBx hrow hat hlt
    dsimp only [partC] at hrow
    have t0 : W.cell? ⟨Bx, 0, none⟩ = some (.int .u8 (x.t.op : Nat)) := (cell_of hrow 0).trans rfl
    have t1 : W.cell? ⟨Bx, 1, none⟩ = some (.string x.t.name) := (cell_of hrow 1).trans rfl
    have lx := lt_of hrow
    have hfx := HF.out.part hat.mem
    obtain ⟨ns, hns⟩ : ∃ ns, namesOf (pre.map Part.key) = ns := ⟨_, rfl⟩
    have hnl : ns.length ≤ pre.length := by rw [← hns]; have := namesOf_len (pre.map Part.key); simpa using this
    have HNX : Hid (namesOf ((pre ++ [x]).map Part.key) = addName ns x.t) := by show namesOf _ = _; rw [List.map_append, List.map_singleton, namesOf_snoc, hns]; rfl
    rw [hns] at hN
    have HN : Hid (NmAt w.heap.size (w.heap.size + 1) (w.heap.size + 1 + 1 + 1) (w.heap.size + 1 + 1) ns X W) := hN
    have HB2 : Hid (Bw w.heap.size w X W) := hB
    have hnx : ns.length ≤ 1099511627776 := by omega
    clear hN hB hns hat hrow
    by_cases h3 : x.t.op = 3
    · have hb3 : ((x.t.op : Int) != 3) = false := by rw [bne_eq_false_iff_eq]; omega
      have H3 : Hid _ := h3
      obtain ⟨D, m1, m2⟩ := HN.out.map
      obtain ⟨v, c1, c2, c3⟩ := HN.out.coll
      have hcs := HN.out.seen.1.cell
      have hkey : keyOf Tryz.prog 9 (.string x.t.name) = some (.string x.t.name.data.toList) := WideMaps.keyOf_string_mk Tryz.underlying9 hfx.2
      have HKEY : Hid _ := hkey
      have HM1 : Hid _ := m1
      have HDM : Hid (Maps.IsMap D) := m1.isMap
      have hq := m2 x.t.name.data.toList
      have HM2 : Hid _ := m2
      have n1 : ¬ w.heap.size + 1 + 1 + 1 = W.heap.size := by have := HN.out.seen.1.lt; omega
      have n2 : ¬ W.heap.size = w.heap.size + 1 + 1 + 1 := by omega
      have n3 : ¬ Bx = W.heap.size := by omega
      have n4 : ¬ W.heap.size = Bx := by omega
      clear h3 hkey m1 m2 hfx
      cases hh : Maps.has D (.string x.t.name.data.toList) with
      | true =>
        have HA : Hid (addName ns x.t = ns) := by show addName ns x.t = ns; unfold addName; rw [if_pos H3.out, ← hq, hh]; rfl
        clear hq
        gi_wp2_with (gi_at_lookup; refine wpListIn_lookup_own_unit _ rfl _ _ 105 rfl 9 110 lawStr Tryz.underlying105 (zeroUnit _) (w.heap.size + 1 + 1) _ D rfl HM1.out _ _ rfl HKEY.out ?_; rw [hh])
        have k1 : Kept [] W (W.alloc (.cells #[] 110)) := (Kept.refl [] W).alloc _
        exact ⟨KpX.of_kept k1, by rw [HNX.out, HA.out]; exact HN.out.kept0 k1, HB2.out.kept0 k1⟩
      | false =>
        have HA : Hid (addName ns x.t = ns ++ [x.t.name]) := by show addName ns x.t = _; unfold addName; rw [if_pos H3.out, ← hq, hh]; rfl
        obtain ⟨W1, hW1⟩ : ∃ W1, W.alloc (.cells #[] 110) = W1 := ⟨_, rfl⟩
        have k1 : Kept [] W W1 := by rw [← hW1]; exact (Kept.refl [] W).alloc _
        have HW1 : Hid _ := hW1
        have HN1 : Hid (NmAt w.heap.size (w.heap.size + 1) (w.heap.size + 1 + 1 + 1) (w.heap.size + 1 + 1) ns X W1) := HN.out.kept0 k1
        have HB1 : Hid (Bw w.heap.size w X W1) := HB2.out.kept0 k1
        have HC1 : Hid (Boxed W1 (w.heap.size + 1) 51 v) := k1.at c1 (by simp)
        have HC2 : Hid (W1.ownsRow w.heap.size 9 1 v ns.length (strs ns)) := row_kept0 c2 k1
        have HC3 : Hid (∀ k, X k → v.ownBlock ≠ some k) := c3
        have HMW : Hid (W1.ownsMap Tryz.prog 9 unitElem (w.heap.size + 1 + 1) ns.length D) := by show W1.ownsMap _ _ _ _ _ _; rw [← hW1]; exact World.ownsMap.alloc HM1.out _
        have HK1 : Hid (Kept [] W W1) := k1
        have hXW : ∀ k, X k → k < W1.heap.size := fun k h => Nat.lt_of_lt_of_le (hXb k h) k1.size
        have HXW : Hid _ := hXW
        obtain ⟨vad, vcap, rfl⟩ : ∃ ad cap, v = .slice ad ns.length cap := by
          rcases c2.2 with ⟨rfl, h0⟩ | ⟨g, cap, cur, rfl, _⟩
          · exact ⟨none, 0, by rw [h0]⟩
          · exact ⟨_, _, rfl⟩
        have u1 : W1.cell? ⟨Bx, 1, none⟩ = some (.string x.t.name) := cell_kept0 k1 t1
        have us : W1.cell? ⟨w.heap.size + 1 + 1 + 1, 0, none⟩ = some (.map (some (w.heap.size + 1 + 1))) := cell_kept0 k1 hcs
        have g1 := fun o => cell_kept0 ((Kept.refl [] W).alloc o) t1
        have gs := fun o => cell_kept0 ((Kept.refl [] W).alloc o) hcs
        have lb1 : Bx < W1.heap.size := Nat.lt_of_lt_of_le lx k1.size
        obtain ⟨i0, hi0, hz0, hz1, hz2⟩ := info_parts Tryz.infoStr
        have HI0 : Hid _ := hi0
        have HIN : Hid _ := hz0
        have HIS : Hid _ := hz1
        have HIB : Hid _ := hz2
        clear hq c1 c2 c3 k1 hXW hi0 hz0 hz1 hz2 hW1
        gi_wp2_with (first
          | (gi_at_lookup; refine wpListIn_lookup_own_unit _ rfl _ _ 105 rfl 9 110 lawStr Tryz.underlying105 (zeroUnit _) (w.heap.size + 1 + 1) _ D rfl HM1.out _ _ rfl HKEY.out ?_; rw [hh])
          | (gi_at_mapUpdate; rw [HW1.out]; refine wpListIn_mapUpdate_own _ rfl _ _ _ 105 rfl 9 110 lawStr Tryz.underlying105 unitElem (w.heap.size + 1 + 1) ns.length D rfl HMW.out (by unfold maxLen; omega) _ _ _ rfl rfl HKEY.out (.agg []) [] unitElem_mk ?_; intro w2 hown2 hg2; have cb2 : w2.cell? ⟨w.heap.size + 1, 0, none⟩ = some (.slice vad ns.length vcap) := Boxed.cell (HC1.out.kept hg2 (by simp)); have u2 : w2.cell? ⟨Bx, 1, none⟩ = some (.string x.t.name) := (World.cell?_of_block (w := W1) (a := ⟨Bx, 1, none⟩) (hg2.block Bx lb1 (by simp; omega))).trans u1; have lb2 : Bx < w2.heap.size := (Nat.lt_of_lt_of_le lb1 hg2.size); have HR2 : Hid (w2.ownsRow w.heap.size 9 1 (.slice vad ns.length vcap) ns.length (strs ns)) := row_turn HC2.out hg2 (row_not_map HC2.out HMW.out); have HO2 : Hid _ := hown2; have HG2 : Hid _ := hg2; have hz2' := hg2.size; have hzw := HB1.out.2.1; clear hown2 hg2)
          | (gi_at_builtin; refine append_in _ rfl _ _ 51 rfl w.heap.size 9 i0 _ 1 16 Tryz.underlying51 HI0.out HIN.out HIS.out HIB.out rfl (by decide) _ _ _ rfl (HR2.out.alloc _) ⟨w2.heap.size, 0, none⟩ 1 1 [.string x.t.name] rfl rfl (World.news_of_block (cs := #[.string x.t.name]) (t := 9) (fr := (0, 0)) (heap_alloc_new w2 _)) (by simp [Value.oneCell']) (by omega) (by unfold maxLen; omega) (by omega) (by simp; omega) ?_; intro gr cap w3 hown' hgrow hat; have hadd := NmAt.add (T := fun k => k < w.heap.size) HN1.out HB1.out (fun k h => h) HXW.out (by omega) (by omega) (by omega) (by omega) (by omega) HC1.out HC2.out HC3.out HM2.out HDM.out HO2.out HG2.out hown' hgrow hat; obtain ⟨hv3, hA, hK, hW⟩ := hadd; have c3 := hv3.cell; have f3 := hv3.frozen; have HA3 : Hid _ := hA; have HK3 : Hid _ := hK; have HW3 : Hid _ := hW; clear hown' hgrow hat hv3 hA hK hW))
        exact ⟨(KpX.of_kept HK1.out).trans HK3.out, by rw [HNX.out, HA.out]; exact HA3.out, HW3.out⟩
    · have hb3 : ((x.t.op : Int) != 3) = true := by rw [bne_iff_ne]; omega
      have HA : Hid (addName ns x.t = ns) := by show addName ns x.t = ns; unfold addName; rw [if_neg h3]
      clear h3
      gi_wp2
      exact ⟨KpX.refl _ _, by rw [HNX.out, HA.out]; exact HN.out, HB2.out⟩
  case done =>
    rintro D X xs W hD hXD hS ⟨hN, hB⟩ hK
    rw [hS] at hN
    obtain ⟨v, c1, c2, c3⟩ := hN.coll
    have hc := c1.cell
    have HB2 : Hid (Bw w.heap.size w X W) := hB
    have HQ : Hid _ := hK
    have HC2 : Hid _ := c2
    clear hN hB hS hK c1 c2 c3
    gi_wp2
    refine ⟨by simp, .inl ⟨_, _, rfl, run_takeDeferred HQ.out, ?_⟩⟩
    exact ⟨_, results_tmp rfl _ _ _, v, rfl, ownsRow_putObj HC2.out _ HQ.out rfl, nil_or_eq HQ.out HB2.out.1 (by omega)⟩
  case stop =>
    rintro D X c pre W _ _ _ h _
    exact h.elim
end Go.Proofs.YtnjajafmmociiaaGreatDoor
