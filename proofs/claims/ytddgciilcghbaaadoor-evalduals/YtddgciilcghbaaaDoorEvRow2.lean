/- A table in memory: what it knows, and what a step of it keeps. No walk here. -/
import Derived.Test.YtddgciilcghbaaaDoorEvFound
import Derived.Test.YtddgciilcghbaaaDoorEvText
import Derived.Test.YtddgciilcghbaaaDoorTrWeight
import Derived.Deep.RegionLaw
namespace Go.Proofs.YtddgciilcghbaaaDoor
open Go.RowKit Go.Shelf Go.Maps

/-- What the map tells of texts. -/
structure KnownOf (known : List Tr) (D : DataW Unit) : Prop where
  map : Maps.IsMap D
  size : Maps.size D = known.length
  good : ∀ t ∈ known, t.Good
  has : ∀ l : List UInt8, Maps.has D (.string l) = known.any (fun s => s.text == l)
  at' : ∀ (l : List UInt8) (i : Nat), known.findIdx? (fun s => s.text == l) = some i → D.atKey (.string l) (.lit (.int .i64 0)) = .lit (.int .i64 (i : Nat))
theorem KnownOf.nil : KnownOf [] (.map [] : DataW Unit) := ⟨⟨_, rfl⟩, rfl, by simp, fun _ => rfl, fun r i h => by simp at h⟩
theorem KnownOf.add {known : List Tr} {D : DataW Unit} (h : KnownOf known D) {t : Tr} (hg : t.Good) (hno : known.findIdx? (fun s => s.text == t.text) = none) (ht : Maps.Tidy D) : KnownOf (known ++ [t]) (D.put (.string t.text) (.lit (.int .i64 (known.length : Nat)))) := by
  have hk : ∀ l : List UInt8, l ≠ t.text → Lit.string l ≠ Lit.string t.text := fun l hne e => hne (Lit.string.inj e)
  refine ⟨h.map.put _ _, ?_, ?_, fun l => ?_, fun l i hi => ?_⟩
  · have hf : Maps.has D (.string t.text) = false := by
      rw [h.has, List.any_eq_false]
      exact fun x hx => by have := List.findIdx?_eq_none_iff.1 hno x hx; simpa using this
    rw [Maps.size_put ht, hf, h.size]; simp
  · intro s hs
    rcases List.mem_append.1 hs with e | e
    · exact h.good s e
    · rw [List.mem_singleton.1 e]; exact hg
  · rw [List.any_append]
    by_cases e : l = t.text
    · subst e
      rw [Maps.has_put_same h.map (by trivial)]
      simp
    · rw [Maps.has_put_other (hk l e), h.has l]
      have : (t.text == l) = false := by rw [beq_eq_false_iff_ne]; exact fun q => e q.symm
      simp [this]
  · rw [List.findIdx?_append] at hi
    by_cases e : l = t.text
    · subst e
      rw [hno] at hi
      simp [List.findIdx?_cons] at hi
      subst hi
      exact Maps.atKey_put_same h.map (by trivial) _ _
    · rw [Maps.atKey_put_other (hk l e)]
      have : (t.text == l) = false := by rw [beq_eq_false_iff_ne]; exact fun q => e q.symm
      cases hh : known.findIdx? (fun s => s.text == l) with
      | some j => rw [hh] at hi; simp at hi; subst hi; exact h.at' l j hh
      | none => rw [hh] at hi; simp [List.findIdx?_cons, this] at hi
/-- What is found is the formula itself. -/
theorem KnownOf.found {known : List Tr} {D : DataW Unit} (h : KnownOf known D) {t : Tr} (hg : t.Good) {i : Nat} (hi : known.findIdx? (fun s => s.text == t.text) = some i) : ∃ hl : i < known.length, known[i] = t := by
  obtain ⟨h1, h2, _⟩ := List.findIdx?_eq_some_iff_getElem.1 hi
  exact ⟨h1, text_inj (h.good _ (List.getElem_mem _)) hg (by simpa using h2)⟩

theorem Kept.at' {F : List Nat} {w w' : World} (h : Kept F w w') {b : Nat} {o : Obj} (hb : w.heap[b]? = some o) (hn : b ∉ F) : w'.heap[b]? = some o := h.at hb hn
theorem RowB.keptF {F : List Nat} {W W' : World} {b n : Nat} {r : Nat → Bool} (h : RowB W b n r) (k : Kept F W W') (hn : b ∉ F) : RowB W' b n r := by
  obtain ⟨cur, h1, h2, h3⟩ := h
  exact ⟨cur, k.at h1 hn, h2, h3⟩
/-- The rows that are known. -/
def RowsAre (w : World) (n₀ : Nat) (rv : Value) (q : Wd) (names : List ByteArray) (known : List Tr) (vs : List Value) : Prop :=
  w.ownsRow n₀ 35 1 rv known.length vs ∧ ∀ i (_ : i < known.length), ∃ b, vs[i]? = some (.slice (some ⟨b, 0, none⟩) q.len q.len) ∧ RowB w b q.len (rowT q names known[i])
/-- What a step of a table may turn. -/
def FR (p m : Nat) (rv : Value) : List Nat := p :: m :: rv.ownBlock.toList
structure TabIs (w₁ w : World) (p m : Nat) (nv sv lv rv : Value) (q : Wd) (names : List ByteArray) (known : List Tr) : Prop where
  word : IsW w₁ sv lv q
  nms : Strs w₁ nv names
  mapb : ∃ es c, w₁.heap[m]? = some (.map es c)
  kept : Kept [m] w₁ w
  low : w₁.heap.size ≤ p
  tab : Tab5 w p nv sv lv rv (.map (some m))
  rows : ∃ vs, RowsAre w w₁.heap.size rv q names known vs
  map : ∃ D : DataW Unit, w.ownsMap Tryd.prog 9 (plainElem Tryd.prog 3) m known.length D ∧ KnownOf known D

theorem cell_keptM {w₁ w : World} {m : Nat} (hm : ∃ es c, w₁.heap[m]? = some (.map es c)) (k : Kept [m] w₁ w) {b o : Nat} {v : Value} (h : w₁.cell? ⟨b, o, none⟩ = some v) : w.cell? ⟨b, o, none⟩ = some v := by
  refine (World.cell?_of_block (w := w₁) (a := ⟨b, o, none⟩) (k.block b (World.block_lt_of_cell? w₁ _ h) ?_)).trans h
  intro hb
  obtain rfl : b = m := by simpa using hb
  obtain ⟨es, c, hm⟩ := hm
  simp [World.cell?, hm] at h
theorem IsW.keptM {w₁ w : World} {m : Nat} {sv lv : Value} {q : Wd} (h : IsW w₁ sv lv q) (hm : ∃ es c, w₁.heap[m]? = some (.map es c)) (k : Kept [m] w₁ w) : IsW w sv lv q := by
  have key : ∀ {v : Value} {xs : List Nat}, Lets w₁ v xs → Lets w v xs := fun h => by
    refine ⟨h.small, h.few, ?_⟩
    rcases h.lie with h1 | ⟨b, o, c, h1, h2, h3, h4⟩
    · exact .inl h1
    · exact .inr ⟨b, o, c, h1, h2, h3, fun i hi => cell_keptM hm k (h4 i hi)⟩
  exact ⟨key h.st, key h.lp, h.few⟩
theorem Strs.keptM {w₁ w : World} {m : Nat} {v : Value} {xs : List ByteArray} (h : Strs w₁ v xs) (hm : ∃ es c, w₁.heap[m]? = some (.map es c)) (k : Kept [m] w₁ w) : Strs w v xs := by
  refine ⟨h.few, h.small, ?_⟩
  rcases h.lie with h1 | ⟨b, o, c, h1, h2, h3, h4⟩
  · exact .inl h1
  · exact .inr ⟨b, o, c, h1, h2, h3, fun i hi => cell_keptM hm k (h4 i hi)⟩

section
variable {w₁ w w' : World} {p m : Nat} {nv sv lv rv : Value} {q : Wd} {names : List ByteArray} {known : List Tr}
theorem TabIs.isW (h : TabIs w₁ w p m nv sv lv rv q names known) : IsW w sv lv q := h.word.keptM h.mapb h.kept
theorem TabIs.strs (h : TabIs w₁ w p m nv sv lv rv q names known) : Strs w nv names := h.nms.keptM h.mapb h.kept
theorem TabIs.mAt (h : TabIs w₁ w p m nv sv lv rv q names known) : ∃ es c, w.heap[m]? = some (.map es c) := by
  obtain ⟨D, ⟨es, c, hb, _⟩, _⟩ := h.map
  exact ⟨es, c, hb⟩
theorem TabIs.mlt (h : TabIs w₁ w p m nv sv lv rv q names known) : m < w.heap.size := by
  obtain ⟨es, c, hb⟩ := h.mAt
  exact lt_of hb
/-- A block of another kind is left. -/
theorem TabIs.notin (h : TabIs w₁ w p m nv sv lv rv q names known) {b : Nat} {cs : Array Value} {T : TypeId} (hb : w.heap[b]? = some (.cells cs T (0, 0))) (h1 : T ≠ 103) (h2 : T ≠ 35) : b ∉ FR p m rv := by
  intro hin
  rcases List.mem_cons.1 hin with e | hin
  · subst e
    have := h.tab
    unfold Tab5 at this
    rw [hb] at this
    cases this
    exact h1 rfl
  · rcases List.mem_cons.1 hin with e | hin
    · subst e
      obtain ⟨es, c, hm⟩ := h.mAt
      rw [hb] at hm; cases hm
    · obtain ⟨vs, ho, _⟩ := h.rows
      rcases ho.2 with ⟨rfl, _⟩ | ⟨g, cap, cur, rfl, _, hgb, _⟩
      · simp [Value.ownBlock] at hin
      · obtain rfl : b = g := by simpa [Value.ownBlock] using hin
        rw [hb] at hgb
        cases hgb
        exact h2 rfl
theorem TabIs.rowNot (h : TabIs w₁ w p m nv sv lv rv q names known) {b n : Nat} {r : Nat → Bool} (hb : RowB w b n r) : b ∉ FR p m rv := by
  obtain ⟨cur, h1, _⟩ := hb
  exact h.notin h1 (by decide) (by decide)
theorem TabIs.plt (h : TabIs w₁ w p m nv sv lv rv q names known) : p < w.heap.size := lt_of h.tab
theorem TabIs.glt (h : TabIs w₁ w p m nv sv lv rv q names known) {g : Nat} (e : rv.ownBlock = some g) : w₁.heap.size ≤ g ∧ g < w.heap.size := by
  obtain ⟨vs, ho, _⟩ := h.rows
  exact own_lt ho e
theorem FR_lt (h : TabIs w₁ w p m nv sv lv rv q names known) {k : Nat} (hk : k ∈ FR p m rv) : k < w.heap.size := by
  rcases List.mem_cons.1 hk with e | hk
  · rw [e]; exact h.plt
  · rcases List.mem_cons.1 hk with e | hk
    · rw [e]; exact h.mlt
    · exact (h.glt (by simpa using hk)).2
theorem row_keptF0 {n₀ : Nat} {e : TypeId} {v : Value} {n : Nat} {xs : List Value} (h : w.ownsRow n₀ e 1 v n xs) (k : Kept [] w w') : w'.ownsRow n₀ e 1 v n xs := row_turn h (grownBy_of_kept k) (fun g _ q => by cases q)
theorem TabIs.keep0 (h : TabIs w₁ w p m nv sv lv rv q names known) (k : Kept [] w w') : TabIs w₁ w' p m nv sv lv rv q names known := by
  obtain ⟨vs, ho, hr⟩ := h.rows
  obtain ⟨D, hm, hD⟩ := h.map
  refine ⟨h.word, h.nms, h.mapb, h.kept.trans k (by simp) (by simp), h.low, h.tab.kept k, ⟨vs, row_keptF0 ho k, fun i hi => ?_⟩, ⟨D, hm.kept (grownBy_of_kept k) (by simp), hD⟩⟩
  obtain ⟨b, h1, h2⟩ := hr i hi
  exact ⟨b, h1, h2.kept k⟩
/-- One formula more. -/
theorem TabIs.add {w2 w3 : World} {t : Tr} {D : DataW Unit} {vs : List Value} {tmp : Obj} {b gr cap : Nat} (h : TabIs w₁ w p m nv sv lv rv q names known) (hg : t.Good) (hno : known.findIdx? (fun s => s.text == t.text) = none) (hr : RowB w b q.len (rowT q names t))
    (hm : w.ownsMap Tryd.prog 9 (plainElem Tryd.prog 3) m known.length D) (hD : KnownOf known D) (hvs : RowsAre w w₁.heap.size rv q names known vs)
    (hm2 : w2.ownsMap Tryd.prog 9 (plainElem Tryd.prog 3) m (known.length + 1) (D.put (.string t.text) (.lit (.int .i64 (known.length : Nat))))) (hg2 : w.grownBy w2 (some m))
    (hr3 : w3.ownsRow w₁.heap.size 35 1 (.slice (some ⟨gr, 0, none⟩) (known.length + 1) cap) (known.length + 1) (vs ++ [.slice (some ⟨b, 0, none⟩) q.len q.len])) (hg3 : (w2.alloc tmp).grownBy w3 rv.ownBlock) (hat : rv.ownBlock = some gr ∨ gr = (w2.alloc tmp).heap.size) :
    Tab5 w3 p nv sv lv rv (.map (some m)) ∧ TabIs w₁ (w3.setCell ⟨p, 3, none⟩ (.slice (some ⟨gr, 0, none⟩) (known.length + 1) cap)) p m nv sv lv (.slice (some ⟨gr, 0, none⟩) (known.length + 1) cap) q names (known ++ [t]) ∧ Kept (FR p m rv) w (w3.setCell ⟨p, 3, none⟩ (.slice (some ⟨gr, 0, none⟩) (known.length + 1) cap)) := by
  have z2 := hg2.size
  have za : (w2.alloc tmp).heap.size = w2.heap.size + 1 := by simp
  have z3 := hg3.size
  have lp := h.plt
  have lm := h.mlt
  have hpm : p ≠ m := by
    rintro rfl
    obtain ⟨es, c, hb⟩ := h.mAt
    have := h.tab
    unfold Tab5 at this
    rw [hb] at this; cases this
  have hpg : ∀ g, rv.ownBlock = some g → p ≠ g := by
    rintro g e rfl
    rcases hvs.1.2 with ⟨rfl, _⟩ | ⟨g', cap', cur, rfl, _, hgb, _⟩
    · cases e
    · cases e
      have := h.tab
      unfold Tab5 at this
      rw [hgb] at this; cases this
  have hmg : ∀ g, rv.ownBlock = some g → m ≠ g := by
    rintro g e rfl
    rcases hvs.1.2 with ⟨rfl, _⟩ | ⟨g', cap', cur, rfl, _, hgb, _⟩
    · cases e
    · cases e
      obtain ⟨es, c, hb⟩ := h.mAt
      rw [hgb] at hb; cases hb
  have hpr : p ≠ gr := by
    rcases hat with e | e
    · exact hpg gr e
    · omega
  have k2 : Kept [m] w w2 := (Kept.refl [m] w).grown hg2 (fun k e => by cases e; simp)
  have k3 : Kept (FR p m rv) w w3 := by
    refine (Kept.trans (H := FR p m rv) (k2.alloc tmp) ((Kept.refl rv.ownBlock.toList _).grown hg3 (fun k e => by rw [e]; simp)) (fun x hx => ?_) (fun x hx => ?_))
    · simp only [List.mem_singleton] at hx; subst hx; simp [FR]
    · exact .inl (by unfold FR; exact List.mem_cons_of_mem _ (List.mem_cons_of_mem _ hx))
  have k5 : Kept (FR p m rv) w (w3.setCell ⟨p, 3, none⟩ (.slice (some ⟨gr, 0, none⟩) (known.length + 1) cap)) := k3.setCell (p := ⟨p, 3, none⟩) (.inl (by simp [FR])) _
  have t2 : Tab5 w2 p nv sv lv rv (.map (some m)) := k2.at h.tab (by simpa using hpm)
  have t3 : Tab5 w3 p nv sv lv rv (.map (some m)) := (hg3.block p (by omega) (fun e => hpg p e.symm rfl)).trans (alUp t2 tmp)
  refine ⟨t3, ⟨h.word, h.nms, h.mapb, ?_, h.low, ?_, ⟨vs ++ [.slice (some ⟨b, 0, none⟩) q.len q.len], ?_, fun i hi => ?_⟩, ⟨_, ?_, hD.add hg hno (hm.tidy lawStr)⟩⟩, k5⟩
  · refine h.kept.trans k5 (fun x hx => hx) (fun x hx => ?_)
    rcases List.mem_cons.1 hx with e | hx
    · exact .inr (by rw [e]; exact h.low)
    · rcases List.mem_cons.1 hx with e | hx
      · exact .inl (by simp [e])
      · exact .inr (h.glt (by simpa using hx)).1
  · unfold Tab5
    rw [row_set t3 _]; rfl
  · rw [List.length_append]
    refine row_turn hr3 (row := some p) ⟨rfl, rfl, rfl, by simp [World.setCell], fun k _ hk => Below.heap_setCell _ _ _ _ (fun e => hk (by rw [e]))⟩ (fun g e q => ?_)
    have e1 : gr = g := by simpa [Value.ownBlock] using e
    have e2 : p = g := by simpa using q
    omega
  · have hlen : vs.length = known.length := by have := hvs.1.1; simpa using this
    rw [List.length_append, List.length_singleton] at hi
    by_cases e : i < known.length
    · obtain ⟨b', h1, h2⟩ := hvs.2 i e
      refine ⟨b', by rw [List.getElem?_append_left (by omega)]; exact h1, ?_⟩
      rw [List.getElem_append_left e]
      exact h2.keptF k5 (h.rowNot h2)
    · obtain rfl : i = known.length := by omega
      refine ⟨b, by rw [List.getElem?_append_right (by omega), hlen]; simp, ?_⟩
      rw [List.getElem_append_right (Nat.le_refl _)]
      simp only [Nat.sub_self, List.getElem_cons_zero]
      exact hr.keptF k5 (h.rowNot hr)
  · rw [List.length_append]
    exact ((hm2.alloc tmp).kept hg3 (fun e => hmg m e.symm rfl)).setCell (a := ⟨p, 3, none⟩) (fun e => hpm e.symm) _
end
end Go.Proofs.YtddgciilcghbaaaDoor

/- Table.row: what stands between two rounds of its loop. No walk here. -/
namespace Go.Proofs.YtddgciilcghbaaaDoor
open Go.RowKit Go.Shelf Go.Maps

theorem step_map_run {P : Program} {ops : Array Oper} {o : Oper} {a : Act} {w : World} {K : Act → World → Prop} {Q : Exit → Act → World → Prop} {E : Prop}
    (hg : o.guard = none) (m x v : Operand) (t : TypeId) (hop : o.op = Op.mapUpdate t m x v)
    (mv xv vv : Value) (w' : World) (hm : a.eval m = mv) (hx : a.eval x = xv) (hv : a.eval v = vv) (hrun : (Instr.mapUpdate t mv xv vv).run P w = .ok () w') (hK : K (a.put o.dst undef) w') :
    if Region.wanted o (yielded ops a.tmps) = true then Oper.wp P o a w K Q else E := by
  have hw : Region.wanted o (yielded ops a.tmps) = true := by simp [Region.wanted, hg]
  rw [if_pos hw]
  unfold Oper.wp
  simp [execOp, hop, hm, hx, hv, hrun, Result.andThen]
  exact hK
/-- All names of a formula are in the list. -/
def Tr.Named (names : List ByteArray) (t : Tr) : Prop := t.All (fun x => x.op = 3 → hasN names x.name = true)
theorem text_kid {t : Tr} {i : Nat} (h : i < t.kids.length) : t.kids[i].text.length ≤ t.text.length := by
  have h1 := textTo_le t (i + 1)
  rw [textTo_succ t h, List.length_append] at h1
  omega
theorem row_turnF {F : List Nat} {w w' : World} {n₀ : Nat} {e : TypeId} {v : Value} {n : Nat} {xs : List Value} (h : w.ownsRow n₀ e 1 v n xs) (k : Kept F w w') (hn : ∀ g, v.ownBlock = some g → g ∉ F) : w'.ownsRow n₀ e 1 v n xs := by
  refine ⟨h.1, ?_⟩
  rcases h.2 with ⟨rfl, h0⟩ | ⟨g, cap, cur, rfl, h1, h2, h3⟩
  · exact .inl ⟨rfl, h0⟩
  · exact .inr ⟨g, cap, cur, rfl, h1, k.at h2 (hn g rfl), h3⟩
section
variable {w₁ w w' : World} {p m : Nat} {nv sv lv rv : Value} {q : Wd} {names : List ByteArray} {known : List Tr}
/-- What is turned elsewhere, and is no row of bools, leaves a table. -/
theorem TabIs.keepF {G : List Nat} (h : TabIs w₁ w p m nv sv lv rv q names known) (k : Kept G w w') (h1 : ∀ x ∈ G, w₁.heap.size ≤ x) (h2 : ∀ x ∈ G, x ∉ FR p m rv) (h3 : ∀ x ∈ G, ∀ cur, w.heap[x]? ≠ some (.cells cur 4 (0, 0))) : TabIs w₁ w' p m nv sv lv rv q names known := by
  obtain ⟨vs, ho, hr⟩ := h.rows
  obtain ⟨D, hm, hD⟩ := h.map
  refine ⟨h.word, h.nms, h.mapb, h.kept.trans k (fun x hx => hx) (fun x hx => .inr (h1 x hx)), h.low, k.at h.tab (fun hx => h2 p hx (by simp [FR])), ⟨vs, row_turnF ho k (fun g e hx => h2 g hx (by simp [FR, e])), fun i hi => ?_⟩, ⟨D, ?_, hD⟩⟩
  · obtain ⟨b, e1, e2⟩ := hr i hi
    refine ⟨b, e1, e2.keptF k (fun hx => ?_)⟩
    obtain ⟨cur, hb, _⟩ := e2
    exact h3 b hx cur hb
  · obtain ⟨es, c, hb, hrest⟩ := hm
    exact ⟨es, c, k.at hb (fun hx => h2 m hx (by simp [FR])), hrest⟩
end
structure RowLoop (w₁ w2 : World) (p m : Nat) (nv sv lv rv : Value) (q : Wd) (names : List ByteArray) (known : List Tr) (t : Tr) (i : Nat) (v8 rvi : Value) (ki : List Tr) (wr : World) : Prop where
  tab : TabIs w₁ wr p m nv sv lv rvi q names ki
  kept : Kept (FR p m rv) w2 wr
  grow : ∀ g, rvi.ownBlock = some g → rv.ownBlock = some g ∨ w2.heap.size ≤ g
  len : ki.length ≤ known.length + ((t.kids.map Tr.size).take i).sum
  new : ∀ s ∈ ki, s ∈ known ∨ s.size < t.size
  own : ∃ us, wr.ownsRow w2.heap.size 35 1 v8 i us ∧ ∀ j (_ : j < i) (hk : j < t.kids.length), ∃ b, us[j]? = some (.slice (some ⟨b, 0, none⟩) q.len q.len) ∧ RowB wr b q.len (rowT q names t.kids[j])
  apart : ∀ g, v8.ownBlock = some g → rvi.ownBlock ≠ some g
theorem RowLoop.slice {w₁ w2 : World} {p m : Nat} {nv sv lv rv : Value} {q : Wd} {names : List ByteArray} {known : List Tr} {t : Tr} {i : Nat} {v8 rvi : Value} {ki : List Tr} {wr : World} (h : RowLoop w₁ w2 p m nv sv lv rv q names known t i v8 rvi ki wr) : ∃ ad c, v8 = .slice ad i c := by
  obtain ⟨us, ho, _⟩ := h.own
  rcases ho.2 with ⟨rfl, rfl⟩ | ⟨g, cap, cur, rfl, _⟩
  · exact ⟨none, 0, rfl⟩
  · exact ⟨_, _, rfl⟩
theorem RowLoop.not8 {w₁ w2 : World} {p m : Nat} {nv sv lv rv : Value} {q : Wd} {names : List ByteArray} {known : List Tr} {t : Tr} {i : Nat} {v8 rvi : Value} {ki : List Tr} {wr : World} (h : RowLoop w₁ w2 p m nv sv lv rv q names known t i v8 rvi ki wr) (hp : p < w2.heap.size) (hm : m < w2.heap.size) : ∀ g, v8.ownBlock = some g → g ∉ FR p m rvi := by
  intro g e hin
  obtain ⟨us, ho, _⟩ := h.own
  have hl := own_lt ho e
  rcases List.mem_cons.1 hin with e' | hin
  · omega
  · rcases List.mem_cons.1 hin with e' | hin
    · omega
    · exact h.apart g e (by simpa using hin)
/-- One kid more. -/
theorem RowLoop.next {w₁ w2 : World} {p m : Nat} {nv sv lv rv : Value} {q : Wd} {names : List ByteArray} {known : List Tr} {t : Tr} {i : Nat} {v8 rvi : Value} {ki : List Tr} {wr W5 w6 : World} {kb0 tmp : Obj} {b5 gr cap : Nat} {rv5 : Value} {k5 : List Tr} {us : List Value}
    (h : RowLoop w₁ w2 p m nv sv lv rv q names known t i v8 rvi ki wr) (hi : i < t.kids.length) (hp : p < w2.heap.size) (hm : m < w2.heap.size) (hw : w₁.heap.size ≤ w2.heap.size)
    (t5 : TabIs w₁ W5 p m nv sv lv rv5 q names k5) (e5 : Kept (FR p m rvi) (wr.alloc kb0) W5) (g5 : ∀ g, rv5.ownBlock = some g → rvi.ownBlock = some g ∨ (wr.alloc kb0).heap.size ≤ g) (l5 : k5.length ≤ ki.length + t.kids[i].size) (n5 : ∀ s ∈ k5, s ∈ ki ∨ s.size ≤ t.kids[i].size) (r5 : RowB W5 b5 q.len (rowT q names t.kids[i]))
    (hus : wr.ownsRow w2.heap.size 35 1 v8 i us) (hub : ∀ j (_ : j < i) (hk : j < t.kids.length), ∃ b, us[j]? = some (.slice (some ⟨b, 0, none⟩) q.len q.len) ∧ RowB wr b q.len (rowT q names t.kids[j]))
    (o6 : w6.ownsRow w2.heap.size 35 1 (.slice (some ⟨gr, 0, none⟩) (i + 1) cap) (i + 1) (us ++ [.slice (some ⟨b5, 0, none⟩) q.len q.len])) (g6 : (W5.alloc tmp).grownBy w6 v8.ownBlock) (a6 : v8.ownBlock = some gr ∨ gr = (W5.alloc tmp).heap.size) :
    RowLoop w₁ w2 p m nv sv lv rv q names known t (i + 1) (.slice (some ⟨gr, 0, none⟩) (i + 1) cap) rv5 k5 w6 := by
  have hn8 := h.not8 hp hm
  have hul : us.length = i := by have := hus.1; simpa using this
  have zal : (wr.alloc kb0).heap.size = wr.heap.size + 1 := by simp
  have z5 := e5.size
  have zr := h.kept.size
  have za : (W5.alloc tmp).heap.size = W5.heap.size + 1 := by simp
  have k5w : Kept (FR p m rvi) wr W5 := (((Kept.refl [] wr).alloc kb0).trans e5 (H := FR p m rvi) (by simp) (fun x hx => .inl hx))
  have k6 : Kept v8.ownBlock.toList W5 w6 := (((Kept.refl [] W5).alloc tmp).trans ((Kept.refl v8.ownBlock.toList _).grown g6 (fun k e => by rw [e]; simp)) (H := v8.ownBlock.toList) (by simp) (fun x hx => .inl hx))
  have own8 : ∀ g, v8.ownBlock = some g → ∃ cur, wr.heap[g]? = some (.cells cur 35 (0, 0)) := by
    intro g e
    rcases hus.2 with ⟨rfl, _⟩ | ⟨g', c', cur, rfl, _, hb, _⟩
    · cases e
    · cases e; exact ⟨cur, hb⟩
  have h5 : ∀ g, v8.ownBlock = some g → ∃ cur, W5.heap[g]? = some (.cells cur 35 (0, 0)) := fun g e => by
    obtain ⟨cur, hb⟩ := own8 g e
    exact ⟨cur, k5w.at hb (hn8 g e)⟩
  have n85 : ∀ g, v8.ownBlock = some g → g ∉ FR p m rv5 := by
    intro g e hin
    have hl := own_lt hus e
    rcases List.mem_cons.1 hin with e' | hin
    · omega
    · rcases List.mem_cons.1 hin with e' | hin
      · omega
      · rcases g5 g (by simpa using hin) with q' | q'
        · exact h.apart g e q'
        · omega
  have t6 : TabIs w₁ w6 p m nv sv lv rv5 q names k5 := t5.keepF k6 (fun x hx => by have := own_lt hus (show v8.ownBlock = some x by simpa using hx); omega) (fun x hx => n85 x (by simpa using hx)) (fun x hx cur hc => by
    obtain ⟨cur', hb⟩ := h5 x (by simpa using hx)
    rw [hc] at hb; cases hb)
  have rowk : ∀ {b : Nat} {r : Nat → Bool}, RowB W5 b q.len r → RowB w6 b q.len r := fun {b r} hb => hb.keptF k6 (fun hx => by
    obtain ⟨cur, hc, _⟩ := hb
    obtain ⟨cur', hb'⟩ := h5 b (by simpa using hx)
    rw [hc] at hb'; cases hb')
  refine ⟨t6, ?_, fun g e => ?_, ?_, fun s hs => ?_, ⟨us ++ [.slice (some ⟨b5, 0, none⟩) q.len q.len], o6, fun j hj hk => ?_⟩, fun g e => ?_⟩
  · have ka : Kept (FR p m rv) w2 W5 := h.kept.trans k5w (fun x hx => hx) (fun x hx => by
      rcases List.mem_cons.1 hx with e | hx
      · exact .inl (by simp [FR, e])
      · rcases List.mem_cons.1 hx with e | hx
        · exact .inl (by simp [FR, e])
        · rcases h.grow x (by simpa using hx) with e | e
          · exact .inl (by simp [FR, e])
          · exact .inr e)
    exact ka.trans k6 (fun x hx => hx) (fun x hx => .inr (own_lt hus (show v8.ownBlock = some x by simpa using hx)).1)
  · rcases g5 g e with q' | q'
    · exact h.grow g q'
    · exact .inr (by omega)
  · have := h.len
    rw [sum_take _ _ (by simpa using hi), List.getElem_map]
    omega
  · rcases n5 s hs with e | e
    · exact h.new s e
    · exact .inr (by have := Tr.kid_size (List.getElem_mem hi); omega)
  · by_cases e : j < i
    · obtain ⟨b, e1, e2⟩ := hub j e hk
      exact ⟨b, by rw [List.getElem?_append_left (by omega)]; exact e1, rowk (e2.keptF k5w (h.tab.rowNot e2))⟩
    · obtain rfl : j = i := by omega
      refine ⟨b5, by rw [List.getElem?_append_right (by omega), hul]; simp, rowk r5⟩
  · have e1 : gr = g := by simpa [Value.ownBlock] using e
    subst e1
    intro e2
    rcases a6 with e3 | e3
    · exact n85 gr e3 (by simp [FR, e2])
    · have := (t5.glt e2).2; omega
/-- The rows of all kids. -/
theorem RowLoop.kids {w₁ w2 : World} {p m : Nat} {nv sv lv rv : Value} {q : Wd} {names : List ByteArray} {known : List Tr} {t : Tr} {v8 rvi : Value} {ki : List Tr} {wr : World} (h : RowLoop w₁ w2 p m nv sv lv rv q names known t t.kids.length v8 rvi ki wr) : KidsR wr v8 (t.kids.map (rowT q names)) q.len := by
  obtain ⟨us, ho, hb⟩ := h.own
  rcases ho.2 with ⟨rfl, h0⟩ | ⟨g, cap, cur, rfl, _, hgb, h3, h4, h5, h6⟩
  · exact .inl ⟨List.length_eq_zero_iff.1 (by simpa using h0), rfl⟩
  · refine .inr ⟨g, cap, by rw [List.length_map], fun i hi => ?_⟩
    have hi' : i < t.kids.length := by simpa using hi
    obtain ⟨b, e1, e2⟩ := hb i hi' hi'
    refine ⟨b, ?_, by rw [List.getElem_map]; exact e2⟩
    rw [ho.cellAt i (by omega)]
    exact e1
/-- No text of a smaller formula is this one's. -/
theorem none_of {known ki : List Tr} {t : Tr} {D : DataW Unit} (hD : KnownOf ki D) (hg : t.Good) (hno : known.findIdx? (fun s => s.text == t.text) = none) (h : ∀ s ∈ ki, s ∈ known ∨ s.size < t.size) : ki.findIdx? (fun s => s.text == t.text) = none := by
  rw [List.findIdx?_eq_none_iff]
  intro s hs
  rcases h s hs with e | e
  · exact List.findIdx?_eq_none_iff.1 hno s e
  · rw [beq_eq_false_iff_ne]
    intro q
    rw [text_inj (hD.good s hs) hg q] at e
    omega
end Go.Proofs.YtddgciilcghbaaaDoor

/- Table.row. -/
namespace Go.Proofs.YtddgciilcghbaaaDoor
open Go.RowKit Go.Shelf Go.Maps
attribute [local go_sem] Oper.semAt_some

/-- What a call of row leaves. -/
def RowPost (w₁ w : World) (p m : Nat) (nv sv lv rv : Value) (q : Wd) (names : List ByteArray) (known : List Tr) (t : Tr) (e : Ending) (w' : World) : Prop :=
  ∃ b rv' known', e = .returned (.slice (some ⟨b, 0, none⟩) q.len q.len) ∧ RowB w' b q.len (rowT q names t) ∧ TabIs w₁ w' p m nv sv lv rv' q names known' ∧ Kept (FR p m rv) w w' ∧ (∀ g, rv'.ownBlock = some g → rv.ownBlock = some g ∨ w.heap.size ≤ g) ∧ known'.length ≤ known.length + t.size ∧ ∀ s ∈ known', s ∈ known ∨ s.size ≤ t.size
def RowDoes (q : Wd) (names : List ByteArray) (t : Tr) : Prop :=
  ∀ (X : Nat → Prop) (kv : Value) (w₁ w : World) (p m : Nat) (nv sv lv rv : Value) (known : List Tr), t.Good → t.Named names → t.Fine → IsT X w t kv → (∀ k, X k → k < w.heap.size ∧ k ∉ FR p m rv) → TabIs w₁ w p m nv sv lv rv q names known → known.length + t.size ≤ 1099511627776 → t.text.length ≤ 1099511627776 →
    Calls Tryd.prog 39 #[.pointer (some ⟨p, 0, none⟩), .agg #[.int .u8 (t.op : Nat), .string t.name, kv]] w (RowPost w₁ w p m nv sv lv rv q names known t)
theorem text_pos (t : Tr) : 0 < t.text.length := by rw [Tr.text_eq]; simp
/-- The text, as a row of bytes and as a string. -/
theorem text_form {B : Nat} {W0 w : World} {v : Value} {n : Nat} {l : List UInt8} (h : TextAt B W0 v n (bytesV l) w) (hn : n = l.length) (h0 : 0 < l.length) : ∃ g cap, v = .slice (some ⟨g, 0, none⟩) l.length cap ∧ (convert 111 9 (.slice (some ⟨g, 0, none⟩) l.length cap)).run Tryd.prog w = .ok (.string ⟨l.toArray⟩) w := by
  subst hn
  rcases h.own.2 with ⟨rfl, e⟩ | ⟨g, cap, cur, rfl, _⟩
  · omega
  · refine ⟨g, cap, rfl, run_convert_bytes_back (P := Tryd.prog) w 111 9 5 ⟨g, 0, none⟩ cap l Tryd.underlying111 Tryd.underlying5 Tryd.underlying9 (fun j hj => ?_)⟩
    exact h.own.cells (g := g) rfl j _ (by simp [bytesV, hj])
theorem Tryd.infoBools : (Tryd.prog.info? 35).map (fun i => (i.zero, i.size, i.bytes)) = some (some (.slice none 0 0), 1, 24) := by kernel_rfl
theorem zeroInt0 (w : World) : (zeroValue 3).run Tryd.prog w = .ok (.int .i64 0) w := by kernel_rfl

theorem text_call' (t : Tr) (kad : Option Addr) (kcap : Nat) (w : World) (hI : IsF w t (.slice kad t.kids.length kcap)) (hF : t.Fine) (hs : t.size ≤ 1099511627776) (hx : t.text.length ≤ 1099511627776) :
    Calls Tryd.prog 73 #[.slice none 0 0, .agg #[.int .u8 (t.op : Nat), .string t.name, .slice kad t.kids.length kcap]] (w.alloc (.cells #[.int .u8 (t.op : Nat), .string t.name, .slice kad t.kids.length kcap] 25)) fun e w' =>
      ∃ g cap, e = .returned (.slice (some ⟨g, 0, none⟩) t.text.length cap) ∧ (convert 111 9 (.slice (some ⟨g, 0, none⟩) t.text.length cap)).run Tryd.prog w' = .ok (.string ⟨t.text.toArray⟩) w' ∧ Kept [] (w.alloc (.cells #[.int .u8 (t.op : Nat), .string t.name, .slice kad t.kids.length kcap] 25)) w' := by
  obtain ⟨W0, hW0⟩ : ∃ W0, w.alloc (.cells #[.int .u8 (t.op : Nat), .string t.name, .slice kad t.kids.length kcap] 25) = W0 := ⟨_, rfl⟩
  have kW0 : Kept [] w W0 := by rw [← hW0]; exact (Kept.refl [] w).alloc _
  rw [hW0]
  refine (text_any W0.heap.size W0 t _ _ 0 [] W0 (hI.kept kW0) hF ⟨World.ownsRow_nil _ _ _ _, Below.refl _ _, Nat.le_refl _⟩ (by omega) hs).mono ?_
  rintro e w' ⟨v', rfl, h⟩
  rw [Nat.zero_add, List.nil_append] at h
  obtain ⟨g, cap, rfl, hc⟩ := text_form h rfl (text_pos t)
  exact ⟨g, cap, rfl, hc, kept_of_below h.below⟩
theorem text_call (t : Tr) (kad : Option Addr) (kcap : Nat) (w : World) (hI : IsF w t (.slice kad t.kids.length kcap)) (hF : t.Fine) (hs : t.size ≤ 1099511627776) (hx : t.text.length ≤ 1099511627776) :
    Calls Tryd.prog 73 #[.slice none 0 0, .agg #[.int .u8 (t.op : Nat), .string t.name, .slice kad t.kids.length kcap]] (w.alloc (.cells #[.int .u8 (t.op : Nat), .string t.name, .slice kad t.kids.length kcap] 25)) fun e w' =>
      ∃ g cap, e = .returned (.slice (some ⟨g, 0, none⟩) t.text.length cap) ∧ (convert 111 9 (.slice (some ⟨g, 0, none⟩) t.text.length cap)).run Tryd.prog w' = .ok (.string ⟨t.text.toArray⟩) w' ∧ Kept [] w w' := by
  refine (text_call' t kad kcap w hI hF hs hx).mono ?_
  rintro e w' ⟨g, cap, rfl, hc, k⟩
  exact ⟨g, cap, rfl, hc, ((Kept.refl [] w).alloc _).trans k (by simp) (by simp)⟩

set_option maxHeartbeats 4000000 in
set_option maxRecDepth 20000 in
theorem row_known {q : Wd} {names : List ByteArray} (t : Tr) {i : Nat} (X : Nat → Prop) (kad : Option Addr) (kcap : Nat) (w₁ w : World) (p m : Nat) (nv sv lv rv : Value) (known : List Tr) (hG : t.Good) (hF : t.Fine) (hI : IsT X w t (.slice kad t.kids.length kcap)) (hT : TabIs w₁ w p m nv sv lv rv q names known) (hs : known.length + t.size ≤ 1099511627776) (hx : t.text.length ≤ 1099511627776) (hf : known.findIdx? (fun s => s.text == t.text) = some i) :
    Calls Tryd.prog 39 #[.pointer (some ⟨p, 0, none⟩), .agg #[.int .u8 (t.op : Nat), .string t.name, .slice kad t.kids.length kcap]] w (RowPost w₁ w p m nv sv lv rv q names known t) := by
  obtain ⟨D, hm, hD⟩ := hT.map
  obtain ⟨hil, hie⟩ := hD.found hG hf
  obtain ⟨vs, hrow, hbs⟩ := hT.rows
  obtain ⟨b, hvb, hrb⟩ := hbs i hil
  rw [hie] at hrb
  obtain ⟨g, cap, rfl⟩ : ∃ g cap, rv = .slice (some ⟨g, 0, none⟩) known.length cap := by
    rcases hrow.2 with ⟨rfl, h0⟩ | ⟨g, cap, cur, rfl, _⟩
    · omega
    · exact ⟨g, cap, rfl⟩
  have hgc : w.cell? ⟨g, i, none⟩ = some (.slice (some ⟨b, 0, none⟩) q.len q.len) := by rw [hrow.cellAt i (by omega)]; exact hvb
  have HTX : Hid (Calls Tryd.prog 73 #[.slice none 0 0, .agg #[.int .u8 (t.op : Nat), .string t.name, .slice kad t.kids.length kcap]] (w.alloc (.cells #[.int .u8 (t.op : Nat), .string t.name, .slice kad t.kids.length kcap] 25)) fun e w' =>
      ∃ g cap, e = .returned (.slice (some ⟨g, 0, none⟩) t.text.length cap) ∧ (convert 111 9 (.slice (some ⟨g, 0, none⟩) t.text.length cap)).run Tryd.prog w' = .ok (.string ⟨t.text.toArray⟩) w' ∧ Kept [] w w') := text_call t kad kcap w (IsT.isF hI) hF (by omega) hx
  have HTT : Hid (TabIs w₁ w p m nv sv lv (.slice (some ⟨g, 0, none⟩) known.length cap) q names known) := hT
  have hq : Maps.has D (.string t.text) = true := by
    rw [hD.has, List.any_eq_true]
    obtain ⟨h1, h2, _⟩ := List.findIdx?_eq_some_iff_getElem.1 hf
    exact ⟨_, List.getElem_mem h1, h2⟩
  have HAT : Hid (D.atKey (.string t.text) (.lit (.int .i64 0)) = .lit (.int .i64 (i : Nat))) := hD.at' _ i hf
  have HKEY : Hid (keyOf Tryd.prog 9 (.string ⟨t.text.toArray⟩) = some (.string t.text)) := WideMaps.keyOf_string_mk Tryd.underlying9 (s := ⟨t.text.toArray⟩) (by show t.text.toArray.size ≤ maxLen; unfold maxLen; simp; omega)
  have HM : Hid (∀ W, Kept [] w W → W.ownsMap Tryd.prog 9 (plainElem Tryd.prog 3) m known.length D) := fun W k => hm.kept (grownBy_of_kept k) (by simp)
  have HRB : Hid (RowB w b q.len (rowT q names t)) := hrb
  have HGC : Hid _ := hgc
  have hii : (i : Int) < (known.length : Int) := by omega
  have hi0 : (0 : Int) ≤ (i : Int) := by omega
  obtain ⟨tx, htx⟩ : ∃ tx, t.text = tx := ⟨_, rfl⟩
  rw [htx] at HTX hq HAT HKEY
  clear hT hm hD hf hie hrow hbs hvb hrb hgc hI hF hG hil htx
  go_enter Tryd.func39, Tryd.ntmps39
  go_wp2_with (first
    | (go_at_call 73; refine HTX.out.mono ?_; rintro e w2 ⟨g2, cap2, rfl, hcv, k2⟩; have HK2 : Hid (Kept [] w w2) := k2; obtain ⟨_, _, _, c3, c4, _⟩ := (HTT.out.tab.kept k2).cells; have d0 := cell_kept0 k2 HGC.out; clear k2)
    | (at_lookup; refine wpList_lookup_own_ok_int _ rfl _ _ 100 rfl 9 3 .i64 lawStr Tryd.underlying100 Tryd.underlying3 (zeroInt0 _) m known.length D rfl (HM.out _ HK2.out) _ _ rfl HKEY.out ?_; intro c hat hwc; rw [hq]; obtain rfl : c = ((i : Nat) : Int) := (by rw [HAT.out] at hat; cases hat; rfl); clear hat hwc))
  go_ret
  exact ⟨b, _, known, rfl, HRB.out.kept HK2.out, HTT.out.keep0 HK2.out, HK2.out.mono (by simp), fun g e => .inl e, by omega, fun s hs => .inl hs⟩
end Go.Proofs.YtddgciilcghbaaaDoor

/- Table.row, of any formula. -/
namespace Go.Proofs.YtddgciilcghbaaaDoor
open Go.RowKit Go.Shelf Go.Maps

theorem RowLoop.done {w₁ w w2 w7 w10 : World} {p m : Nat} {nv sv lv rv : Value} {q : Wd} {names : List ByteArray} {known : List Tr} {t : Tr} {v8 rvi : Value} {ki : List Tr} {wr : World} {b gr cap : Nat} (h : RowLoop w₁ w2 p m nv sv lv rv q names known t t.kids.length v8 rvi ki wr) (k2 : Kept [] w w2) (k7 : Kept [] wr w7) (hT7 : TabIs w₁ w7 p m nv sv lv rvi q names ki)
    (t10 : TabIs w₁ w10 p m nv sv lv (.slice (some ⟨gr, 0, none⟩) (ki.length + 1) cap) q names (ki ++ [t])) (k10 : Kept (FR p m rvi) w7 w10) (hr : RowB w7 b q.len (rowT q names t)) (a9 : rvi.ownBlock = some gr ∨ w.heap.size ≤ gr) :
    RowPost w₁ w p m nv sv lv rv q names known t (.returned (.slice (some ⟨b, 0, none⟩) q.len q.len)) w10 := by
  have z2 := k2.size
  have zr := h.kept.size
  refine ⟨b, _, ki ++ [t], rfl, hr.keptF k10 (hT7.rowNot hr), t10, ?_, fun g e => ?_, ?_, fun s hs => ?_⟩
  · have ka : Kept (FR p m rv) w wr := k2.trans h.kept (by simp) (fun x hx => .inl hx)
    have kb : Kept (FR p m rv) w w7 := ka.trans k7 (fun x hx => hx) (by simp)
    refine kb.trans k10 (fun x hx => hx) (fun x hx => ?_)
    rcases List.mem_cons.1 hx with e | hx
    · exact .inl (by simp [FR, e])
    · rcases List.mem_cons.1 hx with e | hx
      · exact .inl (by simp [FR, e])
      · rcases h.grow x (by simpa using hx) with e | e
        · exact .inl (by simp [FR, e])
        · exact .inr (by omega)
  · have e1 : gr = g := by simpa [Value.ownBlock] using e
    subst e1
    rcases a9 with e2 | e2
    · rcases h.grow gr e2 with e3 | e3
      · exact .inl e3
      · exact .inr (by omega)
    · exact .inr e2
  · have := h.len
    rw [List.take_of_length_le (by simp)] at this
    rw [List.length_append, List.length_singleton, Tr.size_eq]
    omega
  · rcases List.mem_append.1 hs with e | e
    · exact (h.new s e).imp id (fun q => by omega)
    · rw [List.mem_singleton.1 e]; exact .inr (Nat.le_refl _)
set_option maxHeartbeats 4000000 in
set_option maxRecDepth 20000 in
theorem row_fresh {q : Wd} {names : List ByteArray} (h0 : 0 < q.loop.length) (hn8 : names.length ≤ 8) (t : Tr) (ih : ∀ k ∈ t.kids, RowDoes q names k) (X : Nat → Prop) (kad : Option Addr) (kcap : Nat) (w₁ w : World) (p m : Nat) (nv sv lv rv : Value) (known : List Tr) (hG : t.Good) (hNm : t.Named names) (hF : t.Fine) (hI : IsT X w t (.slice kad t.kids.length kcap)) (hX : ∀ k, X k → k < w.heap.size ∧ k ∉ FR p m rv) (hT : TabIs w₁ w p m nv sv lv rv q names known) (hs : known.length + t.size ≤ 1099511627776) (hx : t.text.length ≤ 1099511627776) (hf : known.findIdx? (fun s => s.text == t.text) = none) :
    Calls Tryd.prog 39 #[.pointer (some ⟨p, 0, none⟩), .agg #[.int .u8 (t.op : Nat), .string t.name, .slice kad t.kids.length kcap]] w (RowPost w₁ w p m nv sv lv rv q names known t) := by
  obtain ⟨D, hm, hD⟩ := hT.map
  have hks := t.kids_size
  have HTX : Hid (Calls Tryd.prog 73 #[.slice none 0 0, .agg #[.int .u8 (t.op : Nat), .string t.name, .slice kad t.kids.length kcap]] (w.alloc (.cells #[.int .u8 (t.op : Nat), .string t.name, .slice kad t.kids.length kcap] 25)) fun e w' =>
      ∃ g cap, e = .returned (.slice (some ⟨g, 0, none⟩) t.text.length cap) ∧ (convert 111 9 (.slice (some ⟨g, 0, none⟩) t.text.length cap)).run Tryd.prog w' = .ok (.string ⟨t.text.toArray⟩) w' ∧ Kept [] (w.alloc (.cells #[.int .u8 (t.op : Nat), .string t.name, .slice kad t.kids.length kcap] 25)) w') := text_call' t kad kcap w (IsT.isF hI) hF (by omega) hx
  have HTT : Hid (TabIs w₁ w p m nv sv lv rv q names known) := hT
  have hq : Maps.has D (.string t.text) = false := by
    rw [hD.has, List.any_eq_false]
    exact fun x hx => by have := List.findIdx?_eq_none_iff.1 hf x hx; simpa using this
  have HKEY : Hid (keyOf Tryd.prog 9 (.string ⟨t.text.toArray⟩) = some (.string t.text)) := WideMaps.keyOf_string_mk Tryd.underlying9 (s := ⟨t.text.toArray⟩) (by show t.text.toArray.size ≤ maxLen; unfold maxLen; simp; omega)
  have HM : Hid (∀ W, Kept [] w W → W.ownsMap Tryd.prog 9 (plainElem Tryd.prog 3) m known.length D) := fun W k => hm.kept (grownBy_of_kept k) (by simp)
  have HI : Hid (IsT X w t (.slice kad t.kids.length kcap)) := hI
  have HX : Hid (∀ k, X k → k < w.heap.size ∧ k ∉ FR p m rv) := hX
  have HIH : Hid (∀ k ∈ t.kids, RowDoes q names k) := ih
  have HG : Hid t.Good := hG
  have HNM : Hid (t.Named names) := hNm
  have HFI : Hid t.Fine := hF
  have HNO : Hid _ := hf
  have HTX2 : Hid (∀ i (h : i < t.kids.length), t.kids[i].text.length ≤ t.text.length) := fun i h => text_kid h
  have lp := hT.plt
  have lm := hT.mlt
  have HFL : Hid (∀ k, k ∈ FR p m rv → k < w.heap.size) := fun k hk => FR_lt hT hk
  have HB0 : Hid (For3 (w.alloc (.cells #[.int .u8 (t.op : Nat), .string t.name, .slice kad t.kids.length kcap] 25)) w.heap.size (.int .u8 (t.op : Nat)) (.string t.name) (.slice kad t.kids.length kcap)) := al0 w _
  obtain ⟨i0, hi0, hz0, hz1, hz2⟩ := info_parts Tryd.infoBools
  have HI0 : Hid _ := hi0
  have HZ0 : Hid _ := hz0
  have HZ1 : Hid _ := hz1
  have HZ2 : Hid _ := hz2
  obtain ⟨ts, hts⟩ : ∃ ts : ByteArray, ⟨t.text.toArray⟩ = ts := ⟨_, rfl⟩
  obtain ⟨tl, htl⟩ : ∃ tl, t.text.length = tl := ⟨_, rfl⟩
  rw [hts, htl] at HTX
  rw [hts] at HKEY
  have HTL : Hid _ := htl
  clear hT hm hI hF hG hNm hX ih hf hi0 hz0 hz1 hz2 hts htl
  go_enter Tryd.func39, Tryd.ntmps39
  go_wp2_with (first
    | (go_at_call 73; refine HTX.out.mono ?_; rintro e w2 ⟨g2, cap2, rfl, hcv, kb2⟩; have k2 : Kept [] w w2 := ((Kept.refl [] w).alloc _).trans kb2 (H := []) (by simp) (by simp); have HK2 : Hid (Kept [] w w2) := k2; have HB2 : Hid (For3 w2 w.heap.size (.int .u8 (t.op : Nat)) (.string t.name) (.slice kad t.kids.length kcap)) := HB0.out.kept kb2; obtain ⟨_, _, _, c3, c4, _⟩ := (HTT.out.tab.kept k2).cells; obtain ⟨_, _, b2, _⟩ := HB2.out.cells; have HT2 : Hid (TabIs w₁ w2 p m nv sv lv rv q names known) := HTT.out.keep0 k2; clear k2 kb2)
    | (at_lookup; refine wpList_lookup_own_ok_int _ rfl _ _ 100 rfl 9 3 .i64 lawStr Tryd.underlying100 Tryd.underlying3 (zeroInt0 _) m known.length D rfl (HM.out _ HK2.out) _ _ rfl HKEY.out ?_; intro c hat hwc; rw [hq]; clear hat hwc))
  go_loopw [8, 35] (fun v8 v35 wr => ∃ (i : Nat) (rvi : Value) (ki : List Tr), v35 = .int .i64 (i : Nat) ∧ i ≤ t.kids.length ∧ Hid (RowLoop w₁ w2 p m nv sv lv rv q names known t i v8 rvi ki wr)) (fun _ v35 _ => t.kids.length - (intOf v35).toNat)
  case atStart =>
    exact ⟨0, rv, known, rfl, Nat.zero_le _, ⟨HT2.out, Kept.refl _ _, fun g e => .inl e, by simp, fun s hs => .inl hs, ⟨[], World.ownsRow_nil _ _ _ _, fun j hj => by omega⟩, fun g e => by cases e⟩⟩
  case round =>
    obtain ⟨i, rvi, ki, rfl, hi, HR⟩ := hrel
    have hz := HK2.out.size
    by_cases hlt : i < t.kids.length
    · obtain ⟨kb, koff, rfl, hXb, hkid⟩ := IsT.kid HI.out (by omega)
      obtain ⟨kv, c0, c1, c2, hIk⟩ := hkid i hlt
      obtain ⟨ckad, ckcap, rfl⟩ := hIk.slice
      obtain ⟨us, hus, hub⟩ := HR.out.own
      have htk := HTX2.out i hlt
      have hnx := fun (W5 w6 : World) (kb0 tmp : Obj) (b5 gr cap : Nat) (rv5 : Value) (k5 : List Tr) => RowLoop.next (us := us) (W5 := W5) (w6 := w6) (kb0 := kb0) (tmp := tmp) (b5 := b5) (gr := gr) (cap := cap) (rv5 := rv5) (k5 := k5) HR.out hlt (by omega) (by omega) (by have := HT2.out.kept.size; exact this)
      obtain ⟨k, hk⟩ : ∃ k, t.kids[i] = k := ⟨_, rfl⟩
      have hkm : k ∈ t.kids := by rw [← hk]; exact List.getElem_mem _
      rw [hk] at c0 c1 c2 hIk htk
      simp only [hk] at hnx
      have hcc : ∀ b o v, X b → w.cell? ⟨b, o, none⟩ = some v → wr.cell? ⟨b, o, none⟩ = some v := fun b o v hb hv => by
        have h2 := cell_kept0 HK2.out hv
        exact (World.cell?_of_block (w := w2) (a := ⟨b, o, none⟩) (HR.out.kept.block b (World.block_lt_of_cell? w2 _ h2) (HX.out b hb).2)).trans h2
      have c0 := hcc _ _ _ hXb c0
      have c1 := hcc _ _ _ hXb c1
      have c2 := hcc _ _ _ hXb c2
      have hIr : IsT X wr k (.slice ckad k.kids.length ckcap) := hIk.cells (fun _ h => h) hcc
      have hzr := HR.out.kept.size
      have hksz := Tr.kid_size hkm
      have hkl : ki.length + k.size ≤ 1099511627776 := by
        have h1 := HR.out.len
        have h2 : ((t.kids.map Tr.size).take (i + 1)).sum ≤ (t.kids.map Tr.size).sum := by
          have := List.take_append_drop (i + 1) (t.kids.map Tr.size)
          have e := congrArg List.sum this
          rw [List.sum_append] at e
          omega
        rw [sum_take _ _ (by simpa using hlt), List.getElem_map, hk] at h2
        have h3 := Tr.size_eq t
        omega
      have hrec := fun (o : Obj) => HIH.out k hkm X (.slice ckad k.kids.length ckcap) w₁ (wr.alloc o) p m nv sv lv rvi ki (good_kid HG.out hkm) (((Tr.all_eq t).1 HNM.out).2 k hkm) (((Tr.all_eq t).1 HFI.out).2 k hkm) (hIr.cells (fun _ h => h) (fun _ _ _ _ cc => cell_kept0 ((Kept.refl [] wr).alloc o) cc)) (fun x hx => ⟨by have := (HX.out x hx).1; simp; omega, fun hin => by
        rcases List.mem_cons.1 hin with e | hin
        · exact (HX.out x hx).2 (by simp [FR, e])
        · rcases List.mem_cons.1 hin with e | hin
          · exact (HX.out x hx).2 (by simp [FR, e])
          · rcases HR.out.grow x (by simpa using hin) with e | e
            · exact (HX.out x hx).2 (by simp [FR, e])
            · have := (HX.out x hx).1; omega⟩) (HR.out.tab.keep0 ((Kept.refl [] wr).alloc o)) hkl (by omega)
      have HREC : Hid (∀ o, Calls Tryd.prog 39 #[.pointer (some ⟨p, 0, none⟩), .agg #[.int .u8 (k.op : Nat), .string k.name, .slice ckad k.kids.length ckcap]] (wr.alloc o) (RowPost w₁ (wr.alloc o) p m nv sv lv rvi q names ki k)) := hrec
      have HNX : Hid _ := hnx
      have HN8 : Hid _ := HR.out.not8 (show p < w2.heap.size by omega) (show m < w2.heap.size by omega)
      obtain ⟨vad, vcap, rfl⟩ := HR.out.slice
      have HUS : Hid _ := hus
      have HUB : Hid _ := hub
      have hii : (i : Int) < (t.kids.length : Int) := by omega
      have lk : kb < wr.heap.size := World.block_lt_of_cell? wr _ c0
      have nk1 : ¬ kb = wr.heap.size := by omega
      have nk2 : ¬ wr.heap.size = kb := by omega
      have hib : i ≤ 1099511627776 := by omega
      clear hkid hIk hcc hIr hrec hnx hus hub hk hkl htk hksz
      go_wp2_with (first
        | (go_at_call 39; refine (HREC.out _).mono ?_; rintro e W5 ⟨b5, rv5, k5, rfl, r5, t5, e5, g5, l5, n5⟩; have HE5 : Hid _ := e5; have HU5 : Hid (W5.ownsRow w2.heap.size 35 1 (.slice vad i vcap) i us) := row_turnF (row_keptF0 HUS.out ((Kept.refl [] wr).alloc _)) e5 HN8.out; have HR5 : Hid _ := r5; have HT5 : Hid _ := t5; have HG5 : Hid _ := g5; have HL5 : Hid _ := l5; have HN5 : Hid _ := n5; have hz5 := e5.size; rw [World.size_alloc] at hz5; clear e5 r5 t5 g5 l5 n5)
        | (at_builtin; refine wpList_append_lies _ rfl _ _ 101 rfl w2.heap.size 35 i0 _ 1 24 Tryd.underlying101 HI0.out HZ0.out HZ1.out HZ2.out rfl (by decide) _ i us rfl (HU5.out.alloc _) ⟨W5.heap.size, 0, none⟩ 1 1 [.slice (some ⟨b5, 0, none⟩) q.len q.len] rfl rfl one_cell (fun u hu => by simp at hu; subst hu; rfl) (by omega) (by unfold maxLen; omega) (by omega) (by rw [World.size_alloc]; omega) _ rfl ?_; intro gr cap6 w6 o6 g6 a6 _; have HR6 : Hid _ := HNX.out W5 w6 _ _ b5 gr cap6 rv5 k5 HT5.out HE5.out HG5.out HL5.out HN5.out HR5.out HUS.out HUB.out o6 g6 a6; clear o6 g6 a6))
      go_roundw
      case rel => exact ⟨i + 1, rv5, k5, by go_num, by omega, HR6.out⟩
      case measure => simp [intOf]; omega
    · obtain rfl : i = t.kids.length := by omega
      have hb0 : For3 wr w.heap.size (.int .u8 (t.op : Nat)) (.string t.name) (.slice kad t.kids.length kcap) := HR.out.kept.at HB2.out (fun hin => by have := HFL.out _ hin; omega)
      obtain ⟨f0, f1, f2, _⟩ := hb0.cells
      obtain ⟨⟨hfo, hop⟩, _⟩ := (Tr.all_eq t).1 HG.out
      have hfd := found_any p nv sv lv rvi (.map (some m)) q names t kad t.kids.length kcap u8 (t.kids.map (rowT q names)) wr HR.out.tab.tab HR.out.tab.isW h0 HR.out.tab.strs hn8 hfo hop (((Tr.all_eq t).1 HNM.out).1) HR.out.kids (by simp)
      rw [← rowT_eq] at hfd
      have HFD : Hid (Calls Tryd.prog 74 #[.pointer (some ⟨p, 0, none⟩), .agg #[.int .u8 (t.op : Nat), .string t.name, .slice kad t.kids.length kcap], u8] wr fun e w' => ∃ v, e = .returned v ∧ Bools w' v q.len (rowT q names t) ∧ Kept [] wr w') := hfd
      obtain ⟨vs, hvs⟩ := HR.out.tab.rows
      obtain ⟨rad, rcap, hrv⟩ : ∃ rad rcap, rvi = .slice rad ki.length rcap := by
        rcases hvs.1.2 with ⟨e, h1⟩ | ⟨g, c', cur, e, _⟩
        · exact ⟨none, 0, by rw [e, h1]⟩
        · exact ⟨_, c', e⟩
      subst hrv
      have hkil : ki.length ≤ 1099511627776 := by
        have h1 := HR.out.len
        rw [List.take_of_length_le (by simp)] at h1
        have h3 := Tr.size_eq t
        omega
      have HVS : Hid (RowsAre wr w₁.heap.size (.slice rad ki.length rcap) q names ki vs) := hvs
      obtain ⟨D7, hm7, hD7⟩ := HR.out.tab.map
      have HUP : Hid (∀ W, Kept [] wr W → ∃ w', (Instr.mapUpdate 100 (.map (some m)) (.string ts) (.int .i64 (ki.length : Nat))).run Tryd.prog W = .ok () w' ∧ w'.ownsMap Tryd.prog 9 (plainElem Tryd.prog 3) m (ki.length + 1) (D7.put (.string t.text) (.lit (.int .i64 (ki.length : Nat)))) ∧ W.grownBy w' (some m)) := fun W k =>
        (hm7.kept (grownBy_of_kept k) (by simp)).update lawStr Tryd.underlying100 (by unfold maxLen; omega) HKEY.out (plainElem_int Tryd.underlying3 (WalkArith.wf_i64 (by omega)))
      have HM7 : Hid (wr.ownsMap Tryd.prog 9 (plainElem Tryd.prog 3) m ki.length D7) := hm7
      have HD7 : Hid (KnownOf ki D7) := hD7
      have HNK : Hid _ := none_of hD7 HG.out HNO.out HR.out.new
      clear hb0 hfo hop hfd hvs hm7 hD7 hlt hi
      have hpm : (some p : Option Nat) ≠ some m := fun e => by
        obtain ⟨es, cc, hb⟩ := HR.out.tab.mAt
        have h1 := HR.out.tab.tab
        unfold Tab5 at h1
        rw [Option.some.inj e, hb] at h1
        cases h1
      have HPM : Hid _ := hpm
      clear hpm
      go_wp2_with (first
        | (go_at_call 74; refine HFD.out.mono ?_; rintro e w7 ⟨v7, rfl, ⟨b7, rfl, hr7⟩, k7⟩; have HR7 : Hid (RowB w7.drew b7 q.len (rowT q names t)) := hr7; have HK7 : Hid (Kept [] wr w7.drew) := k7.drew; obtain ⟨w8, hrun, hm8, hg8⟩ := HUP.out w7.drew k7.drew; have HM8 : Hid (w8.ownsMap Tryd.prog 9 (plainElem Tryd.prog 3) m (ki.length + 1) (D7.put (.string t.text) (.lit (.int .i64 (ki.length : Nat))))) := hm8; have HG8 : Hid (w7.drew.grownBy w8 (some m)) := hg8; obtain ⟨_, _, _, e3, e4, _⟩ := (HR.out.tab.tab.kept k7).cells; have HMW : Hid (w7.drew.ownsMap Tryd.prog 9 (plainElem Tryd.prog 3) m ki.length D7) := HM7.out.kept (grownBy_of_kept k7.drew) (by simp); have HVW : Hid (w7.drew.ownsRow w₁.heap.size 35 1 (.slice rad ki.length rcap) ki.length vs) := row_keptF0 HVS.out.1 k7.drew; have HV8 : Hid (w8.ownsRow w₁.heap.size 35 1 (.slice rad ki.length rcap) ki.length vs) := row_turn HVW.out hg8 (row_not_map HVW.out HMW.out); have x8 := hg8.cell (a := ⟨p, 3, none⟩) (show w7.drew.cell? ⟨p, 3, none⟩ = some (.slice rad ki.length rcap) from e3) HPM.out; have z8 := hg8.size; have z7 := HK7.out.size; clear hr7 k7 hm8 hg8))
      go_region
      all_goals
        go_wp2_with (at_builtin; refine wpList_append_lies _ rfl _ _ 101 rfl w₁.heap.size 35 i0 _ 1 24 Tryd.underlying101 HI0.out HZ0.out HZ1.out HZ2.out rfl (by decide) _ ki.length vs rfl (HV8.out.alloc _) ⟨w8.heap.size, 0, none⟩ 1 1 [.slice (some ⟨b7, 0, none⟩) q.len q.len] rfl rfl one_cell (fun u hu => by simp at hu; subst hu; rfl) (by omega) (by unfold maxLen; omega) (by omega) (by rw [World.size_alloc]; have := HR.out.tab.kept.size; omega) _ rfl ?_; intro gr cap9 w9 o9 g9 a9 _; obtain ⟨ht9, htab, hkk⟩ := TabIs.add (HR.out.tab.keep0 HK7.out) HG.out HNK.out HR7.out HMW.out HD7.out ⟨HVW.out, fun i hi => (HVS.out.2 i hi).imp fun b h => ⟨h.1, h.2.kept HK7.out⟩⟩ HM8.out HG8.out o9 g9 a9; have HTA : Hid (TabIs w₁ _ p m nv sv lv _ q names (ki ++ [t])) := htab; have HKK : Hid (Kept _ w7.drew _) := hkk; have HA9 : Hid _ := a9; obtain ⟨_, _, _, y3, _, yf⟩ := ht9.cells; have yf3 := yf 3; clear o9 g9 a9 ht9 htab hkk yf)
        go_ret
        exact RowLoop.done HR.out HK2.out HK7.out (HR.out.tab.keep0 HK7.out) HTA.out HKK.out HR7.out (HA9.out.imp id (fun e => by have hz8 := HK2.out.size; have := HR.out.kept.size; have e' : w7.drew.heap.size = w7.heap.size := rfl; rw [World.size_alloc] at e; omega))
theorem row_any {q : Wd} {names : List ByteArray} (h0 : 0 < q.loop.length) (hn8 : names.length ≤ 8) (t : Tr) : RowDoes q names t := by
  induction t using Tr.ind with
  | h t ih =>
    intro X kv w₁ w p m nv sv lv rv known hG hN hF hI hX hT hs hx
    obtain ⟨kad, kcap, rfl⟩ := hI.slice
    cases hf : known.findIdx? (fun s => s.text == t.text) with
    | some i => exact row_known t X kad kcap w₁ w p m nv sv lv rv known hG hF hI hT hs hx hf
    | none => exact row_fresh h0 hn8 t ih X kad kcap w₁ w p m nv sv lv rv known hG hN hF hI hX hT hs hx hf
end Go.Proofs.YtddgciilcghbaaaDoor
