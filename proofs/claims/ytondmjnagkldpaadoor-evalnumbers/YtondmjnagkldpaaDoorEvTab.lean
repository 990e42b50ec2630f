/- A table in memory: what it knows, and what a step of it keeps. No walk here. -/
import Derived.Test.YtondmjnagkldpaaDoorEvFound
import Derived.Test.YtondmjnagkldpaaDoorEvText
namespace Go.Proofs.YtondmjnagkldpaaDoor
open Go.RowKit Go.Shelf Go.Maps

/-- What the map tells of texts. -/
structure KnownOf (known : List Tr) (D : DataW Unit) : Prop where
  map : Maps.IsMap D
  size : Maps.size D = known.length
  good : ∀ t ∈ known, t.Good
  has : ∀ l : List UInt8, Maps.has D (.string l) = known.any (fun s => s.text == l)
  at' : ∀ (l : List UInt8) (i : Nat), known.findIdx? (fun s => s.text == l) = some i → D.atKey (.string l) (.lit (.int .i64 0)) = .lit (.int .i64 (i : Nat))
theorem KnownOf.nil : KnownOf [] (.map [] : DataW Unit) := ⟨⟨_, rfl⟩, rfl, by simp, fun _ => rfl, fun r i h => by simp at h⟩
theorem KnownOf.add {known : List Tr} {D : DataW Unit} (h : KnownOf known D) {t : Tr} (hg : t.Good) (hno : known.findIdx? (fun s => s.text == t.text) = none) (ht : Maps.Tidy D) : KnownOf (known ++ [t]) (D.put (.string t.text) (.lit (.int .i64 (known.length : Nat)))) := by
  have hk : ∀ l : List UInt8, l ≠ t.text → Lit.string l ≠ Lit.string t.text := fun l hne e => hne (Lit.string.inj e)
  refine ⟨h.map.put _ _, ?_, ?_, fun l => ?_, fun l i hi => ?_⟩
  · have hf : Maps.has D (.string t.text) = false := by
      rw [h.has, List.any_eq_false]
      exact fun x hx => by have := List.findIdx?_eq_none_iff.1 hno x hx; simpa using this
    rw [Maps.size_put ht, hf, h.size]; simp
  · intro s hs
    rcases List.mem_append.1 hs with e | e
    · exact h.good s e
    · rw [List.mem_singleton.1 e]; exact hg
  · rw [List.any_append]
    by_cases e : l = t.text
    · subst e
      rw [Maps.has_put_same h.map (by trivial)]
      simp
    · rw [Maps.has_put_other (hk l e), h.has l]
      have : (t.text == l) = false := by rw [beq_eq_false_iff_ne]; exact fun q => e q.symm
      simp [this]
  · rw [List.findIdx?_append] at hi
    by_cases e : l = t.text
    · subst e
      rw [hno] at hi
      simp [List.findIdx?_cons] at hi
      subst hi
      exact Maps.atKey_put_same h.map (by trivial) _ _
    · rw [Maps.atKey_put_other (hk l e)]
      have : (t.text == l) = false := by rw [beq_eq_false_iff_ne]; exact fun q => e q.symm
      cases hh : known.findIdx? (fun s => s.text == l) with
      | some j => rw [hh] at hi; simp at hi; subst hi; exact h.at' l j hh
      | none => rw [hh] at hi; simp [List.findIdx?_cons, this] at hi
/-- What is found is the formula itself. -/
theorem KnownOf.found {known : List Tr} {D : DataW Unit} (h : KnownOf known D) {t : Tr} (hg : t.Good) {i : Nat} (hi : known.findIdx? (fun s => s.text == t.text) = some i) : ∃ hl : i < known.length, known[i] = t := by
  obtain ⟨h1, h2, _⟩ := List.findIdx?_eq_some_iff_getElem.1 hi
  exact ⟨h1, text_inj (h.good _ (List.getElem_mem _)) hg (by simpa using h2)⟩

theorem Kept.at' {F : List Nat} {w w' : World} (h : Kept F w w') {b : Nat} {o : Obj} (hb : w.heap[b]? = some o) (hn : b ∉ F) : w'.heap[b]? = some o := h.at hb hn
theorem RowB.keptF {F : List Nat} {W W' : World} {b n : Nat} {r : Nat → Bool} (h : RowB W b n r) (k : Kept F W W') (hn : b ∉ F) : RowB W' b n r := by
  obtain ⟨cur, h1, h2, h3⟩ := h
  exact ⟨cur, k.at h1 hn, h2, h3⟩
/-- The rows that are known. -/
def RowsAre (w : World) (n₀ : Nat) (rv : Value) (q : Wd) (names : List ByteArray) (known : List Tr) (vs : List Value) : Prop :=
  w.ownsRow n₀ 36 1 rv known.length vs ∧ ∀ i (_ : i < known.length), ∃ b, vs[i]? = some (.slice (some ⟨b, 0, none⟩) q.len q.len) ∧ RowB w b q.len (rowT q names known[i])
/-- What a step of a table may turn. -/
def FR (p m : Nat) (rv : Value) : List Nat := p :: m :: rv.ownBlock.toList
structure TabIs (w₁ w : World) (p m : Nat) (nv sv lv rv : Value) (q : Wd) (names : List ByteArray) (known : List Tr) : Prop where
  word : IsW w₁ sv lv q
  nms : Strs w₁ nv names
  mapb : ∃ es c, w₁.heap[m]? = some (.map es c)
  kept : Kept [m] w₁ w
  low : w₁.heap.size ≤ p
  tab : Tab5 w p nv sv lv rv (.map (some m))
  rows : ∃ vs, RowsAre w w₁.heap.size rv q names known vs
  map : ∃ D : DataW Unit, w.ownsMap Tryd.prog 9 (plainElem Tryd.prog 3) m known.length D ∧ KnownOf known D

theorem cell_keptM {w₁ w : World} {m : Nat} (hm : ∃ es c, w₁.heap[m]? = some (.map es c)) (k : Kept [m] w₁ w) {b o : Nat} {v : Value} (h : w₁.cell? ⟨b, o, none⟩ = some v) : w.cell? ⟨b, o, none⟩ = some v := by
  refine (World.cell?_of_block (w := w₁) (a := ⟨b, o, none⟩) (k.block b (World.block_lt_of_cell? w₁ _ h) ?_)).trans h
  intro hb
  obtain rfl : b = m := by simpa using hb
  obtain ⟨es, c, hm⟩ := hm
  simp [World.cell?, hm] at h
theorem IsW.keptM {w₁ w : World} {m : Nat} {sv lv : Value} {q : Wd} (h : IsW w₁ sv lv q) (hm : ∃ es c, w₁.heap[m]? = some (.map es c)) (k : Kept [m] w₁ w) : IsW w sv lv q := by
  have key : ∀ {v : Value} {xs : List Nat}, Lets w₁ v xs → Lets w v xs := fun h => by
    refine ⟨h.small, h.few, ?_⟩
    rcases h.lie with h1 | ⟨b, o, c, h1, h2, h3, h4⟩
    · exact .inl h1
    · exact .inr ⟨b, o, c, h1, h2, h3, fun i hi => cell_keptM hm k (h4 i hi)⟩
  exact ⟨key h.st, key h.lp, h.few⟩
theorem Strs.keptM {w₁ w : World} {m : Nat} {v : Value} {xs : List ByteArray} (h : Strs w₁ v xs) (hm : ∃ es c, w₁.heap[m]? = some (.map es c)) (k : Kept [m] w₁ w) : Strs w v xs := by
  refine ⟨h.few, h.small, ?_⟩
  rcases h.lie with h1 | ⟨b, o, c, h1, h2, h3, h4⟩
  · exact .inl h1
  · exact .inr ⟨b, o, c, h1, h2, h3, fun i hi => cell_keptM hm k (h4 i hi)⟩

section
variable {w₁ w w' : World} {p m : Nat} {nv sv lv rv : Value} {q : Wd} {names : List ByteArray} {known : List Tr}
theorem TabIs.isW (h : TabIs w₁ w p m nv sv lv rv q names known) : IsW w sv lv q := h.word.keptM h.mapb h.kept
theorem TabIs.strs (h : TabIs w₁ w p m nv sv lv rv q names known) : Strs w nv names := h.nms.keptM h.mapb h.kept
theorem TabIs.mAt (h : TabIs w₁ w p m nv sv lv rv q names known) : ∃ es c, w.heap[m]? = some (.map es c) := by
  obtain ⟨D, ⟨es, c, hb, _⟩, _⟩ := h.map
  exact ⟨es, c, hb⟩
theorem TabIs.mlt (h : TabIs w₁ w p m nv sv lv rv q names known) : m < w.heap.size := by
  obtain ⟨es, c, hb⟩ := h.mAt
  exact lt_of hb
/-- A block of another kind is left. -/
theorem TabIs.notin (h : TabIs w₁ w p m nv sv lv rv q names known) {b : Nat} {cs : Array Value} {T : TypeId} (hb : w.heap[b]? = some (.cells cs T (0, 0))) (h1 : T ≠ 70) (h2 : T ≠ 36) : b ∉ FR p m rv := by
  intro hin
  rcases List.mem_cons.1 hin with e | hin
  · subst e
    have := h.tab
    unfold Tab5 at this
    rw [hb] at this
    cases this
    exact h1 rfl
  · rcases List.mem_cons.1 hin with e | hin
    · subst e
      obtain ⟨es, c, hm⟩ := h.mAt
      rw [hb] at hm; cases hm
    · obtain ⟨vs, ho, _⟩ := h.rows
      rcases ho.2 with ⟨rfl, _⟩ | ⟨g, cap, cur, rfl, _, hgb, _⟩
      · simp [Value.ownBlock] at hin
      · obtain rfl : b = g := by simpa [Value.ownBlock] using hin
        rw [hb] at hgb
        cases hgb
        exact h2 rfl
theorem TabIs.rowNot (h : TabIs w₁ w p m nv sv lv rv q names known) {b n : Nat} {r : Nat → Bool} (hb : RowB w b n r) : b ∉ FR p m rv := by
  obtain ⟨cur, h1, _⟩ := hb
  exact h.notin h1 (by decide) (by decide)
theorem TabIs.plt (h : TabIs w₁ w p m nv sv lv rv q names known) : p < w.heap.size := lt_of h.tab
theorem TabIs.glt (h : TabIs w₁ w p m nv sv lv rv q names known) {g : Nat} (e : rv.ownBlock = some g) : w₁.heap.size ≤ g ∧ g < w.heap.size := by
  obtain ⟨vs, ho, _⟩ := h.rows
  exact own_lt ho e
theorem FR_lt (h : TabIs w₁ w p m nv sv lv rv q names known) {k : Nat} (hk : k ∈ FR p m rv) : k < w.heap.size := by
  rcases List.mem_cons.1 hk with e | hk
  · rw [e]; exact h.plt
  · rcases List.mem_cons.1 hk with e | hk
    · rw [e]; exact h.mlt
    · exact (h.glt (by simpa using hk)).2
theorem row_keptF0 {n₀ : Nat} {e : TypeId} {v : Value} {n : Nat} {xs : List Value} (h : w.ownsRow n₀ e 1 v n xs) (k : Kept [] w w') : w'.ownsRow n₀ e 1 v n xs := row_turn h (grownBy_of_kept k) (fun g _ q => by cases q)
theorem TabIs.keep0 (h : TabIs w₁ w p m nv sv lv rv q names known) (k : Kept [] w w') : TabIs w₁ w' p m nv sv lv rv q names known := by
  obtain ⟨vs, ho, hr⟩ := h.rows
  obtain ⟨D, hm, hD⟩ := h.map
  refine ⟨h.word, h.nms, h.mapb, h.kept.trans k (by simp) (by simp), h.low, h.tab.kept k, ⟨vs, row_keptF0 ho k, fun i hi => ?_⟩, ⟨D, hm.kept (grownBy_of_kept k) (by simp), hD⟩⟩
  obtain ⟨b, h1, h2⟩ := hr i hi
  exact ⟨b, h1, h2.kept k⟩
/-- One formula more. -/
theorem TabIs.add {w2 w3 : World} {t : Tr} {D : DataW Unit} {vs : List Value} {tmp : Obj} {b gr cap : Nat} (h : TabIs w₁ w p m nv sv lv rv q names known) (hg : t.Good) (hno : known.findIdx? (fun s => s.text == t.text) = none) (hr : RowB w b q.len (rowT q names t))
    (hm : w.ownsMap Tryd.prog 9 (plainElem Tryd.prog 3) m known.length D) (hD : KnownOf known D) (hvs : RowsAre w w₁.heap.size rv q names known vs)
    (hm2 : w2.ownsMap Tryd.prog 9 (plainElem Tryd.prog 3) m (known.length + 1) (D.put (.string t.text) (.lit (.int .i64 (known.length : Nat))))) (hg2 : w.grownBy w2 (some m))
    (hr3 : w3.ownsRow w₁.heap.size 36 1 (.slice (some ⟨gr, 0, none⟩) (known.length + 1) cap) (known.length + 1) (vs ++ [.slice (some ⟨b, 0, none⟩) q.len q.len])) (hg3 : (w2.alloc tmp).grownBy w3 rv.ownBlock) (hat : rv.ownBlock = some gr ∨ gr = (w2.alloc tmp).heap.size) :
    Tab5 w3 p nv sv lv rv (.map (some m)) ∧ TabIs w₁ (w3.setCell ⟨p, 3, none⟩ (.slice (some ⟨gr, 0, none⟩) (known.length + 1) cap)) p m nv sv lv (.slice (some ⟨gr, 0, none⟩) (known.length + 1) cap) q names (known ++ [t]) ∧ Kept (FR p m rv) w (w3.setCell ⟨p, 3, none⟩ (.slice (some ⟨gr, 0, none⟩) (known.length + 1) cap)) := by
  have z2 := hg2.size
  have za : (w2.alloc tmp).heap.size = w2.heap.size + 1 := by simp
  have z3 := hg3.size
  have lp := h.plt
  have lm := h.mlt
  have hpm : p ≠ m := by
    rintro rfl
    obtain ⟨es, c, hb⟩ := h.mAt
    have := h.tab
    unfold Tab5 at this
    rw [hb] at this; cases this
  have hpg : ∀ g, rv.ownBlock = some g → p ≠ g := by
    rintro g e rfl
    rcases hvs.1.2 with ⟨rfl, _⟩ | ⟨g', cap', cur, rfl, _, hgb, _⟩
    · cases e
    · cases e
      have := h.tab
      unfold Tab5 at this
      rw [hgb] at this; cases this
  have hmg : ∀ g, rv.ownBlock = some g → m ≠ g := by
    rintro g e rfl
    rcases hvs.1.2 with ⟨rfl, _⟩ | ⟨g', cap', cur, rfl, _, hgb, _⟩
    · cases e
    · cases e
      obtain ⟨es, c, hb⟩ := h.mAt
      rw [hgb] at hb; cases hb
  have hpr : p ≠ gr := by
    rcases hat with e | e
    · exact hpg gr e
    · omega
  have k2 : Kept [m] w w2 := (Kept.refl [m] w).grown hg2 (fun k e => by cases e; simp)
  have k3 : Kept (FR p m rv) w w3 := by
    refine (Kept.trans (H := FR p m rv) (k2.alloc tmp) ((Kept.refl rv.ownBlock.toList _).grown hg3 (fun k e => by rw [e]; simp)) (fun x hx => ?_) (fun x hx => ?_))
    · simp only [List.mem_singleton] at hx; subst hx; simp [FR]
    · exact .inl (by unfold FR; exact List.mem_cons_of_mem _ (List.mem_cons_of_mem _ hx))
  have k5 : Kept (FR p m rv) w (w3.setCell ⟨p, 3, none⟩ (.slice (some ⟨gr, 0, none⟩) (known.length + 1) cap)) := k3.setCell (p := ⟨p, 3, none⟩) (.inl (by simp [FR])) _
  have t2 : Tab5 w2 p nv sv lv rv (.map (some m)) := k2.at h.tab (by simpa using hpm)
  have t3 : Tab5 w3 p nv sv lv rv (.map (some m)) := (hg3.block p (by omega) (fun e => hpg p e.symm rfl)).trans (alUp t2 tmp)
  refine ⟨t3, ⟨h.word, h.nms, h.mapb, ?_, h.low, ?_, ⟨vs ++ [.slice (some ⟨b, 0, none⟩) q.len q.len], ?_, fun i hi => ?_⟩, ⟨_, ?_, hD.add hg hno (hm.tidy lawStr)⟩⟩, k5⟩
  · refine h.kept.trans k5 (fun x hx => hx) (fun x hx => ?_)
    rcases List.mem_cons.1 hx with e | hx
    · exact .inr (by rw [e]; exact h.low)
    · rcases List.mem_cons.1 hx with e | hx
      · exact .inl (by simp [e])
      · exact .inr (h.glt (by simpa using hx)).1
  · unfold Tab5
    rw [row_set t3 _]; rfl
  · rw [List.length_append]
    refine row_turn hr3 (row := some p) ⟨rfl, rfl, rfl, by simp [World.setCell], fun k _ hk => Below.heap_setCell _ _ _ _ (fun e => hk (by rw [e]))⟩ (fun g e q => ?_)
    have e1 : gr = g := by simpa [Value.ownBlock] using e
    have e2 : p = g := by simpa using q
    omega
  · have hlen : vs.length = known.length := by have := hvs.1.1; simpa using this
    rw [List.length_append, List.length_singleton] at hi
    by_cases e : i < known.length
    · obtain ⟨b', h1, h2⟩ := hvs.2 i e
      refine ⟨b', by rw [List.getElem?_append_left (by omega)]; exact h1, ?_⟩
      rw [List.getElem_append_left e]
      exact h2.keptF k5 (h.rowNot h2)
    · obtain rfl : i = known.length := by omega
      refine ⟨b, by rw [List.getElem?_append_right (by omega), hlen]; simp, ?_⟩
      rw [List.getElem_append_right (Nat.le_refl _)]
      simp only [Nat.sub_self, List.getElem_cons_zero]
      exact hr.keptF k5 (h.rowNot hr)
  · rw [List.length_append]
    exact ((hm2.alloc tmp).kept hg3 (fun e => hmg m e.symm rfl)).setCell (a := ⟨p, 3, none⟩) (fun e => hpm e.symm) _
end
end Go.Proofs.YtondmjnagkldpaaDoor
