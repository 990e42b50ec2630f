/- Table.row: what stands between two rounds of its loop. No walk here. -/
import Derived.Test.YtondmjnagkldpaaDoorEvTab
import Derived.Test.YtondmjnagkldpaaDoorTrWeight
namespace Go.Proofs.YtondmjnagkldpaaDoor
open Go.RowKit Go.Shelf Go.Maps

theorem step_map_run {P : Program} {ops : Array Oper} {o : Oper} {a : Act} {w : World} {K : Act → World → Prop} {Q : Exit → Act → World → Prop} {E : Prop}
    (hg : o.guard = none) (m x v : Operand) (t : TypeId) (hop : o.op = Op.mapUpdate t m x v)
    (mv xv vv : Value) (w' : World) (hm : a.eval m = mv) (hx : a.eval x = xv) (hv : a.eval v = vv) (hrun : (Instr.mapUpdate t mv xv vv).run P w = .ok () w') (hK : K (a.put o.dst undef) w') :
    if Region.wanted o (yielded ops a.tmps) = true then Oper.wp P o a w K Q else E := by
  have hw : Region.wanted o (yielded ops a.tmps) = true := by simp [Region.wanted, hg]
  rw [if_pos hw]
  unfold Oper.wp
  simp [execOp, hop, hm, hx, hv, hrun, Result.andThen]
  exact hK
/-- All names of a formula are in the list. -/
def Tr.Named (names : List ByteArray) (t : Tr) : Prop := t.All (fun x => x.op = 3 → hasN names x.name = true)
theorem text_kid {t : Tr} {i : Nat} (h : i < t.kids.length) : t.kids[i].text.length ≤ t.text.length := by
  have h1 := textTo_le t (i + 1)
  rw [textTo_succ t h, List.length_append] at h1
  omega
theorem row_turnF {F : List Nat} {w w' : World} {n₀ : Nat} {e : TypeId} {v : Value} {n : Nat} {xs : List Value} (h : w.ownsRow n₀ e 1 v n xs) (k : Kept F w w') (hn : ∀ g, v.ownBlock = some g → g ∉ F) : w'.ownsRow n₀ e 1 v n xs := by
  refine ⟨h.1, ?_⟩
  rcases h.2 with ⟨rfl, h0⟩ | ⟨g, cap, cur, rfl, h1, h2, h3⟩
  · exact .inl ⟨rfl, h0⟩
  · exact .inr ⟨g, cap, cur, rfl, h1, k.at h2 (hn g rfl), h3⟩
section
variable {w₁ w w' : World} {p m : Nat} {nv sv lv rv : Value} {q : Wd} {names : List ByteArray} {known : List Tr}
/-- What is turned elsewhere, and is no row of bools, leaves a table. -/
theorem TabIs.keepF {G : List Nat} (h : TabIs w₁ w p m nv sv lv rv q names known) (k : Kept G w w') (h1 : ∀ x ∈ G, w₁.heap.size ≤ x) (h2 : ∀ x ∈ G, x ∉ FR p m rv) (h3 : ∀ x ∈ G, ∀ cur, w.heap[x]? ≠ some (.cells cur 4 (0, 0))) : TabIs w₁ w' p m nv sv lv rv q names known := by
  obtain ⟨vs, ho, hr⟩ := h.rows
  obtain ⟨D, hm, hD⟩ := h.map
  refine ⟨h.word, h.nms, h.mapb, h.kept.trans k (fun x hx => hx) (fun x hx => .inr (h1 x hx)), h.low, k.at h.tab (fun hx => h2 p hx (by simp [FR])), ⟨vs, row_turnF ho k (fun g e hx => h2 g hx (by simp [FR, e])), fun i hi => ?_⟩, ⟨D, ?_, hD⟩⟩
  · obtain ⟨b, e1, e2⟩ := hr i hi
    refine ⟨b, e1, e2.keptF k (fun hx => ?_)⟩
    obtain ⟨cur, hb, _⟩ := e2
    exact h3 b hx cur hb
  · obtain ⟨es, c, hb, hrest⟩ := hm
    exact ⟨es, c, k.at hb (fun hx => h2 m hx (by simp [FR])), hrest⟩
end
structure RowLoop (w₁ w2 : World) (p m : Nat) (nv sv lv rv : Value) (q : Wd) (names : List ByteArray) (known : List Tr) (t : Tr) (i : Nat) (v8 rvi : Value) (ki : List Tr) (wr : World) : Prop where
  tab : TabIs w₁ wr p m nv sv lv rvi q names ki
  kept : Kept (FR p m rv) w2 wr
  grow : ∀ g, rvi.ownBlock = some g → rv.ownBlock = some g ∨ w2.heap.size ≤ g
  len : ki.length ≤ known.length + ((t.kids.map Tr.size).take i).sum
  new : ∀ s ∈ ki, s ∈ known ∨ s.size < t.size
  own : ∃ us, wr.ownsRow w2.heap.size 36 1 v8 i us ∧ ∀ j (_ : j < i) (hk : j < t.kids.length), ∃ b, us[j]? = some (.slice (some ⟨b, 0, none⟩) q.len q.len) ∧ RowB wr b q.len (rowT q names t.kids[j])
  apart : ∀ g, v8.ownBlock = some g → rvi.ownBlock ≠ some g
theorem RowLoop.slice {w₁ w2 : World} {p m : Nat} {nv sv lv rv : Value} {q : Wd} {names : List ByteArray} {known : List Tr} {t : Tr} {i : Nat} {v8 rvi : Value} {ki : List Tr} {wr : World} (h : RowLoop w₁ w2 p m nv sv lv rv q names known t i v8 rvi ki wr) : ∃ ad c, v8 = .slice ad i c := by
  obtain ⟨us, ho, _⟩ := h.own
  rcases ho.2 with ⟨rfl, rfl⟩ | ⟨g, cap, cur, rfl, _⟩
  · exact ⟨none, 0, rfl⟩
  · exact ⟨_, _, rfl⟩
theorem RowLoop.not8 {w₁ w2 : World} {p m : Nat} {nv sv lv rv : Value} {q : Wd} {names : List ByteArray} {known : List Tr} {t : Tr} {i : Nat} {v8 rvi : Value} {ki : List Tr} {wr : World} (h : RowLoop w₁ w2 p m nv sv lv rv q names known t i v8 rvi ki wr) (hp : p < w2.heap.size) (hm : m < w2.heap.size) : ∀ g, v8.ownBlock = some g → g ∉ FR p m rvi := by
  intro g e hin
  obtain ⟨us, ho, _⟩ := h.own
  have hl := own_lt ho e
  rcases List.mem_cons.1 hin with e' | hin
  · omega
  · rcases List.mem_cons.1 hin with e' | hin
    · omega
    · exact h.apart g e (by simpa using hin)
/-- One kid more. -/
theorem RowLoop.next {w₁ w2 : World} {p m : Nat} {nv sv lv rv : Value} {q : Wd} {names : List ByteArray} {known : List Tr} {t : Tr} {i : Nat} {v8 rvi : Value} {ki : List Tr} {wr W5 w6 : World} {kb0 tmp : Obj} {b5 gr cap : Nat} {rv5 : Value} {k5 : List Tr} {us : List Value}
    (h : RowLoop w₁ w2 p m nv sv lv rv q names known t i v8 rvi ki wr) (hi : i < t.kids.length) (hp : p < w2.heap.size) (hm : m < w2.heap.size) (hw : w₁.heap.size ≤ w2.heap.size)
    (t5 : TabIs w₁ W5 p m nv sv lv rv5 q names k5) (e5 : Kept (FR p m rvi) (wr.alloc kb0) W5) (g5 : ∀ g, rv5.ownBlock = some g → rvi.ownBlock = some g ∨ (wr.alloc kb0).heap.size ≤ g) (l5 : k5.length ≤ ki.length + t.kids[i].size) (n5 : ∀ s ∈ k5, s ∈ ki ∨ s.size ≤ t.kids[i].size) (r5 : RowB W5 b5 q.len (rowT q names t.kids[i]))
    (hus : wr.ownsRow w2.heap.size 36 1 v8 i us) (hub : ∀ j (_ : j < i) (hk : j < t.kids.length), ∃ b, us[j]? = some (.slice (some ⟨b, 0, none⟩) q.len q.len) ∧ RowB wr b q.len (rowT q names t.kids[j]))
    (o6 : w6.ownsRow w2.heap.size 36 1 (.slice (some ⟨gr, 0, none⟩) (i + 1) cap) (i + 1) (us ++ [.slice (some ⟨b5, 0, none⟩) q.len q.len])) (g6 : (W5.alloc tmp).grownBy w6 v8.ownBlock) (a6 : v8.ownBlock = some gr ∨ gr = (W5.alloc tmp).heap.size) :
    RowLoop w₁ w2 p m nv sv lv rv q names known t (i + 1) (.slice (some ⟨gr, 0, none⟩) (i + 1) cap) rv5 k5 w6 := by
  have hn8 := h.not8 hp hm
  have hul : us.length = i := by have := hus.1; simpa using this
  have zal : (wr.alloc kb0).heap.size = wr.heap.size + 1 := by simp
  have z5 := e5.size
  have zr := h.kept.size
  have za : (W5.alloc tmp).heap.size = W5.heap.size + 1 := by simp
  have k5w : Kept (FR p m rvi) wr W5 := (((Kept.refl [] wr).alloc kb0).trans e5 (H := FR p m rvi) (by simp) (fun x hx => .inl hx))
  have k6 : Kept v8.ownBlock.toList W5 w6 := (((Kept.refl [] W5).alloc tmp).trans ((Kept.refl v8.ownBlock.toList _).grown g6 (fun k e => by rw [e]; simp)) (H := v8.ownBlock.toList) (by simp) (fun x hx => .inl hx))
  have own8 : ∀ g, v8.ownBlock = some g → ∃ cur, wr.heap[g]? = some (.cells cur 36 (0, 0)) := by
    intro g e
    rcases hus.2 with ⟨rfl, _⟩ | ⟨g', c', cur, rfl, _, hb, _⟩
    · cases e
    · cases e; exact ⟨cur, hb⟩
  have h5 : ∀ g, v8.ownBlock = some g → ∃ cur, W5.heap[g]? = some (.cells cur 36 (0, 0)) := fun g e => by
    obtain ⟨cur, hb⟩ := own8 g e
    exact ⟨cur, k5w.at hb (hn8 g e)⟩
  have n85 : ∀ g, v8.ownBlock = some g → g ∉ FR p m rv5 := by
    intro g e hin
    have hl := own_lt hus e
    rcases List.mem_cons.1 hin with e' | hin
    · omega
    · rcases List.mem_cons.1 hin with e' | hin
      · omega
      · rcases g5 g (by simpa using hin) with q' | q'
        · exact h.apart g e q'
        · omega
  have t6 : TabIs w₁ w6 p m nv sv lv rv5 q names k5 := t5.keepF k6 (fun x hx => by have := own_lt hus (show v8.ownBlock = some x by simpa using hx); omega) (fun x hx => n85 x (by simpa using hx)) (fun x hx cur hc => by
    obtain ⟨cur', hb⟩ := h5 x (by simpa using hx)
    rw [hc] at hb; cases hb)
  have rowk : ∀ {b : Nat} {r : Nat → Bool}, RowB W5 b q.len r → RowB w6 b q.len r := fun {b r} hb => hb.keptF k6 (fun hx => by
    obtain ⟨cur, hc, _⟩ := hb
    obtain ⟨cur', hb'⟩ := h5 b (by simpa using hx)
    rw [hc] at hb'; cases hb')
  refine ⟨t6, ?_, fun g e => ?_, ?_, fun s hs => ?_, ⟨us ++ [.slice (some ⟨b5, 0, none⟩) q.len q.len], o6, fun j hj hk => ?_⟩, fun g e => ?_⟩
  · have ka : Kept (FR p m rv) w2 W5 := h.kept.trans k5w (fun x hx => hx) (fun x hx => by
      rcases List.mem_cons.1 hx with e | hx
      · exact .inl (by simp [FR, e])
      · rcases List.mem_cons.1 hx with e | hx
        · exact .inl (by simp [FR, e])
        · rcases h.grow x (by simpa using hx) with e | e
          · exact .inl (by simp [FR, e])
          · exact .inr e)
    exact ka.trans k6 (fun x hx => hx) (fun x hx => .inr (own_lt hus (show v8.ownBlock = some x by simpa using hx)).1)
  · rcases g5 g e with q' | q'
    · exact h.grow g q'
    · exact .inr (by omega)
  · have := h.len
    rw [sum_take _ _ (by simpa using hi), List.getElem_map]
    omega
  · rcases n5 s hs with e | e
    · exact h.new s e
    · exact .inr (by have := Tr.kid_size (List.getElem_mem hi); omega)
  · by_cases e : j < i
    · obtain ⟨b, e1, e2⟩ := hub j e hk
      exact ⟨b, by rw [List.getElem?_append_left (by omega)]; exact e1, rowk (e2.keptF k5w (h.tab.rowNot e2))⟩
    · obtain rfl : j = i := by omega
      refine ⟨b5, by rw [List.getElem?_append_right (by omega), hul]; simp, rowk r5⟩
  · have e1 : gr = g := by simpa [Value.ownBlock] using e
    subst e1
    intro e2
    rcases a6 with e3 | e3
    · exact n85 gr e3 (by simp [FR, e2])
    · have := (t5.glt e2).2; omega
/-- The rows of all kids. -/
theorem RowLoop.kids {w₁ w2 : World} {p m : Nat} {nv sv lv rv : Value} {q : Wd} {names : List ByteArray} {known : List Tr} {t : Tr} {v8 rvi : Value} {ki : List Tr} {wr : World} (h : RowLoop w₁ w2 p m nv sv lv rv q names known t t.kids.length v8 rvi ki wr) : KidsR wr v8 (t.kids.map (rowT q names)) q.len := by
  obtain ⟨us, ho, hb⟩ := h.own
  rcases ho.2 with ⟨rfl, h0⟩ | ⟨g, cap, cur, rfl, _, hgb, h3, h4, h5, h6⟩
  · exact .inl ⟨List.length_eq_zero_iff.1 (by simpa using h0), rfl⟩
  · refine .inr ⟨g, cap, by rw [List.length_map], fun i hi => ?_⟩
    have hi' : i < t.kids.length := by simpa using hi
    obtain ⟨b, e1, e2⟩ := hb i hi' hi'
    refine ⟨b, ?_, by rw [List.getElem_map]; exact e2⟩
    rw [ho.cellAt i (by omega)]
    exact e1
/-- No text of a smaller formula is this one's. -/
theorem none_of {known ki : List Tr} {t : Tr} {D : DataW Unit} (hD : KnownOf ki D) (hg : t.Good) (hno : known.findIdx? (fun s => s.text == t.text) = none) (h : ∀ s ∈ ki, s ∈ known ∨ s.size < t.size) : ki.findIdx? (fun s => s.text == t.text) = none := by
  rw [List.findIdx?_eq_none_iff]
  intro s hs
  rcases h s hs with e | e
  · exact List.findIdx?_eq_none_iff.1 hno s e
  · rw [beq_eq_false_iff_ne]
    intro q
    rw [text_inj (hD.good s hs) hg q] at e
    omega
end Go.Proofs.YtondmjnagkldpaaDoor
