/- The play of the law RunnerDoes: what it carries from step to step. -/
import Derived.Test.YtbbfajbnklgncaaRuPair
namespace Go.Proofs.Ytbbfajbnklgncaa
open Go.RowKit Go.Shelf Go.Maps

theorem row_typeP {W : World} {base : Nat} {e : TypeId} {v : Value} {n g : Nat} {xs : List Value} (h : W.ownsRow base e 1 v n xs) (hg : v.ownBlock = some g) : ∃ cur, W.heap[g]? = some (.cells cur e (0, 0)) := by
  rcases h.2 with ⟨rfl, _⟩ | ⟨g', cap, cur, rfl, _, h2, _⟩
  · cases hg
  · cases hg; exact ⟨cur, h2⟩
structure PlayS (w W : World) (P : Nat) (rv qv : Value) (L : List Pr) (ps : List ByteArray) (next : List (List Int)) (out : List Nat) : Prop where
  bx : PlayB W w.heap.size P rv qv L
  pl : PlayL W L ps next out
  one : 1 ≤ L.length ∧ L.length ≤ 8
  top : ∀ x ∈ L, w.heap.size ≤ x.a ∧ x.b ≤ W.heap.size
  kept : Kept [] w W
theorem PlayS.quiet {w W W' : World} {P : Nat} {rv qv : Value} {L : List Pr} {ps : List ByteArray} {next : List (List Int)} {out : List Nat} (h : PlayS w W P rv qv L ps next out) (k : Kept [] W W') : PlayS w W' P rv qv L ps next out :=
  ⟨h.bx.keptF k (by simp), h.pl.keptF k (by simp), h.one, fun x hx => ⟨(h.top x hx).1, by have := (h.top x hx).2; have := k.size; omega⟩, keptB h.kept k⟩
theorem PlayS.go {F : List Nat} {w W W' : World} {P i s' : Nat} {rv qv : Value} {L : List Pr} {ps : List ByteArray} {next : List (List Int)} {out : List Nat} {x : Pr} (h : PlayS w W P rv qv L ps next out) (hx : L[i]? = some x) (k : Kept F W W') (hF : ∀ f ∈ F, x.a ≤ f ∧ f < x.b) (hp : Pair W' x.a x.b x.R x.Q ps next out s' s') : PlayS w W' P rv qv (L.set i (x.to s')) ps next out := by
  have hm := List.mem_of_getElem? hx
  have ht := h.top x hm
  have hsz := k.size
  refine ⟨h.bx.upd hx k hF, h.pl.upd hx k hF hp, by rw [List.length_set]; exact h.one, fun y hy => ?_, h.kept.trans k (by simp) (fun f hf => .inr (by have := hF f hf; omega))⟩
  rcases List.mem_or_eq_of_mem_set hy with q | rfl
  · have := h.top y q; omega
  · show w.heap.size ≤ x.a ∧ x.b ≤ _
    omega
/-- The two blocks of the play's lists, and its box, are three. -/
theorem PlayB.three {W : World} {base P : Nat} {rv qv : Value} {L : List Pr} (h : PlayB W base P rv qv L) : rv.ownBlock ≠ some P ∧ qv.ownBlock ≠ some P ∧ ∀ g, rv.ownBlock = some g → qv.ownBlock ≠ some g := by
  refine ⟨fun e => ?_, fun e => ?_, fun g e e2 => ?_⟩
  · obtain ⟨c, q⟩ := row_typeP h.rr e
    rw [h.box] at q
    cases q
  · obtain ⟨c, q⟩ := row_typeP h.qr e
    rw [h.box] at q
    cases q
  · obtain ⟨c, q⟩ := row_typeP h.rr e
    obtain ⟨c2, q2⟩ := row_typeP h.qr e2
    rw [q] at q2
    cases q2
/-- One more runner, and one more of the document's. -/
theorem PlayS.snoc {w W : World} {P : Nat} {rv qv : Value} {L : List Pr} {ps : List ByteArray} {next : List (List Int)} {out : List Nat} {y : Pr} (h : PlayS w W P rv qv L ps next out) (hl : L.length < 8) (hy : Pair W y.a y.b y.R y.Q ps next out y.s y.s) (hya : ∀ x ∈ L, x.b ≤ y.a) (hoff : ∀ g, (g = P ∨ rv.ownBlock = some g ∨ qv.ownBlock = some g) → g < y.a) (hyb : y.b ≤ W.heap.size) (hyw : w.heap.size ≤ y.a) :
    ∃ rg rc W3 W4 qg qc W5 W6,
      (∀ ty, (Builtin.append_ #[42, 42] ty #[rv, .slice (some ⟨W.heap.size, 0, none⟩) 1 1]).run Try.prog (W.alloc (.cells #[.pointer (some ⟨y.R, 0, none⟩)] 32)) = .ok (.slice (some ⟨rg, 0, none⟩) (L.length + 1) rc) W3) ∧
      (W3.cell? ⟨P, 0, none⟩ = some rv ∧ W3.frozen? ⟨P, 0, none⟩ = false) ∧ W3.setCell ⟨P, 0, none⟩ (.slice (some ⟨rg, 0, none⟩) (L.length + 1) rc) = W4 ∧ W4.cell? ⟨P, 1, none⟩ = some qv ∧
      (∀ ty, (Builtin.append_ #[43, 43] ty #[qv, .slice (some ⟨W4.heap.size, 0, none⟩) 1 1]).run Try.prog (W4.alloc (.cells #[.pointer (some ⟨y.Q, 0, none⟩)] 38)) = .ok (.slice (some ⟨qg, 0, none⟩) (L.length + 1) qc) W5) ∧
      (W5.cell? ⟨P, 1, none⟩ = some qv ∧ W5.frozen? ⟨P, 1, none⟩ = false) ∧ W5.setCell ⟨P, 1, none⟩ (.slice (some ⟨qg, 0, none⟩) (L.length + 1) qc) = W6 ∧
      PlayS w W6 P (.slice (some ⟨rg, 0, none⟩) (L.length + 1) rc) (.slice (some ⟨qg, 0, none⟩) (L.length + 1) qc) (L ++ [y]) ps next out ∧ Kept (P :: (rv.ownBlock.toList ++ qv.ownBlock.toList)) W W6 := by
  have hwW := h.kept.size
  obtain ⟨t1, t2, t3⟩ := h.bx.three
  have hP : P < W.heap.size := lt_of h.bx.box
  obtain ⟨rg, rc, W3, a1, a2, a3, a4⟩ := appendPr_step (u := .pointer (some ⟨y.R, 0, none⟩)) h.bx.rr rfl hwW (by omega)
  have k3 : Kept rv.ownBlock.toList W W3 := ((Kept.refl _ W).alloc _).grown a3 (fun g e => .inl (by simp [e]))
  have b3 : W3.heap[P]? = some (.cells #[rv, qv] 45 (0, 0)) := k3.at h.bx.box (by simp [t1])
  have q3 := bx_kept h.bx.qr k3 (fun g hg hm => t3 g (by simpa using hm) hg)
  obtain ⟨W4, h4⟩ : ∃ W4, W3.setCell ⟨P, 0, none⟩ (.slice (some ⟨rg, 0, none⟩) (L.length + 1) rc) = W4 := ⟨_, rfl⟩
  have k4 : Kept [P] W3 W4 := by rw [← h4]; exact (Kept.refl [P] W3).setCell (.inl (by simp)) _
  have b4 : W4.heap[P]? = some (.cells #[.slice (some ⟨rg, 0, none⟩) (L.length + 1) rc, qv] 45 (0, 0)) := by rw [← h4, bx_set b3]; rfl
  have hrg : rg ≠ P := by
    rintro rfl
    rcases a4 with e | e
    · exact t1 e
    · omega
  have r4 := bx_kept a2 k4 (fun g hg => by simp [Value.ownBlock] at hg; simp; omega)
  have q4 := bx_kept q3 k4 (fun g hg hm => t2 (by rw [List.mem_singleton.1 hm] at hg; exact hg))
  have s3 := k3.size
  have s4 := k4.size
  obtain ⟨qg, qc, W5, c1, c2, c3, c4⟩ := appendPq_step (u := .pointer (some ⟨y.Q, 0, none⟩)) q4 rfl (by omega) (by omega)
  have k5 : Kept qv.ownBlock.toList W4 W5 := ((Kept.refl _ W4).alloc _).grown c3 (fun g e => .inl (by simp [e]))
  have b5 : W5.heap[P]? = some (.cells #[.slice (some ⟨rg, 0, none⟩) (L.length + 1) rc, qv] 45 (0, 0)) := k5.at b4 (by simp [t2])
  have r5 := bx_kept r4 k5 (fun g hg hm => by
    obtain ⟨c, q⟩ := row_typeP r4 hg
    obtain ⟨c', q'⟩ := row_typeP q4 (show qv.ownBlock = some g by simpa using hm)
    rw [q] at q'
    cases q')
  obtain ⟨W6, h6⟩ : ∃ W6, W5.setCell ⟨P, 1, none⟩ (.slice (some ⟨qg, 0, none⟩) (L.length + 1) qc) = W6 := ⟨_, rfl⟩
  have k6 : Kept [P] W5 W6 := by rw [← h6]; exact (Kept.refl [P] W5).setCell (.inl (by simp)) _
  have b6 : W6.heap[P]? = some (.cells #[.slice (some ⟨rg, 0, none⟩) (L.length + 1) rc, .slice (some ⟨qg, 0, none⟩) (L.length + 1) qc] 45 (0, 0)) := by rw [← h6, bx_set b5]; rfl
  have hqg : qg ≠ P := by
    rintro rfl
    rcases c4 with e | e
    · exact t2 e
    · omega
  have r6 := bx_kept r5 k6 (fun g hg => by simp [Value.ownBlock] at hg; simp; omega)
  have q6 := bx_kept c2 k6 (fun g hg => by simp [Value.ownBlock] at hg; simp; omega)
  have kAll : Kept (P :: (rv.ownBlock.toList ++ qv.ownBlock.toList)) W W6 := by
    have e1 : Kept (P :: (rv.ownBlock.toList ++ qv.ownBlock.toList)) W W4 := k3.trans k4 (fun x hx => by simp at hx; simp [hx]) (fun x hx => .inl (by simp at hx; simp [hx]))
    have e2 : Kept (P :: (rv.ownBlock.toList ++ qv.ownBlock.toList)) W W5 := e1.trans k5 (fun x hx => hx) (fun x hx => .inl (by simp at hx; simp [hx]))
    exact e2.trans k6 (fun x hx => hx) (fun x hx => .inl (by simp at hx; simp [hx]))
  have hofA : ∀ f ∈ P :: (rv.ownBlock.toList ++ qv.ownBlock.toList), (f = P ∨ rv.ownBlock = some f ∨ qv.ownBlock = some f) := fun f hf => by
    rcases List.mem_cons.1 hf with q | q
    · exact .inl q
    · rcases List.mem_append.1 q with q | q
      · exact .inr (.inl (by simpa using q))
      · exact .inr (.inr (by simpa using q))
  have hl2 : PlayL W (L ++ [y]) ps next out := h.pl.more (Kept.refl [] W) hya hy
  have hl6 : PlayL W6 (L ++ [y]) ps next out := hl2.keptF kAll (fun f hf x hx => by
    rcases List.mem_append.1 hx with q | q
    · exact h.bx.off f (hofA f hf) x q
    · rw [List.mem_singleton.1 q]
      exact .inl (hoff f (hofA f hf)))
  have s5 := k5.size
  have s6 := k6.size
  have hRmem := hy.mem
  have hnew : ∀ g, (g = P ∨ (Value.slice (some ⟨rg, 0, none⟩) (L.length + 1) rc).ownBlock = some g ∨ (Value.slice (some ⟨qg, 0, none⟩) (L.length + 1) qc).ownBlock = some g) → (g = P ∨ rv.ownBlock = some g ∨ qv.ownBlock = some g) ∨ W.heap.size ≤ g := fun g hg => by
    rcases hg with q | q | q
    · exact .inl (.inl q)
    · have e : rg = g := by simpa [Value.ownBlock] using q
      subst e
      rcases a4 with e | e
      · exact .inl (.inr (.inl e))
      · exact .inr e
    · have e : qg = g := by simpa [Value.ownBlock] using q
      subst e
      rcases c4 with e | e
      · exact .inl (.inr (.inr e))
      · exact .inr (by omega)
  refine ⟨rg, rc, W3, W4, qg, qc, W5, W6, a1, ⟨(cell_of b3 0).trans rfl, free_of b3 0⟩, h4, (cell_of b4 1).trans rfl, c1, ⟨(cell_of b5 1).trans rfl, free_of b5 1⟩, h6, ⟨⟨b6, ?_, ?_, fun g hg x hx => ?_, h.bx.low⟩, hl6, by rw [List.length_append, List.length_singleton]; omega, fun x hx => ?_, h.kept.trans kAll (by simp) (fun f hf => .inr ?_)⟩, kAll⟩
  · rw [List.length_append, List.length_singleton]
    unfold rVs
    rw [List.map_append]
    exact r6
  · rw [List.length_append, List.length_singleton]
    unfold qVs
    rw [List.map_append]
    exact q6
  · rcases hnew g hg with q | q
    · rcases List.mem_append.1 hx with e | e
      · exact h.bx.off g q x e
      · rw [List.mem_singleton.1 e]; exact .inl (hoff g q)
    · rcases List.mem_append.1 hx with e | e
      · have := (h.top x e).2; omega
      · rw [List.mem_singleton.1 e]; omega
  · rcases List.mem_append.1 hx with e | e
    · have := h.top x e; omega
    · rw [List.mem_singleton.1 e]; omega
  · rcases hofA f hf with q | q | q
    · rw [q]; exact h.bx.low
    · exact (bx_base h.bx.rr q).1
    · exact (bx_base h.bx.qr q).1
end Go.Proofs.Ytbbfajbnklgncaa
