/- Runners, each beside the document's: what the law RunnerDoes carries. -/
import Derived.Test.YtbbfajbnklgncaaRuDoW
namespace Go.Proofs.Ytbbfajbnklgncaa
open Go.RowKit Go.Shelf Go.Maps

/-- A runner and the document's; what they hold lies between a and b. -/
structure Pair (W : World) (a b R Q : Nat) (ps : List ByteArray) (next : List (List Int)) (out : List Nat) (s t : Nat) : Prop where
  ex : ∃ lo N fin hi pv nv ov, RunS W lo N R ps next out fin s ∧ DocW W hi Q pv nv ov ps next out t ∧ a ≤ lo ∧ lo ≤ N ∧ R < Q ∧ hi ≤ b
theorem Pair.keptF {F : List Nat} {W W' : World} {a b R Q s t : Nat} {ps : List ByteArray} {next : List (List Int)} {out : List Nat} (h : Pair W a b R Q ps next out s t) (k : Kept F W W') (hF : ∀ x ∈ F, x < a ∨ b ≤ x) : Pair W' a b R Q ps next out s t := by
  obtain ⟨lo, N, fin, hi, pv, nv, ov, h1, h2, h3, h4, h5, h6⟩ := h.ex
  have hN := h1.high
  have hu := h2.up
  exact ⟨lo, N, fin, hi, pv, nv, ov, h1.keptF k (fun hm => by have := hF R hm; omega) (fun x hx => by have := hF x hx; omega), h2.keptF k (fun x hx => by have := hF x hx; omega), h3, h4, h5, h6⟩
theorem Pair.mem {W : World} {a b R Q s t : Nat} {ps : List ByteArray} {next : List (List Int)} {out : List Nat} (h : Pair W a b R Q ps next out s t) : a ≤ R ∧ R < Q ∧ Q < b := by
  obtain ⟨lo, N, fin, hi, pv, nv, ov, h1, h2, h3, h4, h5, h6⟩ := h.ex
  have hN := h1.high
  have hu := h2.up
  omega
structure Pr where
  a : Nat
  b : Nat
  R : Nat
  Q : Nat
  s : Nat
structure PlayL (W : World) (L : List Pr) (ps : List ByteArray) (next : List (List Int)) (out : List Nat) : Prop where
  each : ∀ (i : Nat) (x : Pr), L[i]? = some x → Pair W x.a x.b x.R x.Q ps next out x.s x.s
  apart : ∀ (i j : Nat) (x y : Pr), i < j → L[i]? = some x → L[j]? = some y → x.b ≤ y.a
theorem PlayL.keptF {F : List Nat} {W W' : World} {L : List Pr} {ps : List ByteArray} {next : List (List Int)} {out : List Nat} (h : PlayL W L ps next out) (k : Kept F W W') (hF : ∀ f ∈ F, ∀ x ∈ L, f < x.a ∨ x.b ≤ f) : PlayL W' L ps next out :=
  ⟨fun i x hx => (h.each i x hx).keptF k (fun f hf => hF f hf x (List.mem_of_getElem? hx)), h.apart⟩
def Pr.to (x : Pr) (s : Nat) : Pr := { x with s := s }
/-- One of them went on. -/
theorem PlayL.upd {F : List Nat} {W W' : World} {L : List Pr} {ps : List ByteArray} {next : List (List Int)} {out : List Nat} {i s' : Nat} {x : Pr} (h : PlayL W L ps next out) (hx : L[i]? = some x) (k : Kept F W W') (hF : ∀ f ∈ F, x.a ≤ f ∧ f < x.b) (hp : Pair W' x.a x.b x.R x.Q ps next out s' s') : PlayL W' (L.set i (x.to s')) ps next out := by
  have hi : i < L.length := (List.getElem?_eq_some_iff.1 hx).1
  have hab : ∀ (j : Nat) (y : Pr), L[j]? = some y → y.a ≤ y.b := fun j y hy => by have := (h.each j y hy).mem; omega
  have hget : ∀ (j : Nat) (y : Pr), (L.set i (x.to s'))[j]? = some y → (j = i ∧ y = x.to s') ∨ (j ≠ i ∧ L[j]? = some y) := fun j y hy => by
    rw [List.getElem?_set] at hy
    split at hy
    · rename_i e
      cases hy
      exact .inl ⟨e.symm, rfl⟩
    · rename_i e
      exact .inr ⟨fun q => e q.symm, hy⟩
  refine ⟨fun j y hy => ?_, fun j l y z hjl hy hz => ?_⟩
  · rcases hget j y hy with ⟨rfl, rfl⟩ | ⟨hne, hy⟩
    · exact hp
    · refine (h.each j y hy).keptF k (fun f hf => ?_)
      have h1 := hF f hf
      rcases Nat.lt_or_gt_of_ne hne with q | q
      · have := h.apart j i y x q hy hx; omega
      · have := h.apart i j x y q hx hy; omega
  · rcases hget j y hy with ⟨e1, e2⟩ | ⟨hne, hy'⟩ <;> rcases hget l z hz with ⟨e3, e4⟩ | ⟨hne2, hz'⟩
    · omega
    · rw [e2]
      exact h.apart j l x z hjl (by rw [e1]; exact hx) hz'
    · rw [e4]
      exact h.apart j l y x hjl hy' (by rw [e3]; exact hx)
    · exact h.apart j l y z hjl hy' hz'
/-- One more of them. -/
theorem PlayL.more {W W' : World} {L : List Pr} {ps : List ByteArray} {next : List (List Int)} {out : List Nat} {y : Pr} (h : PlayL W L ps next out) (k : Kept [] W W') (hlt : ∀ x ∈ L, x.b ≤ y.a) (hp : Pair W' y.a y.b y.R y.Q ps next out y.s y.s) : PlayL W' (L ++ [y]) ps next out := by
  have hget : ∀ (j : Nat) (z : Pr), (L ++ [y])[j]? = some z → L[j]? = some z ∨ (j = L.length ∧ z = y) := fun j z hz => by
    by_cases hj : j < L.length
    · rw [List.getElem?_append_left hj] at hz; exact .inl hz
    · rw [List.getElem?_append_right (by omega)] at hz
      have h0 := (List.getElem?_eq_some_iff.1 hz).1
      simp at h0
      have e : j - L.length = 0 := by omega
      rw [e] at hz
      simp at hz
      exact .inr ⟨by omega, hz.symm⟩
  refine ⟨fun j z hz => ?_, fun j l z u hjl hz hu => ?_⟩
  · rcases hget j z hz with q | ⟨_, rfl⟩
    · exact (h.each j z q).keptF k (by simp)
    · exact hp
  · rcases hget j z hz with q | ⟨e1, rfl⟩ <;> rcases hget l u hu with q2 | ⟨e2, rfl⟩
    · exact h.apart j l z u hjl q q2
    · exact hlt z (List.mem_of_getElem? q)
    · have := (List.getElem?_eq_some_iff.1 q2).1; omega
    · omega
def rVs (L : List Pr) : List Value := L.map fun x => .pointer (some ⟨x.R, 0, none⟩)
def qVs (L : List Pr) : List Value := L.map fun x => .pointer (some ⟨x.Q, 0, none⟩)
theorem rVs_set {L : List Pr} {i s' : Nat} {x : Pr} (hx : L[i]? = some x) : rVs (L.set i (x.to s')) = rVs L := by
  unfold rVs
  rw [List.map_set]
  apply List.ext_getElem?
  intro j
  rw [List.getElem?_set]
  split
  · rename_i e
    subst e
    have hi : i < L.length := (List.getElem?_eq_some_iff.1 hx).1
    rw [if_pos (by simpa using hi), List.getElem?_map, hx]
    rfl
  · rfl
theorem qVs_set {L : List Pr} {i s' : Nat} {x : Pr} (hx : L[i]? = some x) : qVs (L.set i (x.to s')) = qVs L := by
  unfold qVs
  rw [List.map_set]
  apply List.ext_getElem?
  intro j
  rw [List.getElem?_set]
  split
  · rename_i e
    subst e
    have hi : i < L.length := (List.getElem?_eq_some_iff.1 hx).1
    rw [if_pos (by simpa using hi), List.getElem?_map, hx]
    rfl
  · rfl
/-- The law's play: its box and the two lists. -/
structure PlayB (W : World) (base P : Nat) (rv qv : Value) (L : List Pr) : Prop where
  box : W.heap[P]? = some (.cells #[rv, qv] 45 (0, 0))
  rr : W.ownsRow base 32 1 rv L.length (rVs L)
  qr : W.ownsRow base 38 1 qv L.length (qVs L)
  off : ∀ g, (g = P ∨ rv.ownBlock = some g ∨ qv.ownBlock = some g) → ∀ x ∈ L, g < x.a ∨ x.b ≤ g
  low : base ≤ P
theorem PlayB.keptF {F : List Nat} {W W' : World} {base P : Nat} {rv qv : Value} {L : List Pr} (h : PlayB W base P rv qv L) (k : Kept F W W') (hF : ∀ g, (g = P ∨ rv.ownBlock = some g ∨ qv.ownBlock = some g) → g ∉ F) : PlayB W' base P rv qv L :=
  ⟨k.at h.box (hF P (.inl rfl)), bx_kept h.rr k (fun g hg => hF g (.inr (.inl hg))), bx_kept h.qr k (fun g hg => hF g (.inr (.inr hg))), h.off, h.low⟩
/-- One of the runners writes into its own. -/
theorem PlayB.upd {F : List Nat} {W W' : World} {base P i s' : Nat} {rv qv : Value} {L : List Pr} {x : Pr} (h : PlayB W base P rv qv L) (hx : L[i]? = some x) (k : Kept F W W') (hF : ∀ f ∈ F, x.a ≤ f ∧ f < x.b) : PlayB W' base P rv qv (L.set i (x.to s')) := by
  have hm := List.mem_of_getElem? hx
  have h2 := h.keptF k (fun g hg hf => by have h3 := h.off g hg x hm; have h4 := hF g hf; omega)
  refine ⟨h2.box, ?_, ?_, fun g hg y hy => ?_, h2.low⟩
  · rw [List.length_set, rVs_set hx]; exact h2.rr
  · rw [List.length_set, qVs_set hx]; exact h2.qr
  · obtain ⟨j, hj, e⟩ := List.getElem_of_mem hy
    have hy? : (L.set i (x.to s'))[j]? = some y := by rw [← e]; exact List.getElem?_eq_getElem hj
    rw [List.getElem?_set] at hy?
    split at hy?
    · split at hy?
      · cases hy?
        exact h.off g hg x hm
      · cases hy?
    · exact h.off g hg y (List.mem_of_getElem? hy?)
theorem PlayB.at {W : World} {base P i : Nat} {rv qv : Value} {L : List Pr} {x : Pr} (h : PlayB W base P rv qv L) (hx : L[i]? = some x) : ∃ rg rc qg qc, rv = .slice (some ⟨rg, 0, none⟩) L.length rc ∧ qv = .slice (some ⟨qg, 0, none⟩) L.length qc ∧ W.cell? ⟨rg, i, none⟩ = some (.pointer (some ⟨x.R, 0, none⟩)) ∧ W.cell? ⟨qg, i, none⟩ = some (.pointer (some ⟨x.Q, 0, none⟩)) := by
  have hi : i < L.length := (List.getElem?_eq_some_iff.1 hx).1
  rcases own_lie h.rr with ⟨_, e⟩ | ⟨rg, rc, e1, _, _, e2⟩
  · omega
  rcases own_lie h.qr with ⟨_, e⟩ | ⟨qg, qc, e3, _, _, e4⟩
  · omega
  refine ⟨rg, rc, qg, qc, e1, e3, ?_, ?_⟩
  · have := e2 i (.pointer (some ⟨x.R, 0, none⟩)) (by unfold rVs; rw [List.getElem?_map, hx]; rfl)
    rwa [Nat.zero_add] at this
  · have := e4 i (.pointer (some ⟨x.Q, 0, none⟩)) (by unfold qVs; rw [List.getElem?_map, hx]; rfl)
    rwa [Nat.zero_add] at this
theorem infPr : (Try.prog.info? 32).map (fun i => (i.zero, i.size, i.bytes)) = some (some (.pointer none), 1, 8) := by kernel_rfl
theorem infPq : (Try.prog.info? 38).map (fun i => (i.zero, i.size, i.bytes)) = some (some (.pointer none), 1, 8) := by kernel_rfl
theorem appendPr_step {W : World} {base n : Nat} {v u : Value} {xs : List Value} (hown : W.ownsRow base 32 1 v n xs) (h1 : u.oneCell' = true) (hb : base ≤ W.heap.size) (hl : n ≤ 1000000000) :
    ∃ g c W2, (∀ ty, (Builtin.append_ #[42, 42] ty #[v, .slice (some ⟨W.heap.size, 0, none⟩) 1 1]).run Try.prog (W.alloc (.cells #[u] 32)) = .ok (.slice (some ⟨g, 0, none⟩) (n + 1) c) W2) ∧ W2.ownsRow base 32 1 (.slice (some ⟨g, 0, none⟩) (n + 1) c) (n + 1) (xs ++ [u]) ∧ (W.alloc (.cells #[u] 32)).grownBy W2 v.ownBlock ∧ (v.ownBlock = some g ∨ W.heap.size ≤ g) := by
  obtain ⟨i0, hi, hz0, hz1, hz2⟩ := info_parts infPr
  have hbA : (W.alloc (.cells #[u] 32)).heap[W.heap.size]? = some (.cells #[u] 32 (0, 0)) := al0 _ _
  have ho := bx_kept hown ((Kept.refl [] W).alloc (.cells #[u] 32)) (by simp)
  obtain ⟨gr, cap, w2, g1, g2, g3, g4, g5⟩ := run_append_lies (P := Try.prog) (W.alloc (.cells #[u] 32)) 42 0 base 32 i0 _ 1 8 Try.underlying42 hi hz0 hz1 hz2 rfl (by decide) v n xs ho ⟨W.heap.size, 0, none⟩ 1 1 [u] rfl (fun j x hx => by
      rw [addr_add, Nat.zero_add, cell_of hbA]
      simpa using hx) (by intro x hx; simp at hx; subst hx; exact h1) (by decide) (by unfold maxLen; omega) (by omega) (by rw [World.size_alloc]; omega) _ rfl
  exact ⟨_, _, w2, fun ty => g1, g2, g3, g4.imp_right (fun e => by rw [e, World.size_alloc]; omega)⟩
theorem appendPq_step {W : World} {base n : Nat} {v u : Value} {xs : List Value} (hown : W.ownsRow base 38 1 v n xs) (h1 : u.oneCell' = true) (hb : base ≤ W.heap.size) (hl : n ≤ 1000000000) :
    ∃ g c W2, (∀ ty, (Builtin.append_ #[43, 43] ty #[v, .slice (some ⟨W.heap.size, 0, none⟩) 1 1]).run Try.prog (W.alloc (.cells #[u] 38)) = .ok (.slice (some ⟨g, 0, none⟩) (n + 1) c) W2) ∧ W2.ownsRow base 38 1 (.slice (some ⟨g, 0, none⟩) (n + 1) c) (n + 1) (xs ++ [u]) ∧ (W.alloc (.cells #[u] 38)).grownBy W2 v.ownBlock ∧ (v.ownBlock = some g ∨ W.heap.size ≤ g) := by
  obtain ⟨i0, hi, hz0, hz1, hz2⟩ := info_parts infPq
  have hbA : (W.alloc (.cells #[u] 38)).heap[W.heap.size]? = some (.cells #[u] 38 (0, 0)) := al0 _ _
  have ho := bx_kept hown ((Kept.refl [] W).alloc (.cells #[u] 38)) (by simp)
  obtain ⟨gr, cap, w2, g1, g2, g3, g4, g5⟩ := run_append_lies (P := Try.prog) (W.alloc (.cells #[u] 38)) 43 0 base 38 i0 _ 1 8 Try.underlying43 hi hz0 hz1 hz2 rfl (by decide) v n xs ho ⟨W.heap.size, 0, none⟩ 1 1 [u] rfl (fun j x hx => by
      rw [addr_add, Nat.zero_add, cell_of hbA]
      simpa using hx) (by intro x hx; simp at hx; subst hx; exact h1) (by decide) (by unfold maxLen; omega) (by omega) (by rw [World.size_alloc]; omega) _ rfl
  exact ⟨_, _, w2, fun ty => g1, g2, g3, g4.imp_right (fun e => by rw [e, World.size_alloc]; omega)⟩
end Go.Proofs.Ytbbfajbnklgncaa
