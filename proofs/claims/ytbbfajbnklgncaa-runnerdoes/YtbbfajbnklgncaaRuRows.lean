/- Lists of states side by side in memory, each with a row of its own: what an append to one of them leaves. -/
import Derived.Test.YtbbfajbnklgncaaRuRep
import Derived.Test.YtbbfajbnklgncaaBuBox
namespace Go.Proofs.Ytbbfajbnklgncaa
open Go.RowKit Go.Shelf

def numsN (xs : List Nat) : List Value := xs.map fun x => Value.int .i64 (x : Nat)
theorem numsN_len (xs : List Nat) : (numsN xs).length = xs.length := by simp [numsN]
theorem numsN_at {xs : List Nat} {k : Nat} (h : k < xs.length) : (numsN xs)[k]? = some (.int .i64 (xs[k] : Nat)) := by simp [numsN, h]
theorem Try.infoInR : (Try.prog.info? 3).map (fun i => (i.zero, i.size, i.bytes)) = some (some (.int .i64 0), 1, 8) := by kernel_rfl
/-- The rows vs of B hold the lists bk. -/
structure RowsN (W : World) (base B n : Nat) (vs : List Value) (bk : List (List Nat)) : Prop where
  box : W.heap[B]? = some (.cells vs.toArray 83 (0, 0))
  low : base ≤ B
  len : vs.length = n
  lenb : bk.length = n
  row : ∀ (i : Nat) (v : Value) (xs : List Nat), vs[i]? = some v → bk[i]? = some xs → W.ownsRow base 3 1 v xs.length (numsN xs)
  apart : ∀ (i j : Nat) (v u : Value) (g : Nat), i ≠ j → vs[i]? = some v → vs[j]? = some u → v.ownBlock = some g → u.ownBlock ≠ some g
theorem RowsN.kept {W W' : World} {base B n : Nat} {vs : List Value} {bk : List (List Nat)} (h : RowsN W base B n vs bk) (k : Kept [] W W') : RowsN W' base B n vs bk :=
  ⟨k.at h.box (by simp), h.low, h.len, h.lenb, fun i v xs h1 h2 => bx_kept (h.row i v xs h1 h2) k (by simp), h.apart⟩
theorem RowsN.off {W : World} {base B n : Nat} {vs : List Value} {bk : List (List Nat)} (h : RowsN W base B n vs bk) {i g : Nat} {v : Value} {xs : List Nat} (hv : vs[i]? = some v) (hx : bk[i]? = some xs) (hg : v.ownBlock = some g) : g ≠ B := by
  intro e
  subst e
  rcases (h.row i v xs hv hx).2 with ⟨rfl, _⟩ | ⟨g', cap, cur, rfl, _, hw, _⟩
  · cases hg
  · cases hg
    rw [h.box] at hw
    injection hw with hw
    injection hw with _ hw _
    exact absurd hw (by decide)
theorem RowsN.at {W : World} {base B n : Nat} {vs : List Value} {bk : List (List Nat)} (h : RowsN W base B n vs bk) {i : Nat} (hi : i < n) : ∃ v xs, vs[i]? = some v ∧ bk[i]? = some xs ∧ W.cell? ⟨B, i, none⟩ = some v ∧ W.frozen? ⟨B, i, none⟩ = false := by
  have h1 : i < vs.length := by rw [h.len]; exact hi
  have h2 : i < bk.length := by rw [h.lenb]; exact hi
  refine ⟨vs[i], bk[i], List.getElem?_eq_getElem h1, List.getElem?_eq_getElem h2, ?_, free_of h.box i⟩
  rw [cell_of h.box]
  simp [List.getElem?_eq_getElem h1]
/-- A row: its form, and what lies in it. -/
theorem RowsN.lies {W : World} {base B n : Nat} {vs : List Value} {bk : List (List Nat)} (h : RowsN W base B n vs bk) {i : Nat} {v : Value} {xs : List Nat} (hv : vs[i]? = some v) (hx : bk[i]? = some xs) : (v = .slice none 0 0 ∧ xs = []) ∨ ∃ g c, v = .slice (some ⟨g, 0, none⟩) xs.length c ∧ base ≤ g ∧ xs.length ≤ c ∧ c ≤ maxLen ∧ ∀ j, j < xs.length → W.cell? ⟨g, j, none⟩ = some (.int .i64 (xs.getD j 0 : Nat)) := by
  have ho := h.row i v xs hv hx
  rcases ho.2 with ⟨e, h0⟩ | ⟨g, cap, cur, e, hb, hw, h3, h4, h5, h6⟩
  · exact .inl ⟨e, List.length_eq_zero_iff.1 h0⟩
  · refine .inr ⟨g, cap, e, hb, h3, h4, fun j hj => ?_⟩
    rw [cell_of hw]
    have hx2 := numsN_at hj
    rw [show xs[j] = xs.getD j 0 from by rw [List.getD_eq_getElem?_getD, List.getElem?_eq_getElem hj]; rfl] at hx2
    rw [← h6] at hx2
    rw [List.getElem?_take] at hx2
    split at hx2
    · rw [← Array.getElem?_toList]; exact hx2
    · cases hx2
/-- An append to one of them. -/
theorem RowsN.app {W : World} {base B n i x A : Nat} {vs : List Value} {bk : List (List Nat)} {v : Value} {xs : List Nat} (h : RowsN W base B n vs bk) (hv : vs[i]? = some v) (hx : bk[i]? = some xs) (hl : xs.length + 1 ≤ 1000000000) (hA : W.cell? ⟨A, 0, none⟩ = some (.int .i64 (x : Nat))) :
    ∃ gr cap w2, (∀ ty, (Builtin.append_ #[83, 83] ty #[v, .slice (some ⟨A, 0, none⟩) 1 1]).run Try.prog W = .ok (.slice (some ⟨gr, 0, none⟩) (xs.length + 1) cap) w2) ∧ w2.cell? ⟨B, i, none⟩ = some v ∧ w2.frozen? ⟨B, i, none⟩ = false ∧
      RowsN (w2.setCell ⟨B, i, none⟩ (.slice (some ⟨gr, 0, none⟩) (xs.length + 1) cap)) base B n (vs.set i (.slice (some ⟨gr, 0, none⟩) (xs.length + 1) cap)) (bk.set i (xs ++ [x])) ∧
      ∀ w, Kept [] w W → w.heap.size ≤ base → Kept [] w (w2.setCell ⟨B, i, none⟩ (.slice (some ⟨gr, 0, none⟩) (xs.length + 1) cap)) := by
  obtain ⟨inf, hi, hz, hs, hb⟩ := info_parts Try.infoInR
  have ho := h.row i v xs hv hx
  have hlt := lt_of h.box
  obtain ⟨gr, cap, w2, g1, g2, g3, g4, g5⟩ := run_append_lies (P := Try.prog) W 83 0 base 3 inf (.int .i64 0) 1 8 Try.underlying83 hi hz hs hb rfl (by decide) v xs.length (numsN xs) ho ⟨A, 0, none⟩ 1 1 [.int .i64 (x : Nat)] rfl (fun j u hj => by
    cases j with
    | zero => cases hj; exact hA
    | succ j => simp at hj) (by intro u hu; simp at hu; subst hu; rfl) (by decide) (by unfold maxLen; omega) (by omega) (by have := h.low; omega) _ rfl
  have hb2 : w2.heap[B]? = some (.cells vs.toArray 83 (0, 0)) := (g3.block _ hlt (fun e => h.off hv hx e.symm rfl)).trans h.box
  have hgB : gr ≠ B := by
    rcases g4 with g4 | g4
    · exact h.off hv hx g4
    · omega
  have hset : ∀ u, Kept [B] w2 (w2.setCell ⟨B, i, none⟩ u) := fun u => (Kept.refl [B] w2).setCell (.inl (by simp)) u
  have hil : i < vs.length := (List.getElem?_eq_some_iff.1 hv).1
  have hil2 : i < bk.length := (List.getElem?_eq_some_iff.1 hx).1
  refine ⟨gr, cap, w2, fun ty => g1, ?_, free_of hb2 i, ⟨?_, h.low, by simp [h.len], by simp [h.lenb], ?_, ?_⟩, ?_⟩
  · rw [cell_of hb2]; simpa using hv
  · rw [bx_set hb2]; simp
  · intro j u ys hu hy
    by_cases hij : i = j
    · subst hij
      rw [List.getElem?_set_self hil] at hu
      rw [List.getElem?_set_self hil2] at hy
      cases hu; cases hy
      rw [show numsN (xs ++ [x]) = numsN xs ++ [.int .i64 (x : Nat)] from by simp [numsN], List.length_append]
      exact bx_kept g2 (hset _) (fun g e hg => by cases e; exact hgB (by simpa using hg))
    · rw [List.getElem?_set_ne hij] at hu hy
      refine bx_kept ((h.row j u ys hu hy).kept g3 ?_) (hset _) (fun g e hg => h.off hu hy e (by simpa using hg))
      cases hub : u.ownBlock with
      | none => exact .inl rfl
      | some g => exact .inr (fun e => h.apart i j v u g hij hv hu e.symm hub)
  · have hnew : ∀ (j : Nat) (u : Value) (g : Nat), i ≠ j → vs[j]? = some u → u.ownBlock = some g → g ≠ gr := by
      intro j u g hij hu hg e
      subst e
      rcases g4 with g4 | g4
      · exact h.apart i j v u g hij hv hu g4 hg
      · have hjl : j < bk.length := by rw [h.lenb, ← h.len]; exact (List.getElem?_eq_some_iff.1 hu).1
        have := (bx_base (h.row j u _ hu (List.getElem?_eq_getElem hjl)) hg).2; omega
    intro a b y z g hab hy hz2 hg hg'
    by_cases ha : i = a
    · subst ha
      rw [List.getElem?_set_self hil] at hy
      cases hy
      cases hg
      rw [List.getElem?_set_ne hab] at hz2
      exact hnew b z _ hab hz2 hg' rfl
    · rw [List.getElem?_set_ne ha] at hy
      by_cases hbb : i = b
      · subst hbb
        rw [List.getElem?_set_self hil] at hz2
        cases hz2
        cases hg'
        exact hnew a y _ ha hy hg rfl
      · rw [List.getElem?_set_ne hbb] at hz2
        exact h.apart a b y z g hab hy hz2 hg hg'
  · intro w k hw
    exact (k.grown g3 (fun q e => .inr (by have := (bx_base ho e).1; omega))).setCell (.inr (by have := h.low; show _ ≤ B; omega)) _
end Go.Proofs.Ytbbfajbnklgncaa
