/- Automata that are lent: LentGeneral, WholeGeneral. -/
import Derived.Test.YtkkhilgcjaigcaaDoorHI
import Derived.Test.YtkkhilgcjaigcaaDoorHI
import Derived.Test.YtkkhilgcjaigcaaDoorHI
import Derived.Test.YtkkhilgcjaigcaaDoorBuCheck
import Derived.Deep.RegionHeld3
namespace Go.Proofs.YtkkhilgcjaigcaaDoor
open Go.RowKit Go.Shelf

theorem kept_moreG {B : Nat} {a b : World} (k : Kept [] a b) : Kept [B] a b := ⟨k.os, k.tape, k.output, k.size, fun n h _ => k.block n h (by simp)⟩
/-- A box of five cells. -/
def Five (T : TypeId) (W : World) (B : Nat) (a b c d e : Value) : Prop := W.heap[B]? = some (.cells #[a, b, c, d, e] T (0, 0))
theorem Five.cells {T : TypeId} {W : World} {B : Nat} {a b c d e : Value} (h : Five T W B a b c d e) : W.cell? ⟨B, 0, none⟩ = some a ∧ W.cell? ⟨B, 1, none⟩ = some b ∧ W.cell? ⟨B, 2, none⟩ = some c ∧ W.cell? ⟨B, 3, none⟩ = some d ∧ W.cell? ⟨B, 4, none⟩ = some e :=
  ⟨(cell_of h 0).trans rfl, (cell_of h 1).trans rfl, (cell_of h 2).trans rfl, (cell_of h 3).trans rfl, (cell_of h 4).trans rfl⟩
theorem Five.free {T : TypeId} {W : World} {B : Nat} {a b c d e : Value} (h : Five T W B a b c d e) : W.frozen? ⟨B, 0, none⟩ = false ∧ W.frozen? ⟨B, 1, none⟩ = false ∧ W.frozen? ⟨B, 2, none⟩ = false ∧ W.frozen? ⟨B, 3, none⟩ = false ∧ W.frozen? ⟨B, 4, none⟩ = false :=
  ⟨free_of h 0, free_of h 1, free_of h 2, free_of h 3, free_of h 4⟩
theorem Five.keptF {F : List Nat} {T : TypeId} {W W' : World} {B : Nat} {a b c d e : Value} (h : Five T W B a b c d e) (k : Kept F W W') (hB : B ∉ F) : Five T W' B a b c d e := k.at h hB
def setFive (W : World) (B : Nat) (a b c d e : Value) : World := ((((W.setCell ⟨B, 0, none⟩ a).setCell ⟨B, 1, none⟩ b).setCell ⟨B, 2, none⟩ c).setCell ⟨B, 3, none⟩ d).setCell ⟨B, 4, none⟩ e
theorem Five.set {T : TypeId} {W : World} {B : Nat} {a b c d e : Value} (h : Five T W B a b c d e) (a' b' c' d' e' : Value) : Five T (setFive W B a' b' c' d' e') B a' b' c' d' e' := by
  unfold Five setFive
  exact (row_set (row_set (row_set (row_set (row_set h a') b') c') d') e').trans rfl
theorem kept_set5 {w W : World} {B : Nat} (k : Kept [] w W) (hB : w.heap.size ≤ B) (a b c d e : Value) : Kept [] w (setFive W B a b c d e) := ((((k.setCell (.inr hB) _).setCell (.inr hB) _).setCell (.inr hB) _).setCell (.inr hB) _).setCell (.inr hB) _
theorem kept_five {W : World} {B : Nat} (a b c d e : Value) : Kept [B] W (setFive W B a b c d e) := (((((Kept.refl [B] W).setCell (.inl (by simp)) _).setCell (.inl (by simp)) _).setCell (.inl (by simp)) _).setCell (.inl (by simp)) _).setCell (.inl (by simp)) _
theorem Strs.src {W : World} {v : Value} {xs : List ByteArray} (h : Strs W v xs) : Src 1 W v xs.length (cellsT xs) := by
  refine ⟨by simp [cellsT], cellsT_one xs, ?_⟩
  rcases h.lie with ⟨rfl, rfl⟩ | ⟨b, o, c, h1, h2, h3, h4⟩
  · exact .inl ⟨rfl, rfl⟩
  · refine .inr ⟨⟨b, o, none⟩, c, h1, h2, h3, fun _ => rfl, fun hz => by rw [List.length_eq_zero_iff.1 hz]; rfl, fun j u hu => ?_⟩
    have hj : j < xs.length := by have := (List.getElem?_eq_some_iff.1 hu).1; simpa [cellsT] using this
    rw [cellsT_at hj] at hu
    rw [addr_add, h4 j hj, ← hu]
theorem Edgs.src {W : World} {v : Value} {es : List Edg} (h : Edgs W v es) : Src 4 W v es.length (cellsE es) := by
  refine ⟨cellsE_len es, cellsE_one es, ?_⟩
  rcases h.lie with ⟨rfl, rfl⟩ | ⟨b, o, c, h1, h2, h3, h4⟩
  · exact .inl ⟨rfl, rfl⟩
  · refine .inr ⟨⟨b, o, none⟩, c, h1, h2, h3, fun _ => rfl, fun hz => by rw [List.length_eq_zero_iff.1 hz]; rfl, fun j u hu => ?_⟩
    rw [addr_add]
    have hj : j < es.length * 4 := by have := (List.getElem?_eq_some_iff.1 hu).1; rwa [cellsE_len] at this
    obtain ⟨k, r, rfl, hr⟩ : ∃ k r, j = k * 4 + r ∧ r < 4 := ⟨j / 4, j % 4, by omega, by omega⟩
    have hk : k < es.length := by omega
    rw [cellsE_at hk r hr] at hu
    obtain ⟨q0, q1, q2, q3⟩ := h4 k hk
    rcases (by omega : r = 0 ∨ r = 1 ∨ r = 2 ∨ r = 3) with rfl | rfl | rfl | rfl
    · exact q0.trans hu
    · exact q1.trans hu
    · exact q2.trans hu
    · exact q3.trans hu

/-- An automaton that is lent. -/
structure GenL (W : World) (n b1 b2 b3 b4 m : Nat) (bs : List Nat) (g : Gen) : Prop where
  ps : LentG 9 1 W b1 g.ps.length (cellsT g.ps) marksT
  ini : LentG 3 1 W b2 g.ini.length (cellsI g.ini) marksI
  es : LentG 52 4 W b3 g.es.length (cellsE g.es) marksE
  sets : ∃ w0, RowsL w0 W b4 m bs g.sets
  up : n ≤ b1 ∧ b1 < b2 ∧ b2 < b3 ∧ b3 < b4
theorem genL_of {V Wa Wb Wc Wd : World} {b1 b2 b3 b4 m : Nat} {bs : List Nat} {g : Gen} (h1 : LentG 9 1 Wa b1 g.ps.length (cellsT g.ps) marksT ∧ V.heap.size ≤ b1) (h2 : LentG 3 1 Wb b2 g.ini.length (cellsI g.ini) marksI ∧ Wa.heap.size ≤ b2 ∧ Kept [] Wa Wb) (h3 : LentG 52 4 Wc b3 g.es.length (cellsE g.es) marksE ∧ Wb.heap.size ≤ b3 ∧ Kept [] Wb Wc) (h4 : RowsL Wc Wd b4 m bs g.sets ∧ Kept [] Wc Wd) : GenL Wd V.heap.size b1 b2 b3 b4 m bs g := by
  have z1 := lt_of h1.1.row
  have z2 := lt_of h2.1.row
  have z3 := lt_of h3.1.row
  have z4 := h4.1.lo
  exact ⟨((h1.1.kept h2.2.2).kept h3.2.2).kept h4.2, (h2.1.kept h3.2.2).kept h4.2, h3.1.kept h4.2, ⟨_, h4.1⟩, h1.2, by omega, by omega, by omega⟩
theorem RowsL.keptF {F : List Nat} {w W W' : World} {b m : Nat} {bs : List Nat} {xss : List (List Int)} (h : RowsL w W b m bs xss) (k : Kept F W W') (h1 : b ∉ F) (h2 : m ∉ F) (h3 : ∀ x ∈ bs, x ∉ F) : RowsL w W' b m bs xss := ⟨k.at h.row h1, h.rs.keptF k h3, k.at h.mrk h2, h.nb, h.nd, h.lo⟩
theorem GenL.keptF {F : List Nat} {W W' : World} {n b1 b2 b3 b4 m : Nat} {bs : List Nat} {g : Gen} (h : GenL W n b1 b2 b3 b4 m bs g) (k : Kept F W W') (hF : ∀ x ∈ F, x < n) (hm : m ∉ F) : GenL W' n b1 b2 b3 b4 m bs g := by
  obtain ⟨u1, u2, u3, u4⟩ := h.up
  have hn : ∀ b, n ≤ b → b ∉ F := fun b hb hx => by have := hF b hx; omega
  obtain ⟨w0, hs⟩ := h.sets
  exact ⟨h.ps.keptF k (hn _ (by omega)), h.ini.keptF k (hn _ (by omega)), h.es.keptF k (hn _ (by omega)), ⟨w0, hs.keptF k (hn _ (by omega)) hm (fun x hx => hn _ (by have := hs.nb x hx; omega))⟩, h.up⟩
theorem genL_set {V W : World} {n b1 b2 b3 b4 m : Nat} {bs : List Nat} {g : Gen} {x1 x2 x3 x4 x5 : Value} (h : GenL W V.heap.size b1 b2 b3 b4 m bs g) (hV : V.heap.size = n + 1 + 1) (hW : Five 31 W (n + 1) x1 x2 x3 x4 x5) (a b c d e : Value) : GenL (setFive W (n + 1) a b c d e) n b1 b2 b3 b4 m bs g := by
  obtain ⟨w0, hs⟩ := h.sets
  have hm : m ≠ n + 1 := fun e => by have q := hs.mrk; rw [e, hW] at q; cases q
  have q := h.keptF (kept_five (B := n + 1) a b c d e) (fun x hx => by simp at hx; omega) (by simpa using hm)
  exact ⟨q.ps, q.ini, q.es, q.sets, by have := q.up.1; omega, q.up.2⟩

def GenEnd (w : World) (g : Gen) (e : Ending) (w' : World) : Prop := ∃ b1 b2 b3 b4 m bs, e = .returned (.agg #[.slice (some ⟨b1, 0, none⟩) g.ps.length (g.ps.length + 2), .int .i64 g.st, .slice (some ⟨b2, 0, none⟩) g.ini.length (g.ini.length + 2), .slice (some ⟨b3, 0, none⟩) g.es.length (g.es.length + 2), .slice (some ⟨b4, 0, none⟩) g.sets.length (g.sets.length + 1)]) ∧ GenL w' w.heap.size b1 b2 b3 b4 m bs g ∧ Kept [] w w'
end Go.Proofs.YtkkhilgcjaigcaaDoor
