/- Deterministic automata that are lent: LentDFA, WholeDFA; lists of yes and no, letters as their cells. -/
import Derived.Test.YtcojlcbljhnbgaaDrMath
import Derived.Test.YtcojlcbljhnbgaaBuLentT
import Derived.Test.YtcojlcbljhnbgaaBuLentU
import Derived.Test.YtcojlcbljhnbgaaWd
import Derived.Deep.RegionHeld3
namespace Go.Proofs.Ytcojlcbljhnbgaa
open Go.RowKit Go.Shelf

theorem kept_moreD {B : Nat} {a b : World} (k : Kept [] a b) : Kept [B] a b := ⟨k.os, k.tape, k.output, k.size, fun n h _ => k.block n h (by simp)⟩
/-- A box of three cells. -/
def Thr (T : TypeId) (W : World) (B : Nat) (a b c : Value) : Prop := W.heap[B]? = some (.cells #[a, b, c] T (0, 0))
theorem Thr.cells {T : TypeId} {W : World} {B : Nat} {a b c : Value} (h : Thr T W B a b c) : W.cell? ⟨B, 0, none⟩ = some a ∧ W.cell? ⟨B, 1, none⟩ = some b ∧ W.cell? ⟨B, 2, none⟩ = some c :=
  ⟨(cell_of h 0).trans rfl, (cell_of h 1).trans rfl, (cell_of h 2).trans rfl⟩
theorem Thr.free {T : TypeId} {W : World} {B : Nat} {a b c : Value} (h : Thr T W B a b c) : W.frozen? ⟨B, 0, none⟩ = false ∧ W.frozen? ⟨B, 1, none⟩ = false ∧ W.frozen? ⟨B, 2, none⟩ = false :=
  ⟨free_of h 0, free_of h 1, free_of h 2⟩
theorem Thr.keptF {F : List Nat} {T : TypeId} {W W' : World} {B : Nat} {a b c : Value} (h : Thr T W B a b c) (k : Kept F W W') (hB : B ∉ F) : Thr T W' B a b c := k.at h hB
def setThr (W : World) (B : Nat) (a b c : Value) : World := ((W.setCell ⟨B, 0, none⟩ a).setCell ⟨B, 1, none⟩ b).setCell ⟨B, 2, none⟩ c
theorem Thr.set {T : TypeId} {W : World} {B : Nat} {a b c : Value} (h : Thr T W B a b c) (a' b' c' : Value) : Thr T (setThr W B a' b' c') B a' b' c' := by
  unfold Thr setThr
  exact (row_set (row_set (row_set h a') b') c').trans rfl
theorem kept_set3 {w W : World} {B : Nat} (k : Kept [] w W) (hB : w.heap.size ≤ B) (a b c : Value) : Kept [] w (setThr W B a b c) := ((k.setCell (.inr hB) _).setCell (.inr hB) _).setCell (.inr hB) _
theorem kept_thr {W : World} {B : Nat} (a b c : Value) : Kept [B] W (setThr W B a b c) := (((Kept.refl [B] W).setCell (.inl (by simp)) _).setCell (.inl (by simp)) _).setCell (.inl (by simp)) _
theorem Strs.srcD {W : World} {v : Value} {xs : List ByteArray} (h : Strs W v xs) : Src 1 W v xs.length (cellsT xs) := by
  refine ⟨by simp [cellsT], cellsT_one xs, ?_⟩
  rcases h.lie with ⟨rfl, rfl⟩ | ⟨b, o, c, h1, h2, h3, h4⟩
  · exact .inl ⟨rfl, rfl⟩
  · refine .inr ⟨⟨b, o, none⟩, c, h1, h2, h3, fun _ => rfl, fun hz => by rw [List.length_eq_zero_iff.1 hz]; rfl, fun j u hu => ?_⟩
    have hj : j < xs.length := by have := (List.getElem?_eq_some_iff.1 hu).1; simpa [cellsT] using this
    rw [cellsT_at hj] at hu
    rw [addr_add, h4 j hj, ← hu]
theorem Bls.src {W : World} {v : Value} {xs : List Bool} (h : Bls W v xs) : Src 1 W v xs.length (cellsW xs) := by
  refine ⟨by simp [cellsW], cellsW_one xs, ?_⟩
  rcases h.lie with ⟨rfl, rfl⟩ | ⟨b, o, c, h1, h2, h3, h4⟩
  · exact .inl ⟨rfl, rfl⟩
  · refine .inr ⟨⟨b, o, none⟩, c, h1, h2, h3, fun _ => rfl, fun hz => by rw [List.length_eq_zero_iff.1 hz]; rfl, fun j u hu => ?_⟩
    have hj : j < xs.length := by have := (List.getElem?_eq_some_iff.1 hu).1; simpa [cellsW] using this
    rw [cellsW_at hj] at hu
    rw [addr_add, h4 j hj, ← hu, List.getD_eq_getElem?_getD, List.getElem?_eq_getElem hj]
    rfl
theorem Lets.src {W : World} {v : Value} {xs : List Nat} (h : Lets W v xs) : Src 1 W v xs.length (cellsU xs) := by
  refine ⟨by simp [cellsU], cellsU_one xs, ?_⟩
  rcases h.lie with ⟨rfl, rfl⟩ | ⟨b, o, c, h1, h2, h3, h4⟩
  · exact .inl ⟨rfl, rfl⟩
  · refine .inr ⟨⟨b, o, none⟩, c, h1, h2, h3, fun _ => rfl, fun hz => by rw [List.length_eq_zero_iff.1 hz]; rfl, fun j u hu => ?_⟩
    have hj : j < xs.length := by have := (List.getElem?_eq_some_iff.1 hu).1; simpa [cellsU] using this
    rw [cellsU_at hj] at hu
    rw [addr_add, h4 j hj, ← hu, List.getD_eq_getElem?_getD, List.getElem?_eq_getElem hj]
    rfl
theorem LentG.strs {W : World} {b : Nat} {xs : List ByteArray} (h : LentG 9 1 W b xs.length (cellsT xs) marksT) (hf : xs.length ≤ 8796093022208) (hs : ∀ x ∈ xs, x.size ≤ maxLen) : Strs W (.slice (some ⟨b, 0, none⟩) xs.length (xs.length + 2)) xs := by
  have q := h.src (cellsT_one xs)
  refine ⟨hf, hs, .inr ⟨b, 0, _, rfl, by omega, by unfold maxLen; omega, fun i hi => ?_⟩⟩
  have := q.cellsAt i _ (cellsT_at hi)
  rwa [addr_add] at this
theorem LentG.bls {W : World} {b : Nat} {xs : List Bool} (h : LentG 4 1 W b xs.length (cellsW xs) marksW) (hf : xs.length ≤ 70368744177664) : Bls W (.slice (some ⟨b, 0, none⟩) xs.length (xs.length + 2)) xs := by
  have q := h.src (cellsW_one xs)
  refine ⟨by omega, .inr ⟨b, 0, _, rfl, by omega, by unfold maxLen; omega, fun i hi => ?_⟩⟩
  have := q.cellsAt i _ (cellsW_at hi)
  rw [addr_add] at this
  rw [this, List.getD_eq_getElem?_getD, List.getElem?_eq_getElem hi]
  rfl
theorem LentG.lets {W : World} {b : Nat} {xs : List Nat} (h : LentG 40 1 W b xs.length (cellsU xs) marksU) (hf : xs.length ≤ 70368744177664) (hs : ∀ x ∈ xs, x < 65536) : Lets W (.slice (some ⟨b, 0, none⟩) xs.length (xs.length + 2)) xs := by
  have q := h.src (cellsU_one xs)
  refine ⟨hs, hf, .inr ⟨b, 0, _, rfl, by omega, by unfold maxLen; omega, fun i hi => ?_⟩⟩
  have := q.cellsAt i _ (cellsU_at hi)
  rw [addr_add] at this
  rw [this, List.getD_eq_getElem?_getD, List.getElem?_eq_getElem hi]
  rfl
/-- A deterministic automaton that is lent. -/
structure DfaL (W : World) (n b1 b2 b3 m : Nat) (bs : List Nat) (ps : List ByteArray) (next : List (List Int)) (live : List Bool) : Prop where
  ps : LentG 9 1 W b1 ps.length (cellsT ps) marksT
  nx : ∃ w0, RowsL w0 W b2 m bs next
  lv : LentG 4 1 W b3 live.length (cellsW live) marksW
  up : n ≤ b1 ∧ b1 < b2 ∧ b2 < b3
  lt : ∀ x ∈ bs, x < b3
theorem dfaL_of {V Wa Wb Wc : World} {b1 b2 b3 m : Nat} {bs : List Nat} {ps : List ByteArray} {next : List (List Int)} {live : List Bool} (h1 : LentG 9 1 Wa b1 ps.length (cellsT ps) marksT ∧ V.heap.size ≤ b1) (h2 : RowsL Wa Wb b2 m bs next ∧ Kept [] Wa Wb) (h3 : (LentG 4 1 Wc b3 live.length (cellsW live) marksW ∧ Wb.heap.size ≤ b3) ∧ Kept [] Wb Wc) : DfaL Wc V.heap.size b1 b2 b3 m bs ps next live := by
  have z1 := lt_of h1.1.row
  have z2 := lt_of h2.1.row
  have z3 := h2.1.lo
  refine ⟨(h1.1.kept h2.2).kept h3.2, ⟨_, h2.1.kept h3.2⟩, h3.1.1, ⟨h1.2, by omega, by omega⟩, fun x hx => ?_⟩
  obtain ⟨i, hi, rfl⟩ := List.getElem_of_mem hx
  have := lt_of (h2.1.rs.each i (by rw [← h2.1.rs.len]; exact hi) hi).row
  omega
theorem DfaL.keptF {F : List Nat} {W W' : World} {n b1 b2 b3 m : Nat} {bs : List Nat} {ps : List ByteArray} {next : List (List Int)} {live : List Bool} (h : DfaL W n b1 b2 b3 m bs ps next live) (k : Kept F W W') (hF : ∀ x ∈ F, x < n) (hm : m ∉ F) : DfaL W' n b1 b2 b3 m bs ps next live := by
  obtain ⟨u1, u2, u3⟩ := h.up
  have hn : ∀ b, n ≤ b → b ∉ F := fun b hb hx => by have := hF b hx; omega
  obtain ⟨w0, hr⟩ := h.nx
  exact ⟨h.ps.keptF k (hn _ (by omega)), ⟨w0, k.at hr.row (hn _ (by omega)), hr.rs.keptF k (fun x hx => hn x (by have := hr.nb x hx; omega)), k.at hr.mrk hm, hr.nb, hr.nd, hr.lo⟩, h.lv.keptF k (hn _ (by omega)), h.up, h.lt⟩
end Go.Proofs.Ytcojlcbljhnbgaa
