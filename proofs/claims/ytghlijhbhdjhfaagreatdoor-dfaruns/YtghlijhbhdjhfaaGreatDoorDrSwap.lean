/- Two numbers of a lent row change places. No walk here. -/
import Derived.Test.YtghlijhbhdjhfaaGreatDoorDrMath
namespace Go.Proofs.YtghlijhbhdjhfaaGreatDoor
open Go.RowKit Go.Shelf

theorem RowsM.rowK {W : World} {b k : Nat} {bs : List Nat} {tl : List Value} {yss : List (List Int)} {xs : List Int} (h : RowsM W b bs tl (yss.set k xs)) (hk : k < yss.length) (hb : k < bs.length) : LentG 3 1 W bs[k] xs.length (cellsI xs) marksI := by
  have q := h.rs.each k (by simpa using hk) hb
  simpa only [List.getElem_set_self] using q
theorem RowsM.sliceK {W : World} {b k : Nat} {bs : List Nat} {tl : List Value} {yss : List (List Int)} {xs : List Int} (h : RowsM W b bs tl (yss.set k xs)) (hk : k < yss.length) (hb : k < bs.length) : W.cell? ⟨b, k, none⟩ = some (.slice (some ⟨bs[k], 0, none⟩) xs.length (xs.length + 2)) := by
  have q := h.cellAt (i := k) (by simpa using hk) hb
  simpa only [List.getElem_set_self] using q
theorem RowsM.setK {W : World} {b k j : Nat} {bs : List Nat} {tl : List Value} {yss : List (List Int)} {xs : List Int} (h : RowsM W b bs tl (yss.set k xs)) (hk : k < yss.length) (hb : k < bs.length) (hj : j < xs.length) (x : Int) : RowsM (W.setCell ⟨bs[k], j, none⟩ (.int .i64 x)) b bs tl (yss.set k (xs.set j x)) := by
  have q := h.set (i := k) (j := j) (by simpa using hk) hb (by simpa only [List.getElem_set_self] using hj) x
  simpa only [List.getElem_set_self, List.set_set] using q
theorem RowsM.swap {W : World} {b k n : Nat} {bs : List Nat} {tl : List Value} {yss : List (List Int)} {xs : List Int} (h : RowsM W b bs tl (yss.set k (revN n xs))) (hk : k < yss.length) (hb : k < bs.length) (h2 : 2 * n + 1 < xs.length) : RowsM ((W.setCell ⟨bs[k], n, none⟩ (.int .i64 (xs.getD (xs.length - 1 - n) 0))).setCell ⟨bs[k], xs.length - 1 - n, none⟩ (.int .i64 (xs.getD n 0))) b bs tl (yss.set k (revN (n + 1) xs)) := by
  have q1 := h.setK hk hb (j := n) (by rw [revN_len]; omega) (xs.getD (xs.length - 1 - n) 0)
  have q2 := q1.setK hk hb (j := xs.length - 1 - n) (by rw [List.length_set, revN_len]; omega) (xs.getD n 0)
  rw [revN_step h2] at q2
  exact q2
theorem RowsM.lo {W : World} {b k n : Nat} {bs : List Nat} {tl : List Value} {yss : List (List Int)} {xs : List Int} (h : RowsM W b bs tl (yss.set k (revN n xs))) (hk : k < yss.length) (hb : k < bs.length) (h2 : 2 * n + 1 < xs.length) : W.cell? ⟨bs[k], n, none⟩ = some (.int .i64 (xs.getD n 0)) ∧ W.cell? ⟨bs[k], xs.length - 1 - n, none⟩ = some (.int .i64 (xs.getD (xs.length - 1 - n) 0)) ∧ W.frozen? ⟨bs[k], n, none⟩ = false ∧ W.frozen? ⟨bs[k], xs.length - 1 - n, none⟩ = false := by
  have hr := h.rowK hk hb
  have q := hr.src (cellsI_one _)
  have q1 := q.cellsAt n (.int .i64 (xs.getD n 0)) (by rw [cellsI, List.getElem?_map, revN_lo h2]; rfl)
  have q2 := q.cellsAt (xs.length - 1 - n) (.int .i64 (xs.getD (xs.length - 1 - n) 0)) (by rw [cellsI, List.getElem?_map, revN_hi h2]; rfl)
  rw [addr_add, Nat.zero_add] at q1 q2
  exact ⟨q1, q2, free_of hr.row n, free_of hr.row _⟩
end Go.Proofs.YtghlijhbhdjhfaaGreatDoor
