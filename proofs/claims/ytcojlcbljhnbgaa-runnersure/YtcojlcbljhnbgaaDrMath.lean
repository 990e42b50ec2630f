/- What the owner writes into a lent automaton's lists: yes and no turned, rows turned about. No walk here. -/
import Derived.Test.YtcojlcbljhnbgaaBuLentR
import Derived.Test.YtcojlcbljhnbgaaBuLentW
import Derived.Test.YtcojlcbljhnbgaaDfHs
namespace Go.Proofs.Ytcojlcbljhnbgaa
open Go.RowKit Go.Shelf

theorem set_app {cs ms : List Value} {i : Nat} (h : i < cs.length) (v : Value) : (cs ++ ms).toArray.setIfInBounds i v = (cs.set i v ++ ms).toArray := by
  apply Array.toList_inj.1
  simp only [Array.toList_setIfInBounds]
  rw [List.set_append_left _ _ h]
theorem cellsI_len (xs : List Int) : (cellsI xs).length = xs.length := by simp [cellsI]
theorem cellsW_len (xs : List Bool) : (cellsW xs).length = xs.length := by simp [cellsW]
theorem cellsI_set (xs : List Int) (i : Nat) (x : Int) : (cellsI xs).set i (.int .i64 x) = cellsI (xs.set i x) := by simp [cellsI, List.map_set]
theorem cellsW_set (xs : List Bool) (i : Nat) (x : Bool) : (cellsW xs).set i (.bool x) = cellsW (xs.set i x) := by simp [cellsW, List.map_set]
theorem LentG.setI {W : World} {b i : Nat} {xs : List Int} (h : LentG 3 1 W b xs.length (cellsI xs) marksI) (hi : i < xs.length) (x : Int) : LentG 3 1 (W.setCell ⟨b, i, none⟩ (.int .i64 x)) b (xs.set i x).length (cellsI (xs.set i x)) marksI := by
  refine ⟨?_, by simp [cellsI], h.mlen, by rw [List.length_set]; exact h.few⟩
  have q := row_set (i := i) h.row (.int .i64 x)
  rw [set_app (by rw [cellsI_len]; exact hi), cellsI_set] at q
  exact q
theorem LentG.setW {W : World} {b i : Nat} {xs : List Bool} (h : LentG 4 1 W b xs.length (cellsW xs) marksW) (hi : i < xs.length) (x : Bool) : LentG 4 1 (W.setCell ⟨b, i, none⟩ (.bool x)) b (xs.set i x).length (cellsW (xs.set i x)) marksW := by
  refine ⟨?_, by simp [cellsW], h.mlen, by rw [List.length_set]; exact h.few⟩
  have q := row_set (i := i) h.row (.bool x)
  rw [set_app (by rw [cellsW_len]; exact hi), cellsW_set] at q
  exact q
/-- Yes and no, turned as far as k. -/
def negN (k : Nat) (xs : List Bool) : List Bool := (xs.take k).map (!·) ++ xs.drop k
theorem negN_len (k : Nat) (xs : List Bool) : (negN k xs).length = xs.length := by simp [negN]; omega
theorem negN_zero (xs : List Bool) : negN 0 xs = xs := by simp [negN]
theorem negN_all (xs : List Bool) : negN xs.length xs = xs.map (!·) := by simp [negN]
theorem negN_at {k i : Nat} {xs : List Bool} (h : i < xs.length) : (negN k xs)[i]? = some (if i < k then !xs[i] else xs[i]) := by
  unfold negN
  by_cases hk : i < k
  · rw [if_pos hk, List.getElem?_append_left (by simp; omega)]
    simp [hk, h]
  · rw [if_neg hk, List.getElem?_append_right (by simp; omega), List.getElem?_drop]
    simp only [List.length_map, List.length_take]
    rw [show k + (i - min k xs.length) = i by omega]
    exact List.getElem?_eq_getElem h
theorem negN_step {k : Nat} {xs : List Bool} (h : k < xs.length) : (negN k xs).set k (!xs[k]) = negN (k + 1) xs := by
  apply List.ext_getElem?
  intro i
  rw [List.getElem?_set]
  by_cases hi : i < xs.length
  · rw [negN_at hi, negN_at hi]
    by_cases e : k = i
    · subst e
      rw [if_pos rfl, if_pos (by rw [negN_len]; exact h), if_pos (by omega)]
    · rw [if_neg e]
      by_cases hk : i < k
      · rw [if_pos hk, if_pos (by omega)]
      · rw [if_neg hk, if_neg (by omega)]
  · rw [if_neg (by omega), List.getElem?_eq_none (by rw [negN_len]; omega), List.getElem?_eq_none (by rw [negN_len]; omega)]
/-- A row, turned about as far as n. -/
def revN (n : Nat) (xs : List Int) : List Int := (List.range xs.length).map fun j => if j < n ∨ xs.length ≤ j + n then xs.getD (xs.length - 1 - j) 0 else xs.getD j 0
theorem revN_len (n : Nat) (xs : List Int) : (revN n xs).length = xs.length := by simp [revN]
theorem revN_at {n i : Nat} {xs : List Int} (h : i < xs.length) : (revN n xs)[i]? = some (if i < n ∨ xs.length ≤ i + n then xs.getD (xs.length - 1 - i) 0 else xs.getD i 0) := by
  unfold revN
  rw [List.getElem?_map, List.getElem?_range h]
  rfl
theorem revN_zero (xs : List Int) : revN 0 xs = xs := by
  apply List.ext_getElem?
  intro i
  by_cases hi : i < xs.length
  · rw [revN_at hi, if_neg (by omega), List.getD_eq_getElem?_getD, List.getElem?_eq_getElem hi]
    rfl
  · rw [List.getElem?_eq_none (by rw [revN_len]; omega), List.getElem?_eq_none (by omega)]
theorem revN_all {n : Nat} {xs : List Int} (h : xs.length ≤ 2 * n + 1) : revN n xs = xs.reverse := by
  apply List.ext_getElem?
  intro i
  by_cases hi : i < xs.length
  · rw [revN_at hi, List.getElem?_reverse hi, List.getElem?_eq_getElem (by omega)]
    by_cases hc : i < n ∨ xs.length ≤ i + n
    · rw [if_pos hc, List.getD_eq_getElem?_getD, List.getElem?_eq_getElem (by omega)]
      rfl
    · rw [if_neg hc, List.getD_eq_getElem?_getD, List.getElem?_eq_getElem hi]
      have e : xs.length - 1 - i = i := by omega
      simp only [e]
      rfl
  · rw [List.getElem?_eq_none (by rw [revN_len]; omega), List.getElem?_eq_none (by simp; omega)]
theorem revN_lo {n : Nat} {xs : List Int} (h : 2 * n + 1 < xs.length) : (revN n xs)[n]? = some (xs.getD n 0) := by
  rw [revN_at (by omega), if_neg (by omega)]
theorem revN_hi {n : Nat} {xs : List Int} (h : 2 * n + 1 < xs.length) : (revN n xs)[xs.length - 1 - n]? = some (xs.getD (xs.length - 1 - n) 0) := by
  rw [revN_at (by omega), if_neg (by omega)]
theorem revN_step {n : Nat} {xs : List Int} (h : 2 * n + 1 < xs.length) : ((revN n xs).set n (xs.getD (xs.length - 1 - n) 0)).set (xs.length - 1 - n) (xs.getD n 0) = revN (n + 1) xs := by
  apply List.ext_getElem?
  intro i
  rw [List.getElem?_set, List.getElem?_set]
  by_cases hi : i < xs.length
  · rw [revN_at hi, revN_at hi]
    by_cases e1 : xs.length - 1 - n = i
    · rw [if_pos e1, if_pos (by rw [List.length_set, revN_len]; exact e1 ▸ hi), if_pos (by omega)]
      rw [show xs.length - 1 - i = n by omega]
    · rw [if_neg e1]
      by_cases e2 : n = i
      · subst e2
        rw [if_pos rfl, if_pos (by rw [revN_len]; exact hi), if_pos (by omega)]
      · rw [if_neg e2]
        by_cases hc : i < n ∨ xs.length ≤ i + n
        · rw [if_pos hc, if_pos (by omega)]
        · rw [if_neg hc, if_neg (by omega)]
  · rw [List.getElem?_eq_none (by rw [revN_len]; omega), if_neg (by omega), if_neg (by omega), List.getElem?_eq_none (by rw [revN_len]; omega)]
/-- Rows that are lent, as they come to be. -/
structure RowsM (W : World) (b : Nat) (bs : List Nat) (tl : List Value) (yss : List (List Int)) : Prop where
  row : W.heap[b]? = some (.cells (rowVs bs yss ++ tl).toArray 60 (0, 0))
  rs : RowsE W bs yss
  nb : ∀ x ∈ bs, b < x
  nd : bs.Nodup
theorem RowsL.rowsM {w W : World} {b m : Nat} {bs : List Nat} {xss : List (List Int)} (h : RowsL w W b m bs xss) : RowsM W b bs [.slice (some ⟨m, 0, none⟩) 1 1] xss := ⟨h.row, h.rs, h.nb, h.nd⟩
theorem RowsM.keptF {F : List Nat} {W W' : World} {b : Nat} {bs : List Nat} {tl : List Value} {yss : List (List Int)} (h : RowsM W b bs tl yss) (k : Kept F W W') (hb : b ∉ F) (hF : ∀ x ∈ bs, x ∉ F) : RowsM W' b bs tl yss := ⟨k.at h.row hb, h.rs.keptF k hF, h.nb, h.nd⟩
theorem rowVs_same {bs : List Nat} : ∀ {xss yss : List (List Int)}, xss.length = yss.length → (∀ i (h : i < xss.length) (h' : i < yss.length), xss[i].length = yss[i].length) → rowVs bs xss = rowVs bs yss := by
  intro xss yss hl he
  apply List.ext_getElem?
  intro i
  unfold rowVs
  rw [List.getElem?_zipWith, List.getElem?_zipWith]
  by_cases hi : i < xss.length
  · rw [List.getElem?_eq_getElem hi, List.getElem?_eq_getElem (show i < yss.length by omega)]
    cases bs[i]? with
    | none => rfl
    | some b =>
      simp only
      rw [he i hi (by omega)]
  · rw [List.getElem?_eq_none (show xss.length ≤ i by omega), List.getElem?_eq_none (show yss.length ≤ i by omega)]
theorem RowsM.set {W : World} {b i j : Nat} {bs : List Nat} {tl : List Value} {yss : List (List Int)} (h : RowsM W b bs tl yss) (hi : i < yss.length) (hb : i < bs.length) (hj : j < yss[i].length) (x : Int) : RowsM (W.setCell ⟨bs[i], j, none⟩ (.int .i64 x)) b bs tl (yss.set i (yss[i].set j x)) := by
  have hk : Kept [bs[i]] W (W.setCell ⟨bs[i], j, none⟩ (.int .i64 x)) := (Kept.refl _ W).setCell (.inl (by simp)) _
  have hlt := h.nb bs[i] (List.getElem_mem hb)
  refine ⟨?_, ⟨by rw [List.length_set]; exact h.rs.len, fun k hk1 hk2 => ?_⟩, h.nb, h.nd⟩
  · have q := hk.at h.row (by simp; omega)
    rw [rowVs_same (xss := yss.set i (yss[i].set j x)) (yss := yss) (by simp) (fun k h1 h2 => ?_)]
    · exact q
    · rw [List.getElem_set]
      split
      · next e => subst e; simp
      · rfl
  · have hk3 : k < yss.length := by simpa using hk1
    by_cases e : i = k
    · subst e
      have q := (h.rs.each i hi hb).setI hj x
      simpa using q
    · have q := (h.rs.each k hk3 hk2).keptF hk (by
        simp only [List.mem_singleton]
        intro e2
        exact e ((List.getElem_inj h.nd).1 e2.symm))
      rw [List.getElem_set_ne e]
      exact q
theorem RowsM.cellAt {W : World} {b : Nat} {bs : List Nat} {tl : List Value} {yss : List (List Int)} (h : RowsM W b bs tl yss) {i : Nat} (hi : i < yss.length) (hb : i < bs.length) : W.cell? ⟨b, i, none⟩ = some (.slice (some ⟨bs[i], 0, none⟩) yss[i].length (yss[i].length + 2)) := by
  rw [cell_of h.row]
  simp only [List.getElem?_toArray]
  rw [List.getElem?_append_left (by rw [rowVs_len h.rs.len]; exact hi)]
  exact rowVs_at hi hb
theorem RowsM.numAt {W : World} {b : Nat} {bs : List Nat} {tl : List Value} {yss : List (List Int)} (h : RowsM W b bs tl yss) {i j : Nat} (hi : i < yss.length) (hb : i < bs.length) (hj : j < yss[i].length) : W.cell? ⟨bs[i], j, none⟩ = some (.int .i64 yss[i][j]) := by
  have q := ((h.rs.each i hi hb).src (cellsI_one _)).cellsAt j _ (cellsI_at hj)
  rwa [addr_add, Nat.zero_add] at q
theorem RowsM.rowss {W : World} {b : Nat} {bs : List Nat} {tl : List Value} {yss : List (List Int)} (h : RowsM W b bs tl yss) (c : Nat) (hc : yss.length ≤ c ∧ c ≤ maxLen) (hl : yss.length ≤ 100000000) (hr : ∀ xs ∈ yss, xs.length ≤ 100000000 ∧ ∀ x ∈ xs, -9223372036854775808 ≤ x ∧ x ≤ 9223372036854775807) : Rowss W (.slice (some ⟨b, 0, none⟩) yss.length c) yss := by
  refine ⟨by omega, .inr ⟨b, 0, c, rfl, hc.1, hc.2, fun i hi => ?_⟩⟩
  have hb : i < bs.length := by rw [h.rs.len]; exact hi
  refine ⟨_, by rw [Nat.zero_add]; exact h.cellAt hi hb, ?_⟩
  have hx := hr _ (List.getElem_mem hi)
  have hs := (h.rs.each i hi hb).src (cellsI_one _)
  refine ⟨by omega, hx.2, .inr ⟨_, 0, _, rfl, by omega, by unfold maxLen; omega, fun j hj => ?_⟩⟩
  have q := hs.cellsAt j _ (cellsI_at hj)
  rwa [addr_add] at q
end Go.Proofs.Ytcojlcbljhnbgaa
