/- Lists of lists of numbers that are lent: LentRows, WholeRows, SpoilRows. -/
import Derived.Test.YtcojlcbljhnbgaaBuLentI
import Derived.Test.YtcojlcbljhnbgaaBuEdge
namespace Go.Proofs.Ytcojlcbljhnbgaa
open Go.RowKit Go.Shelf

theorem Try.infoRL : (Try.prog.info? 60).map (fun i => (i.zero, i.size, i.bytes)) = some (some (.slice none 0 0), 1, 24) := by kernel_rfl
/-- The slices of rows that are lent. -/
def rowVs (bs : List Nat) (xss : List (List Int)) : List Value := List.zipWith (fun b xs => Value.slice (some ⟨b, 0, none⟩) xs.length (xs.length + 2)) bs xss
theorem rowVs_len {bs : List Nat} {xss : List (List Int)} (h : bs.length = xss.length) : (rowVs bs xss).length = xss.length := by simp [rowVs, h]
theorem rowVs_at {bs : List Nat} {xss : List (List Int)} {i : Nat} (h : i < xss.length) (hb : i < bs.length) : (rowVs bs xss)[i]? = some (.slice (some ⟨bs[i], 0, none⟩) xss[i].length (xss[i].length + 2)) := by
  simp [rowVs, List.getElem?_zipWith, h, hb]
theorem rowVs_one (bs : List Nat) (xss : List (List Int)) : ∀ u ∈ rowVs bs xss, u.oneCell' = true := by
  intro u hu
  obtain ⟨i, hi, rfl⟩ := List.getElem_of_mem hu
  simp [rowVs]
  rfl
theorem rowVs_snoc {bs : List Nat} {xss : List (List Int)} (h : bs.length = xss.length) (b : Nat) (xs : List Int) : rowVs (bs ++ [b]) (xss ++ [xs]) = rowVs bs xss ++ [.slice (some ⟨b, 0, none⟩) xs.length (xs.length + 2)] := by
  unfold rowVs
  rw [List.zipWith_append h]
  rfl
/-- Rows that are lent: each in a block of its own. -/
structure RowsE (W : World) (bs : List Nat) (xss : List (List Int)) : Prop where
  len : bs.length = xss.length
  each : ∀ i (h : i < xss.length) (hb : i < bs.length), LentG 3 1 W bs[i] xss[i].length (cellsI xss[i]) marksI
theorem RowsE.keptF {F : List Nat} {W W' : World} {bs : List Nat} {xss : List (List Int)} (h : RowsE W bs xss) (k : Kept F W W') (hF : ∀ b ∈ bs, b ∉ F) : RowsE W' bs xss :=
  ⟨h.len, fun i hi hb => (h.each i hi hb).keptF k (hF _ (List.getElem_mem hb))⟩
theorem RowsE.snoc {W : World} {bs : List Nat} {xss : List (List Int)} {b : Nat} {xs : List Int} (h : RowsE W bs xss) (hb : LentG 3 1 W b xs.length (cellsI xs) marksI) : RowsE W (bs ++ [b]) (xss ++ [xs]) := by
  refine ⟨by simp [h.len], fun i hi hib => ?_⟩
  by_cases hlt : i < xss.length
  · rw [List.getElem_append_left (by rw [h.len]; exact hlt)]
    simp only [List.getElem_append_left hlt]
    exact h.each i hlt _
  · have e1 : i = xss.length := by simp at hi; omega
    subst e1
    have e2 : (bs ++ [b])[xss.length] = b := by simp [← h.len]
    have e3 : (xss ++ [xs])[xss.length] = xs := by simp
    rw [e2]
    simp only [e3]
    exact hb
structure RowsL (w W : World) (b m : Nat) (bs : List Nat) (xss : List (List Int)) : Prop where
  row : W.heap[b]? = some (.cells (rowVs bs xss ++ [Value.slice (some ⟨m, 0, none⟩) 1 1]).toArray 60 (0, 0))
  rs : RowsE W bs xss
  mrk : W.heap[m]? = some (.cells #[.int .i64 (-77)] 3 (0, 0))
  nb : ∀ x ∈ bs, b < x
  nd : bs.Nodup
  lo : w.heap.size ≤ b
theorem RowsL.kept {w W W' : World} {b m : Nat} {bs : List Nat} {xss : List (List Int)} (h : RowsL w W b m bs xss) (k : Kept [] W W') : RowsL w W' b m bs xss := ⟨k.at h.row (by simp), h.rs.keptF k (by simp), k.at h.mrk (by simp), h.nb, h.nd, h.lo⟩
/-- What the loop of LentRows carries. -/
structure RowsA (w W : World) (g n i : Nat) (bs : List Nat) (xss : List (List Int)) : Prop where
  own : W.ownsRow w.heap.size 60 1 (.slice (some ⟨g, 0, none⟩) i (n + 1)) i (rowVs bs (xss.take i))
  rs : RowsE W bs (xss.take i)
  nb : ∀ x ∈ bs, g < x
  nd : bs.Nodup
  lt : ∀ x ∈ bs, x < W.heap.size
  gt : g < W.heap.size
  kept : Kept [] w W
set_option maxRecDepth 10000 in
theorem RowsA.step {w W W1 : World} {g n i b : Nat} {bs : List Nat} {xss : List (List Int)} (h : RowsA w W g n i bs xss) (hi : i < xss.length) (hn : n = xss.length) (hw : w.heap.size ≤ g) (hb : LentG 3 1 W1 b xss[i].length (cellsI xss[i]) marksI) (hbn : W.heap.size ≤ b) (k : Kept [] W W1) :
    ∃ w3, (∀ ty, (Builtin.append_ #[24, 24] ty #[.slice (some ⟨g, 0, none⟩) i (n + 1), .slice (some ⟨W1.heap.size, 0, none⟩) 1 1]).run Try.prog (W1.alloc (.cells #[.slice (some ⟨b, 0, none⟩) xss[i].length (xss[i].length + 2)] 60)) = .ok (.slice (some ⟨g, 0, none⟩) (i + 1) (n + 1)) w3) ∧ RowsA w w3 g n (i + 1) (bs ++ [b]) xss := by
  obtain ⟨inf, hi1, hi2, hi3, hi4⟩ := info_parts Try.infoRL
  have hlt : b < W1.heap.size := lt_of hb.row
  have ho : (W1.alloc (.cells #[.slice (some ⟨b, 0, none⟩) xss[i].length (xss[i].length + 2)] 60)).ownsRow w.heap.size 60 1 (.slice (some ⟨g, 0, none⟩) i (n + 1)) i (rowVs bs (xss.take i)) := bx_keptL h.own (k.alloc _) (by simp)
  obtain ⟨w3, hrun, hr3, hg3⟩ := run_append_fits (P := Try.prog) (W1.alloc (.cells #[.slice (some ⟨b, 0, none⟩) xss[i].length (xss[i].length + 2)] 60)) w.heap.size 24 24 60 inf 1 Try.underlying24 hi1 hi3 g i (n + 1) (rowVs bs (xss.take i)) ho ⟨W1.heap.size, 0, none⟩ 1 1 [.slice (some ⟨b, 0, none⟩) xss[i].length (xss[i].length + 2)] rfl (World.news_of_block (cs := #[.slice (some ⟨b, 0, none⟩) xss[i].length (xss[i].length + 2)]) (t := 60) (fr := (0, 0)) (heap_alloc_new W1 _)) (by simp [Value.oneCell']) (by omega)
  have kg : Kept [g] W1 w3 := ((Kept.refl [g] W1).alloc _).grown hg3 (fun x hx => .inl (by simp at hx; simp [hx]))
  have htk : xss.take (i + 1) = xss.take i ++ [xss[i]] := by rw [List.take_add_one]; simp [hi]
  refine ⟨w3, fun ty => hrun, ⟨?_, ?_, ?_, ?_, ?_, ?_, ?_⟩⟩
  · rw [htk, rowVs_snoc h.rs.len]
    exact hr3
  · rw [htk]
    refine RowsE.snoc ((h.rs.keptF k (by simp)).keptF kg (fun x hx => ?_)) (hb.keptF kg ?_)
    · have := h.nb x hx; simp; omega
    · have := h.gt; simp; omega
  · intro x hx
    rcases List.mem_append.1 hx with hx | hx
    · exact h.nb x hx
    · simp at hx; subst hx; have := h.gt; omega
  · rw [List.nodup_append]
    refine ⟨h.nd, by simp, fun x hx y hy => ?_⟩
    simp at hy
    subst hy
    have := h.lt x hx
    omega
  · intro x hx
    have z1 := kg.size
    have z2 := k.size
    rcases List.mem_append.1 hx with hx | hx
    · have := h.lt x hx; omega
    · simp at hx; subst hx; omega
  · have z1 := kg.size
    have z2 := k.size
    have := h.gt
    omega
  · exact (keptB h.kept k).trans kg (by simp) (by simp; exact hw)
set_option maxRecDepth 10000 in
theorem RowsA.last {w W : World} {g n : Nat} {bs : List Nat} {xss : List (List Int)} (h : RowsA w W g n n bs xss) (hn : n = xss.length) (hw : w.heap.size ≤ g) :
    ∃ w3, (∀ ty, (Builtin.append_ #[24, 24] ty #[.slice (some ⟨g, 0, none⟩) n (n + 1), .slice (some ⟨W.heap.size + 1, 0, none⟩) 1 1]).run Try.prog ((W.alloc (.cells #[.int .i64 (-77)] 3)).alloc (.cells #[.slice (some ⟨W.heap.size, 0, none⟩) 1 1] 60)) = .ok (.slice (some ⟨g, 0, none⟩) (n + 1) (n + 1)) w3) ∧ RowsL w w3 g W.heap.size bs xss ∧ Kept [] w w3 := by
  obtain ⟨inf, hi1, hi2, hi3, hi4⟩ := info_parts Try.infoRL
  have k2 : Kept [] W ((W.alloc (.cells #[.int .i64 (-77)] 3)).alloc (.cells #[.slice (some ⟨W.heap.size, 0, none⟩) 1 1] 60)) := ((Kept.refl [] W).alloc _).alloc _
  have hbk := al1 W (.cells #[.int .i64 (-77)] 3) (.cells #[.slice (some ⟨W.heap.size, 0, none⟩) 1 1] 60)
  have htk : xss.take n = xss := by rw [hn]; exact List.take_length
  obtain ⟨w3, hrun, hr3, hg3⟩ := run_append_fits (P := Try.prog) ((W.alloc (.cells #[.int .i64 (-77)] 3)).alloc (.cells #[.slice (some ⟨W.heap.size, 0, none⟩) 1 1] 60)) w.heap.size 24 24 60 inf 1 Try.underlying24 hi1 hi3 g n (n + 1) (rowVs bs (xss.take n)) (bx_keptL h.own k2 (by simp)) ⟨W.heap.size + 1, 0, none⟩ 1 1 [.slice (some ⟨W.heap.size, 0, none⟩) 1 1] rfl (World.news_of_block (cs := #[.slice (some ⟨W.heap.size, 0, none⟩) 1 1]) (t := 60) (fr := (0, 0)) hbk) (by simp [Value.oneCell']) (by omega)
  have kg : Kept [g] W w3 := (k2.mono (by simp)).grown hg3 (fun x hx => .inl (by simp at hx; simp [hx]))
  have hgt := h.gt
  refine ⟨w3, fun ty => hrun, ⟨?_, ?_, ?_, h.nb, h.nd, hw⟩, h.kept.trans kg (by simp) (by simp; exact hw)⟩
  · rw [htk] at hr3
    rcases hr3.2 with ⟨e, _⟩ | ⟨g', cap, cur, e, _, h2, _, _, h5, h6⟩
    · cases e
    · cases e
      rw [List.take_of_length_le (by rw [Array.length_toList, h5]; exact Nat.le_refl _)] at h6
      rw [h2, ← h6]
  · have hr := h.rs
    rw [htk] at hr
    refine (hr.keptF k2 (by simp)).keptF (F := [g]) (((Kept.refl [g] _)).grown hg3 (fun x hx => .inl (by simp at hx; simp [hx]))) (fun x hx => ?_)
    have := h.nb x hx
    simp; omega
  · have hm := alUp (al0 W (.cells #[.int .i64 (-77)] 3)) (.cells #[.slice (some ⟨W.heap.size, 0, none⟩) 1 1] 60)
    exact (hg3.block _ (lt_of hm) (by simp; omega)).trans hm
theorem Ints.src {W : World} {v : Value} {xs : List Int} (h : Ints W v xs) : Src 1 W v xs.length (cellsI xs) := by
  refine ⟨by simp [cellsI], cellsI_one xs, ?_⟩
  rcases h.lie with ⟨⟨ad, c, rfl, hc, hz⟩, rfl⟩ | ⟨b, o, c, rfl, h2, h3, h4⟩
  · cases ad with
    | none => obtain rfl := hz rfl; exact .inl ⟨rfl, rfl⟩
    | some a => exact .inr ⟨a, c, rfl, Nat.zero_le _, hc, fun h => absurd h (by simp), fun _ => rfl, fun j u hu => by cases hu⟩
  · refine .inr ⟨⟨b, o, none⟩, c, rfl, h2, h3, fun _ => rfl, fun hz => by rw [List.length_eq_zero_iff.1 hz]; rfl, fun j u hu => ?_⟩
    rw [addr_add]
    have hj : j < xs.length := by
      rcases Nat.lt_or_ge j xs.length with h | h
      · exact h
      · rw [List.getElem?_eq_none (by simpa [cellsI] using h)] at hu; cases hu
    rw [cellsI_at hj] at hu
    cases hu
    exact h4 j hj
theorem make_roomR (w : World) (k : Nat) (hk : k ≤ 1000000000) : Sem.run Try.prog (Instr.makeSlice 24 (.int .i64 0) (.int .i64 ((k : Int) + 1))) w = .ok (.slice (some ⟨w.heap.size, 0, none⟩) 0 (k + 1)) (w.alloc (.cells (madeCells (Value.cells (.slice none 0 0)) ((k + 1) * 1)) 60)) := by
  obtain ⟨i, hi, hz, hs, hb⟩ := info_parts Try.infoRL
  have h := run_make (P := Try.prog) w 24 60 i _ Try.underlying24 hi hz .i64 .i64 0 ((k : Int) + 1) (by omega) (by omega) (by rw [hb]; omega) (by omega)
  rw [h, hs, show ((k : Int) + 1).toNat = k + 1 from by omega]
  rfl
theorem Rowss.form {W : World} {v : Value} {ss : List (List Int)} (h : Rowss W v ss) : ∃ ad c, v = .slice ad ss.length c := by
  rcases h.lie with ⟨rfl, rfl⟩ | ⟨b, o, c, rfl, _⟩
  · exact ⟨none, 0, rfl⟩
  · exact ⟨_, _, rfl⟩
theorem Rowss.get {W : World} {ad : Option Addr} {c : Nat} {ss : List (List Int)} (h : Rowss W (.slice ad ss.length c) ss) (i : Nat) (hi : i < ss.length) : ∃ b o u, ad = some ⟨b, o, none⟩ ∧ W.cell? ⟨b, o + i, none⟩ = some u ∧ Ints W u ss[i] := by
  rcases h.lie with ⟨_, rfl⟩ | ⟨b, o, c, e, _, _, h4⟩
  · simp at hi
  · cases e
    obtain ⟨u, h5, h6⟩ := h4 i hi
    exact ⟨b, o, u, rfl, h5, h6⟩
def RowsEnd (w : World) (xss : List (List Int)) (e : Ending) (w' : World) : Prop := ∃ b m bs, e = .returned (.slice (some ⟨b, 0, none⟩) xss.length (xss.length + 1)) ∧ RowsL w w' b m bs xss ∧ Kept [] w w'
theorem RowsL.cellAt {w W : World} {b m : Nat} {bs : List Nat} {xss : List (List Int)} (h : RowsL w W b m bs xss) {i : Nat} (hi : i < xss.length) (hb : i < bs.length) : W.cell? ⟨b, i, none⟩ = some (.slice (some ⟨bs[i], 0, none⟩) xss[i].length (xss[i].length + 2)) := by
  rw [cell_of h.row]
  simp only [List.getElem?_toArray]
  rw [List.getElem?_append_left (by rw [rowVs_len h.rs.len]; exact hi)]
  exact rowVs_at hi hb
theorem RowsL.markAt {w W : World} {b m : Nat} {bs : List Nat} {xss : List (List Int)} (h : RowsL w W b m bs xss) : W.cell? ⟨b, xss.length, none⟩ = some (.slice (some ⟨m, 0, none⟩) 1 1) ∧ W.cell? ⟨m, 0, none⟩ = some (.int .i64 (-77)) := by
  refine ⟨?_, (cell_of h.mrk 0).trans rfl⟩
  rw [cell_of h.row]
  simp only [List.getElem?_toArray]
  rw [List.getElem?_append_right (by rw [rowVs_len h.rs.len]; exact Nat.le_refl _), rowVs_len h.rs.len]
  simp
theorem RowsL.rowss {w W : World} {b m : Nat} {bs : List Nat} {xss : List (List Int)} (h : RowsL w W b m bs xss) (hl : xss.length ≤ 100000000) (hr : ∀ xs ∈ xss, xs.length ≤ 100000000 ∧ ∀ x ∈ xs, -9223372036854775808 ≤ x ∧ x ≤ 9223372036854775807) : Rowss W (.slice (some ⟨b, 0, none⟩) xss.length (xss.length + 1)) xss := by
  refine ⟨by omega, .inr ⟨b, 0, xss.length + 1, rfl, by omega, by unfold maxLen; omega, fun i hi => ?_⟩⟩
  have hb : i < bs.length := by rw [h.rs.len]; exact hi
  refine ⟨_, by rw [Nat.zero_add]; exact h.cellAt hi hb, ?_⟩
  have hx := hr _ (List.getElem_mem hi)
  have hs := (h.rs.each i hi hb).src (cellsI_one _)
  refine ⟨by omega, hx.2, .inr ⟨_, 0, _, rfl, by omega, by unfold maxLen; omega, fun j hj => ?_⟩⟩
  have q := hs.cellsAt j _ (cellsI_at hj)
  rwa [addr_add] at q
end Go.Proofs.Ytcojlcbljhnbgaa
