/- Lists of lists of numbers that are lent: LentRows, WholeRows, SpoilRows. -/
import Derived.Test.YtbbfajbnklgncaaHG
import Derived.Test.YtbbfajbnklgncaaHD
import Derived.Test.YtbbfajbnklgncaaHF
import Derived.Test.YtbbfajbnklgncaaWd
import Derived.Deep.RegionHeld3
namespace Go.Proofs.Ytbbfajbnklgncaa
open Go.RowKit Go.Shelf

theorem Try.infoRL : (Try.prog.info? 83).map (fun i => (i.zero, i.size, i.bytes)) = some (some (.slice none 0 0), 1, 24) := by kernel_rfl
/-- The slices of rows that are lent. -/
def rowVs (bs : List Nat) (xss : List (List Int)) : List Value := List.zipWith (fun b xs => Value.slice (some ⟨b, 0, none⟩) xs.length (xs.length + 2)) bs xss
theorem rowVs_len {bs : List Nat} {xss : List (List Int)} (h : bs.length = xss.length) : (rowVs bs xss).length = xss.length := by simp [rowVs, h]
theorem rowVs_at {bs : List Nat} {xss : List (List Int)} {i : Nat} (h : i < xss.length) (hb : i < bs.length) : (rowVs bs xss)[i]? = some (.slice (some ⟨bs[i], 0, none⟩) xss[i].length (xss[i].length + 2)) := by
  simp [rowVs, List.getElem?_zipWith, h, hb]
theorem rowVs_one (bs : List Nat) (xss : List (List Int)) : ∀ u ∈ rowVs bs xss, u.oneCell' = true := by
  intro u hu
  obtain ⟨i, hi, rfl⟩ := List.getElem_of_mem hu
  simp [rowVs]
  rfl
theorem rowVs_snoc {bs : List Nat} {xss : List (List Int)} (h : bs.length = xss.length) (b : Nat) (xs : List Int) : rowVs (bs ++ [b]) (xss ++ [xs]) = rowVs bs xss ++ [.slice (some ⟨b, 0, none⟩) xs.length (xs.length + 2)] := by
  unfold rowVs
  rw [List.zipWith_append h]
  rfl
/-- Rows that are lent: each in a block of its own. -/
structure RowsE (W : World) (bs : List Nat) (xss : List (List Int)) : Prop where
  len : bs.length = xss.length
  each : ∀ i (h : i < xss.length) (hb : i < bs.length), LentG 3 1 W bs[i] xss[i].length (cellsI xss[i]) marksI
theorem RowsE.keptF {F : List Nat} {W W' : World} {bs : List Nat} {xss : List (List Int)} (h : RowsE W bs xss) (k : Kept F W W') (hF : ∀ b ∈ bs, b ∉ F) : RowsE W' bs xss :=
  ⟨h.len, fun i hi hb => (h.each i hi hb).keptF k (hF _ (List.getElem_mem hb))⟩
theorem RowsE.snoc {W : World} {bs : List Nat} {xss : List (List Int)} {b : Nat} {xs : List Int} (h : RowsE W bs xss) (hb : LentG 3 1 W b xs.length (cellsI xs) marksI) : RowsE W (bs ++ [b]) (xss ++ [xs]) := by
  refine ⟨by simp [h.len], fun i hi hib => ?_⟩
  by_cases hlt : i < xss.length
  · rw [List.getElem_append_left (by rw [h.len]; exact hlt)]
    simp only [List.getElem_append_left hlt]
    exact h.each i hlt _
  · have e1 : i = xss.length := by simp at hi; omega
    subst e1
    have e2 : (bs ++ [b])[xss.length] = b := by simp [← h.len]
    have e3 : (xss ++ [xs])[xss.length] = xs := by simp
    rw [e2]
    simp only [e3]
    exact hb
structure RowsL (w W : World) (b m : Nat) (bs : List Nat) (xss : List (List Int)) : Prop where
  row : W.heap[b]? = some (.cells (rowVs bs xss ++ [Value.slice (some ⟨m, 0, none⟩) 1 1]).toArray 83 (0, 0))
  rs : RowsE W bs xss
  mrk : W.heap[m]? = some (.cells #[.int .i64 (-77)] 3 (0, 0))
  nb : ∀ x ∈ bs, b < x
  nd : bs.Nodup
  lo : w.heap.size ≤ b
theorem RowsL.kept {w W W' : World} {b m : Nat} {bs : List Nat} {xss : List (List Int)} (h : RowsL w W b m bs xss) (k : Kept [] W W') : RowsL w W' b m bs xss := ⟨k.at h.row (by simp), h.rs.keptF k (by simp), k.at h.mrk (by simp), h.nb, h.nd, h.lo⟩
/-- What the loop of LentRows carries. -/
structure RowsA (w W : World) (g n i : Nat) (bs : List Nat) (xss : List (List Int)) : Prop where
  own : W.ownsRow w.heap.size 83 1 (.slice (some ⟨g, 0, none⟩) i (n + 1)) i (rowVs bs (xss.take i))
  rs : RowsE W bs (xss.take i)
  nb : ∀ x ∈ bs, g < x
  nd : bs.Nodup
  lt : ∀ x ∈ bs, x < W.heap.size
  gt : g < W.heap.size
  kept : Kept [] w W
set_option maxRecDepth 10000 in
theorem RowsA.step {w W W1 : World} {g n i b : Nat} {bs : List Nat} {xss : List (List Int)} (h : RowsA w W g n i bs xss) (hi : i < xss.length) (hn : n = xss.length) (hw : w.heap.size ≤ g) (hb : LentG 3 1 W1 b xss[i].length (cellsI xss[i]) marksI) (hbn : W.heap.size ≤ b) (k : Kept [] W W1) :
    ∃ w3, (∀ ty, (Builtin.append_ #[23, 23] ty #[.slice (some ⟨g, 0, none⟩) i (n + 1), .slice (some ⟨W1.heap.size, 0, none⟩) 1 1]).run Try.prog (W1.alloc (.cells #[.slice (some ⟨b, 0, none⟩) xss[i].length (xss[i].length + 2)] 83)) = .ok (.slice (some ⟨g, 0, none⟩) (i + 1) (n + 1)) w3) ∧ RowsA w w3 g n (i + 1) (bs ++ [b]) xss := by
  obtain ⟨inf, hi1, hi2, hi3, hi4⟩ := info_parts Try.infoRL
  have hlt : b < W1.heap.size := lt_of hb.row
  have ho : (W1.alloc (.cells #[.slice (some ⟨b, 0, none⟩) xss[i].length (xss[i].length + 2)] 83)).ownsRow w.heap.size 83 1 (.slice (some ⟨g, 0, none⟩) i (n + 1)) i (rowVs bs (xss.take i)) := bx_keptL h.own (k.alloc _) (by simp)
  obtain ⟨w3, hrun, hr3, hg3⟩ := run_append_fits (P := Try.prog) (W1.alloc (.cells #[.slice (some ⟨b, 0, none⟩) xss[i].length (xss[i].length + 2)] 83)) w.heap.size 23 23 83 inf 1 Try.underlying23 hi1 hi3 g i (n + 1) (rowVs bs (xss.take i)) ho ⟨W1.heap.size, 0, none⟩ 1 1 [.slice (some ⟨b, 0, none⟩) xss[i].length (xss[i].length + 2)] rfl (World.news_of_block (cs := #[.slice (some ⟨b, 0, none⟩) xss[i].length (xss[i].length + 2)]) (t := 83) (fr := (0, 0)) (heap_alloc_new W1 _)) (by simp [Value.oneCell']) (by omega)
  have kg : Kept [g] W1 w3 := ((Kept.refl [g] W1).alloc _).grown hg3 (fun x hx => .inl (by simp at hx; simp [hx]))
  have htk : xss.take (i + 1) = xss.take i ++ [xss[i]] := by rw [List.take_add_one]; simp [hi]
  refine ⟨w3, fun ty => hrun, ⟨?_, ?_, ?_, ?_, ?_, ?_, ?_⟩⟩
  · rw [htk, rowVs_snoc h.rs.len]
    exact hr3
  · rw [htk]
    refine RowsE.snoc ((h.rs.keptF k (by simp)).keptF kg (fun x hx => ?_)) (hb.keptF kg ?_)
    · have := h.nb x hx; simp; omega
    · have := h.gt; simp; omega
  · intro x hx
    rcases List.mem_append.1 hx with hx | hx
    · exact h.nb x hx
    · simp at hx; subst hx; have := h.gt; omega
  · rw [List.nodup_append]
    refine ⟨h.nd, by simp, fun x hx y hy => ?_⟩
    simp at hy
    subst hy
    have := h.lt x hx
    omega
  · intro x hx
    have z1 := kg.size
    have z2 := k.size
    rcases List.mem_append.1 hx with hx | hx
    · have := h.lt x hx; omega
    · simp at hx; subst hx; omega
  · have z1 := kg.size
    have z2 := k.size
    have := h.gt
    omega
  · exact (keptB h.kept k).trans kg (by simp) (by simp; exact hw)
set_option maxRecDepth 10000 in
theorem RowsA.last {w W : World} {g n : Nat} {bs : List Nat} {xss : List (List Int)} (h : RowsA w W g n n bs xss) (hn : n = xss.length) (hw : w.heap.size ≤ g) :
    ∃ w3, (∀ ty, (Builtin.append_ #[23, 23] ty #[.slice (some ⟨g, 0, none⟩) n (n + 1), .slice (some ⟨W.heap.size + 1, 0, none⟩) 1 1]).run Try.prog ((W.alloc (.cells #[.int .i64 (-77)] 3)).alloc (.cells #[.slice (some ⟨W.heap.size, 0, none⟩) 1 1] 83)) = .ok (.slice (some ⟨g, 0, none⟩) (n + 1) (n + 1)) w3) ∧ RowsL w w3 g W.heap.size bs xss ∧ Kept [] w w3 := by
  obtain ⟨inf, hi1, hi2, hi3, hi4⟩ := info_parts Try.infoRL
  have k2 : Kept [] W ((W.alloc (.cells #[.int .i64 (-77)] 3)).alloc (.cells #[.slice (some ⟨W.heap.size, 0, none⟩) 1 1] 83)) := ((Kept.refl [] W).alloc _).alloc _
  have hbk := al1 W (.cells #[.int .i64 (-77)] 3) (.cells #[.slice (some ⟨W.heap.size, 0, none⟩) 1 1] 83)
  have htk : xss.take n = xss := by rw [hn]; exact List.take_length
  obtain ⟨w3, hrun, hr3, hg3⟩ := run_append_fits (P := Try.prog) ((W.alloc (.cells #[.int .i64 (-77)] 3)).alloc (.cells #[.slice (some ⟨W.heap.size, 0, none⟩) 1 1] 83)) w.heap.size 23 23 83 inf 1 Try.underlying23 hi1 hi3 g n (n + 1) (rowVs bs (xss.take n)) (bx_keptL h.own k2 (by simp)) ⟨W.heap.size + 1, 0, none⟩ 1 1 [.slice (some ⟨W.heap.size, 0, none⟩) 1 1] rfl (World.news_of_block (cs := #[.slice (some ⟨W.heap.size, 0, none⟩) 1 1]) (t := 83) (fr := (0, 0)) hbk) (by simp [Value.oneCell']) (by omega)
  have kg : Kept [g] W w3 := (k2.mono (by simp)).grown hg3 (fun x hx => .inl (by simp at hx; simp [hx]))
  have hgt := h.gt
  refine ⟨w3, fun ty => hrun, ⟨?_, ?_, ?_, h.nb, h.nd, hw⟩, h.kept.trans kg (by simp) (by simp; exact hw)⟩
  · rw [htk] at hr3
    rcases hr3.2 with ⟨e, _⟩ | ⟨g', cap, cur, e, _, h2, _, _, h5, h6⟩
    · cases e
    · cases e
      rw [List.take_of_length_le (by rw [Array.length_toList, h5]; exact Nat.le_refl _)] at h6
      rw [h2, ← h6]
  · have hr := h.rs
    rw [htk] at hr
    refine (hr.keptF k2 (by simp)).keptF (F := [g]) (((Kept.refl [g] _)).grown hg3 (fun x hx => .inl (by simp at hx; simp [hx]))) (fun x hx => ?_)
    have := h.nb x hx
    simp; omega
  · have hm := alUp (al0 W (.cells #[.int .i64 (-77)] 3)) (.cells #[.slice (some ⟨W.heap.size, 0, none⟩) 1 1] 83)
    exact (hg3.block _ (lt_of hm) (by simp; omega)).trans hm
theorem Ints.src {W : World} {v : Value} {xs : List Int} (h : Ints W v xs) : Src 1 W v xs.length (cellsI xs) := by
  refine ⟨by simp [cellsI], cellsI_one xs, ?_⟩
  rcases h.lie with ⟨⟨ad, c, rfl, hc, hz⟩, rfl⟩ | ⟨b, o, c, rfl, h2, h3, h4⟩
  · cases ad with
    | none => obtain rfl := hz rfl; exact .inl ⟨rfl, rfl⟩
    | some a => exact .inr ⟨a, c, rfl, Nat.zero_le _, hc, fun h => absurd h (by simp), fun _ => rfl, fun j u hu => by cases hu⟩
  · refine .inr ⟨⟨b, o, none⟩, c, rfl, h2, h3, fun _ => rfl, fun hz => by rw [List.length_eq_zero_iff.1 hz]; rfl, fun j u hu => ?_⟩
    rw [addr_add]
    have hj : j < xs.length := by
      rcases Nat.lt_or_ge j xs.length with h | h
      · exact h
      · rw [List.getElem?_eq_none (by simpa [cellsI] using h)] at hu; cases hu
    rw [cellsI_at hj] at hu
    cases hu
    exact h4 j hj
theorem make_roomR (w : World) (k : Nat) (hk : k ≤ 1000000000) : Sem.run Try.prog (Instr.makeSlice 23 (.int .i64 0) (.int .i64 ((k : Int) + 1))) w = .ok (.slice (some ⟨w.heap.size, 0, none⟩) 0 (k + 1)) (w.alloc (.cells (madeCells (Value.cells (.slice none 0 0)) ((k + 1) * 1)) 83)) := by
  obtain ⟨i, hi, hz, hs, hb⟩ := info_parts Try.infoRL
  have h := run_make (P := Try.prog) w 23 83 i _ Try.underlying23 hi hz .i64 .i64 0 ((k : Int) + 1) (by omega) (by omega) (by rw [hb]; omega) (by omega)
  rw [h, hs, show ((k : Int) + 1).toNat = k + 1 from by omega]
  rfl
theorem Rowss.form {W : World} {v : Value} {ss : List (List Int)} (h : Rowss W v ss) : ∃ ad c, v = .slice ad ss.length c := by
  rcases h.lie with ⟨rfl, rfl⟩ | ⟨b, o, c, rfl, _⟩
  · exact ⟨none, 0, rfl⟩
  · exact ⟨_, _, rfl⟩
theorem Rowss.get {W : World} {ad : Option Addr} {c : Nat} {ss : List (List Int)} (h : Rowss W (.slice ad ss.length c) ss) (i : Nat) (hi : i < ss.length) : ∃ b o u, ad = some ⟨b, o, none⟩ ∧ W.cell? ⟨b, o + i, none⟩ = some u ∧ Ints W u ss[i] := by
  rcases h.lie with ⟨_, rfl⟩ | ⟨b, o, c, e, _, _, h4⟩
  · simp at hi
  · cases e
    obtain ⟨u, h5, h6⟩ := h4 i hi
    exact ⟨b, o, u, rfl, h5, h6⟩
def RowsEnd (w : World) (xss : List (List Int)) (e : Ending) (w' : World) : Prop := ∃ b m bs, e = .returned (.slice (some ⟨b, 0, none⟩) xss.length (xss.length + 1)) ∧ RowsL w w' b m bs xss ∧ Kept [] w w'
set_option maxHeartbeats 1600000 in
set_option maxRecDepth 10000 in
theorem lentRows_any (v : Value) (xss : List (List Int)) (w : World) (h : Rowss w v xss) (hl : xss.length ≤ 100000000) (hr : ∀ xs ∈ xss, xs.length ≤ 100000000) :
    Calls Try.prog 26 #[v] w (RowsEnd w xss) := by
  obtain ⟨ad, c, rfl⟩ := h.form
  obtain ⟨n, hn⟩ : ∃ n, xss.length = n := ⟨_, rfl⟩
  have hmk := make_roomR w n (by omega)
  obtain ⟨W0, hW0⟩ : ∃ W0, w.alloc (.cells (madeCells (Value.cells (.slice none 0 0)) ((n + 1) * 1)) 83) = W0 := ⟨_, rfl⟩
  have kW0 : Kept [] w W0 := by rw [← hW0]; exact (Kept.refl [] w).alloc _
  have hA0 : RowsA w W0 w.heap.size n 0 [] xss := by
    refine ⟨?_, ⟨by simp, fun i hi => by simp at hi⟩, by simp, by simp, by simp, by rw [← hW0]; simp, kW0⟩
    rw [← hW0]
    exact ⟨rfl, .inr ⟨_, _, _, rfl, Nat.le_refl _, heap_alloc_new _ _, Nat.zero_le _, by unfold maxLen; omega, size_madeCells _ _, by simp [rowVs]⟩⟩
  have HG : Hid (∀ W i (hi : i < xss.length), Kept [] w W → ∃ b o u, ad = some ⟨b, o, none⟩ ∧ W.cell? ⟨b, o + i, none⟩ = some u ∧ Ints W u xss[i]) := fun W i hi k => (h.kept k).get i hi
  have HR : Hid (∀ xs ∈ xss, xs.length ≤ 100000000) := hr
  have HA0 : Hid (RowsA w W0 w.heap.size n 0 [] xss) := hA0
  have HN : Hid (xss.length = n) := hn
  have hw1 : IntKind.i64.wrap ((n : Int) + 1) = (n : Int) + 1 := by rw [IntKind.wrap_i64]; omega
  have hk1 : (n : Int) ≤ (n : Int) + 1 := by omega
  rw [hW0] at hmk
  rw [hn] at hl ⊢
  clear h hr hW0 kW0 hA0 hn
  go_enter Try.func26, Try.ntmps26
  go_wp2_with fail
  go_loopw [3, 4] (fun x i wr => ∃ (k : Nat) (bs : List Nat), i = .int .i64 (k : Nat) ∧ x = .slice (some ⟨w.heap.size, 0, none⟩) k (n + 1) ∧ k ≤ n ∧ Hid (RowsA w wr w.heap.size n k bs xss)) (fun _ i _ => n - (intOf i).toNat)
  case atStart => exact ⟨0, [], rfl, rfl, Nat.zero_le _, HA0⟩
  case round =>
    obtain ⟨k, bs, rfl, rfl, hk, HA⟩ := hrel
    by_cases hlt : k < n
    · have hkx : k < xss.length := by rw [HN.out]; exact hlt
      obtain ⟨b, o, u, rfl, hcell, hint⟩ := HG.out wr k hkx HA.out.kept
      obtain ⟨ua, uc, rfl, _, _⟩ := hint.form
      have HIN : Hid (Ints wr (.slice ua xss[k].length uc) xss[k]) := hint
      have HRK : Hid (xss[k].length ≤ 100000000) := HR.out _ (List.getElem_mem hkx)
      have y1 : (k : Int) < (n : Int) := by omega
      have HLI : Hid (Calls Try.prog 47 #[.slice ua xss[k].length uc] wr fun e w' => ∃ w3 b', e = .returned (.slice (some ⟨b', 0, none⟩) xss[k].length (xss[k].length + 2)) ∧ (∀ ty, (Builtin.append_ #[23, 23] ty #[.slice (some ⟨w.heap.size, 0, none⟩) k (n + 1), .slice (some ⟨w'.heap.size, 0, none⟩) 1 1]).run Try.prog (w'.alloc (.cells #[.slice (some ⟨b', 0, none⟩) xss[k].length (xss[k].length + 2)] 83)) = .ok (.slice (some ⟨w.heap.size, 0, none⟩) (k + 1) (n + 1)) w3) ∧ RowsA w w3 w.heap.size n (k + 1) (bs ++ [b']) xss) := by
        refine (lentInts_any _ _ _ wr HIN.out.src (by have := HRK.out; omega)).mono ?_
        rintro e w' ⟨b', rfl, h1, h2, h3⟩
        obtain ⟨w3, h4, h5⟩ := HA.out.step hkx HN.out.symm (Nat.le_refl _) h1 h2 h3
        exact ⟨w3, b', rfl, h4, h5⟩
      generalize xss[k].length = ln at *
      clear hint
      go_wp2_with (first
        | (go_at_call 47; refine HLI.out.mono ?_; rintro e w2 ⟨w3, b', rfl, hrun, hA3⟩; have HRUN : Hid (∀ ty, (Builtin.append_ #[23, 23] ty #[.slice (some ⟨w.heap.size, 0, none⟩) k (n + 1), .slice (some ⟨w2.heap.size, 0, none⟩) 1 1]).run Try.prog (w2.alloc (.cells #[.slice (some ⟨b', 0, none⟩) ln (ln + 2)] 83)) = .ok (.slice (some ⟨w.heap.size, 0, none⟩) (k + 1) (n + 1)) w3) := hrun; have HA3 : Hid (RowsA w w3 w.heap.size n (k + 1) (bs ++ [b']) xss) := hA3; clear hrun hA3)
        | (at_builtin; refine Lib.wpList_append_run _ rfl _ _ _ _ rfl _ _ rfl rfl _ _ (HRUN.out _) ?_))
      go_roundw
      case rel => exact ⟨k + 1, bs ++ [b'], by go_num, rfl, by omega, HA3⟩
      case measure => simp [intOf]; omega
    · obtain rfl : k = n := by omega
      have y1 : ¬ ((k : Int) < (k : Int)) := by omega
      obtain ⟨w3, hrun, hL, hK⟩ := HA.out.last HN.out.symm (Nat.le_refl _)
      have HRUN : Hid (∀ ty, (Builtin.append_ #[23, 23] ty #[.slice (some ⟨w.heap.size, 0, none⟩) k (k + 1), .slice (some ⟨wr.heap.size + 1, 0, none⟩) 1 1]).run Try.prog ((wr.alloc (.cells #[.int .i64 (-77)] 3)).alloc (.cells #[.slice (some ⟨wr.heap.size, 0, none⟩) 1 1] 83)) = .ok (.slice (some ⟨w.heap.size, 0, none⟩) (k + 1) (k + 1)) w3) := hrun
      have HL : Hid (RowsL w w3 w.heap.size wr.heap.size bs xss ∧ Kept [] w w3) := ⟨hL, hK⟩
      clear hrun hL hK
      go_wp2_with (at_builtin; refine Lib.wpList_append_run _ rfl _ _ _ _ rfl _ _ rfl rfl _ _ (HRUN.out _) ?_)
      go_ret
      exact ⟨w.heap.size, _, _, by rw [HN.out]; rfl, HL.out.1, HL.out.2⟩
theorem RowsL.cellAt {w W : World} {b m : Nat} {bs : List Nat} {xss : List (List Int)} (h : RowsL w W b m bs xss) {i : Nat} (hi : i < xss.length) (hb : i < bs.length) : W.cell? ⟨b, i, none⟩ = some (.slice (some ⟨bs[i], 0, none⟩) xss[i].length (xss[i].length + 2)) := by
  rw [cell_of h.row]
  simp only [List.getElem?_toArray]
  rw [List.getElem?_append_left (by rw [rowVs_len h.rs.len]; exact hi)]
  exact rowVs_at hi hb
theorem RowsL.markAt {w W : World} {b m : Nat} {bs : List Nat} {xss : List (List Int)} (h : RowsL w W b m bs xss) : W.cell? ⟨b, xss.length, none⟩ = some (.slice (some ⟨m, 0, none⟩) 1 1) ∧ W.cell? ⟨m, 0, none⟩ = some (.int .i64 (-77)) := by
  refine ⟨?_, (cell_of h.mrk 0).trans rfl⟩
  rw [cell_of h.row]
  simp only [List.getElem?_toArray]
  rw [List.getElem?_append_right (by rw [rowVs_len h.rs.len]; exact Nat.le_refl _), rowVs_len h.rs.len]
  simp
theorem RowsL.rowss {w W : World} {b m : Nat} {bs : List Nat} {xss : List (List Int)} (h : RowsL w W b m bs xss) (hl : xss.length ≤ 100000000) (hr : ∀ xs ∈ xss, xs.length ≤ 100000000 ∧ ∀ x ∈ xs, -9223372036854775808 ≤ x ∧ x ≤ 9223372036854775807) : Rowss W (.slice (some ⟨b, 0, none⟩) xss.length (xss.length + 1)) xss := by
  refine ⟨by omega, .inr ⟨b, 0, xss.length + 1, rfl, by omega, by unfold maxLen; omega, fun i hi => ?_⟩⟩
  have hb : i < bs.length := by rw [h.rs.len]; exact hi
  refine ⟨_, by rw [Nat.zero_add]; exact h.cellAt hi hb, ?_⟩
  have hx := hr _ (List.getElem_mem hi)
  have hs := (h.rs.each i hi hb).src (cellsI_one _)
  refine ⟨by omega, hx.2, .inr ⟨_, 0, _, rfl, by omega, by unfold maxLen; omega, fun j hj => ?_⟩⟩
  have q := hs.cellsAt j _ (cellsI_at hj)
  rwa [addr_add] at q
set_option maxHeartbeats 1600000 in
set_option maxRecDepth 10000 in
theorem wholeRows_any (b m : Nat) (bs : List Nat) (u : Value) (xss : List (List Int)) (w0 w : World) (h : RowsL w0 w b m bs xss) (hu : Rowss w u xss) (hl : xss.length ≤ 100000000) :
    Calls Try.prog 31 #[.slice (some ⟨b, 0, none⟩) xss.length (xss.length + 1), u] w fun e w' => e = .returned (.bool true) ∧ Kept [] w w' := by
  obtain ⟨ad, c, rfl⟩ := hu.form
  obtain ⟨m0, m1⟩ := h.markAt
  have HN : Hid (∀ i, i < xss.length → ∃ b' o ua uc ln, ad = some ⟨b', o, none⟩ ∧ ∀ W, Kept [] w W → W.cell? ⟨b', o + i, none⟩ = some (.slice ua ln uc) ∧ W.cell? ⟨b, i, none⟩ = some (.slice (some ⟨bs.getD i 0, 0, none⟩) ln (ln + 2)) ∧ Calls Try.prog 56 #[.slice (some ⟨bs.getD i 0, 0, none⟩) ln (ln + 2), .slice ua ln uc] W fun e w' => e = .returned (.bool true) ∧ Kept [] W w') := fun i hi => by
    have hb : i < bs.length := by rw [h.rs.len]; exact hi
    obtain ⟨b', o, u, hq, hc, hint⟩ := hu.get i hi
    obtain ⟨ua, uc, rfl, _, _⟩ := hint.form
    have e : bs.getD i 0 = bs[i] := by simp [hb]
    refine ⟨b', o, ua, uc, xss[i].length, hq, fun W k => ⟨cell_kept0 k hc, ?_, ?_⟩⟩
    · rw [e]; exact cell_kept0 k (h.cellAt hi hb)
    · rw [e]; exact wholeInts_any _ _ _ W ((h.rs.each i hi hb).kept k) (hint.src.kept k)
  obtain ⟨n, hn⟩ : ∃ n, xss.length = n := ⟨_, rfl⟩
  rw [hn] at hl m0 HN ⊢
  have hnl : ((n : Int) != (n : Int)) = false := by simp
  have b1 : ¬ ((n : Int) + 1 < (n : Int) + 1) := by omega
  clear h hu hn
  go_enter Try.func31, Try.ntmps31
  go_wp2_with fail
  go_loopw [6] (fun i wr => ∃ k : Nat, k ≤ n ∧ i = .int .i64 (k : Nat) ∧ Hid (Kept [] w wr)) (fun i _ => n - (intOf i).toNat)
  case atStart => exact ⟨0, Nat.zero_le _, rfl, Kept.refl [] w⟩
  case round =>
    obtain ⟨k, hk, rfl, HKW⟩ := hrel
    clear m0 m1
    by_cases hlt : k < n
    · have hlt' : (k : Int) < (n : Int) := by omega
      obtain ⟨b', o, ua, uc, ln, rfl, hC⟩ := HN.out k hlt
      obtain ⟨d1, d2, _⟩ := hC wr HKW.out
      have b0 : (0 : Int) ≤ (k : Int) := by omega
      generalize bs.getD k 0 = bk at *
      have HC : Hid (Calls Try.prog 56 #[.slice (some ⟨bk, 0, none⟩) ln (ln + 2), .slice ua ln uc] wr.drew fun e w' => e = .returned (.bool true) ∧ Kept [] wr.drew w') := (hC wr.drew HKW.out.drew).2.2
      clear hC
      go_upto_region 9 with fail
      go_cut [57] from 48 to 57 (fun s57 wx => s57 = .bool false ∧ Hid (Kept [] wr wx))
      case first =>
        go_region_with (go_at_call 56; refine HC.out.mono ?_; rintro e w2 ⟨rfl, hk2⟩; have HK2 : Hid (Kept [] wr w2) := keptB ((Kept.refl [] wr).drew) hk2; clear hk2)
        all_goals go_wp2_with fail
        all_goals go_meet
        all_goals exact ⟨rfl, HK2⟩
      case rest =>
        obtain ⟨rfl, HK2⟩ := hcut
        rename World => E
        clear d1 d2
        go_wp2
        go_roundw
        case rel => exact ⟨k + 1, by omega, by go_num, keptB HKW.out HK2.out⟩
        case measure => simp [intOf]; omega
    · have hlt' : ¬ (k : Int) < (n : Int) := by omega
      go_wp2
      go_ret
      exact ⟨rfl, HKW.out⟩
end Go.Proofs.Ytbbfajbnklgncaa

/- What the owner writes into a lent automaton's lists: yes and no turned, rows turned about. No walk here. -/
namespace Go.Proofs.Ytbbfajbnklgncaa
open Go.RowKit Go.Shelf

theorem set_app {cs ms : List Value} {i : Nat} (h : i < cs.length) (v : Value) : (cs ++ ms).toArray.setIfInBounds i v = (cs.set i v ++ ms).toArray := by
  apply Array.toList_inj.1
  simp only [Array.toList_setIfInBounds]
  rw [List.set_append_left _ _ h]
theorem cellsI_len (xs : List Int) : (cellsI xs).length = xs.length := by simp [cellsI]
theorem cellsW_len (xs : List Bool) : (cellsW xs).length = xs.length := by simp [cellsW]
theorem cellsI_set (xs : List Int) (i : Nat) (x : Int) : (cellsI xs).set i (.int .i64 x) = cellsI (xs.set i x) := by simp [cellsI, List.map_set]
theorem cellsW_set (xs : List Bool) (i : Nat) (x : Bool) : (cellsW xs).set i (.bool x) = cellsW (xs.set i x) := by simp [cellsW, List.map_set]
theorem LentG.setI {W : World} {b i : Nat} {xs : List Int} (h : LentG 3 1 W b xs.length (cellsI xs) marksI) (hi : i < xs.length) (x : Int) : LentG 3 1 (W.setCell ⟨b, i, none⟩ (.int .i64 x)) b (xs.set i x).length (cellsI (xs.set i x)) marksI := by
  refine ⟨?_, by simp [cellsI], h.mlen, by rw [List.length_set]; exact h.few⟩
  have q := row_set (i := i) h.row (.int .i64 x)
  rw [set_app (by rw [cellsI_len]; exact hi), cellsI_set] at q
  exact q
theorem LentG.setW {W : World} {b i : Nat} {xs : List Bool} (h : LentG 4 1 W b xs.length (cellsW xs) marksW) (hi : i < xs.length) (x : Bool) : LentG 4 1 (W.setCell ⟨b, i, none⟩ (.bool x)) b (xs.set i x).length (cellsW (xs.set i x)) marksW := by
  refine ⟨?_, by simp [cellsW], h.mlen, by rw [List.length_set]; exact h.few⟩
  have q := row_set (i := i) h.row (.bool x)
  rw [set_app (by rw [cellsW_len]; exact hi), cellsW_set] at q
  exact q
/-- Yes and no, turned as far as k. -/
def negN (k : Nat) (xs : List Bool) : List Bool := (xs.take k).map (!·) ++ xs.drop k
theorem negN_len (k : Nat) (xs : List Bool) : (negN k xs).length = xs.length := by simp [negN]; omega
theorem negN_zero (xs : List Bool) : negN 0 xs = xs := by simp [negN]
theorem negN_all (xs : List Bool) : negN xs.length xs = xs.map (!·) := by simp [negN]
theorem negN_at {k i : Nat} {xs : List Bool} (h : i < xs.length) : (negN k xs)[i]? = some (if i < k then !xs[i] else xs[i]) := by
  unfold negN
  by_cases hk : i < k
  · rw [if_pos hk, List.getElem?_append_left (by simp; omega)]
    simp [hk, h]
  · rw [if_neg hk, List.getElem?_append_right (by simp; omega), List.getElem?_drop]
    simp only [List.length_map, List.length_take]
    rw [show k + (i - min k xs.length) = i by omega]
    exact List.getElem?_eq_getElem h
theorem negN_step {k : Nat} {xs : List Bool} (h : k < xs.length) : (negN k xs).set k (!xs[k]) = negN (k + 1) xs := by
  apply List.ext_getElem?
  intro i
  rw [List.getElem?_set]
  by_cases hi : i < xs.length
  · rw [negN_at hi, negN_at hi]
    by_cases e : k = i
    · subst e
      rw [if_pos rfl, if_pos (by rw [negN_len]; exact h), if_pos (by omega)]
    · rw [if_neg e]
      by_cases hk : i < k
      · rw [if_pos hk, if_pos (by omega)]
      · rw [if_neg hk, if_neg (by omega)]
  · rw [if_neg (by omega), List.getElem?_eq_none (by rw [negN_len]; omega), List.getElem?_eq_none (by rw [negN_len]; omega)]
/-- A row, turned about as far as n. -/
def revN (n : Nat) (xs : List Int) : List Int := (List.range xs.length).map fun j => if j < n ∨ xs.length ≤ j + n then xs.getD (xs.length - 1 - j) 0 else xs.getD j 0
theorem revN_len (n : Nat) (xs : List Int) : (revN n xs).length = xs.length := by simp [revN]
theorem revN_at {n i : Nat} {xs : List Int} (h : i < xs.length) : (revN n xs)[i]? = some (if i < n ∨ xs.length ≤ i + n then xs.getD (xs.length - 1 - i) 0 else xs.getD i 0) := by
  unfold revN
  rw [List.getElem?_map, List.getElem?_range h]
  rfl
theorem revN_zero (xs : List Int) : revN 0 xs = xs := by
  apply List.ext_getElem?
  intro i
  by_cases hi : i < xs.length
  · rw [revN_at hi, if_neg (by omega), List.getD_eq_getElem?_getD, List.getElem?_eq_getElem hi]
    rfl
  · rw [List.getElem?_eq_none (by rw [revN_len]; omega), List.getElem?_eq_none (by omega)]
theorem revN_all {n : Nat} {xs : List Int} (h : xs.length ≤ 2 * n + 1) : revN n xs = xs.reverse := by
  apply List.ext_getElem?
  intro i
  by_cases hi : i < xs.length
  · rw [revN_at hi, List.getElem?_reverse hi, List.getElem?_eq_getElem (by omega)]
    by_cases hc : i < n ∨ xs.length ≤ i + n
    · rw [if_pos hc, List.getD_eq_getElem?_getD, List.getElem?_eq_getElem (by omega)]
      rfl
    · rw [if_neg hc, List.getD_eq_getElem?_getD, List.getElem?_eq_getElem hi]
      have e : xs.length - 1 - i = i := by omega
      simp only [e]
      rfl
  · rw [List.getElem?_eq_none (by rw [revN_len]; omega), List.getElem?_eq_none (by simp; omega)]
theorem revN_lo {n : Nat} {xs : List Int} (h : 2 * n + 1 < xs.length) : (revN n xs)[n]? = some (xs.getD n 0) := by
  rw [revN_at (by omega), if_neg (by omega)]
theorem revN_hi {n : Nat} {xs : List Int} (h : 2 * n + 1 < xs.length) : (revN n xs)[xs.length - 1 - n]? = some (xs.getD (xs.length - 1 - n) 0) := by
  rw [revN_at (by omega), if_neg (by omega)]
theorem revN_step {n : Nat} {xs : List Int} (h : 2 * n + 1 < xs.length) : ((revN n xs).set n (xs.getD (xs.length - 1 - n) 0)).set (xs.length - 1 - n) (xs.getD n 0) = revN (n + 1) xs := by
  apply List.ext_getElem?
  intro i
  rw [List.getElem?_set, List.getElem?_set]
  by_cases hi : i < xs.length
  · rw [revN_at hi, revN_at hi]
    by_cases e1 : xs.length - 1 - n = i
    · rw [if_pos e1, if_pos (by rw [List.length_set, revN_len]; exact e1 ▸ hi), if_pos (by omega)]
      rw [show xs.length - 1 - i = n by omega]
    · rw [if_neg e1]
      by_cases e2 : n = i
      · subst e2
        rw [if_pos rfl, if_pos (by rw [revN_len]; exact hi), if_pos (by omega)]
      · rw [if_neg e2]
        by_cases hc : i < n ∨ xs.length ≤ i + n
        · rw [if_pos hc, if_pos (by omega)]
        · rw [if_neg hc, if_neg (by omega)]
  · rw [List.getElem?_eq_none (by rw [revN_len]; omega), if_neg (by omega), if_neg (by omega), List.getElem?_eq_none (by rw [revN_len]; omega)]
/-- Rows that are lent, as they come to be. -/
structure RowsM (W : World) (b : Nat) (bs : List Nat) (tl : List Value) (yss : List (List Int)) : Prop where
  row : W.heap[b]? = some (.cells (rowVs bs yss ++ tl).toArray 83 (0, 0))
  rs : RowsE W bs yss
  nb : ∀ x ∈ bs, b < x
  nd : bs.Nodup
theorem RowsL.rowsM {w W : World} {b m : Nat} {bs : List Nat} {xss : List (List Int)} (h : RowsL w W b m bs xss) : RowsM W b bs [.slice (some ⟨m, 0, none⟩) 1 1] xss := ⟨h.row, h.rs, h.nb, h.nd⟩
theorem RowsM.keptF {F : List Nat} {W W' : World} {b : Nat} {bs : List Nat} {tl : List Value} {yss : List (List Int)} (h : RowsM W b bs tl yss) (k : Kept F W W') (hb : b ∉ F) (hF : ∀ x ∈ bs, x ∉ F) : RowsM W' b bs tl yss := ⟨k.at h.row hb, h.rs.keptF k hF, h.nb, h.nd⟩
theorem rowVs_same {bs : List Nat} : ∀ {xss yss : List (List Int)}, xss.length = yss.length → (∀ i (h : i < xss.length) (h' : i < yss.length), xss[i].length = yss[i].length) → rowVs bs xss = rowVs bs yss := by
  intro xss yss hl he
  apply List.ext_getElem?
  intro i
  unfold rowVs
  rw [List.getElem?_zipWith, List.getElem?_zipWith]
  by_cases hi : i < xss.length
  · rw [List.getElem?_eq_getElem hi, List.getElem?_eq_getElem (show i < yss.length by omega)]
    cases bs[i]? with
    | none => rfl
    | some b =>
      simp only
      rw [he i hi (by omega)]
  · rw [List.getElem?_eq_none (show xss.length ≤ i by omega), List.getElem?_eq_none (show yss.length ≤ i by omega)]
theorem RowsM.set {W : World} {b i j : Nat} {bs : List Nat} {tl : List Value} {yss : List (List Int)} (h : RowsM W b bs tl yss) (hi : i < yss.length) (hb : i < bs.length) (hj : j < yss[i].length) (x : Int) : RowsM (W.setCell ⟨bs[i], j, none⟩ (.int .i64 x)) b bs tl (yss.set i (yss[i].set j x)) := by
  have hk : Kept [bs[i]] W (W.setCell ⟨bs[i], j, none⟩ (.int .i64 x)) := (Kept.refl _ W).setCell (.inl (by simp)) _
  have hlt := h.nb bs[i] (List.getElem_mem hb)
  refine ⟨?_, ⟨by rw [List.length_set]; exact h.rs.len, fun k hk1 hk2 => ?_⟩, h.nb, h.nd⟩
  · have q := hk.at h.row (by simp; omega)
    rw [rowVs_same (xss := yss.set i (yss[i].set j x)) (yss := yss) (by simp) (fun k h1 h2 => ?_)]
    · exact q
    · rw [List.getElem_set]
      split
      · next e => subst e; simp
      · rfl
  · have hk3 : k < yss.length := by simpa using hk1
    by_cases e : i = k
    · subst e
      have q := (h.rs.each i hi hb).setI hj x
      simpa using q
    · have q := (h.rs.each k hk3 hk2).keptF hk (by
        simp only [List.mem_singleton]
        intro e2
        exact e ((List.getElem_inj h.nd).1 e2.symm))
      rw [List.getElem_set_ne e]
      exact q
theorem RowsM.cellAt {W : World} {b : Nat} {bs : List Nat} {tl : List Value} {yss : List (List Int)} (h : RowsM W b bs tl yss) {i : Nat} (hi : i < yss.length) (hb : i < bs.length) : W.cell? ⟨b, i, none⟩ = some (.slice (some ⟨bs[i], 0, none⟩) yss[i].length (yss[i].length + 2)) := by
  rw [cell_of h.row]
  simp only [List.getElem?_toArray]
  rw [List.getElem?_append_left (by rw [rowVs_len h.rs.len]; exact hi)]
  exact rowVs_at hi hb
theorem RowsM.numAt {W : World} {b : Nat} {bs : List Nat} {tl : List Value} {yss : List (List Int)} (h : RowsM W b bs tl yss) {i j : Nat} (hi : i < yss.length) (hb : i < bs.length) (hj : j < yss[i].length) : W.cell? ⟨bs[i], j, none⟩ = some (.int .i64 yss[i][j]) := by
  have q := ((h.rs.each i hi hb).src (cellsI_one _)).cellsAt j _ (cellsI_at hj)
  rwa [addr_add, Nat.zero_add] at q
theorem RowsM.rowss {W : World} {b : Nat} {bs : List Nat} {tl : List Value} {yss : List (List Int)} (h : RowsM W b bs tl yss) (c : Nat) (hc : yss.length ≤ c ∧ c ≤ maxLen) (hl : yss.length ≤ 100000000) (hr : ∀ xs ∈ yss, xs.length ≤ 100000000 ∧ ∀ x ∈ xs, -9223372036854775808 ≤ x ∧ x ≤ 9223372036854775807) : Rowss W (.slice (some ⟨b, 0, none⟩) yss.length c) yss := by
  refine ⟨by omega, .inr ⟨b, 0, c, rfl, hc.1, hc.2, fun i hi => ?_⟩⟩
  have hb : i < bs.length := by rw [h.rs.len]; exact hi
  refine ⟨_, by rw [Nat.zero_add]; exact h.cellAt hi hb, ?_⟩
  have hx := hr _ (List.getElem_mem hi)
  have hs := (h.rs.each i hi hb).src (cellsI_one _)
  refine ⟨by omega, hx.2, .inr ⟨_, 0, _, rfl, by omega, by unfold maxLen; omega, fun j hj => ?_⟩⟩
  have q := hs.cellsAt j _ (cellsI_at hj)
  rwa [addr_add] at q
end Go.Proofs.Ytbbfajbnklgncaa

/- Deterministic automata that are lent: LentDFA, WholeDFA; lists of yes and no, letters as their cells. -/
namespace Go.Proofs.Ytbbfajbnklgncaa
open Go.RowKit Go.Shelf

theorem kept_moreD {B : Nat} {a b : World} (k : Kept [] a b) : Kept [B] a b := ⟨k.os, k.tape, k.output, k.size, fun n h _ => k.block n h (by simp)⟩
/-- A box of three cells. -/
def Thr (T : TypeId) (W : World) (B : Nat) (a b c : Value) : Prop := W.heap[B]? = some (.cells #[a, b, c] T (0, 0))
theorem Thr.cells {T : TypeId} {W : World} {B : Nat} {a b c : Value} (h : Thr T W B a b c) : W.cell? ⟨B, 0, none⟩ = some a ∧ W.cell? ⟨B, 1, none⟩ = some b ∧ W.cell? ⟨B, 2, none⟩ = some c :=
  ⟨(cell_of h 0).trans rfl, (cell_of h 1).trans rfl, (cell_of h 2).trans rfl⟩
theorem Thr.free {T : TypeId} {W : World} {B : Nat} {a b c : Value} (h : Thr T W B a b c) : W.frozen? ⟨B, 0, none⟩ = false ∧ W.frozen? ⟨B, 1, none⟩ = false ∧ W.frozen? ⟨B, 2, none⟩ = false :=
  ⟨free_of h 0, free_of h 1, free_of h 2⟩
theorem Thr.keptF {F : List Nat} {T : TypeId} {W W' : World} {B : Nat} {a b c : Value} (h : Thr T W B a b c) (k : Kept F W W') (hB : B ∉ F) : Thr T W' B a b c := k.at h hB
def setThr (W : World) (B : Nat) (a b c : Value) : World := ((W.setCell ⟨B, 0, none⟩ a).setCell ⟨B, 1, none⟩ b).setCell ⟨B, 2, none⟩ c
theorem Thr.set {T : TypeId} {W : World} {B : Nat} {a b c : Value} (h : Thr T W B a b c) (a' b' c' : Value) : Thr T (setThr W B a' b' c') B a' b' c' := by
  unfold Thr setThr
  exact (row_set (row_set (row_set h a') b') c').trans rfl
theorem kept_set3 {w W : World} {B : Nat} (k : Kept [] w W) (hB : w.heap.size ≤ B) (a b c : Value) : Kept [] w (setThr W B a b c) := ((k.setCell (.inr hB) _).setCell (.inr hB) _).setCell (.inr hB) _
theorem kept_thr {W : World} {B : Nat} (a b c : Value) : Kept [B] W (setThr W B a b c) := (((Kept.refl [B] W).setCell (.inl (by simp)) _).setCell (.inl (by simp)) _).setCell (.inl (by simp)) _
theorem Strs.srcD {W : World} {v : Value} {xs : List ByteArray} (h : Strs W v xs) : Src 1 W v xs.length (cellsT xs) := by
  refine ⟨by simp [cellsT], cellsT_one xs, ?_⟩
  rcases h.lie with ⟨rfl, rfl⟩ | ⟨b, o, c, h1, h2, h3, h4⟩
  · exact .inl ⟨rfl, rfl⟩
  · refine .inr ⟨⟨b, o, none⟩, c, h1, h2, h3, fun _ => rfl, fun hz => by rw [List.length_eq_zero_iff.1 hz]; rfl, fun j u hu => ?_⟩
    have hj : j < xs.length := by have := (List.getElem?_eq_some_iff.1 hu).1; simpa [cellsT] using this
    rw [cellsT_at hj] at hu
    rw [addr_add, h4 j hj, ← hu]
theorem Bls.src {W : World} {v : Value} {xs : List Bool} (h : Bls W v xs) : Src 1 W v xs.length (cellsW xs) := by
  refine ⟨by simp [cellsW], cellsW_one xs, ?_⟩
  rcases h.lie with ⟨rfl, rfl⟩ | ⟨b, o, c, h1, h2, h3, h4⟩
  · exact .inl ⟨rfl, rfl⟩
  · refine .inr ⟨⟨b, o, none⟩, c, h1, h2, h3, fun _ => rfl, fun hz => by rw [List.length_eq_zero_iff.1 hz]; rfl, fun j u hu => ?_⟩
    have hj : j < xs.length := by have := (List.getElem?_eq_some_iff.1 hu).1; simpa [cellsW] using this
    rw [cellsW_at hj] at hu
    rw [addr_add, h4 j hj, ← hu, List.getD_eq_getElem?_getD, List.getElem?_eq_getElem hj]
    rfl
theorem Lets.src {W : World} {v : Value} {xs : List Nat} (h : Lets W v xs) : Src 1 W v xs.length (cellsU xs) := by
  refine ⟨by simp [cellsU], cellsU_one xs, ?_⟩
  rcases h.lie with ⟨rfl, rfl⟩ | ⟨b, o, c, h1, h2, h3, h4⟩
  · exact .inl ⟨rfl, rfl⟩
  · refine .inr ⟨⟨b, o, none⟩, c, h1, h2, h3, fun _ => rfl, fun hz => by rw [List.length_eq_zero_iff.1 hz]; rfl, fun j u hu => ?_⟩
    have hj : j < xs.length := by have := (List.getElem?_eq_some_iff.1 hu).1; simpa [cellsU] using this
    rw [cellsU_at hj] at hu
    rw [addr_add, h4 j hj, ← hu, List.getD_eq_getElem?_getD, List.getElem?_eq_getElem hj]
    rfl
theorem LentG.strs {W : World} {b : Nat} {xs : List ByteArray} (h : LentG 9 1 W b xs.length (cellsT xs) marksT) (hf : xs.length ≤ 8796093022208) (hs : ∀ x ∈ xs, x.size ≤ maxLen) : Strs W (.slice (some ⟨b, 0, none⟩) xs.length (xs.length + 2)) xs := by
  have q := h.src (cellsT_one xs)
  refine ⟨hf, hs, .inr ⟨b, 0, _, rfl, by omega, by unfold maxLen; omega, fun i hi => ?_⟩⟩
  have := q.cellsAt i _ (cellsT_at hi)
  rwa [addr_add] at this
theorem LentG.bls {W : World} {b : Nat} {xs : List Bool} (h : LentG 4 1 W b xs.length (cellsW xs) marksW) (hf : xs.length ≤ 70368744177664) : Bls W (.slice (some ⟨b, 0, none⟩) xs.length (xs.length + 2)) xs := by
  have q := h.src (cellsW_one xs)
  refine ⟨by omega, .inr ⟨b, 0, _, rfl, by omega, by unfold maxLen; omega, fun i hi => ?_⟩⟩
  have := q.cellsAt i _ (cellsW_at hi)
  rw [addr_add] at this
  rw [this, List.getD_eq_getElem?_getD, List.getElem?_eq_getElem hi]
  rfl
theorem LentG.lets {W : World} {b : Nat} {xs : List Nat} (h : LentG 55 1 W b xs.length (cellsU xs) marksU) (hf : xs.length ≤ 70368744177664) (hs : ∀ x ∈ xs, x < 65536) : Lets W (.slice (some ⟨b, 0, none⟩) xs.length (xs.length + 2)) xs := by
  have q := h.src (cellsU_one xs)
  refine ⟨hs, hf, .inr ⟨b, 0, _, rfl, by omega, by unfold maxLen; omega, fun i hi => ?_⟩⟩
  have := q.cellsAt i _ (cellsU_at hi)
  rw [addr_add] at this
  rw [this, List.getD_eq_getElem?_getD, List.getElem?_eq_getElem hi]
  rfl
/-- A deterministic automaton that is lent. -/
structure DfaL (W : World) (n b1 b2 b3 m : Nat) (bs : List Nat) (ps : List ByteArray) (next : List (List Int)) (live : List Bool) : Prop where
  ps : LentG 9 1 W b1 ps.length (cellsT ps) marksT
  nx : ∃ w0, RowsL w0 W b2 m bs next
  lv : LentG 4 1 W b3 live.length (cellsW live) marksW
  up : n ≤ b1 ∧ b1 < b2 ∧ b2 < b3
  lt : ∀ x ∈ bs, x < b3
theorem dfaL_of {V Wa Wb Wc : World} {b1 b2 b3 m : Nat} {bs : List Nat} {ps : List ByteArray} {next : List (List Int)} {live : List Bool} (h1 : LentG 9 1 Wa b1 ps.length (cellsT ps) marksT ∧ V.heap.size ≤ b1) (h2 : RowsL Wa Wb b2 m bs next ∧ Kept [] Wa Wb) (h3 : (LentG 4 1 Wc b3 live.length (cellsW live) marksW ∧ Wb.heap.size ≤ b3) ∧ Kept [] Wb Wc) : DfaL Wc V.heap.size b1 b2 b3 m bs ps next live := by
  have z1 := lt_of h1.1.row
  have z2 := lt_of h2.1.row
  have z3 := h2.1.lo
  refine ⟨(h1.1.kept h2.2).kept h3.2, ⟨_, h2.1.kept h3.2⟩, h3.1.1, ⟨h1.2, by omega, by omega⟩, fun x hx => ?_⟩
  obtain ⟨i, hi, rfl⟩ := List.getElem_of_mem hx
  have := lt_of (h2.1.rs.each i (by rw [← h2.1.rs.len]; exact hi) hi).row
  omega
theorem DfaL.keptF {F : List Nat} {W W' : World} {n b1 b2 b3 m : Nat} {bs : List Nat} {ps : List ByteArray} {next : List (List Int)} {live : List Bool} (h : DfaL W n b1 b2 b3 m bs ps next live) (k : Kept F W W') (hF : ∀ x ∈ F, x < n) (hm : m ∉ F) : DfaL W' n b1 b2 b3 m bs ps next live := by
  obtain ⟨u1, u2, u3⟩ := h.up
  have hn : ∀ b, n ≤ b → b ∉ F := fun b hb hx => by have := hF b hx; omega
  obtain ⟨w0, hr⟩ := h.nx
  exact ⟨h.ps.keptF k (hn _ (by omega)), ⟨w0, k.at hr.row (hn _ (by omega)), hr.rs.keptF k (fun x hx => hn x (by have := hr.nb x hx; omega)), k.at hr.mrk hm, hr.nb, hr.nd, hr.lo⟩, h.lv.keptF k (hn _ (by omega)), h.up, h.lt⟩
end Go.Proofs.Ytbbfajbnklgncaa
