/- The book: Letters, Word, Own. -/
import Derived.Test.YtamfnefnaelgfaaDoorOwnNil
namespace Go.Proofs.YtamfnefnaelgfaaDoor
open Go.RowKit Go.Shelf
attribute [local go_sem ↓] Go.wp_at_zero Go.wp_at_succ

theorem getElem?_snoc {α : Type} {l : List α} {a b : α} {i : Nat} (h : (l ++ [a])[i]? = some b) : l[i]? = some b ∨ (i = l.length ∧ b = a) := by
  rcases Nat.lt_trichotomy i l.length with q | q | q
  · rw [List.getElem?_append_left q] at h; exact .inl h
  · subst q; rw [List.getElem?_concat_length] at h; exact .inr ⟨rfl, (Option.some.inj h).symm⟩
  · rw [List.getElem?_eq_none (by simp; omega)] at h; cases h
theorem OwnAll.snoc {W : World} {base : Nat} {vs : List Value} {xss : List (List Nat)} {x : Value} {xs : List Nat} (h : OwnAll W base vs xss) (hx : W.ownsRow base 51 1 x xs.length (u16s xs)) (ha : ∀ v ∈ vs, ∀ g, v.ownBlock = some g → x.ownBlock ≠ some g) : OwnAll W base (vs ++ [x]) (xss ++ [xs]) := by
  refine ⟨by simp [h.len], fun i v ys h1 h2 => ?_, fun i j v u g hij h1 h2 h3 h4 => ?_⟩
  · rcases getElem?_snoc h1 with q | ⟨q, rfl⟩
    · rcases getElem?_snoc h2 with q2 | ⟨q2, rfl⟩
      · exact h.row i v ys q q2
      · exact absurd (getElem?_lt q) (by rw [h.len]; omega)
    · rcases getElem?_snoc h2 with q2 | ⟨q2, rfl⟩
      · exact absurd (getElem?_lt q2) (by rw [← h.len]; omega)
      · exact hx
  · rcases getElem?_snoc h1 with q | ⟨q, rfl⟩
    · rcases getElem?_snoc h2 with q2 | ⟨q2, rfl⟩
      · exact h.apart i j v u g hij q q2 h3 h4
      · exact ha v (List.mem_of_getElem? q) g h3 h4
    · rcases getElem?_snoc h2 with q2 | ⟨q2, rfl⟩
      · exact ha u (List.mem_of_getElem? q2) g h4 h3
      · exact hij (q.trans q2.symm)
/-- A book that holds lists of letters only. -/
structure BookL (W : World) (base base' B : Nat) (lv : Value) (vs : List Value) (xss : List (List Nat)) : Prop where
  head : W.heap[B]? = some (.cells #[.slice none 0 0, .slice none 0 0, .slice none 0 0, .slice none 0 0, lv, .slice none 0 0, .slice none 0 0, .slice none 0 0, .slice none 0 0, .slice none 0 0, .slice none 0 0, .slice none 0 0, .slice none 0 0] 44 (0, 0))
  inn : OwnIn W base base' lv vs xss
  low' : base' ≤ W.heap.size
theorem BookL.start {W : World} {base base' B : Nat} (h : W.heap[B]? = some (.cells #[.slice none 0 0, .slice none 0 0, .slice none 0 0, .slice none 0 0, .slice none 0 0, .slice none 0 0, .slice none 0 0, .slice none 0 0, .slice none 0 0, .slice none 0 0, .slice none 0 0, .slice none 0 0, .slice none 0 0] 44 (0, 0))) (hb : base ≤ W.heap.size) (hb' : base' ≤ W.heap.size) : BookL W base base' B (.slice none 0 0) [] [] :=
  ⟨h, ⟨⟨rfl, fun i v xs h => by simp at h, fun i j v u g _ h => by simp at h⟩, World.ownsRow_nil _ _ _ _, by simp, by simp, hb⟩, hb'⟩
theorem BookL.apartR {W : World} {base base' B : Nat} {lv : Value} {vs : List Value} {xss : List (List Nat)} (h : BookL W base base' B lv vs xss) {b n g : Nat} {x : Value} {ys : List Value} (hx : W.ownsRow b 51 1 x n ys) (hg : x.ownBlock = some g) : g ≠ B := by
  rintro rfl
  obtain ⟨c, e⟩ := row_type hx hg
  rw [h.head] at e
  cases e
theorem BookL.apartL {W : World} {base base' B : Nat} {lv : Value} {vs : List Value} {xss : List (List Nat)} (h : BookL W base base' B lv vs xss) {b n g : Nat} {x : Value} {ys : List Value} (hx : W.ownsRow b 45 1 x n ys) (hg : x.ownBlock = some g) : g ≠ B := by
  rintro rfl
  obtain ⟨c, e⟩ := row_type hx hg
  rw [h.head] at e
  cases e
/-- What a book may write: itself and its list. -/
def bookF (B : Nat) (lv : Value) : List Nat := B :: lv.ownBlock.toList
theorem BookL.free {W : World} {base base' B : Nat} {lv : Value} {vs : List Value} {xss : List (List Nat)} (h : BookL W base base' B lv vs xss) {b n g : Nat} {x : Value} {ys : List Value} (hx : W.ownsRow b 51 1 x n ys) (hg : x.ownBlock = some g) : g ∉ bookF B lv := by
  intro hm
  rcases List.mem_cons.1 hm with q | q
  · exact h.apartR hx hg q
  · exact types_apart hx h.inn.list hg (by simpa using q)
theorem BookL.noBlock {W : World} {base base' B : Nat} {lv : Value} {vs : List Value} {xss : List (List Nat)} (h : BookL W base base' B lv vs xss) : B ∉ blocksOf vs := by
  intro hm
  obtain ⟨v, hv, hvg⟩ := List.mem_filterMap.1 hm
  obtain ⟨i, hi, rfl⟩ := List.getElem_of_mem hv
  have hix : i < xss.length := by rw [← h.inn.rows.len]; exact hi
  exact h.apartR (h.inn.rows.row i _ _ (List.getElem?_eq_getElem hi) (List.getElem?_eq_getElem hix)) hvg rfl
theorem BookL.kept {F : List Nat} {W W' : World} {base base' B : Nat} {lv : Value} {vs : List Value} {xss : List (List Nat)} (h : BookL W base base' B lv vs xss) (k : Kept F W W') (hF : ∀ g ∈ bookF B lv ++ blocksOf vs, g ∉ F) : BookL W' base base' B lv vs xss := by
  refine ⟨k.at h.head (hF B (by simp [bookF])), ⟨h.inn.rows.keptF k (fun i v g hv hg => hF g (List.mem_append_right _ (mem_blocks hv hg))), owns_keptF h.inn.list k (fun g hg => hF g (by simp [bookF, hg])), h.inn.few, h.inn.short, Nat.le_trans h.inn.low k.size⟩, Nat.le_trans h.low' k.size⟩
theorem BookL.quiet {W W' : World} {base base' B : Nat} {lv : Value} {vs : List Value} {xss : List (List Nat)} (h : BookL W base base' B lv vs xss) (k : Kept [] W W') : BookL W' base base' B lv vs xss := h.kept k (by simp)
/-- One list more. -/
theorem BookL.put {w : World} {base base' B : Nat} {lv : Value} {vs : List Value} {xss : List (List Nat)} {xad : Option Addr} {c : Nat} {xs : List Nat} (h : BookL w base base' B lv vs xss) (hx : w.ownsRow base 51 1 (.slice xad xs.length c) xs.length (u16s xs)) (ha : ∀ v ∈ vs, ∀ g, v.ownBlock = some g → (Value.slice xad xs.length c).ownBlock ≠ some g) (hf : vs.length < 100000) (hs : xs.length ≤ 1000000000) :
    ∃ g cap w', (∀ ty, (Builtin.append_ #[34, 34] ty #[lv, .slice (some ⟨w.heap.size, 0, none⟩) 1 1]).run Tryd.prog (w.alloc (.cells #[.slice xad xs.length c] 45)) = .ok (.slice (some ⟨g, 0, none⟩) (vs.length + 1) cap) w') ∧ w'.frozen? ⟨B, 4, none⟩ = false ∧ BookL (w'.setCell ⟨B, 4, none⟩ (.slice (some ⟨g, 0, none⟩) (vs.length + 1) cap)) base base' B (.slice (some ⟨g, 0, none⟩) (vs.length + 1) cap) (vs ++ [.slice xad xs.length c]) (xss ++ [xs]) ∧ Kept (bookF B lv) w (w'.setCell ⟨B, 4, none⟩ (.slice (some ⟨g, 0, none⟩) (vs.length + 1) cap)) ∧ (lv.ownBlock = some g ∨ w.heap.size ≤ g) ∧ w'.cell? ⟨B, 4, none⟩ = some lv := by
  obtain ⟨inf, hi, hz0, hz1, hz2⟩ := info_parts Tryd.infoSl
  have k1 : Kept [] w (w.alloc (.cells #[.slice xad xs.length c] 45)) := (Kept.refl [] w).alloc _
  have hl := owns_keptF h.inn.list k1 (by simp)
  have hs1 := k1.size
  have hlow := h.low'
  obtain ⟨g, cap, w', hr, h2, h3, h4, h5⟩ := run_append_keep (P := Tryd.prog) (w.alloc (.cells #[.slice xad xs.length c] 45)) 34 34 base' 45 inf _ 1 24 Tryd.underlying34 hi hz0 hz1 hz2 rfl (by decide) lv vs.length _ hl ⟨w.heap.size, 0, none⟩ 1 1 [.slice xad xs.length c] rfl (World.news_of_block (cs := #[.slice xad xs.length c]) (t := 45) (fr := (0, 0)) (heap_alloc_new w _)) (by simp [Value.oneCell']) (by decide) (by unfold maxLen; omega) (by omega) (by omega)
  have kG : Kept lv.ownBlock.toList w w' := (k1.trans (G := []) (H := lv.ownBlock.toList) (Kept.refl [] _) (by simp) (by simp)).grown h3 (fun b hb => .inl (by rw [hb]; simp))
  have hBl : B ∉ lv.ownBlock.toList := fun hm => h.apartL h.inn.list (show lv.ownBlock = some B by simpa using hm) rfl
  have hh := kG.at h.head hBl
  have kF : Kept (bookF B lv) w (w'.setCell ⟨B, 4, none⟩ (.slice (some ⟨g, 0, none⟩) (vs.length + 1) cap)) := (kG.trans (G := []) (H := bookF B lv) (Kept.refl [] _) (fun _ h => List.mem_cons_of_mem _ h) (by simp)).setCell (p := ⟨B, 4, none⟩) (.inl (by simp [bookF])) _
  have hgB : g ≠ B := by
    rintro rfl
    obtain ⟨c1, e1⟩ := row_type h2 rfl
    rw [hh] at e1
    cases e1
  have h2' : (w'.setCell ⟨B, 4, none⟩ (.slice (some ⟨g, 0, none⟩) (vs.length + 1) cap)).ownsRow base' 45 1 (.slice (some ⟨g, 0, none⟩) (vs.length + 1) cap) (vs.length + 1) (vs ++ [.slice xad xs.length c]) := owns_keptF h2 ((Kept.refl [B] w').setCell (p := ⟨B, 4, none⟩) (.inl (by simp)) _) (fun b hb => by
    have e : g = b := by simpa [Value.ownBlock] using hb
    subst e
    simpa using hgB)
  have hrows := (h.inn.rows.snoc hx ha).keptF kF (fun i v b hv hb => by
    rcases getElem?_snoc hv with q | ⟨_, rfl⟩
    · have hix : i < xss.length := by rw [← h.inn.rows.len]; exact getElem?_lt q
      exact h.free (h.inn.rows.row i _ _ q (List.getElem?_eq_getElem hix)) hb
    · exact h.free hx hb)
  have hlw := h.inn.low
  have hks := kF.size
  refine ⟨g, cap, w', fun ty => hr, free_of hh 4, ⟨?_, ⟨hrows, by rw [List.length_append]; exact h2', by simp; omega, fun ys hy => ?_, by omega⟩, by omega⟩, kF, ?_, by rw [cell_of hh]; rfl⟩
  · have := row_set (i := 4) hh (.slice (some ⟨g, 0, none⟩) (vs.length + 1) cap)
    simpa using this
  · rcases List.mem_append.1 hy with q | q
    · exact h.inn.short ys q
    · rw [List.mem_singleton.1 q]; exact hs
  · rcases h4 with q | ⟨q, _⟩
    · exact .inl q
    · right; omega
end Go.Proofs.YtamfnefnaelgfaaDoor

/- The book's Letters, Word and Own. -/
namespace Go.Proofs.YtamfnefnaelgfaaDoor
open Go.RowKit Go.Shelf
attribute [local go_sem ↓] Go.wp_at_zero Go.wp_at_succ

theorem BookL.c4 {W : World} {base base' B : Nat} {lv : Value} {vs : List Value} {xss : List (List Nat)} (h : BookL W base base' B lv vs xss) : W.cell? ⟨B, 4, none⟩ = some lv := by rw [cell_of h.head]; rfl
set_option maxHeartbeats 1000000 in
set_option maxRecDepth 10000 in
theorem bookLetters_any (B base base' : Nat) (lv : Value) (vs : List Value) (xss : List (List Nat)) (x : Value) (xs : List Nat) (w : World) (h : BookL w base base' B lv vs xss) (hx : w.ownsRow base 51 1 x xs.length (u16s xs)) (ha : ∀ v ∈ vs, ∀ g, v.ownBlock = some g → x.ownBlock ≠ some g) (hf : vs.length < 100000) (hs : xs.length ≤ 1000000000) :
    Calls Tryd.prog 27 #[.pointer (some ⟨B, 0, none⟩), x] w fun e w' => (∃ v, e = .returned v) ∧ ∃ lv', BookL w' base base' B lv' (vs ++ [x]) (xss ++ [xs]) ∧ Kept (bookF B lv) w w' ∧ (∀ g, lv'.ownBlock = some g → lv.ownBlock = some g ∨ w.heap.size ≤ g) := by
  obtain ⟨xad, xc, rfl⟩ := own_form hx
  obtain ⟨lad, lc, rfl⟩ := own_form h.inn.list
  obtain ⟨g, cap, w', hrun, hfz, hb, hk, hg, hc⟩ := h.put hx ha hf hs
  have c4 := h.c4
  have HRUN : Hid (∀ ty, (Builtin.append_ #[34, 34] ty #[.slice lad vs.length lc, .slice (some ⟨w.heap.size, 0, none⟩) 1 1]).run Tryd.prog (w.alloc (.cells #[.slice xad xs.length xc] 45)) = .ok (.slice (some ⟨g, 0, none⟩) (vs.length + 1) cap) w') := hrun
  have HB : Hid _ := hb
  have HK : Hid _ := hk
  have HG : Hid (_ ∨ _) := hg
  clear hrun hb hk hg h hx ha hf hs
  go_enter Tryd.func27, Tryd.ntmps27
  go_wp2_with (at_builtin; refine Lib.wpList_append_run _ rfl _ _ _ _ rfl _ _ rfl rfl _ _ (HRUN.out _) ?_)
  first | go_end0 | refine bodyPost_ret (results_none rfl _ _ _) rfl ?_
  refine ⟨⟨_, rfl⟩, _, HB.out, HK.out, fun b hb => ?_⟩
  have e : g = b := by simpa [Value.ownBlock] using hb
  subst e
  exact HG.out
set_option maxHeartbeats 4000000 in
set_option maxRecDepth 10000 in
theorem bookOwn_any (B base base' : Nat) (lv : Value) (vs : List Value) (xss : List (List Nat)) (w : World) (h : BookL w base base' B lv vs xss) :
    Calls Tryd.prog 10 #[.pointer (some ⟨B, 0, none⟩)] w fun e w' => e = .returned (.bool true) ∧ Kept (blocksOf vs) w w' := by
  obtain ⟨lad, lc, rfl⟩ := own_form h.inn.list
  have HH : Hid (BookL w base base' B (.slice lad vs.length lc) vs xss) := h
  have HC : Hid (∀ W, Kept (blocksOf vs) w W → W.heap[B]? = some (.cells #[.slice none 0 0, .slice none 0 0, .slice none 0 0, .slice none 0 0, .slice lad vs.length lc, .slice none 0 0, .slice none 0 0, .slice none 0 0, .slice none 0 0, .slice none 0 0, .slice none 0 0, .slice none 0 0, .slice none 0 0] 44 (0, 0))) := fun W k => k.at h.head h.noBlock
  have HK0 : Hid (Kept [] w w) := Kept.refl [] w
  have c0 : w.cell? ⟨B, 0, none⟩ = some (.slice none 0 0) := by rw [cell_of h.head]; rfl
  clear h
  go_enter Tryd.func10, Tryd.ntmps10
  go_wp2_with fail
  refine (ownBytes_nil _).mono ?_
  rintro e w1 ⟨rfl, k1⟩
  have HK1 : Hid (Kept [] w w1) := HK0.out.trans k1 (by simp) (by simp)
  clear c0 k1
  have c1 : w1.cell? ⟨B, 1, none⟩ = some (.slice none 0 0) := by rw [cell_of (HC.out w1 (HK1.out.trans (G := []) (H := blocksOf vs) (Kept.refl [] _) (by simp) (by simp)))]; rfl
  go_wp2_with fail
  refine (ownTexts_nil _).mono ?_
  rintro e w2 ⟨rfl, k2⟩
  have HK2 : Hid (Kept [] w w2) := HK1.out.trans k2 (by simp) (by simp)
  clear c1 k2
  have c2 : w2.cell? ⟨B, 2, none⟩ = some (.slice none 0 0) := by rw [cell_of (HC.out w2 (HK2.out.trans (G := []) (H := blocksOf vs) (Kept.refl [] _) (by simp) (by simp)))]; rfl
  go_wp2_with fail
  refine (ownInts_nil _).mono ?_
  rintro e w3 ⟨rfl, k3⟩
  have HK3 : Hid (Kept [] w w3) := HK2.out.trans k3 (by simp) (by simp)
  clear c2 k3
  have c3 : w3.cell? ⟨B, 3, none⟩ = some (.slice none 0 0) := by rw [cell_of (HC.out w3 (HK3.out.trans (G := []) (H := blocksOf vs) (Kept.refl [] _) (by simp) (by simp)))]; rfl
  go_wp2_with fail
  refine (ownBools_nil _).mono ?_
  rintro e w4 ⟨rfl, k4⟩
  have HK4 : Hid (Kept [] w w4) := HK3.out.trans k4 (by simp) (by simp)
  clear c3 k4
  have c4 : w4.cell? ⟨B, 4, none⟩ = some (.slice lad vs.length lc) := by rw [cell_of (HC.out w4 (HK4.out.trans (G := []) (H := blocksOf vs) (Kept.refl [] _) (by simp) (by simp)))]; rfl
  go_wp2_with fail
  refine (ownLetters_walk _ vs xss base base' _ (HH.out.quiet HK4.out).inn).mono ?_
  rintro e w5 ⟨rfl, k5⟩
  have HK5 : Hid (Kept (blocksOf vs) w w5) := HK4.out.trans k5 (by simp) (fun _ h => .inl h)
  clear c4 k5
  have c5 : w5.cell? ⟨B, 5, none⟩ = some (.slice none 0 0) := by rw [cell_of (HC.out w5 HK5.out)]; rfl
  go_wp2_with fail
  refine (ownEdges_nil _).mono ?_
  rintro e w6 ⟨rfl, k6⟩
  have HK6 : Hid (Kept (blocksOf vs) w w6) := HK5.out.trans k6 (fun _ h => h) (by simp)
  clear c5 k6
  have c6 : w6.cell? ⟨B, 6, none⟩ = some (.slice none 0 0) := by rw [cell_of (HC.out w6 HK6.out)]; rfl
  go_wp2_with fail
  refine (ownTokens_nil _).mono ?_
  rintro e w7 ⟨rfl, k7⟩
  have HK7 : Hid (Kept (blocksOf vs) w w7) := HK6.out.trans k7 (fun _ h => h) (by simp)
  clear c6 k7
  have c7 : w7.cell? ⟨B, 7, none⟩ = some (.slice none 0 0) := by rw [cell_of (HC.out w7 HK7.out)]; rfl
  go_wp2_with fail
  refine (ownVerdicts_nil _).mono ?_
  rintro e w8 ⟨rfl, k8⟩
  have HK8 : Hid (Kept (blocksOf vs) w w8) := HK7.out.trans k8 (fun _ h => h) (by simp)
  clear c7 k8
  have c8 : w8.cell? ⟨B, 8, none⟩ = some (.slice none 0 0) := by rw [cell_of (HC.out w8 HK8.out)]; rfl
  go_wp2_with fail
  refine (ownAlarms_nil _).mono ?_
  rintro e w9 ⟨rfl, k9⟩
  have HK9 : Hid (Kept (blocksOf vs) w w9) := HK8.out.trans k9 (fun _ h => h) (by simp)
  clear c8 k9
  have c9 : w9.cell? ⟨B, 9, none⟩ = some (.slice none 0 0) := by rw [cell_of (HC.out w9 HK9.out)]; rfl
  go_wp2_with fail
  refine (ownSlices_nil _).mono ?_
  rintro e w10 ⟨rfl, k10⟩
  have HK10 : Hid (Kept (blocksOf vs) w w10) := HK9.out.trans k10 (fun _ h => h) (by simp)
  clear c9 k10
  have c10 : w10.cell? ⟨B, 10, none⟩ = some (.slice none 0 0) := by rw [cell_of (HC.out w10 HK10.out)]; rfl
  go_wp2_with fail
  refine (ownRows_nil _).mono ?_
  rintro e w11 ⟨rfl, k11⟩
  have HK11 : Hid (Kept (blocksOf vs) w w11) := HK10.out.trans k11 (fun _ h => h) (by simp)
  clear c10 k11
  have c11 : w11.cell? ⟨B, 11, none⟩ = some (.slice none 0 0) := by rw [cell_of (HC.out w11 HK11.out)]; rfl
  go_wp2_with fail
  refine (ownWords_nil _).mono ?_
  rintro e w12 ⟨rfl, k12⟩
  have HK12 : Hid (Kept (blocksOf vs) w w12) := HK11.out.trans k12 (fun _ h => h) (by simp)
  clear c11 k12
  have c12 : w12.cell? ⟨B, 12, none⟩ = some (.slice none 0 0) := by rw [cell_of (HC.out w12 HK12.out)]; rfl
  go_wp2_with fail
  refine (ownFormulas_nil _).mono ?_
  rintro e w13 ⟨rfl, k13⟩
  have HK13 : Hid (Kept (blocksOf vs) w w13) := HK12.out.trans k13 (fun _ h => h) (by simp)
  clear c12 k13
  go_wp2
  go_ret
  exact ⟨rfl, HK13.out⟩
theorem BookL.lt {W : World} {base base' B : Nat} {lv : Value} {vs : List Value} {xss : List (List Nat)} (h : BookL W base base' B lv vs xss) : ∀ g ∈ bookF B lv, g < W.heap.size := by
  intro g hg
  rcases List.mem_cons.1 hg with rfl | q
  · exact lt_of h.head
  · exact owns_lt h.inn.list (show lv.ownBlock = some g by simpa using q)
set_option maxHeartbeats 1000000 in
set_option maxRecDepth 10000 in
theorem bookWord_any (B base base' : Nat) (lv : Value) (vs : List Value) (xss : List (List Nat)) (x y : Value) (xs ys : List Nat) (w : World) (h : BookL w base base' B lv vs xss) (hx : w.ownsRow base 51 1 x xs.length (u16s xs)) (hy : w.ownsRow base 51 1 y ys.length (u16s ys)) (ha : ∀ v ∈ vs, ∀ g, v.ownBlock = some g → x.ownBlock ≠ some g) (ha' : ∀ v ∈ vs, ∀ g, v.ownBlock = some g → y.ownBlock ≠ some g) (hxy : ∀ g, x.ownBlock = some g → y.ownBlock ≠ some g) (hf : vs.length + 1 < 100000) (hs : xs.length ≤ 1000000000) (hs' : ys.length ≤ 1000000000) :
    Calls Tryd.prog 9 #[.pointer (some ⟨B, 0, none⟩), .agg #[x, y]] w fun e w' => (∃ v, e = .returned v) ∧ ∃ lv', BookL w' base base' B lv' (vs ++ [x] ++ [y]) (xss ++ [xs] ++ [ys]) ∧ Kept (bookF B lv) w w' ∧ (∀ g, lv'.ownBlock = some g → lv.ownBlock = some g ∨ w.heap.size ≤ g) := by
  obtain ⟨xad, xc, rfl⟩ := own_form hx
  obtain ⟨yad, yc, rfl⟩ := own_form hy
  obtain ⟨V, hV⟩ : ∃ V, w.alloc (.cells #[.slice xad xs.length xc, .slice yad ys.length yc] 47) = V := ⟨_, rfl⟩
  have kV : Kept [] w V := by rw [← hV]; exact (Kept.refl [] w).alloc _
  have hrow : V.heap[w.heap.size]? = some (.cells #[.slice xad xs.length xc, .slice yad ys.length yc] 47 (0, 0)) := by rw [← hV]; exact heap_alloc_new w _
  have hlt := h.lt
  have hsV := kV.size
  have HS1 : Hid (Calls Tryd.prog 27 #[.pointer (some ⟨B, 0, none⟩), .slice xad xs.length xc] V fun e w' => (∃ v, e = .returned v) ∧ ∃ lv', BookL w' base base' B lv' (vs ++ [.slice xad xs.length xc]) (xss ++ [xs]) ∧ Kept (bookF B lv) V w' ∧ (∀ g, lv'.ownBlock = some g → lv.ownBlock = some g ∨ V.heap.size ≤ g)) := bookLetters_any B base base' lv vs xss _ xs V (h.quiet kV) (owns_keptF hx kV (by simp)) ha (by omega) hs
  have HS2 : Hid (∀ W lv', BookL W base base' B lv' (vs ++ [.slice xad xs.length xc]) (xss ++ [xs]) → Kept (bookF B lv) V W → Calls Tryd.prog 27 #[.pointer (some ⟨B, 0, none⟩), .slice yad ys.length yc] W fun e w' => (∃ v, e = .returned v) ∧ ∃ lv2, BookL w' base base' B lv2 (vs ++ [.slice xad xs.length xc] ++ [.slice yad ys.length yc]) (xss ++ [xs] ++ [ys]) ∧ Kept (bookF B lv') W w' ∧ (∀ g, lv2.ownBlock = some g → lv'.ownBlock = some g ∨ W.heap.size ≤ g)) := fun W lv' hb k => bookLetters_any B base base' lv' _ _ _ ys W hb (owns_keptF (owns_keptF hy kV (by simp)) k (fun g hg => (h.quiet kV).free (owns_keptF hy kV (by simp)) hg)) (fun v hv g hg => by
    rcases List.mem_append.1 hv with q | q
    · exact ha' v q g hg
    · rw [List.mem_singleton.1 q] at hg; exact hxy g hg) (by simp; omega) hs'
  have HKV : Hid (Kept [] w V) := kV
  have HVV : Hid (_ = V) := hV
  have HROW : Hid (∀ W, Kept (bookF B lv) V W → W.heap[w.heap.size]? = some (.cells #[.slice xad xs.length xc, .slice yad ys.length yc] 47 (0, 0))) := fun W k => k.at hrow (fun hm => by have := hlt _ hm; omega)
  have T1 : Hid True := trivial
  have f0 : V.cell? ⟨w.heap.size, 0, none⟩ = some (.slice xad xs.length xc) := by rw [cell_of hrow]; rfl
  have f1 : V.cell? ⟨w.heap.size, 1, none⟩ = some (.slice yad ys.length yc) := by rw [cell_of hrow]; rfl
  clear h hx hy ha ha' hxy hf hs hs' kV hV hrow hlt hsV
  go_enter Tryd.func9, Tryd.ntmps9
  go_wp2_with (first
    | (clear T1; go_at_call 27; rw [HVV.out]; refine HS1.out.mono ?_; rintro e Wa ⟨⟨v1, rfl⟩, lv1, hb1, ka, hn1⟩; have HB1 : Hid _ := hb1; have HKa : Hid (Kept (bookF B lv) V Wa) := ka; have HN1 : Hid (∀ g, lv1.ownBlock = some g → lv.ownBlock = some g ∨ V.heap.size ≤ g) := hn1; clear f0 f1 ka hb1 hn1; have f1 : Wa.cell? ⟨w.heap.size, 1, none⟩ = some (.slice yad ys.length yc) := (by rw [cell_of (HROW.out Wa HKa.out)]; rfl))
    | (go_at_call 27; refine (HS2.out Wa lv1 HB1.out HKa.out).mono ?_; rintro e Wb ⟨⟨v2, rfl⟩, lv2, hb2, kb, hn2⟩; have HB2 : Hid _ := hb2; have HKb : Hid (Kept (bookF B lv1) Wa Wb) := kb; have HN2 : Hid (∀ g, lv2.ownBlock = some g → lv1.ownBlock = some g ∨ Wa.heap.size ≤ g) := hn2; clear kb hb2 hn2))
  first | go_end0 | refine bodyPost_ret (results_none rfl _ _ _) rfl ?_
  have s1 := HKV.out.size
  have s2 := HKa.out.size
  refine ⟨⟨_, rfl⟩, lv2, HB2.out, (HKV.out.trans HKa.out (H := bookF B lv) (by simp) (fun _ h => .inl h)).trans HKb.out (fun _ h => h) (fun g hg => ?_), fun g hg => ?_⟩
  · rcases List.mem_cons.1 hg with rfl | q
    · exact .inl (by simp [bookF])
    · rcases HN1.out g (by simpa using q) with q1 | q1
      · exact .inl (by simp [bookF, q1])
      · right; omega
  · rcases HN2.out g hg with q | q
    · rcases HN1.out g q with q1 | q1
      · exact .inl q1
      · right; omega
    · right; omega
end Go.Proofs.YtamfnefnaelgfaaDoor
