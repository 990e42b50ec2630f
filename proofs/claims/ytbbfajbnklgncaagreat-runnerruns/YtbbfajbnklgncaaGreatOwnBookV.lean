/- The book of verdicts: Verdicts, Own. -/
import Derived.Test.YtbbfajbnklgncaaGreatOwnV4
import Derived.Test.YtbbfajbnklgncaaGreatOwnNil
namespace Go.Proofs.YtbbfajbnklgncaaGreat
open Go.RowKit Go.Shelf
attribute [local go_sem ↓] Go.wp_at_zero Go.wp_at_succ

theorem getElem?_snocV8 {α : Type} {l : List α} {a b : α} {i : Nat} (h : (l ++ [a])[i]? = some b) : l[i]? = some b ∨ (i = l.length ∧ b = a) := by
  rcases Nat.lt_trichotomy i l.length with q | q | q
  · rw [List.getElem?_append_left q] at h; exact .inl h
  · subst q; rw [List.getElem?_concat_length] at h; exact .inr ⟨rfl, (Option.some.inj h).symm⟩
  · rw [List.getElem?_eq_none (by simp; omega)] at h; cases h
theorem OwnAllV8.snoc {W : World} {base : Nat} {vs : List Value} {xss : List (List Nat)} {x : Value} {xs : List Nat} (h : OwnAllV8 W base vs xss) (hx : W.ownsRow base 38 1 x xs.length (vdC xs)) (ha : ∀ v ∈ vs, ∀ g, v.ownBlock = some g → x.ownBlock ≠ some g) : OwnAllV8 W base (vs ++ [x]) (xss ++ [xs]) := by
  refine ⟨by simp [h.len], fun i v ys h1 h2 => ?_, fun i j v u g hij h1 h2 h3 h4 => ?_⟩
  · rcases getElem?_snocV8 h1 with q | ⟨q, rfl⟩
    · rcases getElem?_snocV8 h2 with q2 | ⟨q2, rfl⟩
      · exact h.row i v ys q q2
      · exact absurd (getElem?_ltV8 q) (by rw [h.len]; omega)
    · rcases getElem?_snocV8 h2 with q2 | ⟨q2, rfl⟩
      · exact absurd (getElem?_ltV8 q2) (by rw [← h.len]; omega)
      · exact hx
  · rcases getElem?_snocV8 h1 with q | ⟨q, rfl⟩
    · rcases getElem?_snocV8 h2 with q2 | ⟨q2, rfl⟩
      · exact h.apart i j v u g hij q q2 h3 h4
      · exact ha v (List.mem_of_getElem? q) g h3 h4
    · rcases getElem?_snocV8 h2 with q2 | ⟨q2, rfl⟩
      · exact ha u (List.mem_of_getElem? q2) g h4 h3
      · exact hij (q.trans q2.symm)
/-- A book that holds lists of letters only. -/
structure BookLV8 (W : World) (base base' B : Nat) (lv : Value) (vs : List Value) (xss : List (List Nat)) : Prop where
  head : W.heap[B]? = some (.cells #[.slice none 0 0, .slice none 0 0, .slice none 0 0, .slice none 0 0, .slice none 0 0, .slice none 0 0, .slice none 0 0, lv, .slice none 0 0, .slice none 0 0, .slice none 0 0, .slice none 0 0, .slice none 0 0] 55 (0, 0))
  inn : OwnInV8 W base base' lv vs xss
  low' : base' ≤ W.heap.size
theorem BookLV8.start {W : World} {base base' B : Nat} (h : W.heap[B]? = some (.cells #[.slice none 0 0, .slice none 0 0, .slice none 0 0, .slice none 0 0, .slice none 0 0, .slice none 0 0, .slice none 0 0, .slice none 0 0, .slice none 0 0, .slice none 0 0, .slice none 0 0, .slice none 0 0, .slice none 0 0] 55 (0, 0))) (hb : base ≤ W.heap.size) (hb' : base' ≤ W.heap.size) : BookLV8 W base base' B (.slice none 0 0) [] [] :=
  ⟨h, ⟨⟨rfl, fun i v xs h => by simp at h, fun i j v u g _ h => by simp at h⟩, World.ownsRow_nil _ _ _ _, by simp, by simp, hb⟩, hb'⟩
theorem BookLV8.apartR {W : World} {base base' B : Nat} {lv : Value} {vs : List Value} {xss : List (List Nat)} (h : BookLV8 W base base' B lv vs xss) {b n g : Nat} {x : Value} {ys : List Value} (hx : W.ownsRow b 38 1 x n ys) (hg : x.ownBlock = some g) : g ≠ B := by
  rintro rfl
  obtain ⟨c, e⟩ := row_typeV8 hx hg
  rw [h.head] at e
  cases e
theorem BookLV8.apartL {W : World} {base base' B : Nat} {lv : Value} {vs : List Value} {xss : List (List Nat)} (h : BookLV8 W base base' B lv vs xss) {b n g : Nat} {x : Value} {ys : List Value} (hx : W.ownsRow b 24 1 x n ys) (hg : x.ownBlock = some g) : g ≠ B := by
  rintro rfl
  obtain ⟨c, e⟩ := row_typeV8 hx hg
  rw [h.head] at e
  cases e
/-- What a book may write: itself and its list. -/
def bookFV8 (B : Nat) (lv : Value) : List Nat := B :: lv.ownBlock.toList
theorem BookLV8.free {W : World} {base base' B : Nat} {lv : Value} {vs : List Value} {xss : List (List Nat)} (h : BookLV8 W base base' B lv vs xss) {b n g : Nat} {x : Value} {ys : List Value} (hx : W.ownsRow b 38 1 x n ys) (hg : x.ownBlock = some g) : g ∉ bookFV8 B lv := by
  intro hm
  rcases List.mem_cons.1 hm with q | q
  · exact h.apartR hx hg q
  · exact types_apartV8 hx h.inn.list hg (by simpa using q)
theorem BookLV8.noBlock {W : World} {base base' B : Nat} {lv : Value} {vs : List Value} {xss : List (List Nat)} (h : BookLV8 W base base' B lv vs xss) : B ∉ blocksOfV8 vs := by
  intro hm
  obtain ⟨v, hv, hvg⟩ := List.mem_filterMap.1 hm
  obtain ⟨i, hi, rfl⟩ := List.getElem_of_mem hv
  have hix : i < xss.length := by rw [← h.inn.rows.len]; exact hi
  exact h.apartR (h.inn.rows.row i _ _ (List.getElem?_eq_getElem hi) (List.getElem?_eq_getElem hix)) hvg rfl
theorem BookLV8.kept {F : List Nat} {W W' : World} {base base' B : Nat} {lv : Value} {vs : List Value} {xss : List (List Nat)} (h : BookLV8 W base base' B lv vs xss) (k : Kept F W W') (hF : ∀ g ∈ bookFV8 B lv ++ blocksOfV8 vs, g ∉ F) : BookLV8 W' base base' B lv vs xss := by
  refine ⟨k.at h.head (hF B (by simp [bookFV8])), ⟨h.inn.rows.keptF k (fun i v g hv hg => hF g (List.mem_append_right _ (mem_blocksV8 hv hg))), owns_keptF h.inn.list k (fun g hg => hF g (by simp [bookFV8, hg])), h.inn.few, h.inn.short, Nat.le_trans h.inn.low k.size⟩, Nat.le_trans h.low' k.size⟩
theorem BookLV8.quiet {W W' : World} {base base' B : Nat} {lv : Value} {vs : List Value} {xss : List (List Nat)} (h : BookLV8 W base base' B lv vs xss) (k : Kept [] W W') : BookLV8 W' base base' B lv vs xss := h.kept k (by simp)
/-- One list more. -/
theorem BookLV8.put {w : World} {base base' B : Nat} {lv : Value} {vs : List Value} {xss : List (List Nat)} {xad : Option Addr} {c : Nat} {xs : List Nat} (h : BookLV8 w base base' B lv vs xss) (hx : w.ownsRow base 38 1 (.slice xad xs.length c) xs.length (vdC xs)) (ha : ∀ v ∈ vs, ∀ g, v.ownBlock = some g → (Value.slice xad xs.length c).ownBlock ≠ some g) (hf : vs.length < 100000) (hs : xs.length ≤ 1000000000) :
    ∃ g cap w', (∀ ty, (Builtin.append_ #[48, 48] ty #[lv, .slice (some ⟨w.heap.size, 0, none⟩) 1 1]).run Tryz.prog (w.alloc (.cells #[.slice xad xs.length c] 24)) = .ok (.slice (some ⟨g, 0, none⟩) (vs.length + 1) cap) w') ∧ w'.frozen? ⟨B, 7, none⟩ = false ∧ BookLV8 (w'.setCell ⟨B, 7, none⟩ (.slice (some ⟨g, 0, none⟩) (vs.length + 1) cap)) base base' B (.slice (some ⟨g, 0, none⟩) (vs.length + 1) cap) (vs ++ [.slice xad xs.length c]) (xss ++ [xs]) ∧ Kept (bookFV8 B lv) w (w'.setCell ⟨B, 7, none⟩ (.slice (some ⟨g, 0, none⟩) (vs.length + 1) cap)) ∧ (lv.ownBlock = some g ∨ w.heap.size ≤ g) ∧ w'.cell? ⟨B, 7, none⟩ = some lv := by
  obtain ⟨inf, hi, hz0, hz1, hz2⟩ := info_parts Tryz.infoSlV
  have k1 : Kept [] w (w.alloc (.cells #[.slice xad xs.length c] 24)) := (Kept.refl [] w).alloc _
  have hl := owns_keptF h.inn.list k1 (by simp)
  have hs1 := k1.size
  have hlow := h.low'
  obtain ⟨g, cap, w', hr, h2, h3, h4, h5⟩ := run_append_keep (P := Tryz.prog) (w.alloc (.cells #[.slice xad xs.length c] 24)) 48 48 base' 24 inf _ 1 24 Tryz.underlying48 hi hz0 hz1 hz2 rfl (by decide) lv vs.length _ hl ⟨w.heap.size, 0, none⟩ 1 1 [.slice xad xs.length c] rfl (World.news_of_block (cs := #[.slice xad xs.length c]) (t := 24) (fr := (0, 0)) (heap_alloc_new w _)) (by simp [Value.oneCell']) (by decide) (by unfold maxLen; omega) (by omega) (by omega)
  have kG : Kept lv.ownBlock.toList w w' := (k1.trans (G := []) (H := lv.ownBlock.toList) (Kept.refl [] _) (by simp) (by simp)).grown h3 (fun b hb => .inl (by rw [hb]; simp))
  have hBl : B ∉ lv.ownBlock.toList := fun hm => h.apartL h.inn.list (show lv.ownBlock = some B by simpa using hm) rfl
  have hh := kG.at h.head hBl
  have kF : Kept (bookFV8 B lv) w (w'.setCell ⟨B, 7, none⟩ (.slice (some ⟨g, 0, none⟩) (vs.length + 1) cap)) := (kG.trans (G := []) (H := bookFV8 B lv) (Kept.refl [] _) (fun _ h => List.mem_cons_of_mem _ h) (by simp)).setCell (p := ⟨B, 7, none⟩) (.inl (by simp [bookFV8])) _
  have hgB : g ≠ B := by
    rintro rfl
    obtain ⟨c1, e1⟩ := row_typeV8 h2 rfl
    rw [hh] at e1
    cases e1
  have h2' : (w'.setCell ⟨B, 7, none⟩ (.slice (some ⟨g, 0, none⟩) (vs.length + 1) cap)).ownsRow base' 24 1 (.slice (some ⟨g, 0, none⟩) (vs.length + 1) cap) (vs.length + 1) (vs ++ [.slice xad xs.length c]) := owns_keptF h2 ((Kept.refl [B] w').setCell (p := ⟨B, 7, none⟩) (.inl (by simp)) _) (fun b hb => by
    have e : g = b := by simpa [Value.ownBlock] using hb
    subst e
    simpa using hgB)
  have hrows := (h.inn.rows.snoc hx ha).keptF kF (fun i v b hv hb => by
    rcases getElem?_snocV8 hv with q | ⟨_, rfl⟩
    · have hix : i < xss.length := by rw [← h.inn.rows.len]; exact getElem?_ltV8 q
      exact h.free (h.inn.rows.row i _ _ q (List.getElem?_eq_getElem hix)) hb
    · exact h.free hx hb)
  have hlw := h.inn.low
  have hks := kF.size
  refine ⟨g, cap, w', fun ty => hr, free_of hh 7, ⟨?_, ⟨hrows, by rw [List.length_append]; exact h2', by simp; omega, fun ys hy => ?_, by omega⟩, by omega⟩, kF, ?_, by rw [cell_of hh]; rfl⟩
  · have := row_set (i := 7) hh (.slice (some ⟨g, 0, none⟩) (vs.length + 1) cap)
    simpa using this
  · rcases List.mem_append.1 hy with q | q
    · exact h.inn.short ys q
    · rw [List.mem_singleton.1 q]; exact hs
  · rcases h4 with q | ⟨q, _⟩
    · exact .inl q
    · right; omega
theorem BookLV8.c4 {W : World} {base base' B : Nat} {lv : Value} {vs : List Value} {xss : List (List Nat)} (h : BookLV8 W base base' B lv vs xss) : W.cell? ⟨B, 7, none⟩ = some lv := by rw [cell_of h.head]; rfl
set_option maxHeartbeats 1000000 in
set_option maxRecDepth 10000 in
theorem bookLetters_anyV8 (B base base' : Nat) (lv : Value) (vs : List Value) (xss : List (List Nat)) (x : Value) (xs : List Nat) (w : World) (h : BookLV8 w base base' B lv vs xss) (hx : w.ownsRow base 38 1 x xs.length (vdC xs)) (ha : ∀ v ∈ vs, ∀ g, v.ownBlock = some g → x.ownBlock ≠ some g) (hf : vs.length < 100000) (hs : xs.length ≤ 1000000000) :
    Calls Tryz.prog 15 #[.pointer (some ⟨B, 0, none⟩), x] w fun e w' => (∃ v, e = .returned v) ∧ ∃ lv', BookLV8 w' base base' B lv' (vs ++ [x]) (xss ++ [xs]) ∧ Kept (bookFV8 B lv) w w' ∧ (∀ g, lv'.ownBlock = some g → lv.ownBlock = some g ∨ w.heap.size ≤ g) := by
  obtain ⟨xad, xc, rfl⟩ := own_form hx
  obtain ⟨lad, lc, rfl⟩ := own_form h.inn.list
  obtain ⟨g, cap, w', hrun, hfz, hb, hk, hg, hc⟩ := h.put hx ha hf hs
  have c4 := h.c4
  have HRUN : Hid (∀ ty, (Builtin.append_ #[48, 48] ty #[.slice lad vs.length lc, .slice (some ⟨w.heap.size, 0, none⟩) 1 1]).run Tryz.prog (w.alloc (.cells #[.slice xad xs.length xc] 24)) = .ok (.slice (some ⟨g, 0, none⟩) (vs.length + 1) cap) w') := hrun
  have HB : Hid _ := hb
  have HK : Hid _ := hk
  have HG : Hid (_ ∨ _) := hg
  clear hrun hb hk hg h hx ha hf hs
  go_enter Tryz.func15, Tryz.ntmps15
  go_wp2_with (at_builtin; refine Lib.wpList_append_run _ rfl _ _ _ _ rfl _ _ rfl rfl _ _ (HRUN.out _) ?_)
  first | go_end0 | refine bodyPost_ret (results_none rfl _ _ _) rfl ?_
  refine ⟨⟨_, rfl⟩, _, HB.out, HK.out, fun b hb => ?_⟩
  have e : g = b := by simpa [Value.ownBlock] using hb
  subst e
  exact HG.out
set_option maxHeartbeats 1000000 in
set_option maxRecDepth 10000 in
theorem ownLetters_nilV8 (w : World) : Calls Tryz.prog 36 #[.slice none 0 0] w fun e w' => e = .returned (.bool true) ∧ Kept [] w w' := by
  go_enter Tryz.func36, Tryz.ntmps36
  go_wp2_with fail
  go_loopw [3] (fun v wr => v = .int .i64 0 ∧ Hid (Kept [] w wr)) (fun _ _ => 0)
  case atStart => exact ⟨rfl, Kept.refl [] w⟩
  case round =>
    obtain ⟨rfl, HK3⟩ := hrel
    rename World => w3
    go_wp2_with fail
    go_loopw [6] (fun v wr => v = .int .i64 0 ∧ Hid (Kept [] w wr)) (fun _ _ => 0)
    case atStart => exact ⟨rfl, HK3.out⟩
    case round =>
      obtain ⟨rfl, HK6⟩ := hrel
      rename World => w6
      go_wp2_with fail
      go_loopw [9] (fun v wr => v = .int .i64 0 ∧ Hid (Kept [] w wr)) (fun _ _ => 0)
      case atStart => exact ⟨rfl, HK6.out⟩
      case round =>
        obtain ⟨rfl, HK9⟩ := hrel
        rename World => w9
        go_wp2
        go_ret
        exact ⟨rfl, HK9.out⟩
set_option maxHeartbeats 4000000 in
set_option maxRecDepth 10000 in
theorem bookOwn_anyV8 (B base base' : Nat) (lv : Value) (vs : List Value) (xss : List (List Nat)) (w : World) (h : BookLV8 w base base' B lv vs xss) :
    Calls Tryz.prog 16 #[.pointer (some ⟨B, 0, none⟩)] w fun e w' => e = .returned (.bool true) ∧ Kept (blocksOfV8 vs) w w' := by
  obtain ⟨lad, lc, rfl⟩ := own_form h.inn.list
  have HH : Hid (BookLV8 w base base' B (.slice lad vs.length lc) vs xss) := h
  have HC : Hid (∀ W, Kept (blocksOfV8 vs) w W → W.heap[B]? = some (.cells #[.slice none 0 0, .slice none 0 0, .slice none 0 0, .slice none 0 0, .slice none 0 0, .slice none 0 0, .slice none 0 0, .slice lad vs.length lc, .slice none 0 0, .slice none 0 0, .slice none 0 0, .slice none 0 0, .slice none 0 0] 55 (0, 0))) := fun W k => k.at h.head h.noBlock
  have HK0 : Hid (Kept [] w w) := Kept.refl [] w
  have c0 : w.cell? ⟨B, 0, none⟩ = some (.slice none 0 0) := by rw [cell_of h.head]; rfl
  clear h
  go_enter Tryz.func16, Tryz.ntmps16
  go_wp2_with fail
  refine (ownBytes_nil _).mono ?_
  rintro e w1 ⟨rfl, k1⟩
  have HK1 : Hid (Kept [] w w1) := HK0.out.trans k1 (by simp) (by simp)
  clear c0 k1
  have c1 : w1.cell? ⟨B, 1, none⟩ = some (.slice none 0 0) := by rw [cell_of (HC.out w1 (HK1.out.trans (G := []) (H := blocksOfV8 vs) (Kept.refl [] _) (by simp) (by simp)))]; rfl
  go_wp2_with fail
  refine (ownTexts_nil _).mono ?_
  rintro e w2 ⟨rfl, k2⟩
  have HK2 : Hid (Kept [] w w2) := HK1.out.trans k2 (by simp) (by simp)
  clear c1 k2
  have c2 : w2.cell? ⟨B, 2, none⟩ = some (.slice none 0 0) := by rw [cell_of (HC.out w2 (HK2.out.trans (G := []) (H := blocksOfV8 vs) (Kept.refl [] _) (by simp) (by simp)))]; rfl
  go_wp2_with fail
  refine (ownInts_nil _).mono ?_
  rintro e w3 ⟨rfl, k3⟩
  have HK3 : Hid (Kept [] w w3) := HK2.out.trans k3 (by simp) (by simp)
  clear c2 k3
  have c3 : w3.cell? ⟨B, 3, none⟩ = some (.slice none 0 0) := by rw [cell_of (HC.out w3 (HK3.out.trans (G := []) (H := blocksOfV8 vs) (Kept.refl [] _) (by simp) (by simp)))]; rfl
  go_wp2_with fail
  refine (ownBools_nil _).mono ?_
  rintro e w4 ⟨rfl, k4⟩
  have HK4 : Hid (Kept [] w w4) := HK3.out.trans k4 (by simp) (by simp)
  clear c3 k4
  have c4 : w4.cell? ⟨B, 4, none⟩ = some (.slice none 0 0) := by rw [cell_of (HC.out w4 (HK4.out.trans (G := []) (H := blocksOfV8 vs) (Kept.refl [] _) (by simp) (by simp)))]; rfl
  go_wp2_with fail
  refine (ownLetters_nilV8 _).mono ?_
  rintro e w5 ⟨rfl, k5⟩
  have HK5 : Hid (Kept [] w w5) := HK4.out.trans k5 (by simp) (by simp)
  clear c4 k5
  have c5 : w5.cell? ⟨B, 5, none⟩ = some (.slice none 0 0) := by rw [cell_of (HC.out w5 (HK5.out.trans (G := []) (H := blocksOfV8 vs) (Kept.refl [] _) (by simp) (by simp)))]; rfl
  go_wp2_with fail
  refine (ownEdges_nil _).mono ?_
  rintro e w6 ⟨rfl, k6⟩
  have HK6 : Hid (Kept [] w w6) := HK5.out.trans k6 (by simp) (by simp)
  clear c5 k6
  have c6 : w6.cell? ⟨B, 6, none⟩ = some (.slice none 0 0) := by rw [cell_of (HC.out w6 (HK6.out.trans (G := []) (H := blocksOfV8 vs) (Kept.refl [] _) (by simp) (by simp)))]; rfl
  go_wp2_with fail
  refine (ownTokens_nil _).mono ?_
  rintro e w7 ⟨rfl, k7⟩
  have HK7 : Hid (Kept [] w w7) := HK6.out.trans k7 (by simp) (by simp)
  clear c6 k7
  have c7 : w7.cell? ⟨B, 7, none⟩ = some (.slice lad vs.length lc) := by rw [cell_of (HC.out w7 (HK7.out.trans (G := []) (H := blocksOfV8 vs) (Kept.refl [] _) (by simp) (by simp)))]; rfl
  go_wp2_with fail
  refine (ownVerdicts_walk _ vs xss base base' _ (HH.out.quiet HK7.out).inn).mono ?_
  rintro e w8 ⟨rfl, k8⟩
  have HK8 : Hid (Kept (blocksOfV8 vs) w w8) := HK7.out.trans k8 (by simp) (fun _ h => .inl h)
  clear c7 k8
  have c8 : w8.cell? ⟨B, 8, none⟩ = some (.slice none 0 0) := by rw [cell_of (HC.out w8 HK8.out)]; rfl
  go_wp2_with fail
  refine (ownAlarms_nil _).mono ?_
  rintro e w9 ⟨rfl, k9⟩
  have HK9 : Hid (Kept (blocksOfV8 vs) w w9) := HK8.out.trans k9 (fun _ h => h) (by simp)
  clear c8 k9
  have c9 : w9.cell? ⟨B, 9, none⟩ = some (.slice none 0 0) := by rw [cell_of (HC.out w9 HK9.out)]; rfl
  go_wp2_with fail
  refine (ownSlices_nil _).mono ?_
  rintro e w10 ⟨rfl, k10⟩
  have HK10 : Hid (Kept (blocksOfV8 vs) w w10) := HK9.out.trans k10 (fun _ h => h) (by simp)
  clear c9 k10
  have c10 : w10.cell? ⟨B, 10, none⟩ = some (.slice none 0 0) := by rw [cell_of (HC.out w10 HK10.out)]; rfl
  go_wp2_with fail
  refine (ownRows_nil _).mono ?_
  rintro e w11 ⟨rfl, k11⟩
  have HK11 : Hid (Kept (blocksOfV8 vs) w w11) := HK10.out.trans k11 (fun _ h => h) (by simp)
  clear c10 k11
  have c11 : w11.cell? ⟨B, 11, none⟩ = some (.slice none 0 0) := by rw [cell_of (HC.out w11 HK11.out)]; rfl
  go_wp2_with fail
  refine (ownWords_nil _).mono ?_
  rintro e w12 ⟨rfl, k12⟩
  have HK12 : Hid (Kept (blocksOfV8 vs) w w12) := HK11.out.trans k12 (fun _ h => h) (by simp)
  clear c11 k12
  have c12 : w12.cell? ⟨B, 12, none⟩ = some (.slice none 0 0) := by rw [cell_of (HC.out w12 HK12.out)]; rfl
  go_wp2_with fail
  refine (ownFormulas_nil _).mono ?_
  rintro e w13 ⟨rfl, k13⟩
  have HK13 : Hid (Kept (blocksOfV8 vs) w w13) := HK12.out.trans k13 (fun _ h => h) (by simp)
  clear c12 k13
  go_wp2
  go_ret
  exact ⟨rfl, HK13.out⟩
theorem BookLV8.lt {W : World} {base base' B : Nat} {lv : Value} {vs : List Value} {xss : List (List Nat)} (h : BookLV8 W base base' B lv vs xss) : ∀ g ∈ bookFV8 B lv, g < W.heap.size := by
  intro g hg
  rcases List.mem_cons.1 hg with rfl | q
  · exact lt_of h.head
  · exact owns_lt h.inn.list (show lv.ownBlock = some g by simpa using q)
end Go.Proofs.YtbbfajbnklgncaaGreat
