/- The document's All: the first so many of all words. -/
import Derived.Test.YtamfnefnaelgfaaDoorWdSome
import Derived.Maps.AppendAt
import Derived.Test.YtamfnefnaelgfaaDoorHC
import Derived.Test.YtamfnefnaelgfaaDoorHD
import Derived.Test.YtamfnefnaelgfaaDoorHB
namespace Go.Proofs.YtamfnefnaelgfaaDoor
open Go.RowKit Go.Shelf
attribute [local go_sem ↓] Go.wp_at_zero Go.wp_at_succ

theorem WdsR.one {n₀ : Nat} {W : World} : ∀ {vs : List Value} {qs : List Wd}, WdsR n₀ W vs qs → ∀ u ∈ vs, u.oneCell' = true
  | [], [], _, u, hu => by cases hu
  | v1 :: v2 :: vs, q :: qs, h, u, hu => by
    rcases List.mem_cons.1 hu with rfl | hu
    · obtain ⟨_, _, e⟩ := own_form h.1.own1; rw [e]; rfl
    · rcases List.mem_cons.1 hu with rfl | hu
      · obtain ⟨_, _, e⟩ := own_form h.1.own2; rw [e]; rfl
      · exact WdsR.one h.2 u hu
theorem WdsR.join {n₀ : Nat} {W : World} : ∀ {vs us : List Value} {qs rs : List Wd}, WdsR n₀ W vs qs → WdsR n₀ W us rs → WdsR n₀ W (vs ++ us) (qs ++ rs)
  | [], _, [], _, _, h => h
  | _ :: _ :: _, _, _ :: _, _, h, g => ⟨h.1, WdsR.join h.2 g⟩
/-- A list behind another one. -/
theorem Wds.join {n₀ n₁ : Nat} {W : World} {v u : Value} {L M : List Wd} (h : Wds n₀ W v L) (hu : Wds n₁ W u M) (h01 : n₀ ≤ n₁) (hl : L.length + M.length ≤ 100000) (hn : n₀ ≤ W.heap.size) :
    ∃ v' w', (∀ ty, (Builtin.append_ #[24, 24] ty #[v, u]).run Tryd.prog W = .ok v' w') ∧
      Wds n₀ w' v' (L ++ M) ∧ W.heap.size ≤ w'.heap.size ∧ w'.os = W.os ∧ w'.tape = W.tape ∧ w'.output = W.output ∧ ∀ k, k < n₀ → w'.heap[k]? = W.heap[k]? := by
  obtain ⟨vs, h1, h2⟩ := h
  obtain ⟨us, g1, g2⟩ := hu.low h01
  obtain ⟨i0, hi, hz0, hz1, hz2⟩ := info_parts Tryd.infoWord
  rcases g1.2 with ⟨rfl, e⟩ | ⟨g, cap, cur, rfl, hb, hg, rest⟩
  · obtain rfl := List.length_eq_zero_iff.1 e
    refine ⟨v, W, fun ty => run_append_owned_none (P := Tryd.prog) (w := W) n₀ 24 ty 47 i0 2 Tryd.underWords hi v _ _ h1, ⟨vs, by simpa using h1, by simpa using h2⟩, Nat.le_refl _, rfl, rfl, rfl, fun _ _ => rfl⟩
  · obtain ⟨v', w', h5, h6, h7, h8, h9⟩ := run_append_own_at (P := Tryd.prog) W n₀ 24 0 47 i0 _ 2 48 Tryd.underWords hi hz0 hz1 hz2 rfl (by decide) v _ _ h1 ⟨g, 0, none⟩ M.length cap us g1.1 (g1.cells rfl) g2.one (by unfold maxLen; omega) (by omega) hn
    refine ⟨v', w', fun _ => h5, ⟨vs ++ us, by rw [List.length_append]; exact h6, (h2.join g2).turn fun _ _ _ q => q.grown h1 h7⟩, h7.size, h7.os, h7.tape, h7.output, fun k hk => ?_⟩
    exact h7.block k (by omega) (fun e => by have := own_base h1 e.symm; omega)
structure AlC (w : World) (L : List Wd) (v : Value) (wr : World) : Prop where
  kept : Kept [] w wr
  lst : Wds w.heap.size wr v L
theorem AlC.go {w wr W : World} {L : List Wd} {v : Value} (h : AlC w L v wr) (k : Kept [] wr W) : AlC w L v W := ⟨h.kept.trans k (by simp) (by simp), h.lst.kept k⟩
theorem AlC.join {w wr W : World} {L M : List Wd} {v u : Value} (h : AlC w L v wr) (k : Kept [] wr W) (hu : Wds wr.heap.size W u M) (hl : L.length + M.length ≤ 100000) :
    ∃ v' w', (∀ ty, (Builtin.append_ #[24, 24] ty #[v, u]).run Tryd.prog W = .ok v' w') ∧ AlC w (L ++ M) v' w' := by
  have h' := h.go k
  have hs := h.kept.size
  have hs' := h'.kept.size
  obtain ⟨v', w', h1, h2, h3, h4, h5, h6, h7⟩ := h'.lst.join hu hs hl (by omega)
  exact ⟨v', w', h1, ⟨h4.trans h'.kept.os, h5.trans h'.kept.tape, h6.trans h'.kept.output, by omega, fun k hk hn => (h7 k hk).trans (h'.kept.block k hk hn)⟩, h2⟩
theorem take_full {α : Type} {X Y : List α} {m : Nat} (h : X <+: Y) (hl : m ≤ (X.take m).length) : X.take m = Y.take m := by
  obtain ⟨t, rfl⟩ := h
  rw [List.length_take] at hl
  rw [List.take_append_of_le_length (by omega)]
theorem take_more {α : Type} {X E : List α} {m : Nat} (h : (X.take m).length < m) : X.take m ++ E.take (m - (X.take m).length) = (X ++ E).take m := by
  rw [List.length_take] at h
  rw [List.take_append, List.length_take, show min m X.length = X.length by omega]
theorem allTo_at (b n : Nat) (h : 1 ≤ n) : allTo b n = allTo b (n - 1) ++ ofPlaces b n n := by
  obtain ⟨m, rfl⟩ : ∃ m, n = m + 1 := ⟨n - 1, by omega⟩
  exact allTo_succ b m
theorem part_prefix (b n s : Nat) (h : 1 ≤ n) (hs : s ≤ n) : allTo b (n - 1) ++ ofPlaces b n s <+: allTo b n := by
  rw [allTo_at b n h, List.prefix_append_right_inj]; exact ofPlaces_prefix b n s n hs
/-- How far the places go. -/
def topN (props size : Nat) : Nat := if props = 0 then min size 1 else size
set_option maxHeartbeats 4000000 in
set_option maxRecDepth 20000 in
theorem refAll_any (props size most b : Nat) (w : World) (hp : props ≤ 8) (hb : 2 ^ props = b) (hs : size ≤ 1000) (hm : most ≤ 10000) :
    Calls Tryd.prog 6 #[.int .i64 (props : Nat), .int .i64 (size : Nat), .int .i64 (most : Nat)] w fun e w' => ∃ v, e = .returned v ∧ Hid (Wds w.heap.size w' v ((allTo b (topN props size)).take most)) ∧ Hid (Kept [] w w') := by
  have p1 : ¬ ((props : Int) < 0) := by omega
  have p2 : ¬ (8 < (props : Int)) := by omega
  have HSM : Hid (∀ (n s : Nat) (W : World) (L : List Wd) (x y : Int), s < n → n ≤ 1000 → L.length < most → x = ((n - s : Nat) : Int) → y = ((most - L.length : Nat) : Int) → Calls Tryd.prog 22 #[.int .i64 (props : Nat), .int .i64 (s : Nat), .int .i64 x, .int .i64 y] W fun e w' => ∃ v, e = .returned v ∧ Hid (Wds W.heap.size w' v ((ext b s n []).take (most - L.length))) ∧ Hid (Kept [] W w')) := fun n s W L x y h1 h2 h3 hx hy => by
    subst hx hy
    exact refSome_any props s (n - s) (most - L.length) b n W hp hb (by omega) (by omega) h2 (by omega)
  have HT : Hid (topN props size ≤ size ∧ (props = 0 → topN props size ≤ 1) ∧ (1 ≤ size → 1 ≤ topN props size) ∧ (props ≠ 0 → topN props size = size)) := by
    unfold topN; split <;> refine ⟨by omega, by omega, by omega, by omega⟩
  obtain ⟨T, hT⟩ : ∃ T, topN props size = T := ⟨_, rfl⟩
  rw [hT] at HT ⊢
  clear hT hb
  go_enter Tryd.func6, Tryd.ntmps6
  go_wp2_with fail
  go_loopg [7, 8, 9] (size + 1) (fun g v7 v8 _ wr => ∃ n : Nat, v8 = .int .i64 (n : Nat) ∧ g + n = size + 2 ∧ 1 ≤ n ∧ n ≤ T + 1 ∧ Hid (AlC w ((allTo b (n - 1)).take most) v7 wr))
  case atStart => exact ⟨1, rfl, by omega, by omega, by omega, Kept.refl [] w, by simp [allTo]; exact Wds.nil _ _⟩
  case round =>
    obtain ⟨n, rfl, hg, hn1, hnT, HC⟩ := hrel
    have hT := HT.out
    obtain ⟨X, hX⟩ : ∃ X, (allTo b (n - 1)).take most = X := ⟨_, rfl⟩
    rw [hX] at HC
    obtain ⟨ad, cap, rfl⟩ := HC.out.lst.form
    by_cases h1 : n ≤ size
    rotate_left
    · have HE : Hid (X = (allTo b T).take most) := by show _ = _; rw [← hX, show n - 1 = T by omega]
      have h1i : ¬ ((n : Int) ≤ (size : Int)) := by omega
      clear hX hT
      go_wp2
      go_ret
      rw [← HE.out]
      exact ⟨_, rfl, HC.out.lst, HC.out.kept⟩
    have h1i : (n : Int) ≤ (size : Int) := by omega
    by_cases h2 : X.length < most
    rotate_left
    · have HE : Hid (X = (allTo b T).take most) := by show _ = _; rw [← hX]; exact take_full (allTo_prefix b (n - 1) T (by omega)) (by rw [hX]; omega)
      have h2i : ¬ ((X.length : Int) < (most : Int)) := by omega
      clear hX hT
      go_wp2
      go_ret
      rw [← HE.out]
      exact ⟨_, rfl, HC.out.lst, HC.out.kept⟩
    have h2i : (X.length : Int) < (most : Int) := by omega
    by_cases h3 : props = 0 ∧ 1 < n
    · have HE : Hid (X = (allTo b T).take most) := by show _ = _; rw [← hX, show n - 1 = T by omega]
      have z1 : ((props : Int) == 0) = true := by rw [h3.1]; rfl
      have z2 : (1 : Int) < (n : Int) := by omega
      clear hX hT h3
      go_wp2
      go_ret
      rw [← HE.out]
      exact ⟨_, rfl, HC.out.lst, HC.out.kept⟩
    have hnT2 : n ≤ T := by
      by_cases h0 : props = 0
      · have := hT.2.2.1 (by omega); omega
      · have := hT.2.2.2 h0; omega
    have hz : ((props : Int) == 0) = false ∨ (((props : Int) == 0) = true ∧ ¬ (1 < (n : Int))) := by
      by_cases h0 : props = 0
      · exact .inr ⟨by rw [h0]; rfl, by omega⟩
      · exact .inl (by rw [beq_eq_false_iff_ne]; omega)
    have HX : Hid ((allTo b (n - 1)).take most = X) := hX
    have HAL : Hid (∀ s, s ≤ n → (s = n ∨ most ≤ ((allTo b (n - 1) ++ ofPlaces b n s).take most).length) → (allTo b (n - 1) ++ ofPlaces b n s).take most = (allTo b n).take most) := fun s h1 h2 => by
      rcases h2 with rfl | h2
      · rw [← allTo_at b s hn1]
      · exact take_full (part_prefix b n s hn1 h1) h2
    clear hX hT h3 HT
    rcases hz with hz | ⟨hz, hz2⟩
    all_goals
      go_wp2_with fail
      go_loopg [7, 9] (n + 1) (fun g v7 v9 wx => ∃ s : Nat, v9 = .int .i64 (s : Nat) ∧ g + s = n + 1 ∧ s ≤ n ∧ Hid (AlC w ((allTo b (n - 1) ++ ofPlaces b n s).take most) v7 wx))
      case atStart => exact ⟨0, rfl, by omega, by omega, by rw [show ofPlaces b n 0 = [] from rfl, List.append_nil, HX.out]; exact HC.out⟩
      case round =>
        obtain ⟨s, rfl, hgs, hsn, HD⟩ := hrel
        obtain ⟨Y, hY⟩ : ∃ Y, (allTo b (n - 1) ++ ofPlaces b n s).take most = Y := ⟨_, rfl⟩
        rw [hY] at HD
        have HA := HAL.out s hsn
        rw [hY] at HA
        obtain ⟨ad2, cap2, rfl⟩ := HD.out.lst.form
        by_cases k1 : s < n
        · have k1i : (s : Int) < (n : Int) := by omega
          by_cases k2 : Y.length < most
          · have k2i : (Y.length : Int) < (most : Int) := by omega
            have HN : Hid (Y ++ (ext b s n []).take (most - Y.length) = (allTo b (n - 1) ++ ofPlaces b n (s + 1)).take most) := by
              show _ = _
              rw [ofPlaces_succ, ← List.append_assoc, ← hY, take_more (by rw [hY]; exact k2)]
            clear hY HA
            go_wp2_with (first
              | (go_at_call 22; refine (HSM.out n s _ Y _ _ k1 (by omega) k2 (by omega) (by omega)).mono ?_; rintro e W1 ⟨v1, rfl, HW, HKW⟩; have HJ : Hid _ := HD.out.join HKW.out HW.out (by rw [List.length_take]; omega))
              | (at_builtin; obtain ⟨v2, W2, hr2, hc2⟩ := HJ.out; refine Lib.wpList_append_run _ rfl _ _ _ _ rfl _ _ rfl rfl _ _ (hr2 _) ?_; have HC3 : Hid _ := hc2; clear hr2 hc2 HJ))
            go_roundg (n - s)
            case measure => omega
            case rel => exact ⟨s + 1, by go_num, by omega, by omega, by rw [← HN.out]; exact HC3.out⟩
          · have k2i : ¬ ((Y.length : Int) < (most : Int)) := by omega
            have HE : Hid (Y = (allTo b n).take most) := HA (.inr (by omega))
            clear hY HA
            go_wp2_with fail
            go_roundg (size + 1 - n)
            case measure => omega
            case rel => exact ⟨n + 1, by go_num, by omega, by omega, by omega, by rw [Nat.add_sub_cancel, ← HE.out]; exact HD.out⟩
        · have k1i : ¬ ((s : Int) < (n : Int)) := by omega
          have HE : Hid (Y = (allTo b n).take most) := HA (.inl (by omega))
          clear hY HA
          go_wp2_with fail
          go_roundg (size + 1 - n)
          case measure => omega
          case rel => exact ⟨n + 1, by go_num, by omega, by omega, by omega, by rw [Nat.add_sub_cancel, ← HE.out]; exact HD.out⟩
end Go.Proofs.YtamfnefnaelgfaaDoor

/- The document's All, where there is none; and how many words there are at least. -/
namespace Go.Proofs.YtamfnefnaelgfaaDoor
open Go.RowKit Go.Shelf
attribute [local go_sem ↓] Go.wp_at_zero Go.wp_at_succ

set_option maxHeartbeats 1000000 in
set_option maxRecDepth 10000 in
theorem refAll_out (props size most : Int) (w : World) (hp : props < 0 ∨ 8 < props) :
    Calls Tryd.prog 6 #[.int .i64 props, .int .i64 size, .int .i64 most] w fun e w' => ∃ v, e = .returned v ∧ Hid (Wds w.heap.size w' v []) ∧ Hid (Kept [] w w') := by
  by_cases h1 : props < 0
  · go_enter Tryd.func6, Tryd.ntmps6
    go_wp2
    go_ret
    exact ⟨_, rfl, Wds.nil _ _, Kept.refl [] w⟩
  · have h2 : 8 < props := by omega
    go_enter Tryd.func6, Tryd.ntmps6
    go_wp2
    go_ret
    exact ⟨_, rfl, Wds.nil _ _, Kept.refl [] w⟩
set_option maxHeartbeats 1000000 in
set_option maxRecDepth 10000 in
theorem refAll_less (props : Nat) (size most : Int) (w : World) (hp : props ≤ 8) (hs : size < 1) :
    Calls Tryd.prog 6 #[.int .i64 (props : Nat), .int .i64 size, .int .i64 most] w fun e w' => ∃ v, e = .returned v ∧ Hid (Wds w.heap.size w' v []) ∧ Hid (Kept [] w w') := by
  have p1 : ¬ ((props : Int) < 0) := by omega
  have p2 : ¬ (8 < (props : Int)) := by omega
  have h1 : ¬ (1 ≤ size) := by omega
  go_enter Tryd.func6, Tryd.ntmps6
  go_wp2_with fail
  go_loopg [7, 8, 9] 1 (fun g v7 v8 _ wr => g = 1 ∧ v7 = .slice none 0 0 ∧ v8 = .int .i64 1 ∧ wr = w)
  case atStart => exact ⟨rfl, rfl, rfl, rfl⟩
  case round =>
    obtain ⟨_, rfl, rfl, rfl⟩ := hrel
    go_wp2
    go_ret
    exact ⟨_, rfl, Wds.nil _ _, Kept.refl [] _⟩
theorem flatMap_sub {α β : Type} {f g : α → List β} : ∀ {l : List α}, (∀ x ∈ l, (f x).Sublist (g x)) → (l.flatMap f).Sublist (l.flatMap g)
  | [], _ => List.Sublist.refl _
  | a :: l, h => by rw [List.flatMap_cons, List.flatMap_cons]; exact (h a (by simp)).append (flatMap_sub fun x hx => h x (by simp [hx]))
theorem ext_sub {b : Nat} (hb : 2 ≤ b) (stem : Nat) : ∀ (k : Nat) (row : List Nat), (ext 2 stem k row).Sublist (ext b stem k row)
  | 0, _ => List.Sublist.refl _
  | k + 1, row => by
    obtain ⟨m, rfl⟩ : ∃ m, b = 2 + m := ⟨b - 2, by omega⟩
    show ((List.range 2).flatMap _).Sublist ((List.range (2 + m)).flatMap _)
    rw [List.range_add, List.flatMap_append]
    exact (flatMap_sub fun c _ => ext_sub hb stem k (row ++ [c])).trans (List.sublist_append_left _ _)
theorem allTo_sub {b : Nat} (hb : 2 ≤ b) (n : Nat) : (allTo 2 n).Sublist (allTo b n) := flatMap_sub fun _ _ => flatMap_sub fun _ _ => ext_sub hb _ _ _
theorem allTo_two : (allTo 2 6).length = 306 := by kernel_rfl
/-- Over one name or more, there are more than three hundred words of six places. -/
theorem allTo_many {b n : Nat} (hb : 2 ≤ b) (hn : 6 ≤ n) : 306 ≤ (allTo b n).length := by
  have h1 := (allTo_sub hb 6).length_le
  rw [allTo_two] at h1
  exact Nat.le_trans h1 (allTo_prefix b 6 n hn).length_le
/-- Over none, there is one. -/
theorem ext_one (stem : Nat) : ∀ (k : Nat) (row : List Nat), (∀ c ∈ row, c = 0) → ext 1 stem k row = if normB (wdOf stem (List.replicate (row.length + k) 0)) = true then [wdOf stem (List.replicate (row.length + k) 0)] else []
  | 0, row, h => by
    have e : row = List.replicate row.length 0 := List.eq_replicate_iff.2 ⟨rfl, h⟩
    show (if normB (wdOf stem row) = true then [wdOf stem row] else []) = _
    rw [Nat.add_zero, ← e]
  | k + 1, row, h => by
    show (List.range 1).flatMap _ = _
    have e : (List.range 1) = [0] := rfl
    rw [e, List.flatMap_cons, List.flatMap_nil, List.append_nil, ext_one stem k (row ++ [0]) (fun c hc => by
      rcases List.mem_append.1 hc with hc | hc
      · exact h c hc
      · exact List.mem_singleton.1 hc), List.length_append, List.length_singleton, Nat.add_assoc, Nat.add_comm 1 k]
theorem getD_zeros (n i : Nat) : (List.replicate n 0).getD i 0 = 0 := by
  rw [List.getD_eq_getElem?_getD, List.getElem?_replicate]; split <;> rfl
theorem norm_zeros {stem n : Nat} (h : stem < n) (hn : normB (wdOf stem (List.replicate n 0)) = true) : n = 1 := by
  have hl : 0 < (wdOf stem (List.replicate n 0)).loop.length := by show 0 < (List.drop _ _).length; rw [List.length_drop, List.length_replicate]; omega
  have h1 := (normB_iff hl).1 hn
  have h2 : (Wd.mk [] [0]).Norm := (normB_iff (by decide)).1 rfl
  have e := Wd.Norm.unique h1 h2 fun i => by
    have e1 : (wdOf stem (List.replicate n 0)).at i = 0 := by
      unfold Wd.at wdOf
      simp only [List.take_replicate, List.drop_replicate]
      split
      · exact getD_zeros _ _
      · exact getD_zeros _ _
    have e2 : (Wd.mk [] [0]).at i = 0 := by
      unfold Wd.at
      simp only [List.length_nil, Nat.not_lt_zero, if_false]
      exact getD_zeros 1 _
    rw [e1, e2]
  have e1 : (wdOf stem (List.replicate n 0)).stem.length = 0 := by rw [e]; rfl
  have e2 : (wdOf stem (List.replicate n 0)).loop.length = 1 := by rw [e]; rfl
  have e1 : (List.take stem (List.replicate n 0)).length = 0 := e1
  have e2 : (List.drop stem (List.replicate n 0)).length = 1 := e2
  rw [List.length_take, List.length_replicate] at e1
  rw [List.length_drop, List.length_replicate] at e2
  omega
theorem places_none {n : Nat} (hn : 1 < n) : ∀ s, s ≤ n → ofPlaces 1 n s = []
  | 0, _ => rfl
  | s + 1, h => by
    rw [ofPlaces_succ, places_none hn s (by omega), List.nil_append, ext_one s n [] (by simp), List.length_nil, Nat.zero_add, if_neg]
    intro hq
    have := norm_zeros (stem := s) (n := n) (by omega) hq
    omega
theorem allTo_none : ∀ {n : Nat}, 1 ≤ n → allTo 1 n = allTo 1 1
  | 0, h => absurd h (by decide)
  | 1, _ => rfl
  | n + 2, _ => by rw [allTo_succ, allTo_none (n := n + 1) (by omega), places_none (by omega) _ (Nat.le_refl _), List.append_nil]
/-- The words that the law looks for are those that All goes through. -/
theorem want_is {props size most b : Nat} (hb : 2 ^ props = b) (hs : 1 ≤ size) (hm : most ≤ 306) : (allTo b (topN props (min size 20))).take most = (allTo b size).take most := by
  by_cases hp : props = 0
  · subst hp
    obtain rfl : 1 = b := hb
    rw [allTo_none hs]
    unfold topN
    rw [if_pos rfl, show min (min size 20) 1 = 1 by omega]
  · have hb2 : 2 ≤ b := by rw [← hb]; exact Nat.le_trans (by decide) (Nat.pow_le_pow_right (by decide) (show 1 ≤ props by omega))
    unfold topN
    rw [if_neg hp]
    by_cases h : size ≤ 20
    · rw [show min size 20 = size by omega]
    · rw [show min size 20 = 20 by omega]
      refine take_full (allTo_prefix b 20 size (by omega)) ?_
      have := allTo_many hb2 (n := 20) (by omega)
      rw [List.length_take]; omega
/-- Nobody who stops in time sees a word of more than six places. -/
theorem few_places {props b p : Nat} {xs rest : List Wd} (hb : 2 ^ props = b) (hp : 0 < props ∨ p ≤ 6) (h : allTo b p ++ rest = xs) (hx : xs.length < 306) : p ≤ 6 := by
  rcases hp with hp | hp
  · have hb2 : 2 ≤ b := by rw [← hb]; exact Nat.le_trans (by decide) (Nat.pow_le_pow_right (by decide) (show 1 ≤ props by omega))
    rcases Nat.lt_or_ge 6 p with h6 | h6
    · have := allTo_many hb2 (n := p) (by omega)
      rw [← h, List.length_append] at hx
      omega
    · exact h6
  · exact hp
end Go.Proofs.YtamfnefnaelgfaaDoor

/- words.All: the iterator at any size, for a caller who stops in time. (Written off WdAllX by wip/rgatl.py.) -/
namespace Go.Proofs.YtamfnefnaelgfaaDoor
open Go.RowKit Go.Shelf
attribute [local go_sem ↓] Go.wp_at_zero Go.wp_at_succ

set_option maxHeartbeats 4000000 in
set_option maxRecDepth 20000 in
theorem all_goesL (m Bz Bq size props : Nat) (w : World) (hA : AllAt Bz Bq size props w) (hs : size ≤ 1000 ∨ 0 < props) (hsz : size ≤ 9223372036854775807) (hp : props ≤ 8) :
    GoesAtL Fence.wide m Tryd.prog 24 #[.pointer (some ⟨Bz, 0, none⟩), .pointer (some ⟨Bq, 0, none⟩)] nwV (NwAt (allW props size)) FrNw (fun k => k = Bz ∨ k = Bq) (fun _ => False) (fun xs => xs.map Nw.q = allW props size) (fun pre => pre.map Nw.q <+: allW props size) (allW props size).length (fun pre => pre.length < 306) w := by
  have hbl : 2 ^ props ≤ 256 := Nat.le_trans (Nat.pow_le_pow_right (by omega) hp) (by decide)
  unfold allW
  obtain ⟨b, hb⟩ : ∃ b, 2 ^ props = b := ⟨_, rfl⟩
  have z4 : IntKind.u16.wrap ((2 : Int) ^ props) = (b : Int) := by
    have e : (2 : Int) ^ props = (b : Int) := by rw [← hb, Int.natCast_pow]; rfl
    rw [e]
    simp only [IntKind.wrap, IntKind.bits, IntKind.signed]
    simp
    omega
  have HFP : Hid (∀ (p : Nat) (xs : List Wd) (rest : List Wd), allTo b p ++ rest = xs → xs.length < 306 → 0 < props → p ≤ 6) := fun p xs rest h1 h2 h3 => few_places hb (.inl h3) h1 h2
  rw [hb] at hbl ⊢
  clear hb
  intro l J Jx X W hW hJ hJx hY h0 hLm hX0 hX
  have hAW : AllAt Bz Bq size props W := ⟨(hW.block _ hA.bz.lt).trans hA.bz, (hW.block _ hA.bq.lt).trans hA.bq⟩
  have HA : Hid (AllAt Bz Bq size props W) := hAW
  have HSH : Hid (∀ (stem places : Nat) (X : Nat → Prop) (pre : List Nw) (W1 : World), stem < places → places ≤ 1000 → AllAt Bz Bq size props W1 → J X pre W1 → (∀ k, X k → k < W1.heap.size) → pre.length + (ext b stem places []).length ≤ (allTo b size).length → (∀ y ∈ ext b stem places [], y ∈ allTo b size) →
      Calls Tryd.prog 25 #[.int .i64 (stem : Nat), .int .i64 (places : Nat), .int .u16 (b : Nat), .func (.yield l) #[] #[]] W1 (ShapeEnds (fun k => k = Bz ∨ k = Bq) J Jx (ext b stem places []) pre X W1)) := fun stem places X pre W1 h1 h2 h3 h4 h5 h6 h7 =>
    shape_any (L := allTo b size) hJ (fun m' X pre x W1 a b c d f => YieldAt.anyDepth rfl m' (hY X pre x W1 a b c d f)) h1 h2 hbl X pre W1 (fun k hk => by rcases hk with rfl | rfl; exact h3.bz.lt; exact h3.bq.lt) h4 h5 h6 h7
  have H0 : Hid (AllSo Bz Bq J X W (allTo b 0) W) := ⟨X, [], fun _ h => h, KpX.refl _ _, h0, hX, rfl⟩
  have HLM : Hid (∀ X pre W1, J X pre W1 → pre.length < 306) := hLm
  clear hJ hJx hY h0 hX0 hX hA hW hAW hLm
  refine callsIn_wide.2 ?_
  go_enter Tryd.func24, Tryd.ntmps24
  go_wp2_with fail
  go_loopw [4, 5, 12] (fun a _ _ wr => ∃ P : Nat, a = .int .i64 (P : Nat) ∧ 1 ≤ P ∧ P ≤ size + 1 ∧ Hid (AllSo Bz Bq J X W (allTo b (P - 1)) wr)) (fun a _ _ _ => size + 1 - (intOf a).toNat)
  case atStart => exact ⟨1, rfl, by omega, by omega, H0.out⟩
  case round =>
    obtain ⟨P, rfl, hP1, hP2, HSO⟩ := hrel
    have hPs : P ≤ 1001 := by
      rcases hs with hs | hs
      · omega
      · obtain ⟨X2, xs, _, _, hJ2, _, hxs⟩ := HSO.out
        have := HFP.out (P - 1) (xs.map Nw.q) [] (by rw [List.append_nil]; exact hxs.symm) (by rw [List.length_map]; exact HLM.out _ _ _ hJ2) hs
        omega
    have hPt : P ≤ size → P ≤ 1000 := fun h => by
      rcases hs with hs | hs
      · omega
      · obtain ⟨X2, xs, _, _, hJ2, _, hxs⟩ := HSO.out
        have := HFP.out (P - 1) (xs.map Nw.q) [] (by rw [List.append_nil]; exact hxs.symm) (by rw [List.length_map]; exact HLM.out _ _ _ hJ2) hs
        omega
    have hAr : AllAt Bz Bq size props wr := by obtain ⟨_, _, _, q, _⟩ := HSO.out; exact HA.out.kpx q
    have c1 := hAr.bz.cell
    have c2 := hAr.bq.cell
    clear hAr
    by_cases hlt : P ≤ size
    · have z1 : (P : Int) ≤ (size : Int) := by omega
      have hPk := hPt hlt
      clear hPt
      go_wp2_with fail
      go_loopw [5, 12] (fun _ q w2 => ∃ s : Nat, q = .int .i64 (s : Nat) ∧ s ≤ P ∧ Hid (AllSo Bz Bq J X W (allTo b (P - 1) ++ ofPlaces b P s) w2)) (fun _ q _ => P - (intOf q).toNat)
      case atStart => exact ⟨0, rfl, Nat.zero_le _, by rw [show ofPlaces b P 0 = [] from rfl, List.append_nil]; exact HSO.out⟩
      case round =>
        obtain ⟨s, rfl, hs2, HSO2⟩ := hrel
        clear c1 c2
        obtain ⟨X2, xs, hX2, hT2, hJ2, hXL2, hxs⟩ := HSO2.out
        have hAr := HA.out.kpx hT2
        have c1 := hAr.bz.cell
        have c2 := hAr.bq.cell
        by_cases hlt2 : s < P
        · have z2 : (s : Int) < (P : Int) := by omega
          have z3 : (0 : Int) ≤ (props : Int) := by omega
          obtain ⟨p, hp'⟩ : ∃ p, P = p + 1 := ⟨P - 1, by omega⟩
          have hpre : allTo b (P - 1) ++ ofPlaces b P s ++ ext b s P [] <+: allTo b size := by
            rw [hp', show p + 1 - 1 = p by omega]
            exact step_prefix b size p s (by omega) (by omega)
          have hlen4 : xs.length + (ext b s P []).length ≤ (allTo b size).length := by
            have q1 := hpre.length_le
            rw [List.length_append, ← hxs, List.length_map] at q1
            exact q1
          have HC : Hid (Calls Tryd.prog 25 #[.int .i64 (s : Nat), .int .i64 (P : Nat), .int .u16 (b : Nat), .func (.yield l) #[] #[]] wr (ShapeEnds (fun k => k = Bz ∨ k = Bq) J Jx (ext b s P []) xs X2 wr)) := HSH.out s P X2 xs wr hlt2 hPk hAr hJ2 hXL2 hlen4 (fun y hy => hpre.subset (List.mem_append_right _ hy))
          have HPRE : Hid (allTo b (P - 1) ++ ofPlaces b P s ++ ext b s P [] <+: allTo b size) := hpre
          have HXS : Hid (xs.map Nw.q = allTo b (P - 1) ++ ofPlaces b P s) := hxs
          have HX2 : Hid _ := hX2
          have HT2 : Hid (KpX (fun k => k = Bz ∨ k = Bq) W wr) := hT2
          clear hX2 hT2 hJ2 hXL2 hxs hAr hpre hlen4 hp'
          go_wp2_with fail
          refine HC.out.mono ?_
          rintro e W5 (⟨rfl, X5, ys, hX5, hT5, hJ5, hXL5, hys⟩ | ⟨rfl, X5, ys, hJx5, hys⟩)
          · have HREL : Hid (AllSo Bz Bq J X W (allTo b (P - 1) ++ ofPlaces b P (s + 1)) W5) := by
              refine ⟨X5, xs ++ ys, fun k h => hX5 k (HX2.out k h), HT2.out.trans hT5, hJ5, hXL5, ?_⟩
              rw [List.map_append, HXS.out, hys, ofPlaces_succ, List.append_assoc]
            clear hX5 hT5 hJ5 hXL5 hys
            go_wp2
            go_roundw
            case rel => exact ⟨s + 1, by go_num, by omega, HREL.out⟩
            case measure => simp [intOf]; omega
          · have HPF : Hid ((xs ++ ys).map Nw.q <+: allTo b size) := by
              refine List.IsPrefix.trans ?_ HPRE.out
              rw [List.map_append, HXS.out, List.prefix_append_right_inj]
              exact hys
            have HJX : Hid (Jx X5 (xs ++ ys) W5) := hJx5
            clear hys hJx5
            go_wp2
            refine bodyPost_ret (results_none rfl _ _ _) rfl ?_
            exact ⟨⟨_, rfl⟩, .inr ⟨xs ++ ys, X5, HPF.out, HJX.out⟩⟩
        · obtain rfl : s = P := by omega
          have z2 : ¬ ((s : Int) < (s : Int)) := by omega
          have HREL : Hid (AllSo Bz Bq J X W (allTo b (s + 1 - 1)) wr) := by
            have e : allTo b (s + 1 - 1) = allTo b (s - 1) ++ ofPlaces b s s := by
              obtain ⟨p, rfl⟩ : ∃ p, s = p + 1 := ⟨s - 1, by omega⟩
              rw [show p + 1 + 1 - 1 = p + 1 by omega, show p + 1 - 1 = p by omega, allTo_succ]
            rw [e]
            exact HSO2.out
          clear hX2 hT2 hJ2 hXL2 hxs hAr
          go_wp2
          go_roundw
          case rel => exact ⟨s + 1, by go_num, by omega, by omega, HREL.out⟩
          case measure => simp [intOf]; omega
    · obtain rfl : P = size + 1 := by omega
      have z1 : ¬ (((size + 1 : Nat) : Int) ≤ (size : Int)) := by omega
      obtain ⟨X2, xs, _, _, hJ2, _, hxs⟩ := HSO.out
      have HJ2 : Hid (J X2 xs wr) := hJ2
      have HXS : Hid (xs.map Nw.q = allTo b size) := hxs
      clear hJ2 hxs
      go_wp2
      go_end0
      exact ⟨⟨_, rfl⟩, .inl ⟨xs, HXS.out, X2, HJ2.out⟩⟩
end Go.Proofs.YtamfnefnaelgfaaDoor

/- words.All at whatever numbers: the list that its iterator goes through, for a caller who stops in time. -/
namespace Go.Proofs.YtamfnefnaelgfaaDoor
open Go.RowKit Go.Shelf
attribute [local go_sem ↓] Go.wp_at_zero Go.wp_at_succ

/-- The words that All goes through. -/
def listW (props size : Int) : List Wd := if props < 0 ∨ 8 < props ∨ size < 1 then [] else allTo (2 ^ props.toNat) (if props = 0 then 1 else size.toNat)
/-- The size that its iterator bears. -/
def sizeZ (props size : Int) : Int := if props < 0 ∨ 8 < props then 0 else if props = 0 then min size 1 else size
set_option maxHeartbeats 1000000 in
set_option maxRecDepth 10000 in
theorem all_anyN (props size : Int) (w : World) :
    Calls Tryd.prog 7 #[.int .i64 props, .int .i64 size] w fun e w' => e = .returned (.func (.func 24) #[] #[.pointer (some ⟨w.heap.size + 1, 0, none⟩), .pointer (some ⟨w.heap.size, 0, none⟩)]) ∧ Hid (Boxed w' (w.heap.size + 1) 3 (.int .i64 (sizeZ props size)) ∧ Boxed w' w.heap.size 3 (.int .i64 props)) ∧ Hid (Kept [] w w') := by
  obtain ⟨g, hg⟩ : ∃ g, (decide (0 ≤ props) && decide (props ≤ 8)) = g := ⟨_, rfl⟩
  have HG : Hid (∀ W, Calls Tryd.prog 23 #[.int .i64 props] W fun e w' => e = .returned (.bool g) ∧ w' = W) := fun W => by have := goodProps_any props W; rw [hg] at this; exact this
  by_cases hb : props < 0 ∨ 8 < props
  · have e : sizeZ props size = 0 := by unfold sizeZ; rw [if_pos hb]
    obtain rfl : false = g := by rw [← hg]; simp; omega
    have z1 : (props == 0) = false := by rw [beq_eq_false_iff_ne]; omega
    rw [e]
    clear hg hb e
    go_enter Tryd.func7, Tryd.ntmps7
    go_wp2_with (go_at_call 23; refine (HG.out _).mono ?_; rintro e w1 ⟨rfl, rfl⟩)
    go_ret
    have hN := two_new w (.cells #[.int .i64 props] 3) (.cells #[.int .i64 0] 3)
    exact ⟨rfl, ⟨hN.2, hN.1⟩, ((Kept.refl [] w).alloc _).alloc _⟩
  · obtain rfl : true = g := by rw [← hg]; simp; omega
    by_cases h0 : props = 0
    · subst h0
      have e : sizeZ 0 size = min size 1 := by unfold sizeZ; rw [if_neg hb, if_pos rfl]
      rw [e]
      clear hg hb e
      go_enter Tryd.func7, Tryd.ntmps7
      go_wp2_with (go_at_call 23; refine (HG.out _).mono ?_; rintro e w1 ⟨rfl, rfl⟩)
      go_ret
      have hN := two_new w (.cells #[.int .i64 0] 3) (.cells #[.int .i64 (min size 1)] 3)
      exact ⟨rfl, ⟨hN.2, hN.1⟩, ((Kept.refl [] w).alloc _).alloc _⟩
    · have e : sizeZ props size = size := by unfold sizeZ; rw [if_neg hb, if_neg h0]
      have z1 : (props == 0) = false := by rw [beq_eq_false_iff_ne]; exact h0
      rw [e]
      clear hg hb e h0
      go_enter Tryd.func7, Tryd.ntmps7
      go_wp2_with (go_at_call 23; refine (HG.out _).mono ?_; rintro e w1 ⟨rfl, rfl⟩)
      go_ret
      have hN := two_new w (.cells #[.int .i64 props] 3) (.cells #[.int .i64 size] 3)
      exact ⟨rfl, ⟨hN.2, hN.1⟩, ((Kept.refl [] w).alloc _).alloc _⟩
set_option maxHeartbeats 1000000 in
set_option maxRecDepth 10000 in
theorem all_goes0 (m Bz Bq : Nat) (z : Int) (w : World) (hA : Boxed w Bz 3 (.int .i64 z)) (hz : z < 1) (T : Nat → Prop) (Lm : List Nw → Prop) :
    GoesAtL Fence.wide m Tryd.prog 24 #[.pointer (some ⟨Bz, 0, none⟩), .pointer (some ⟨Bq, 0, none⟩)] nwV (NwAt []) FrNw T (fun _ => False) (fun xs => xs.map Nw.q = []) (fun pre => pre.map Nw.q <+: []) 0 Lm w := by
  intro l J Jx X W hW hJ hJx hY h0 hLm hX0 hX
  have c1 := (show Boxed W Bz 3 (.int .i64 z) from (hW.block _ hA.lt).trans hA).cell
  have z1 : ¬ (1 ≤ z) := by omega
  have H0 : Hid (J X [] W) := h0
  clear hJ hJx hY h0 hX0 hX hA hW hLm
  refine callsIn_wide.2 ?_
  go_enter Tryd.func24, Tryd.ntmps24
  go_wp2_with fail
  go_loopw [4, 5, 12] (fun a _ _ wr => a = .int .i64 1 ∧ wr = W) (fun _ _ _ _ => 0)
  case atStart => exact ⟨rfl, rfl⟩
  case round =>
    obtain ⟨rfl, rfl⟩ := hrel
    go_wp2
    go_end0
    exact ⟨⟨_, rfl⟩, .inl ⟨[], X, rfl, H0.out⟩⟩
/-- The iterator, whatever it bears. -/
theorem all_goesN (m Bz Bq : Nat) (props size : Int) (w : World) (hz : Boxed w Bz 3 (.int .i64 (sizeZ props size))) (hq : Boxed w Bq 3 (.int .i64 props)) (hs : size ≤ 9223372036854775807) :
    GoesAtL Fence.wide m Tryd.prog 24 #[.pointer (some ⟨Bz, 0, none⟩), .pointer (some ⟨Bq, 0, none⟩)] nwV (NwAt (listW props size)) FrNw (fun k => k = Bz ∨ k = Bq) (fun _ => False) (fun xs => xs.map Nw.q = listW props size) (fun pre => pre.map Nw.q <+: listW props size) (listW props size).length (fun pre => pre.length < 306) w := by
  by_cases hb : props < 0 ∨ 8 < props ∨ size < 1
  · have e : listW props size = [] := by unfold listW; rw [if_pos hb]
    rw [e]
    refine all_goes0 m Bz Bq (sizeZ props size) w hz ?_ _ _
    unfold sizeZ
    split
    · omega
    · split
      · omega
      · omega
  · obtain ⟨p, rfl⟩ : ∃ p : Nat, props = p := ⟨props.toNat, by omega⟩
    obtain ⟨n, rfl⟩ : ∃ n : Nat, size = n := ⟨size.toNat, by omega⟩
    have e : listW (p : Int) (n : Int) = allW p (if p = 0 then 1 else n) := by
      unfold listW allW
      rw [if_neg hb, Int.toNat_natCast, Int.toNat_natCast]
      by_cases h0 : p = 0
      · rw [if_pos (by omega), if_pos h0]
      · rw [if_neg (by omega), if_neg h0]
    have e2 : sizeZ (p : Int) (n : Int) = ((if p = 0 then 1 else n : Nat) : Int) := by
      unfold sizeZ
      rw [if_neg (by omega)]
      by_cases h0 : p = 0
      · rw [if_pos (by omega), if_pos h0]; omega
      · rw [if_neg (by omega), if_neg h0]
    rw [e]
    rw [e2] at hz
    refine all_goesL m Bz Bq _ p w ⟨hz, hq⟩ ?_ ?_ (by omega)
    · by_cases h0 : p = 0
      · left; rw [if_pos h0]; omega
      · right; omega
    · split <;> omega
/-- The document's list, as the law asks for it. -/
theorem refAll_want (props size : Int) (most : Nat) (w : World) (hm : most ≤ 306) :
    Calls Tryd.prog 6 #[.int .i64 props, .int .i64 (min size 20), .int .i64 (most : Nat)] w fun e w' => ∃ v, e = .returned v ∧ Hid (Wds w.heap.size w' v ((listW props size).take most)) ∧ Hid (Kept [] w w') := by
  by_cases hb : props < 0 ∨ 8 < props ∨ size < 1
  · have e : listW props size = [] := by unfold listW; rw [if_pos hb]
    rw [e, List.take_nil]
    by_cases hp : props < 0 ∨ 8 < props
    · exact refAll_out props _ _ w hp
    · obtain ⟨p, rfl⟩ : ∃ p : Nat, props = p := ⟨props.toNat, by omega⟩
      exact refAll_less p _ _ w (by omega) (by omega)
  · obtain ⟨p, rfl⟩ : ∃ p : Nat, props = p := ⟨props.toNat, by omega⟩
    obtain ⟨n, rfl⟩ : ∃ n : Nat, size = n := ⟨size.toNat, by omega⟩
    have e : (listW (p : Int) (n : Int)).take most = (allTo (2 ^ p) (topN p (min n 20))).take most := by
      rw [want_is rfl (by omega) hm]
      unfold listW
      rw [if_neg hb, Int.toNat_natCast, Int.toNat_natCast]
      by_cases h0 : p = 0
      · subst h0
        rw [if_pos (by omega)]
        show (allTo 1 1).take most = (allTo 1 n).take most
        rw [allTo_none (n := n) (by omega)]
      · rw [if_neg (by omega)]
    rw [e, show min (n : Int) 20 = ((min n 20 : Nat) : Int) by omega]
    exact refAll_any p (min n 20) most (2 ^ p) w (by omega) rfl (by omega) (by omega)
end Go.Proofs.YtamfnefnaelgfaaDoor

/- The book beside an iterator: none of its blocks is the iterator's. -/
namespace Go.Proofs.YtamfnefnaelgfaaDoor
open Go.RowKit Go.Shelf

theorem kept_grown {W W' : World} {row : Option Nat} (h : W.grownBy W' row) : Kept row.toList W W' :=
  ⟨h.os, h.tape, h.output, h.size, fun k hk hn => h.block k hk (fun e => hn (by rw [← e]; simp))⟩
theorem BookL.ltAll {W : World} {base base' B : Nat} {lv : Value} {vs : List Value} {xss : List (List Nat)} (h : BookL W base base' B lv vs xss) : ∀ g ∈ bookF B lv ++ blocksOf vs, g < W.heap.size := by
  intro g hg
  rcases List.mem_append.1 hg with hg | hg
  · exact h.lt g hg
  · obtain ⟨v, hv, e⟩ := List.mem_filterMap.1 hg
    obtain ⟨i, hi⟩ := List.getElem?_of_mem hv
    have hl : i < xss.length := by
      rw [← h.inn.rows.len]
      rcases Nat.lt_or_ge i vs.length with q | q
      · exact q
      · rw [List.getElem?_eq_none q] at hi; cases hi
    exact owns_lt (h.inn.rows.row i v _ hi (List.getElem?_eq_getElem hl)) e
structure BookX (X : Nat → Prop) (W : World) (base base' B : Nat) (lv : Value) (vs : List Value) (xss : List (List Nat)) : Prop where
  book : BookL W base base' B lv vs xss
  off : ∀ g ∈ bookF B lv ++ blocksOf vs, ¬ X g
theorem BookX.more {X X' : Nat → Prop} {W : World} {base base' B : Nat} {lv : Value} {vs : List Value} {xss : List (List Nat)} (h : BookX X W base base' B lv vs xss) (hX : ∀ k, X' k → X k ∨ W.heap.size ≤ k) : BookX X' W base base' B lv vs xss :=
  ⟨h.book, fun g hg hx => (hX g hx).elim (h.off g hg) fun q => by have := h.book.ltAll g hg; omega⟩
theorem BookX.turn {X : Nat → Prop} {W W' : World} {row : Option Nat} {base base' B : Nat} {lv : Value} {vs : List Value} {xss : List (List Nat)} (h : BookX X W base base' B lv vs xss) (hg : W.grownBy W' row) (hr : ∀ r, row = some r → X r) : BookX X W' base base' B lv vs xss :=
  ⟨h.book.kept (kept_grown hg) (fun g hm hn => h.off g hm (hr g (by simpa using hn))), h.off⟩
theorem wdsR_turn {D : Nat} {X : Nat → Prop} {W W' : World} {row : Option Nat} (hg : W.grownBy W' row) (hr : ∀ r, row = some r → X r) (low : ∀ k, X k → D ≤ k) : ∀ {vs : List Value} {L : List Wd}, WdsR 0 W vs L → (∀ u ∈ vs, ∀ g, u.ownBlock = some g → g < D) → WdsR 0 W' vs L
  | [], [], _, _ => trivial
  | v1 :: v2 :: vs, q :: L, h, ho => by
    have key : ∀ u ∈ (v1 :: v2 :: vs), u.ownBlock = none ∨ u.ownBlock ≠ row := fun u hu => by
      cases e : u.ownBlock with
      | none => exact .inl rfl
      | some g =>
        right
        intro e2
        have h1 := ho u hu g e
        have h2 := low g (hr g e2.symm)
        omega
    exact ⟨⟨h.1.own1.kept hg (key v1 (by simp)), h.1.own2.kept hg (key v2 (by simp)), h.1.apart, h.1.small1, h.1.small2, h.1.few1, h.1.few2⟩, wdsR_turn hg hr low h.2 fun u hu => ho u (by simp [hu])⟩
theorem wdsR_lt {n₀ : Nat} {W : World} : ∀ {vs : List Value} {L : List Wd}, WdsR n₀ W vs L → ∀ u ∈ vs, ∀ g, u.ownBlock = some g → g < W.heap.size
  | [], [], _, u, hu, _, _ => by cases hu
  | v1 :: v2 :: vs, q :: L, h, u, hu, g, e => by
    rcases List.mem_cons.1 hu with rfl | hu
    · exact owns_lt h.1.own1 e
    · rcases List.mem_cons.1 hu with rfl | hu
      · exact owns_lt h.1.own2 e
      · exact wdsR_lt h.2 u hu g e
/-- A list of words whose blocks all lie below D. -/
def WdsD (D : Nat) (W : World) (v : Value) (L : List Wd) : Prop := ∃ vs, W.ownsRow 0 47 2 v L.length vs ∧ WdsR 0 W vs L ∧ (∀ g, v.ownBlock = some g → g < D) ∧ ∀ u ∈ vs, ∀ g, u.ownBlock = some g → g < D
theorem Wds.below {n₀ D : Nat} {W : World} {v : Value} {L : List Wd} (h : Wds n₀ W v L) (hD : W.heap.size ≤ D) : WdsD D W v L := by
  obtain ⟨vs, h1, h2⟩ := h.low (Nat.zero_le _)
  exact ⟨vs, h1, h2, fun g e => Nat.lt_of_lt_of_le (owns_lt h1 e) hD, fun u hu g e => Nat.lt_of_lt_of_le (wdsR_lt h2 u hu g e) hD⟩
theorem WdsD.turn {D : Nat} {X : Nat → Prop} {W W' : World} {row : Option Nat} {v : Value} {L : List Wd} (h : WdsD D W v L) (low : ∀ k, X k → D ≤ k) (hg : W.grownBy W' row) (hr : ∀ r, row = some r → X r) : WdsD D W' v L := by
  obtain ⟨vs, h1, h2, h3, h4⟩ := h
  refine ⟨vs, h1.kept hg ?_, wdsR_turn hg hr low h2 h4, h3, h4⟩
  cases e : v.ownBlock with
  | none => exact .inl rfl
  | some g =>
    right
    intro e2
    have := h3 g e
    have := low g (hr g e2.symm)
    omega
/-- What is written into a block of another kind leaves them. -/
theorem WdsD.other {D : Nat} {W W' : World} {v : Value} {L : List Wd} {F : List Nat} (h : WdsD D W v L) (k : Kept F W W') (hF : ∀ g ∈ F, (∀ cur, W.heap[g]? ≠ some (.cells cur 51 (0, 0))) ∧ ∀ cur, W.heap[g]? ≠ some (.cells cur 47 (0, 0))) : WdsD D W' v L := by
  obtain ⟨vs, h1, h2, h3, h4⟩ := h
  have key : ∀ {u : Value} {m : Nat} {ys : List Value}, W.ownsRow 0 51 1 u m ys → ∀ g, u.ownBlock = some g → g ∉ F := fun hu g e hm => by
    obtain ⟨cur, hc⟩ := own_type hu e
    exact (hF g hm).1 cur hc
  refine ⟨vs, owns_keptF h1 k (fun g e hm => ?_), h2.turn fun _ _ _ q => ⟨owns_keptF q.own1 k (key q.own1), owns_keptF q.own2 k (key q.own2), q.apart, q.small1, q.small2, q.few1, q.few2⟩, h3, h4⟩
  obtain ⟨cur, hc⟩ := own_type h1 e
  exact (hF g hm).2 cur hc
/-- A word of the list: its two cells, and its letters. -/
theorem WdsD.get {D i : Nat} {W : World} {v : Value} {L : List Wd} {q : Wd} (h : WdsD D W v L) (hq : L[i]? = some q) : ∃ b c v1 v2, v = .slice (some ⟨b, 0, none⟩) L.length c ∧ W.cell? ⟨b, i * 2, none⟩ = some v1 ∧ W.cell? ⟨b, i * 2 + 1, none⟩ = some v2 ∧ Lets W v1 q.stem ∧ Lets W v2 q.loop := by
  obtain ⟨vs, h1, h2, _, _⟩ := h
  obtain ⟨v1, v2, e1, e2, hn⟩ := h2.get hq
  have hi : i < L.length := by
    rcases Nat.lt_or_ge i L.length with q | q
    · exact q
    · rw [List.getElem?_eq_none q] at hq; cases hq
  rcases h1.2 with ⟨_, e⟩ | ⟨g, cap, cur, rfl, _, hg, _, _, _, ht⟩
  · omega
  · refine ⟨g, cap, v1, v2, rfl, ?_, ?_, hn.lets1, hn.lets2⟩
    · rw [cell_of hg, ← Array.getElem?_toList]; rw [← ht, List.getElem?_take] at e1; split at e1
      · exact e1
      · cases e1
    · rw [cell_of hg, ← Array.getElem?_toList]; rw [← ht, List.getElem?_take] at e2; split at e2
      · exact e2
      · cases e2
end Go.Proofs.YtamfnefnaelgfaaDoor
