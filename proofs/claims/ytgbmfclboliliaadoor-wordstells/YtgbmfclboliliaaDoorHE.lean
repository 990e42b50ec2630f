/- Letters that are lent: two of room behind that have marks. -/
import Derived.Test.YtgbmfclboliliaaDoorWdRefs
import Derived.Test.YtgbmfclboliliaaDoorWdRefM
import Derived.OwnWalk
import Derived.Deep.RegionHeld3
namespace Go.Proofs.YtgbmfclboliliaaDoor
open Go.RowKit
attribute [local go_sem ↓] Go.wp_at_zero Go.wp_at_succ

/-- Letters that are lent, in a block of their own. -/
structure LentL (W : World) (b : Nat) (xs : List Nat) : Prop where
  row : W.heap[b]? = some (.cells (u16s (xs ++ [60001, 60002])).toArray 54 (0, 0))
  small : ∀ x ∈ xs, x < 65536
  few : xs.length ≤ 1000000000
theorem LentL.kept {W W' : World} {b : Nat} {xs : List Nat} (h : LentL W b xs) (k : Kept [] W W') : LentL W' b xs := ⟨k.at h.row (by simp), h.small, h.few⟩
theorem LentL.lets {W : World} {b : Nat} {xs : List Nat} (h : LentL W b xs) : Lets W (.slice (some ⟨b, 0, none⟩) xs.length (xs.length + 2)) xs := by
  have hf := h.few
  refine ⟨h.small, by omega, .inr ⟨b, 0, xs.length + 2, rfl, by omega, by unfold maxLen; omega, fun i hi => ?_⟩⟩
  rw [Nat.zero_add, cell_of h.row i]
  simp [u16s, List.getElem?_append_left, hi]
theorem LentL.marks {W : World} {b : Nat} {xs : List Nat} (h : LentL W b xs) : W.cell? ⟨b, xs.length, none⟩ = some (.int .u16 60001) ∧ W.cell? ⟨b, xs.length + 1, none⟩ = some (.int .u16 60002) := by
  constructor
  · rw [cell_of h.row]; simp [u16s]
  · rw [cell_of h.row]; simp [u16s]
set_option maxHeartbeats 800000 in
theorem wholeLetters_any (b : Nat) (u : Value) (xs ys : List Nat) (w : World) (h : LentL w b xs) (hu : Lets w u ys) :
    Calls Tryd.prog 33 #[.slice (some ⟨b, 0, none⟩) xs.length (xs.length + 2), u] w fun e w' => e = .returned (.bool (decide (xs = ys))) ∧ Kept [] w w' := by
  have hf := h.few
  obtain ⟨m0, m1⟩ := h.marks
  have HC : Hid (∀ W, Quiet w W → Calls Tryd.prog 18 #[.slice (some ⟨b, 0, none⟩) xs.length (xs.length + 2), u] W fun e w1 => e = .returned (.bool (decide (xs = ys))) ∧ Hid (Quiet W w1)) := fun W q => sameLetters_any _ _ xs ys W (h.lets.kept q.kept) (hu.kept q.kept)
  obtain ⟨ad, c, rfl, _, _⟩ := hu.form
  clear h hu
  generalize decide (xs = ys) = r at HC ⊢
  generalize xs.length = n at *
  generalize ys.length = k at *
  have b1 : ¬ ((n : Int) + 2 < (n : Int) + 2) := by omega
  go_enter Tryd.func33, Tryd.ntmps33
  go_wp2_with (go_at_call 18; refine (HC.out _ (Quiet.refl _)).mono ?_; rintro e w1 ⟨rfl, HQ⟩)
  go_ret
  exact ⟨rfl, HQ.out.kept⟩
/-- How far it is written over. -/
def spoilt (l : List Nat) (i : Nat) : List Nat := List.replicate i 60003 ++ l.drop i
theorem spoilt_step (l : List Nat) (i : Nat) (h : i < l.length) : (u16s (spoilt l i)).toArray.setIfInBounds i (.int .u16 60003) = (u16s (spoilt l (i + 1))).toArray := by
  apply Array.toList_inj.1
  simp only [Array.toList_setIfInBounds]
  apply List.ext_getElem?
  intro j
  simp only [u16s, spoilt, List.getElem?_set, List.getElem?_map]
  by_cases e : i = j
  · subst e
    have e1 : (List.map (fun x : Nat => Value.int IntKind.u16 (x : Nat)) (List.replicate i 60003 ++ List.drop i l)).length = l.length := by simp; omega
    have e2 : (List.replicate (i + 1) 60003 ++ List.drop (i + 1) l)[i]? = some 60003 := by rw [List.getElem?_append_left (by simp)]; simp
    rw [if_pos rfl, e2]
    first | rw [if_pos (by rw [e1]; exact h)]; rfl | (simp only [e1, h, if_true]; rfl)
  · rw [if_neg e]
    congr 1
    rcases Nat.lt_or_ge j i with hj | hj
    · rw [List.getElem?_append_left (by simp; omega), List.getElem?_append_left (by simp; omega)]
      simp [hj, show j < i + 1 by omega]
    · rw [List.getElem?_append_right (by simp; omega), List.getElem?_append_right (by simp; omega)]
      simp only [List.length_replicate, List.getElem?_drop]
      congr 1
      omega
set_option maxHeartbeats 800000 in
theorem spoilLetters_any (b : Nat) (xs : List Nat) (w : World) (h : LentL w b xs) :
    Calls Tryd.prog 35 #[.slice (some ⟨b, 0, none⟩) xs.length (xs.length + 2)] w fun e w' => (∃ v, e = .returned v) ∧ Kept [b] w w' ∧ w'.heap[b]? = some (.cells (u16s (List.replicate (xs.length + 2) 60003)).toArray 54 (0, 0)) := by
  have hf := h.few
  have HR : Hid (w.heap[b]? = some (.cells (u16s (spoilt (xs ++ [60001, 60002]) 0)).toArray 54 (0, 0))) := h.row
  have hlen : (xs ++ [60001, 60002]).length = xs.length + 2 := by simp
  have HLN : Hid ((xs ++ [60001, 60002]).length = xs.length + 2) := hlen
  have HE : Hid (spoilt (xs ++ [60001, 60002]) (xs.length + 2) = List.replicate (xs.length + 2) 60003) := by show spoilt _ _ = _; unfold spoilt; rw [← hlen, List.drop_length, List.append_nil]
  generalize xs ++ [60001, 60002] = l at *
  generalize xs.length = n at *
  clear h hlen
  go_enter Tryd.func35, Tryd.ntmps35
  go_wp2_with fail
  go_loopw [3] (fun v wr => ∃ i : Nat, v = .int .i64 (i : Nat) ∧ i ≤ n + 2 ∧ Hid (wr.heap[b]? = some (.cells (u16s (spoilt l i)).toArray 54 (0, 0))) ∧ Hid (Kept [b] w wr)) (fun v _ => n + 2 - (intOf v).toNat)
  case atStart => exact ⟨0, rfl, Nat.zero_le _, HR.out, Kept.refl _ _⟩
  case round =>
    obtain ⟨i, rfl, hi, HB, HK⟩ := hrel
    by_cases hlt : i < n + 2
    · have l1 : (i : Int) < (n : Int) + 2 := by omega
      have l0 : (0 : Int) ≤ (i : Int) := by omega
      have hll : i < l.length := by rw [HLN.out]; exact hlt
      obtain ⟨x, hx⟩ : ∃ x, wr.cell? ⟨b, i, none⟩ = some x := ⟨_, (cell_of HB.out i).trans (Array.getElem?_eq_getElem (by simp [u16s, spoilt]; omega))⟩
      have f0 : wr.frozen? ⟨b, i, none⟩ = false := free_of HB.out i
      have HS : Hid ((wr.setCell ⟨b, i, none⟩ (.int .u16 60003)).heap[b]? = some (.cells (u16s (spoilt l (i + 1))).toArray 54 (0, 0))) := by
        show _ = _
        rw [← spoilt_step l i hll]
        exact row_set HB.out _
      clear hll
      go_wp2
      go_roundw
      case rel => exact ⟨i + 1, by go_num, by omega, HS.out, HK.out.setCell (.inl (by simp)) _⟩
      case measure => simp [intOf]; omega
    · obtain rfl : i = n + 2 := by omega
      have l1 : ¬ (((n + 2 : Nat) : Int) < (n : Int) + 2) := by omega
      go_wp2
      first | go_end0 | refine bodyPost_ret (results_none rfl _ _ _) rfl ?_
      exact ⟨⟨_, rfl⟩, HK.out, by rw [← HE.out]; exact HB.out⟩
end Go.Proofs.YtgbmfclboliliaaDoor

/- Letters and words that are lent: LentLetters, LentWord, WholeWord, SpoilWord. -/
namespace Go.Proofs.YtgbmfclboliliaaDoor
open Go.RowKit Go.Shelf
attribute [local go_sem ↓] Go.wp_at_zero Go.wp_at_succ

def zerosL (k : Nat) : Array Value := madeCells (Value.cells (.int .u16 0)) (k * 1)
theorem zerosL_size (k : Nat) : (zerosL k).size = k * 1 := by unfold zerosL; rw [size_madeCells]
theorem make_room (w : World) (k : Nat) (hk : k ≤ 1000000000) : Sem.run Tryd.prog (Instr.makeSlice 22 (.int .i64 0) (.int .i64 ((k : Int) + 2))) w = .ok (.slice (some ⟨w.heap.size, 0, none⟩) 0 (k + 2)) (w.alloc (.cells (zerosL (k + 2)) 54)) := by
  obtain ⟨i, hi, hz, hs, hb⟩ := info_parts Tryd.infoU16
  have h := run_make (P := Tryd.prog) w 22 54 i _ Tryd.underlying22 hi hz .i64 .i64 0 ((k : Int) + 2) (by omega) (by omega) (by rw [hb]; omega) (by omega)
  rw [h, hs, show ((k : Int) + 2).toNat = k + 2 from by omega]
  rfl
theorem room_row (w : World) (k : Nat) (hk : k ≤ 1000000000) : (w.alloc (.cells (zerosL (k + 2)) 54)).ownsRow w.heap.size 54 1 (.slice (some ⟨w.heap.size, 0, none⟩) 0 (k + 2)) 0 [] :=
  ⟨rfl, .inr ⟨_, _, _, rfl, Nat.le_refl _, heap_alloc_new _ _, Nat.zero_le _, by unfold maxLen; omega, zerosL_size _, by simp⟩⟩
theorem lent_of {W : World} {b base : Nat} {xs : List Nat} {n : Nat} (h : W.ownsRow base 54 1 (.slice (some ⟨b, 0, none⟩) n (xs.length + 2)) n (u16s (xs ++ [60001, 60002]))) (hn : n = xs.length + 2) (hs : ∀ x ∈ xs, x < 65536) (hf : xs.length ≤ 1000000000) : LentL W b xs := by
  subst hn
  rcases h.2 with ⟨e, _⟩ | ⟨g, cap, cur, e, _, h2, _, _, h5, h6⟩
  · cases e
  · cases e
    refine ⟨?_, hs, hf⟩
    rw [List.take_of_length_le (by rw [Array.length_toList, h5]; exact Nat.le_refl _)] at h6
    rw [h2, ← h6]
theorem kept_own {wr w5 : World} {n₀ : Nat} {e : TypeId} {s n : Nat} {v : Value} {xs : List Value} (h : wr.ownsRow n₀ e s v n xs) (k : Kept [] wr w5) : w5.ownsRow n₀ e s v n xs := owns_keptF h k (by simp)
theorem own_zero {W : World} {g c n : Nat} {l : List Value} (h : W.ownsRow g 54 1 (.slice (some ⟨g, 0, none⟩) (0 + n) c) (0 + n) ([] ++ l)) : W.ownsRow g 54 1 (.slice (some ⟨g, 0, none⟩) n c) n l := by
  rw [Nat.zero_add, List.nil_append] at h
  exact h
theorem append_none (w : World) (g c : Nat) (ty : TypeId) : (Builtin.append_ #[22, 22] ty #[.slice (some ⟨g, 0, none⟩) 0 c, .slice none 0 0]).run Tryd.prog w = .ok (.slice (some ⟨g, 0, none⟩) 0 c) w := by
  go_simp
set_option maxHeartbeats 1600000 in
set_option maxRecDepth 10000 in
theorem lentLetters_any (v : Value) (xs : List Nat) (w : World) (hx : Lets w v xs) (hf : xs.length ≤ 100000000) :
    Calls Tryd.prog 9 #[v] w fun e w' => ∃ b, e = .returned (.slice (some ⟨b, 0, none⟩) xs.length (xs.length + 2)) ∧ LentL w' b xs ∧ w.heap.size ≤ b ∧ Kept [] w w' := by
  have hmk := make_room w xs.length (by omega)
  obtain ⟨inf, hi1, hi2, hi3, hi4⟩ := info_parts Tryd.infoU16
  have HINF : Hid (Tryd.prog.info? 54 = some inf ∧ inf.size = 1) := ⟨hi1, hi3⟩
  have HSM : Hid (∀ x ∈ xs, x < 65536) := hx.small
  have hw : IntKind.i64.wrap ((xs.length : Int) + 2) = (xs.length : Int) + 2 := by rw [IntKind.wrap_i64]; omega
  have k0 : (0 : Int) ≤ (xs.length : Int) := by omega
  have k1 : (xs.length : Int) ≤ (xs.length : Int) + 2 := by omega
  obtain ⟨W0, hW0⟩ : ∃ W0, w.alloc (.cells (zerosL (xs.length + 2)) 54) = W0 := ⟨_, rfl⟩
  have HW0 : Hid (Kept [] w W0) := by show Kept [] w W0; rw [← hW0]; exact (Kept.refl [] w).alloc _
  have HR0 : Hid (W0.ownsRow w.heap.size 54 1 (.slice (some ⟨w.heap.size, 0, none⟩) 0 (xs.length + 2)) 0 []) := by show World.ownsRow _ _ _ _ _ _ _; rw [← hW0]; exact room_row w xs.length (by omega)
  rw [hW0] at hmk
  clear hW0 hi1 hi2 hi3 hi4
  rcases hx.lie with ⟨rfl, rfl⟩ | ⟨b, o, c, rfl, hc1, hc2, hC⟩
  · clear hx
    simp only [List.length_nil, Int.natCast_zero, Int.zero_add, Nat.zero_add] at hmk HR0
    clear hw k0 k1
    have hp : ∀ j u, ([.int .u16 60001, .int .u16 60002] : List Value)[j]? = some u → (W0.alloc (.cells #[.int .u16 60001, .int .u16 60002] 54)).cell? ((⟨W0.heap.size, 0, none⟩ : Addr).add j) = some u := World.news_of_block (cs := #[.int .u16 60001, .int .u16 60002]) (t := 54) (fr := (0, 0)) (heap_alloc_new W0 _)
    obtain ⟨W7, hrun, hr7, hg7⟩ := run_append_fits (P := Tryd.prog) (W0.alloc (.cells #[.int .u16 60001, .int .u16 60002] 54)) w.heap.size 22 22 54 inf 1 Tryd.underlying22 HINF.out.1 HINF.out.2 w.heap.size 0 2 [] (kept_own HR0.out ((Kept.refl [] _).alloc _)) ⟨W0.heap.size, 0, none⟩ 2 2 [.int .u16 60001, .int .u16 60002] rfl hp (by simp [Value.oneCell']) (by omega)
    have HRUN : Hid ((Builtin.append_ #[22, 22] 22 #[.slice (some ⟨w.heap.size, 0, none⟩) 0 2, .slice (some ⟨W0.heap.size, 0, none⟩) 2 2]).run Tryd.prog (W0.alloc (.cells #[.int .u16 60001, .int .u16 60002] 54)) = .ok (.slice (some ⟨w.heap.size, 0, none⟩) 2 2) W7) := hrun
    have HR7 : Hid (W7.ownsRow w.heap.size 54 1 (.slice (some ⟨w.heap.size, 0, none⟩) 2 2) 2 [.int .u16 60001, .int .u16 60002]) := hr7
    have HG7 : Hid (Kept [] w W7) := (HW0.out.alloc _).grown hg7 (fun k hk => by simp at hk; right; omega)
    clear hrun hr7 hg7 hp
    have T1 : Hid True := trivial
    go_enter Tryd.func9, Tryd.ntmps9
    go_wp2_with (first
      | (clear T1; at_builtin; refine Lib.wpList_append_run _ rfl _ _ _ _ rfl _ _ rfl rfl _ _ (append_none W0 w.heap.size 2 _) ?_)
      | (at_builtin; refine Lib.wpList_append_run _ rfl _ _ _ _ rfl _ _ rfl rfl _ _ HRUN.out ?_))
    have hend : ∃ b, Ending.returned (.slice (some ⟨w.heap.size, 0, none⟩) 0 2) = .returned (.slice (some ⟨b, 0, none⟩) 0 2) ∧ LentL W7 b [] ∧ w.heap.size ≤ b ∧ Kept [] w W7 := ⟨w.heap.size, rfl, lent_of (xs := []) (base := w.heap.size) (n := 2) HR7.out rfl (by simp) (by simp), Nat.le_refl _, HG7.out⟩
    refine bodyPost_ret (results_tmp rfl _ _ _) (by rfl) ?_
    exact hend
  · have HN : Hid (∀ W, Kept [] w W → ∀ j u, (u16s xs)[j]? = some u → W.cell? ((⟨b, o, none⟩ : Addr).add j) = some u) := fun W k => lets_news (fun i hi => cell_kept0 k (hC i hi))
    have T1 : Hid True := trivial
    clear hx hC
    go_enter Tryd.func9, Tryd.ntmps9
    go_wp2_with (first
      | (clear T1; at_builtin; refine wpList_append_fits _ rfl _ _ 22 rfl w.heap.size 54 inf 1 Tryd.underlying22 HINF.out.1 HINF.out.2 w.heap.size 0 (xs.length + 2) [] rfl HR0.out ⟨b, o, none⟩ xs.length c (u16s xs) rfl (by simp [u16s]) (HN.out _ HW0.out) (u16s_one xs) (by omega) ?_; intro W6 hr6 hg6; have HR6 : Hid (W6.ownsRow w.heap.size 54 1 (.slice (some ⟨w.heap.size, 0, none⟩) xs.length (xs.length + 2)) xs.length (u16s xs)) := (own_zero hr6); have HG6 : Hid (Kept [] w W6) := HW0.out.grown hg6 (fun k hk => by simp at hk; right; omega); clear hr6 hg6)
      | (at_builtin; obtain ⟨W7, hrun, hr7, hg7⟩ := run_append_fits (P := Tryd.prog) (W6.alloc (.cells #[.int .u16 60001, .int .u16 60002] 54)) w.heap.size 22 22 54 inf 1 Tryd.underlying22 HINF.out.1 HINF.out.2 w.heap.size xs.length (xs.length + 2) (u16s xs) (kept_own HR6.out ((Kept.refl [] _).alloc _)) ⟨W6.heap.size, 0, none⟩ 2 2 [.int .u16 60001, .int .u16 60002] rfl (World.news_of_block (cs := #[.int .u16 60001, .int .u16 60002]) (t := 54) (fr := (0, 0)) (heap_alloc_new W6 _)) (by simp [Value.oneCell']) (by omega); refine Lib.wpList_append_run _ rfl _ _ _ _ rfl _ _ rfl rfl _ _ hrun ?_; have HR7 : Hid (W7.ownsRow w.heap.size 54 1 (.slice (some ⟨w.heap.size, 0, none⟩) (xs.length + 2) (xs.length + 2)) (xs.length + 2) (u16s xs ++ [.int .u16 60001, .int .u16 60002])) := hr7; have HG7 : Hid (Kept [] w W7) := (HG6.out.alloc _).grown hg7 (fun k hk => by simp at hk; right; omega); clear hrun hr7 hg7))
    go_ret
    refine ⟨w.heap.size, rfl, lent_of (base := w.heap.size) (n := xs.length + 2) ?_ rfl HSM.out (by omega), Nat.le_refl _, HG7.out⟩
    rw [u16s_app]
    exact HR7.out
theorem kept_more {B : Nat} {a b : World} (k : Kept [] a b) : Kept [B] a b := ⟨k.os, k.tape, k.output, k.size, fun n h _ => k.block n h (by simp)⟩
theorem lent_two {V Wa Wb : World} {b1 b2 : Nat} {xs ys : List Nat} (h : LentL Wa b1 xs ∧ V.heap.size ≤ b1 ∧ b1 < Wa.heap.size) (h2 : LentL Wb b2 ys) (hb : Wa.heap.size ≤ b2) (k : Kept [] Wa Wb) (k2 : Kept [] V Wa) : LentL Wb b1 xs ∧ LentL Wb b2 ys ∧ b1 ≠ b2 ∧ V.heap.size ≤ b1 ∧ V.heap.size ≤ b2 := by
  have h3 := k2.size
  have h4 := h.2.2
  exact ⟨h.1.kept k, h2, by omega, h.2.1, by omega⟩
theorem lent_set {V W : World} {n b1 b2 : Nat} {xs ys : List Nat} (h : LentL W b1 xs ∧ LentL W b2 ys ∧ b1 ≠ b2 ∧ V.heap.size ≤ b1 ∧ V.heap.size ≤ b2) (hz : V.heap.size = n + 1 + 1) (a b : Value) : LentL ((W.setCell ⟨n + 1, 0, none⟩ a).setCell ⟨n + 1, 1, none⟩ b) b1 xs ∧ LentL ((W.setCell ⟨n + 1, 0, none⟩ a).setCell ⟨n + 1, 1, none⟩ b) b2 ys ∧ b1 ≠ b2 ∧ n ≤ b1 ∧ n ≤ b2 := by
  have kF : Kept [n + 1] W ((W.setCell ⟨n + 1, 0, none⟩ a).setCell ⟨n + 1, 1, none⟩ b) := ((Kept.refl _ W).setCell (.inl (by simp)) _).setCell (.inl (by simp)) _
  obtain ⟨h1, h2, h3, h4, h5⟩ := h
  exact ⟨⟨kF.at h1.row (by simp; omega), h1.small, h1.few⟩, ⟨kF.at h2.row (by simp; omega), h2.small, h2.few⟩, h3, by omega, by omega⟩
set_option maxHeartbeats 1600000 in
set_option maxRecDepth 10000 in
theorem lentWord_any (sv lv : Value) (q : Wd) (w : World) (hs : Lets w sv q.stem) (hl : Lets w lv q.loop) (hf : q.stem.length + q.loop.length ≤ 100000000) :
    Calls Tryd.prog 8 #[.agg #[sv, lv]] w fun e w' => ∃ b1 b2, e = .returned (.agg #[.slice (some ⟨b1, 0, none⟩) q.stem.length (q.stem.length + 2), .slice (some ⟨b2, 0, none⟩) q.loop.length (q.loop.length + 2)]) ∧ (LentL w' b1 q.stem ∧ LentL w' b2 q.loop ∧ b1 ≠ b2 ∧ w.heap.size ≤ b1 ∧ w.heap.size ≤ b2) ∧ Kept [] w w' := by
  obtain ⟨V, hV⟩ : ∃ V, (w.alloc (.cells #[sv, lv] 24)).alloc (.cells #[.slice none 0 0, .slice none 0 0] 24) = V := ⟨_, rfl⟩
  have kV : Kept [] w V := by rw [← hV]; exact ((Kept.refl [] w).alloc _).alloc _
  have hB : Wd2 V w.heap.size sv lv := by rw [← hV]; exact alUp (al0 _ _) _
  have hR : Wd2 V (w.heap.size + 1) (.slice none 0 0) (.slice none 0 0) := by rw [← hV]; exact al1 _ _ _
  have hvz : V.heap.size = w.heap.size + 1 + 1 := by rw [← hV, World.size_alloc, World.size_alloc]
  have HL1 : Hid (∀ W, Kept [] V W → Calls Tryd.prog 9 #[sv] W fun e w' => ∃ b, e = .returned (.slice (some ⟨b, 0, none⟩) q.stem.length (q.stem.length + 2)) ∧ LentL w' b q.stem ∧ W.heap.size ≤ b ∧ Kept [] W w') := fun W k => lentLetters_any sv q.stem W ((hs.kept kV).kept k) (by omega)
  have HL2 : Hid (∀ W, Kept [] V W → Calls Tryd.prog 9 #[lv] W fun e w' => ∃ b, e = .returned (.slice (some ⟨b, 0, none⟩) q.loop.length (q.loop.length + 2)) ∧ LentL w' b q.loop ∧ W.heap.size ≤ b ∧ Kept [] W w') := fun W k => lentLetters_any lv q.loop W ((hl.kept kV).kept k) (by omega)
  have HS : Hid (∀ W, Kept [w.heap.size + 1] V W → W.cell? ⟨w.heap.size, 0, none⟩ = some sv ∧ W.cell? ⟨w.heap.size, 1, none⟩ = some lv) := fun W k => ⟨(hB.keptF k (by simp)).cells.1, (hB.keptF k (by simp)).cells.2.1⟩
  have HKV : Hid (Kept [] w V) := kV
  have HR : Hid (Wd2 V (w.heap.size + 1) (.slice none 0 0) (.slice none 0 0)) := hR
  have HVZ : Hid (V.heap.size = w.heap.size + 1 + 1) := hvz
  obtain ⟨sad, sc, rfl, _, _⟩ := hs.form
  obtain ⟨lad, lc, rfl, _, _⟩ := hl.form
  have HVV : Hid (_ = V) := hV
  obtain ⟨f0, f1⟩ := HS.out V (Kept.refl _ V)
  have T1 : Hid True := trivial
  have HKc : Hid (Kept [] V V) := Kept.refl [] V
  clear hs hl kV hB hR hvz hV
  go_enter Tryd.func8, Tryd.ntmps8
  go_upto_region 1 with fail
  rw [HVV.out]
  clear HVV
  go_region_held3 (fun w' => w'.cell? ⟨w.heap.size, 0, none⟩ = some (.slice sad q.stem.length sc) ∧ w'.cell? ⟨w.heap.size, 1, none⟩ = some (.slice lad q.loop.length lc))
    ((refine HS.out _ ?_; (first | exact (kept_more HKc.out) | exact (kept_more HKc.out.drew) | exact ((kept_more HKc.out).setCell (.inl (by simp)) _).setCell (.inl (by simp)) _)))
    (first
      | (clear T1; go_at_call 9; refine (HL1.out _ (by first | exact HKc.out | exact HKc.out.drew)).mono ?_; rintro e Wa ⟨b1, rfl, hl1, hb1, ka⟩; have HA1 : Hid (LentL Wa b1 q.stem ∧ V.heap.size ≤ b1 ∧ b1 < Wa.heap.size) := ⟨hl1, Nat.le_trans HKc.out.size hb1, lt_of hl1.row⟩; have HKn : Hid (Kept [] V Wa) := (by first | exact HKc.out.trans ka (by simp) (by simp) | exact HKc.out.drew.trans ka (by simp) (by simp)); obtain ⟨r0, r1, s0, s1⟩ := (HR.out.kept HKn.out).cells; clear HKc ka hl1 hb1; have HKc : Hid (Kept [] V Wa) := HKn.out; clear HKn)
      | (go_at_call 9; refine (HL2.out _ HKc.out).mono ?_; rintro e Wb ⟨b2, rfl, hl2, hb2, kb⟩; have HA2 : Hid (LentL Wb b1 q.stem ∧ LentL Wb b2 q.loop ∧ b1 ≠ b2 ∧ V.heap.size ≤ b1 ∧ V.heap.size ≤ b2) := lent_two HA1.out hl2 hb2 kb HKc.out; have HKn : Hid (Kept [] V Wb) := HKc.out.trans kb (by simp) (by simp); clear r0 r1 s0 s1; obtain ⟨r0, r1, s0, s1⟩ := (HR.out.kept HKn.out).cells; have HRb : Hid (Wd2 Wb (w.heap.size + 1) (.slice none 0 0) (.slice none 0 0)) := HR.out.kept HKn.out; clear HKc kb hl2 hb2; have HKc : Hid (Kept [] V Wb) := HKn.out; clear HKn))
  all_goals go_wp2
  all_goals exact ret_word rfl rfl rfl (HRb.out.set _ _) ⟨_, _, rfl, lent_set HA2.out HVZ.out _ _, kept_set2 (HKV.out.trans HKc.out (by simp) (by simp)) (by omega) _ _⟩
set_option maxHeartbeats 800000 in
theorem wholeWord_any (b1 b2 : Nat) (sv lv : Value) (q : Wd) (w : World) (h1 : LentL w b1 q.stem) (h2 : LentL w b2 q.loop) (hs : Lets w sv q.stem) (hl : Lets w lv q.loop) :
    Calls Tryd.prog 32 #[.agg #[.slice (some ⟨b1, 0, none⟩) q.stem.length (q.stem.length + 2), .slice (some ⟨b2, 0, none⟩) q.loop.length (q.loop.length + 2)], .agg #[sv, lv]] w fun e w' => e = .returned (.bool true) ∧ Kept [] w w' := by
  obtain ⟨V, hV⟩ : ∃ V, (w.alloc (.cells #[.slice (some ⟨b1, 0, none⟩) q.stem.length (q.stem.length + 2), .slice (some ⟨b2, 0, none⟩) q.loop.length (q.loop.length + 2)] 24)).alloc (.cells #[sv, lv] 24) = V := ⟨_, rfl⟩
  have kV : Kept [] w V := by rw [← hV]; exact ((Kept.refl [] w).alloc _).alloc _
  have HA : Hid (Wd2 V w.heap.size (.slice (some ⟨b1, 0, none⟩) q.stem.length (q.stem.length + 2)) (.slice (some ⟨b2, 0, none⟩) q.loop.length (q.loop.length + 2))) := by show Wd2 _ _ _ _; rw [← hV]; exact alUp (al0 _ _) _
  have HB : Hid (Wd2 V (w.heap.size + 1) sv lv) := by show Wd2 _ _ _ _; rw [← hV]; exact al1 _ _ _
  have HW1 : Hid (∀ W, Kept [] V W → Calls Tryd.prog 33 #[.slice (some ⟨b1, 0, none⟩) q.stem.length (q.stem.length + 2), sv] W fun e w' => e = .returned (.bool true) ∧ Kept [] W w') := fun W k => by
    have := wholeLetters_any b1 sv q.stem q.stem W ((h1.kept kV).kept k) ((hs.kept kV).kept k)
    rw [decide_eq_true rfl] at this
    exact this
  have HW2 : Hid (∀ W, Kept [] V W → Calls Tryd.prog 33 #[.slice (some ⟨b2, 0, none⟩) q.loop.length (q.loop.length + 2), lv] W fun e w' => e = .returned (.bool true) ∧ Kept [] W w') := fun W k => by
    have := wholeLetters_any b2 lv q.loop q.loop W ((h2.kept kV).kept k) ((hl.kept kV).kept k)
    rw [decide_eq_true rfl] at this
    exact this
  have HKV : Hid (Kept [] w V) := kV
  obtain ⟨sad, sc, rfl, _, _⟩ := hs.form
  obtain ⟨lad, lc, rfl, _, _⟩ := hl.form
  obtain ⟨f0, f1, _, _⟩ := HA.out.cells
  obtain ⟨g0, g1, _, _⟩ := HB.out.cells
  have HVV : Hid (_ = V) := hV
  have T1 : Hid True := trivial
  clear h1 h2 hs hl kV hV
  go_enter Tryd.func32, Tryd.ntmps32
  go_wp2_with (first
    | (clear T1; go_at_call 33; rw [HVV.out]; refine (HW1.out V (Kept.refl [] V)).mono ?_; rintro e Wa ⟨rfl, ka⟩; have HKa : Hid (Kept [] V Wa) := ka; clear f0 f1 g0 g1 ka; obtain ⟨f0, f1, _, _⟩ := (HA.out.kept HKa.out).cells; obtain ⟨g0, g1, _, _⟩ := (HB.out.kept HKa.out).cells)
    | (go_at_call 33; refine (HW2.out Wa HKa.out).mono ?_; rintro e Wb ⟨rfl, kb⟩; have HKb : Hid (Kept [] V Wb) := HKa.out.trans kb (by simp) (by simp); clear kb))
  go_ret
  exact ⟨rfl, HKV.out.trans HKb.out (by simp) (by simp)⟩
/-- What is spoilt. -/
def spoiltW (q : Wd) : Wd := ⟨List.replicate q.stem.length 60003, List.replicate q.loop.length 60003⟩
theorem spoilt_lets {W : World} {b n : Nat} (h : W.heap[b]? = some (.cells (u16s (List.replicate (n + 2) 60003)).toArray 54 (0, 0))) (hn : n ≤ 1000000000) : Lets W (.slice (some ⟨b, 0, none⟩) n (n + 2)) (List.replicate n 60003) := by
  refine ⟨fun x hx => by rw [(List.mem_replicate.1 hx).2]; decide, by rw [List.length_replicate]; omega, .inr ⟨b, 0, n + 2, by rw [List.length_replicate], by rw [List.length_replicate]; omega, by unfold maxLen; omega, fun i hi => ?_⟩⟩
  rw [List.length_replicate] at hi
  rw [Nat.zero_add, cell_of h i]
  have e2 : (List.replicate n 60003).getD i 0 = 60003 := by rw [List.getD_eq_getElem?_getD, List.getElem?_replicate, if_pos hi]; rfl
  rw [e2]
  simp [u16s, show i < n + 2 by omega]
set_option maxHeartbeats 800000 in
theorem spoilWord_any (b1 b2 : Nat) (q : Wd) (w : World) (h1 : LentL w b1 q.stem) (h2 : LentL w b2 q.loop) (hne : b1 ≠ b2) :
    Calls Tryd.prog 34 #[.agg #[.slice (some ⟨b1, 0, none⟩) q.stem.length (q.stem.length + 2), .slice (some ⟨b2, 0, none⟩) q.loop.length (q.loop.length + 2)]] w fun e w' => (∃ v, e = .returned v) ∧ Kept [b1, b2] w w' ∧ Lets w' (.slice (some ⟨b1, 0, none⟩) q.stem.length (q.stem.length + 2)) (spoiltW q).stem ∧ Lets w' (.slice (some ⟨b2, 0, none⟩) q.loop.length (q.loop.length + 2)) (spoiltW q).loop := by
  have hf1 := h1.few
  have hf2 := h2.few
  obtain ⟨V, hV⟩ : ∃ V, w.alloc (.cells #[.slice (some ⟨b1, 0, none⟩) q.stem.length (q.stem.length + 2), .slice (some ⟨b2, 0, none⟩) q.loop.length (q.loop.length + 2)] 24) = V := ⟨_, rfl⟩
  have kV : Kept [] w V := by rw [← hV]; exact (Kept.refl [] w).alloc _
  have HA : Hid (Wd2 V w.heap.size (.slice (some ⟨b1, 0, none⟩) q.stem.length (q.stem.length + 2)) (.slice (some ⟨b2, 0, none⟩) q.loop.length (q.loop.length + 2))) := by show Wd2 _ _ _ _; rw [← hV]; exact al0 _ _
  have hl1 := lt_of h1.row
  have hl2 := lt_of h2.row
  have HS1 : Hid (Calls Tryd.prog 35 #[.slice (some ⟨b1, 0, none⟩) q.stem.length (q.stem.length + 2)] V fun e w' => (∃ v, e = .returned v) ∧ Kept [b1] V w' ∧ w'.heap[b1]? = some (.cells (u16s (List.replicate (q.stem.length + 2) 60003)).toArray 54 (0, 0))) := spoilLetters_any b1 q.stem V (h1.kept kV)
  have HS2 : Hid (∀ W, Kept [b1] V W → Calls Tryd.prog 35 #[.slice (some ⟨b2, 0, none⟩) q.loop.length (q.loop.length + 2)] W fun e w' => (∃ v, e = .returned v) ∧ Kept [b2] W w' ∧ w'.heap[b2]? = some (.cells (u16s (List.replicate (q.loop.length + 2) 60003)).toArray 54 (0, 0))) := fun W k => spoilLetters_any b2 q.loop W ⟨k.at (h2.kept kV).row (by simpa using fun e => hne e.symm), h2.small, h2.few⟩
  have HKV : Hid (Kept [] w V) := kV
  have HNE : Hid (b1 ≠ b2 ∧ b1 < w.heap.size ∧ b2 < w.heap.size) := ⟨hne, hl1, hl2⟩
  have HVV : Hid (_ = V) := hV
  obtain ⟨f0, f1, _, _⟩ := HA.out.cells
  have T1 : Hid True := trivial
  clear h1 h2 kV hV hne hl1 hl2
  go_enter Tryd.func34, Tryd.ntmps34
  go_wp2_with (first
    | (clear T1; go_at_call 35; rw [HVV.out]; refine HS1.out.mono ?_; rintro e Wa ⟨⟨v1, rfl⟩, ka, hr1⟩; have HKa : Hid (Kept [b1] V Wa) := ka; have HR1 : Hid (Wa.heap[b1]? = some (.cells (u16s (List.replicate (q.stem.length + 2) 60003)).toArray 54 (0, 0))) := hr1; clear f0 f1 ka hr1; obtain ⟨f0, f1, _, _⟩ := (HA.out.keptF HKa.out (by have := HNE.out; simp; omega)).cells)
    | (go_at_call 35; refine (HS2.out Wa HKa.out).mono ?_; rintro e Wb ⟨⟨v2, rfl⟩, kb, hr2⟩; have HKb : Hid (Kept [b2] Wa Wb) := kb; have HR2 : Hid (Wb.heap[b2]? = some (.cells (u16s (List.replicate (q.loop.length + 2) 60003)).toArray 54 (0, 0))) := hr2; clear kb hr2))
  first | go_end0 | refine bodyPost_ret (results_none rfl _ _ _) rfl ?_
  exact ⟨⟨_, rfl⟩, (HKV.out.trans HKa.out (H := [b1, b2]) (by simp) (by simp)).trans HKb.out (by simp) (by simp), spoilt_lets (HKb.out.at HR1.out (by simpa using HNE.out.1)) (by omega), spoilt_lets HR2.out (by omega)⟩
end Go.Proofs.YtgbmfclboliliaaDoor
