/- Lists that are lent, by their cells. -/
import Derived.Test.YtbbfajbnklgncaaHC
import Derived.Lib.AppendZeros
import Derived.OwnWalk
import Derived.Deep.AppendLies
import Derived.Laws.MakeOwn
import Derived.Laws.OwnMore
import Derived.BigQuiet
namespace Go.Proofs.Ytbbfajbnklgncaa
open Go.RowKit Go.Shelf

/-- A list of n elements, each of s cells, in memory: cs are its cells. -/
structure Src (s : Nat) (w : World) (v : Value) (n : Nat) (cs : List Value) : Prop where
  len : cs.length = n * s
  one : ∀ u ∈ cs, u.oneCell' = true
  lie : (v = .slice none 0 0 ∧ n = 0) ∨ ∃ a c, v = .slice (some a) n c ∧ n ≤ c ∧ c ≤ maxLen ∧ (0 < n → a.spot = none) ∧ (n = 0 → cs = []) ∧ ∀ j u, cs[j]? = some u → w.cell? (a.add j) = some u
theorem Src.kept {s : Nat} {w w' : World} {v : Value} {n : Nat} {cs : List Value} (h : Src s w v n cs) (k : Kept [] w w') : Src s w' v n cs := by
  refine ⟨h.len, h.one, ?_⟩
  rcases h.lie with h1 | ⟨a, c, h1, h2, h3, h4, h5, h6⟩
  · exact .inl h1
  · refine .inr ⟨a, c, h1, h2, h3, h4, h5, fun j u hu => ?_⟩
    have hn : 0 < n := Nat.pos_of_ne_zero fun h0 => by rw [h5 h0] at hu; cases hu
    obtain ⟨b, o, sp⟩ := a
    obtain rfl : sp = none := h4 hn
    have q := h6 j u hu
    rw [addr_add] at q ⊢
    exact cell_kept0 k q
theorem Src.cellsAt {s : Nat} {w : World} {a : Addr} {n c : Nat} {cs : List Value} (h : Src s w (.slice (some a) n c) n cs) : ∀ j u, cs[j]? = some u → w.cell? (a.add j) = some u := by
  rcases h.lie with ⟨e, _⟩ | ⟨a', c', e, _, _, _, _, h6⟩
  · cases e
  · cases e
    exact h6
/-- What is lent: a block of its own, with two elements of room behind that have marks. -/
structure LentG (e : TypeId) (s : Nat) (W : World) (b n : Nat) (cs ms : List Value) : Prop where
  row : W.heap[b]? = some (.cells (cs ++ ms).toArray e (0, 0))
  len : cs.length = n * s
  mlen : ms.length = 2 * s
  few : n ≤ 20000000000000
theorem LentG.kept {e : TypeId} {s : Nat} {W W' : World} {b n : Nat} {cs ms : List Value} (h : LentG e s W b n cs ms) (k : Kept [] W W') : LentG e s W' b n cs ms := ⟨k.at h.row (by simp), h.len, h.mlen, h.few⟩
theorem LentG.keptF {F : List Nat} {e : TypeId} {s : Nat} {W W' : World} {b n : Nat} {cs ms : List Value} (h : LentG e s W b n cs ms) (k : Kept F W W') (hb : b ∉ F) : LentG e s W' b n cs ms := ⟨k.at h.row hb, h.len, h.mlen, h.few⟩
theorem LentG.src {e : TypeId} {s : Nat} {W : World} {b n : Nat} {cs ms : List Value} (h : LentG e s W b n cs ms) (h1 : ∀ u ∈ cs, u.oneCell' = true) : Src s W (.slice (some ⟨b, 0, none⟩) n (n + 2)) n cs := by
  have hf := h.few
  refine ⟨h.len, h1, .inr ⟨⟨b, 0, none⟩, n + 2, rfl, by omega, by unfold maxLen; omega, fun _ => rfl, fun hz => List.length_eq_zero_iff.1 (by have := h.len; rw [hz] at this; omega), fun j u hu => ?_⟩⟩
  rw [addr_add, Nat.zero_add, cell_of h.row j]
  have hl : j < cs.length := by
    rcases Nat.lt_or_ge j cs.length with h | h
    · exact h
    · rw [List.getElem?_eq_none h] at hu; cases hu
  simp only [List.getElem?_toArray]
  rw [List.getElem?_append_left hl]
  exact hu
theorem LentG.mark {e : TypeId} {s : Nat} {W : World} {b n : Nat} {cs ms : List Value} (h : LentG e s W b n cs ms) {j : Nat} {u : Value} (hu : ms[j]? = some u) : W.cell? ⟨b, n * s + j, none⟩ = some u := by
  rw [cell_of h.row, ← h.len]
  simp only [List.getElem?_toArray]
  rw [List.getElem?_append_right (by omega)]
  simpa using hu
theorem lentG_of {W : World} {e : TypeId} {s b base : Nat} {cs ms : List Value} {n m : Nat} (h : W.ownsRow base e s (.slice (some ⟨b, 0, none⟩) m (n + 2)) m (cs ++ ms)) (hc : cs.length = n * s) (hm : ms.length = 2 * s) (hn : m = n + 2) (hf : n ≤ 20000000000000) : LentG e s W b n cs ms := by
  subst hn
  rcases h.2 with ⟨e, _⟩ | ⟨g, cap, cur, e, _, h2, _, _, h5, h6⟩
  · cases e
  · cases e
    refine ⟨?_, hc, hm, hf⟩
    rw [List.take_of_length_le (by rw [Array.length_toList, h5]; exact Nat.le_refl _)] at h6
    rw [h2, ← h6]
theorem own_zeroG {W : World} {g c n s : Nat} {e : TypeId} {l : List Value} (h : W.ownsRow g e s (.slice (some ⟨g, 0, none⟩) (0 + n) c) (0 + n) ([] ++ l)) : W.ownsRow g e s (.slice (some ⟨g, 0, none⟩) n c) n l := by
  rw [Nat.zero_add, List.nil_append] at h
  exact h
theorem bx_keptL {F : List Nat} {W W' : World} {base : Nat} {e : TypeId} {size : Nat} {v : Value} {n : Nat} {xs : List Value} (h : W.ownsRow base e size v n xs) (k : Kept F W W') (hF : ∀ g, v.ownBlock = some g → g ∉ F) : W'.ownsRow base e size v n xs := by
  refine ⟨h.1, ?_⟩
  rcases h.2 with h2 | ⟨g, cap, cur, rfl, hb, hw, h3⟩
  · exact .inl h2
  · exact .inr ⟨g, cap, cur, rfl, hb, k.at hw (hF g rfl), h3⟩
/-- How far it is written over. -/
def spoiltG (x : Value) (l : List Value) (i : Nat) : List Value := List.replicate i x ++ l.drop i
theorem spoiltG_step (x : Value) (l : List Value) (i : Nat) (h : i < l.length) : (spoiltG x l i).toArray.setIfInBounds i x = (spoiltG x l (i + 1)).toArray := by
  apply Array.toList_inj.1
  simp only [Array.toList_setIfInBounds]
  apply List.ext_getElem?
  intro j
  simp only [spoiltG, List.getElem?_set]
  by_cases e : i = j
  · subst e
    have e1 : (List.replicate i x ++ List.drop i l).length = l.length := by simp; omega
    have e2 : (List.replicate (i + 1) x ++ List.drop (i + 1) l)[i]? = some x := by rw [List.getElem?_append_left (by simp)]; simp
    rw [if_pos rfl, e2, if_pos (by rw [e1]; exact h)]
  · rw [if_neg e]
    rcases Nat.lt_or_ge j i with hj | hj
    · rw [List.getElem?_append_left (by simp; omega), List.getElem?_append_left (by simp; omega)]
      simp [hj, show j < i + 1 by omega]
    · rw [List.getElem?_append_right (by simp; omega), List.getElem?_append_right (by simp; omega)]
      simp only [List.length_replicate, List.getElem?_drop]
      congr 1
      omega
theorem spoiltG_end (x : Value) (l : List Value) : spoiltG x l l.length = List.replicate l.length x := by unfold spoiltG; rw [List.drop_length, List.append_nil]
theorem Src.form {s : Nat} {w : World} {v : Value} {n : Nat} {cs : List Value} (h : Src s w v n cs) : ∃ ad c, v = .slice ad n c := by
  rcases h.lie with ⟨rfl, rfl⟩ | ⟨a, c, rfl, _⟩
  · exact ⟨_, _, rfl⟩
  · exact ⟨_, _, rfl⟩
theorem Src.there {s : Nat} {w : World} {v : Value} {n : Nat} {cs : List Value} (h : Src s w v n cs) (h0 : 0 < n) : ∃ b o c, v = .slice (some ⟨b, o, none⟩) n c ∧ ∀ j u, cs[j]? = some u → w.cell? ⟨b, o + j, none⟩ = some u := by
  rcases h.lie with ⟨_, rfl⟩ | ⟨⟨b, o, sp⟩, c, h1, _, _, h4, _, h6⟩
  · omega
  · obtain rfl : sp = none := h4 h0
    exact ⟨b, o, c, h1, fun j u hu => by have := h6 j u hu; rwa [addr_add] at this⟩
end Go.Proofs.Ytbbfajbnklgncaa

/- Lists of numbers that are lent: LentInts, SameInts, WholeInts, SpoilInts. -/
namespace Go.Proofs.Ytbbfajbnklgncaa
open Go.RowKit Go.Shelf

theorem Try.infoIL : (Try.prog.info? 3).map (fun i => (i.zero, i.size, i.bytes)) = some (some (.int .i64 0), 1, 8) := by kernel_rfl
def marksI : List Value := [.int .i64 (-771), .int .i64 (-772)]
def spoilI : Value := .int .i64 (-5)
theorem make_roomI (w : World) (k : Nat) (hk : k ≤ 20000000000000) : Sem.run Try.prog (Instr.makeSlice 83 (.int .i64 0) (.int .i64 ((k : Int) + 2))) w = .ok (.slice (some ⟨w.heap.size, 0, none⟩) 0 (k + 2)) (w.alloc (.cells (madeCells (Value.cells (.int .i64 0)) ((k + 2) * 1)) 3)) := by
  obtain ⟨i, hi, hz, hs, hb⟩ := info_parts Try.infoIL
  have h := run_make (P := Try.prog) w 83 3 i _ Try.underlying83 hi hz .i64 .i64 0 ((k : Int) + 2) (by omega) (by omega) (by rw [hb]; omega) (by omega)
  rw [h, hs, show ((k : Int) + 2).toNat = k + 2 from by omega]
  rfl
theorem append_noneI (w : World) (g c : Nat) (ty : TypeId) : (Builtin.append_ #[83, 83] ty #[.slice (some ⟨g, 0, none⟩) 0 c, .slice none 0 0]).run Try.prog w = .ok (.slice (some ⟨g, 0, none⟩) 0 c) w := by
  go_simp
set_option maxHeartbeats 1600000 in
set_option maxRecDepth 10000 in
theorem lentInts_any (v : Value) (n : Nat) (cs : List Value) (w : World) (h : Src 1 w v n cs) (hn : n ≤ 17592186044416) :
    Calls Try.prog 47 #[v] w fun e w' => ∃ b, e = .returned (.slice (some ⟨b, 0, none⟩) n (n + 2)) ∧ LentG 3 1 w' b n cs marksI ∧ w.heap.size ≤ b ∧ Kept [] w w' := by
  have hmk := make_roomI w n (by omega)
  obtain ⟨inf, hi1, hi2, hi3, hi4⟩ := info_parts Try.infoIL
  have HINF : Hid (Try.prog.info? 3 = some inf ∧ inf.size = 1) := ⟨hi1, hi3⟩
  have HSM : Hid (cs.length = n * 1 ∧ ∀ u ∈ cs, u.oneCell' = true) := ⟨h.len, h.one⟩
  have hw : IntKind.i64.wrap ((n : Int) + 2) = (n : Int) + 2 := by rw [IntKind.wrap_i64]; omega
  have k0 : (0 : Int) ≤ (n : Int) := by omega
  have k1 : (n : Int) ≤ (n : Int) + 2 := by omega
  obtain ⟨W0, hW0⟩ : ∃ W0, w.alloc (.cells (madeCells (Value.cells (.int .i64 0)) ((n + 2) * 1)) 3) = W0 := ⟨_, rfl⟩
  have HW0 : Hid (Kept [] w W0) := by show Kept [] w W0; rw [← hW0]; exact (Kept.refl [] w).alloc _
  have HR0 : Hid (W0.ownsRow w.heap.size 3 1 (.slice (some ⟨w.heap.size, 0, none⟩) 0 (n + 2)) 0 []) := by
    show World.ownsRow _ _ _ _ _ _ _
    rw [← hW0]
    exact ⟨rfl, .inr ⟨_, _, _, rfl, Nat.le_refl _, heap_alloc_new _ _, Nat.zero_le _, by unfold maxLen; omega, size_madeCells _ _, by simp⟩⟩
  rw [hW0] at hmk
  clear hW0 hi1 hi2 hi3 hi4
  rcases h.lie with ⟨rfl, rfl⟩ | ⟨ad, c, rfl, hc1, hc2, hC1, hC2, hC⟩
  · obtain rfl : cs = [] := List.length_eq_zero_iff.1 (by have := HSM.out.1; omega)
    clear h
    simp only [Int.natCast_zero, Int.zero_add, Nat.zero_add] at hmk HR0
    clear hw k0 k1
    have hp : ∀ j u, (marksI)[j]? = some u → (W0.alloc (.cells #[.int .i64 (-771), .int .i64 (-772)] 3)).cell? ((⟨W0.heap.size, 0, none⟩ : Addr).add j) = some u := World.news_of_block (cs := #[.int .i64 (-771), .int .i64 (-772)]) (t := 3) (fr := (0, 0)) (heap_alloc_new W0 _)
    obtain ⟨W7, hrun, hr7, hg7⟩ := run_append_fits (P := Try.prog) (W0.alloc (.cells #[.int .i64 (-771), .int .i64 (-772)] 3)) w.heap.size 83 83 3 inf 1 Try.underlying83 HINF.out.1 HINF.out.2 w.heap.size 0 2 [] (bx_keptL HR0.out ((Kept.refl [] _).alloc _) (by simp)) ⟨W0.heap.size, 0, none⟩ 2 2 marksI rfl hp (by simp [marksI, Value.oneCell']) (by omega)
    have HRUN : Hid ((Builtin.append_ #[83, 83] 83 #[.slice (some ⟨w.heap.size, 0, none⟩) 0 2, .slice (some ⟨W0.heap.size, 0, none⟩) 2 2]).run Try.prog (W0.alloc (.cells #[.int .i64 (-771), .int .i64 (-772)] 3)) = .ok (.slice (some ⟨w.heap.size, 0, none⟩) 2 2) W7) := hrun
    have HR7 : Hid (W7.ownsRow w.heap.size 3 1 (.slice (some ⟨w.heap.size, 0, none⟩) 2 2) 2 ([] ++ marksI)) := hr7
    have HG7 : Hid (Kept [] w W7) := (HW0.out.alloc _).grown hg7 (fun k hk => by simp at hk; right; omega)
    clear hrun hr7 hg7 hp
    have T1 : Hid True := trivial
    go_enter Try.func47, Try.ntmps47
    go_wp2_with (first
      | (clear T1; at_builtin; refine Lib.wpList_append_run _ rfl _ _ _ _ rfl _ _ rfl rfl _ _ (append_noneI W0 w.heap.size 2 _) ?_)
      | (at_builtin; refine Lib.wpList_append_run _ rfl _ _ _ _ rfl _ _ rfl rfl _ _ HRUN.out ?_))
    refine bodyPost_ret (results_tmp rfl _ _ _) (by rfl) ?_
    exact ⟨w.heap.size, rfl, lentG_of (n := 0) HR7.out rfl rfl rfl (by omega), Nat.le_refl _, HG7.out⟩
  · have HN : Hid (∀ W, Kept [] w W → ∀ j u, cs[j]? = some u → W.cell? (ad.add j) = some u) := fun W k => (h.kept k).cellsAt
    have T1 : Hid True := trivial
    clear h hC1 hC2 hC
    go_enter Try.func47, Try.ntmps47
    go_wp2_with (first
      | (clear T1; at_builtin; refine wpList_append_fits _ rfl _ _ 83 rfl w.heap.size 3 inf 1 Try.underlying83 HINF.out.1 HINF.out.2 w.heap.size 0 (n + 2) [] rfl HR0.out ad n c cs rfl HSM.out.1 (HN.out _ HW0.out) HSM.out.2 (by omega) ?_; intro W6 hr6 hg6; have HR6 : Hid (W6.ownsRow w.heap.size 3 1 (.slice (some ⟨w.heap.size, 0, none⟩) n (n + 2)) n cs) := own_zeroG hr6; have HG6 : Hid (Kept [] w W6) := HW0.out.grown hg6 (fun k hk => by simp at hk; right; omega); clear hr6 hg6)
      | (at_builtin; obtain ⟨W7, hrun, hr7, hg7⟩ := run_append_fits (P := Try.prog) (W6.alloc (.cells #[.int .i64 (-771), .int .i64 (-772)] 3)) w.heap.size 83 83 3 inf 1 Try.underlying83 HINF.out.1 HINF.out.2 w.heap.size n (n + 2) cs (bx_keptL HR6.out ((Kept.refl [] _).alloc _) (by simp)) ⟨W6.heap.size, 0, none⟩ 2 2 marksI rfl (World.news_of_block (cs := #[.int .i64 (-771), .int .i64 (-772)]) (t := 3) (fr := (0, 0)) (heap_alloc_new W6 _)) (by simp [marksI, Value.oneCell']) (by omega); refine Lib.wpList_append_run _ rfl _ _ _ _ rfl _ _ rfl rfl _ _ hrun ?_; have HR7 : Hid (W7.ownsRow w.heap.size 3 1 (.slice (some ⟨w.heap.size, 0, none⟩) (n + 2) (n + 2)) (n + 2) (cs ++ marksI)) := hr7; have HG7 : Hid (Kept [] w W7) := (HG6.out.alloc _).grown hg7 (fun k hk => by simp at hk; right; omega); clear hrun hr7 hg7))
    go_ret
    exact ⟨w.heap.size, rfl, lentG_of HR7.out HSM.out.1 rfl rfl (by omega), Nat.le_refl _, HG7.out⟩
def cellsI (xs : List Int) : List Value := xs.map fun x => Value.int .i64 x
theorem cellsI_at {xs : List Int} {k : Nat} (h : k < xs.length) : (cellsI xs)[k]? = some ((fun x => Value.int .i64 x) xs[k]) := by simp [cellsI, h]
theorem cellsI_one (xs : List Int) : ∀ u ∈ cellsI xs, u.oneCell' = true := by
  intro u hu
  obtain ⟨x, _, rfl⟩ := List.mem_map.1 hu
  rfl
set_option maxHeartbeats 1600000 in
set_option maxRecDepth 10000 in
theorem sameInts_eq (v u : Value) (xs : List Int) (w : World) (hx : Src 1 w v xs.length (cellsI xs)) (hy : Src 1 w u xs.length (cellsI xs)) (hf : xs.length ≤ 20000000000000) :
    Calls Try.prog 70 #[v, u] w fun e w' => e = .returned (.bool true) ∧ Kept [] w w' := by
  by_cases h0 : 0 < xs.length
  · obtain ⟨b, o, c, rfl, HC⟩ := hx.there h0
    obtain ⟨b2, o2, c2, rfl, HC2⟩ := hy.there h0
    have HCC : Hid (∀ k (h : k < xs.length), w.cell? ⟨b, o + k, none⟩ = some ((fun x => Value.int .i64 x) xs[k]) ∧ w.cell? ⟨b2, o2 + k, none⟩ = some ((fun x => Value.int .i64 x) xs[k])) := fun k h => ⟨HC k _ (cellsI_at h), HC2 k _ (cellsI_at h)⟩
    have hnl : ((xs.length : Int) != (xs.length : Int)) = false := by simp
    clear hx hy HC HC2
    go_enter Try.func70, Try.ntmps70
    go_wp2_with fail
    go_loopw [5] (fun i wr => ∃ k : Nat, k ≤ xs.length ∧ i = .int .i64 (k : Nat) ∧ Kept [] w wr) (fun i _ => xs.length - (intOf i).toNat)
    case atStart => exact ⟨0, Nat.zero_le _, rfl, Kept.refl [] w⟩
    case round =>
      obtain ⟨k, hk, rfl, hkw⟩ := hrel
      by_cases hlt : k < xs.length
      · have hlt' : (k : Int) < (xs.length : Int) := by omega
        obtain ⟨d1, d2⟩ := HCC.out k hlt
        have d1 := cell_kept0 hkw d1
        have d2 := cell_kept0 hkw d2
        have b0 : (0 : Int) ≤ (k : Int) := by omega
        have HKW : Hid (Kept [] w wr) := hkw
        generalize xs[k] = x at d1 d2
        have hne : ((x : Int) != (x : Int)) = false := by simp
        clear hkw
        go_wp2_with fail
        go_quiet (fail)
        go_wp2
        go_roundw
        case rel => exact ⟨k + 1, by omega, by go_num, HKW.out.drewN _⟩
        case measure => simp [intOf]; omega
      · have hlt' : ¬ (k : Int) < (xs.length : Int) := by omega
        go_wp2
        go_ret
        exact ⟨rfl, hkw⟩
  · obtain ⟨ad, c, rfl⟩ := hx.form
    obtain ⟨ad2, c2, rfl⟩ := hy.form
    obtain ⟨n, hn⟩ : ∃ n, xs.length = n := ⟨_, rfl⟩
    rw [hn]
    obtain rfl : n = 0 := by omega
    clear hx hy hn h0 hf
    go_enter Try.func70, Try.ntmps70
    go_wp2_with fail
    refine wp_loop_rounds 1 ?_
    rw [rounds_succ]
    go_wp2_with fail
    go_ret
    exact ⟨rfl, Kept.refl [] w⟩
set_option maxHeartbeats 1600000 in
set_option maxRecDepth 10000 in
theorem wholeInts_any (b : Nat) (u : Value) (xs : List Int) (w : World) (h : LentG 3 1 w b xs.length (cellsI xs) marksI) (hu : Src 1 w u xs.length (cellsI xs)) :
    Calls Try.prog 56 #[.slice (some ⟨b, 0, none⟩) xs.length (xs.length + 2), u] w fun e w' => e = .returned (.bool true) ∧ Kept [] w w' := by
  have hf := h.few
  have m0 : w.cell? ⟨b, xs.length, none⟩ = some (.int .i64 (-771)) := by have := h.mark (j := 0) rfl; rwa [Nat.mul_one, Nat.add_zero] at this
  have m1 : w.cell? ⟨b, xs.length + 1, none⟩ = some (.int .i64 (-772)) := by have := h.mark (j := 1) rfl; rwa [Nat.mul_one] at this
  have HC : Hid (∀ W, Kept [] w W → Calls Try.prog 70 #[.slice (some ⟨b, 0, none⟩) xs.length (xs.length + 2), u] W fun e w1 => e = .returned (.bool true) ∧ Kept [] W w1) := fun W k => sameInts_eq _ _ xs W ((h.src (cellsI_one xs)).kept k) (hu.kept k) hf
  obtain ⟨ad, c, rfl⟩ := hu.form
  clear h hu
  generalize xs.length = n at *
  have b1 : ¬ ((n : Int) + 2 < (n : Int) + 2) := by omega
  go_enter Try.func56, Try.ntmps56
  go_wp2_with (go_at_call 70; refine (HC.out _ (Kept.refl [] _)).mono ?_; rintro e w1 ⟨rfl, hk1⟩; have HK1 : Hid (Kept [] w w1) := hk1; clear hk1)
  go_ret
  exact ⟨rfl, HK1.out⟩
set_option maxHeartbeats 1600000 in
set_option maxRecDepth 10000 in
theorem spoilInts_any (b n : Nat) (cs : List Value) (w : World) (h : LentG 3 1 w b n cs marksI) :
    Calls Try.prog 58 #[.slice (some ⟨b, 0, none⟩) n (n + 2)] w fun e w' => (∃ v, e = .returned v) ∧ Kept [b] w w' ∧ w'.heap[b]? = some (.cells (List.replicate (n + 2) spoilI).toArray 3 (0, 0)) := by
  have hf := h.few
  have hlen : (cs ++ marksI).length = n + 2 := by rw [List.length_append, h.len, h.mlen]; omega
  have HR : Hid (w.heap[b]? = some (.cells (spoiltG spoilI (cs ++ marksI) 0).toArray 3 (0, 0))) := h.row
  have HLN : Hid ((cs ++ marksI).length = n + 2) := hlen
  have HE : Hid (spoiltG spoilI (cs ++ marksI) (n + 2) = List.replicate (n + 2) spoilI) := by show spoiltG _ _ _ = _; rw [← hlen]; exact spoiltG_end _ _
  generalize cs ++ marksI = l at *
  clear h hlen
  go_enter Try.func58, Try.ntmps58
  go_wp2_with fail
  go_loopw [3] (fun v wr => ∃ i : Nat, v = .int .i64 (i : Nat) ∧ i ≤ n + 2 ∧ Hid (wr.heap[b]? = some (.cells (spoiltG spoilI l i).toArray 3 (0, 0))) ∧ Hid (Kept [b] w wr)) (fun v _ => n + 2 - (intOf v).toNat)
  case atStart => exact ⟨0, rfl, Nat.zero_le _, HR.out, Kept.refl _ _⟩
  case round =>
    obtain ⟨i, rfl, hi, HB, HK⟩ := hrel
    by_cases hlt : i < n + 2
    · have l1 : (i : Int) < (n : Int) + 2 := by omega
      have l0 : (0 : Int) ≤ (i : Int) := by omega
      have hll : i < l.length := by rw [HLN.out]; exact hlt
      obtain ⟨x, hx⟩ : ∃ x, wr.cell? ⟨b, i, none⟩ = some x := ⟨_, (cell_of HB.out i).trans (Array.getElem?_eq_getElem (by simp [spoiltG]; omega))⟩
      have f0 : wr.frozen? ⟨b, i, none⟩ = false := free_of HB.out i
      have HS : Hid ((wr.setCell ⟨b, i, none⟩ (.int .i64 (-5))).heap[b]? = some (.cells (spoiltG spoilI l (i + 1)).toArray 3 (0, 0))) := by
        show _ = _
        rw [← spoiltG_step spoilI l i hll]
        exact row_set HB.out _
      clear hll
      go_wp2
      go_roundw
      case rel => exact ⟨i + 1, by go_num, by omega, HS.out, HK.out.setCell (.inl (by simp)) _⟩
      case measure => simp [intOf]; omega
    · obtain rfl : i = n + 2 := by omega
      have l1 : ¬ (((n + 2 : Nat) : Int) < (n : Int) + 2) := by omega
      go_wp2
      first | go_end0 | refine bodyPost_ret (results_none rfl _ _ _) rfl ?_
      exact ⟨⟨_, rfl⟩, HK.out, by have hb := HB.out; rw [HE.out] at hb; simpa using hb⟩
end Go.Proofs.Ytbbfajbnklgncaa

/- Lists of bools that are lent: LentBools, SameBools, WholeBools, SpoilBools. -/
namespace Go.Proofs.Ytbbfajbnklgncaa
open Go.RowKit Go.Shelf

theorem Try.infoWL : (Try.prog.info? 4).map (fun i => (i.zero, i.size, i.bytes)) = some (some (.bool false), 1, 1) := by kernel_rfl
def marksW : List Value := [.bool true, .bool false]
def spoilW : Value := .bool true
theorem make_roomW (w : World) (k : Nat) (hk : k ≤ 20000000000000) : Sem.run Try.prog (Instr.makeSlice 90 (.int .i64 0) (.int .i64 ((k : Int) + 2))) w = .ok (.slice (some ⟨w.heap.size, 0, none⟩) 0 (k + 2)) (w.alloc (.cells (madeCells (Value.cells (.bool false)) ((k + 2) * 1)) 4)) := by
  obtain ⟨i, hi, hz, hs, hb⟩ := info_parts Try.infoWL
  have h := run_make (P := Try.prog) w 90 4 i _ Try.underlying90 hi hz .i64 .i64 0 ((k : Int) + 2) (by omega) (by omega) (by rw [hb]; omega) (by omega)
  rw [h, hs, show ((k : Int) + 2).toNat = k + 2 from by omega]
  rfl
theorem append_noneW (w : World) (g c : Nat) (ty : TypeId) : (Builtin.append_ #[90, 90] ty #[.slice (some ⟨g, 0, none⟩) 0 c, .slice none 0 0]).run Try.prog w = .ok (.slice (some ⟨g, 0, none⟩) 0 c) w := by
  go_simp
def cellsW (xs : List Bool) : List Value := xs.map fun x => Value.bool x
theorem cellsW_at {xs : List Bool} {k : Nat} (h : k < xs.length) : (cellsW xs)[k]? = some ((fun x => Value.bool x) xs[k]) := by simp [cellsW, h]
theorem cellsW_one (xs : List Bool) : ∀ u ∈ cellsW xs, u.oneCell' = true := by
  intro u hu
  obtain ⟨x, _, rfl⟩ := List.mem_map.1 hu
  rfl
end Go.Proofs.Ytbbfajbnklgncaa

/- Lists of texts that are lent: LentTexts, SameTexts, WholeTexts, SpoilTexts. -/
namespace Go.Proofs.Ytbbfajbnklgncaa
open Go.RowKit Go.Shelf

theorem Try.infoTL : (Try.prog.info? 9).map (fun i => (i.zero, i.size, i.bytes)) = some (some (.string ⟨#[]⟩), 1, 16) := by kernel_rfl
def marksT : List Value := [.string ⟨#[116, 104, 101, 32, 111, 119, 110, 101, 114, 39, 115]⟩, .string ⟨#[116, 104, 101, 32, 111, 119, 110, 101, 114, 39, 115]⟩]
def spoilT : Value := .string ⟨#[115, 112, 111, 105, 108, 116]⟩
theorem make_roomT (w : World) (k : Nat) (hk : k ≤ 8796093022208) : Sem.run Try.prog (Instr.makeSlice 22 (.int .i64 0) (.int .i64 ((k : Int) + 2))) w = .ok (.slice (some ⟨w.heap.size, 0, none⟩) 0 (k + 2)) (w.alloc (.cells (madeCells (Value.cells (.string ⟨#[]⟩)) ((k + 2) * 1)) 9)) := by
  obtain ⟨i, hi, hz, hs, hb⟩ := info_parts Try.infoTL
  have h := run_make (P := Try.prog) w 22 9 i _ Try.underlying22 hi hz .i64 .i64 0 ((k : Int) + 2) (by omega) (by omega) (by rw [hb]; omega) (by omega)
  rw [h, hs, show ((k : Int) + 2).toNat = k + 2 from by omega]
  rfl
theorem append_noneT (w : World) (g c : Nat) (ty : TypeId) : (Builtin.append_ #[22, 22] ty #[.slice (some ⟨g, 0, none⟩) 0 c, .slice none 0 0]).run Try.prog w = .ok (.slice (some ⟨g, 0, none⟩) 0 c) w := by
  go_simp
set_option maxHeartbeats 1600000 in
set_option maxRecDepth 10000 in
theorem lentTexts_any (v : Value) (n : Nat) (cs : List Value) (w : World) (h : Src 1 w v n cs) (hn : n ≤ 8796093022208) :
    Calls Try.prog 25 #[v] w fun e w' => ∃ b, e = .returned (.slice (some ⟨b, 0, none⟩) n (n + 2)) ∧ LentG 9 1 w' b n cs marksT ∧ w.heap.size ≤ b ∧ Kept [] w w' := by
  have hmk := make_roomT w n (by omega)
  obtain ⟨inf, hi1, hi2, hi3, hi4⟩ := info_parts Try.infoTL
  have HINF : Hid (Try.prog.info? 9 = some inf ∧ inf.size = 1) := ⟨hi1, hi3⟩
  have HSM : Hid (cs.length = n * 1 ∧ ∀ u ∈ cs, u.oneCell' = true) := ⟨h.len, h.one⟩
  have hw : IntKind.i64.wrap ((n : Int) + 2) = (n : Int) + 2 := by rw [IntKind.wrap_i64]; omega
  have k0 : (0 : Int) ≤ (n : Int) := by omega
  have k1 : (n : Int) ≤ (n : Int) + 2 := by omega
  obtain ⟨W0, hW0⟩ : ∃ W0, w.alloc (.cells (madeCells (Value.cells (.string ⟨#[]⟩)) ((n + 2) * 1)) 9) = W0 := ⟨_, rfl⟩
  have HW0 : Hid (Kept [] w W0) := by show Kept [] w W0; rw [← hW0]; exact (Kept.refl [] w).alloc _
  have HR0 : Hid (W0.ownsRow w.heap.size 9 1 (.slice (some ⟨w.heap.size, 0, none⟩) 0 (n + 2)) 0 []) := by
    show World.ownsRow _ _ _ _ _ _ _
    rw [← hW0]
    exact ⟨rfl, .inr ⟨_, _, _, rfl, Nat.le_refl _, heap_alloc_new _ _, Nat.zero_le _, by unfold maxLen; omega, size_madeCells _ _, by simp⟩⟩
  rw [hW0] at hmk
  clear hW0 hi1 hi2 hi3 hi4
  rcases h.lie with ⟨rfl, rfl⟩ | ⟨ad, c, rfl, hc1, hc2, hC1, hC2, hC⟩
  · obtain rfl : cs = [] := List.length_eq_zero_iff.1 (by have := HSM.out.1; omega)
    clear h
    simp only [Int.natCast_zero, Int.zero_add, Nat.zero_add] at hmk HR0
    clear hw k0 k1
    have hp : ∀ j u, (marksT)[j]? = some u → (W0.alloc (.cells #[.string ⟨#[116, 104, 101, 32, 111, 119, 110, 101, 114, 39, 115]⟩, .string ⟨#[116, 104, 101, 32, 111, 119, 110, 101, 114, 39, 115]⟩] 9)).cell? ((⟨W0.heap.size, 0, none⟩ : Addr).add j) = some u := World.news_of_block (cs := #[.string ⟨#[116, 104, 101, 32, 111, 119, 110, 101, 114, 39, 115]⟩, .string ⟨#[116, 104, 101, 32, 111, 119, 110, 101, 114, 39, 115]⟩]) (t := 9) (fr := (0, 0)) (heap_alloc_new W0 _)
    obtain ⟨W7, hrun, hr7, hg7⟩ := run_append_fits (P := Try.prog) (W0.alloc (.cells #[.string ⟨#[116, 104, 101, 32, 111, 119, 110, 101, 114, 39, 115]⟩, .string ⟨#[116, 104, 101, 32, 111, 119, 110, 101, 114, 39, 115]⟩] 9)) w.heap.size 22 22 9 inf 1 Try.underlying22 HINF.out.1 HINF.out.2 w.heap.size 0 2 [] (bx_keptL HR0.out ((Kept.refl [] _).alloc _) (by simp)) ⟨W0.heap.size, 0, none⟩ 2 2 marksT rfl hp (by simp [marksT, Value.oneCell']) (by omega)
    have HRUN : Hid ((Builtin.append_ #[22, 22] 22 #[.slice (some ⟨w.heap.size, 0, none⟩) 0 2, .slice (some ⟨W0.heap.size, 0, none⟩) 2 2]).run Try.prog (W0.alloc (.cells #[.string ⟨#[116, 104, 101, 32, 111, 119, 110, 101, 114, 39, 115]⟩, .string ⟨#[116, 104, 101, 32, 111, 119, 110, 101, 114, 39, 115]⟩] 9)) = .ok (.slice (some ⟨w.heap.size, 0, none⟩) 2 2) W7) := hrun
    have HR7 : Hid (W7.ownsRow w.heap.size 9 1 (.slice (some ⟨w.heap.size, 0, none⟩) 2 2) 2 ([] ++ marksT)) := hr7
    have HG7 : Hid (Kept [] w W7) := (HW0.out.alloc _).grown hg7 (fun k hk => by simp at hk; right; omega)
    clear hrun hr7 hg7 hp
    have T1 : Hid True := trivial
    go_enter Try.func25, Try.ntmps25
    go_wp2_with (first
      | (clear T1; at_builtin; refine Lib.wpList_append_run _ rfl _ _ _ _ rfl _ _ rfl rfl _ _ (append_noneT W0 w.heap.size 2 _) ?_)
      | (at_builtin; refine Lib.wpList_append_run _ rfl _ _ _ _ rfl _ _ rfl rfl _ _ HRUN.out ?_))
    refine bodyPost_ret (results_tmp rfl _ _ _) (by rfl) ?_
    exact ⟨w.heap.size, rfl, lentG_of (n := 0) HR7.out rfl rfl rfl (by omega), Nat.le_refl _, HG7.out⟩
  · have HN : Hid (∀ W, Kept [] w W → ∀ j u, cs[j]? = some u → W.cell? (ad.add j) = some u) := fun W k => (h.kept k).cellsAt
    have T1 : Hid True := trivial
    clear h hC1 hC2 hC
    go_enter Try.func25, Try.ntmps25
    go_wp2_with (first
      | (clear T1; at_builtin; refine wpList_append_fits _ rfl _ _ 22 rfl w.heap.size 9 inf 1 Try.underlying22 HINF.out.1 HINF.out.2 w.heap.size 0 (n + 2) [] rfl HR0.out ad n c cs rfl HSM.out.1 (HN.out _ HW0.out) HSM.out.2 (by omega) ?_; intro W6 hr6 hg6; have HR6 : Hid (W6.ownsRow w.heap.size 9 1 (.slice (some ⟨w.heap.size, 0, none⟩) n (n + 2)) n cs) := own_zeroG hr6; have HG6 : Hid (Kept [] w W6) := HW0.out.grown hg6 (fun k hk => by simp at hk; right; omega); clear hr6 hg6)
      | (at_builtin; obtain ⟨W7, hrun, hr7, hg7⟩ := run_append_fits (P := Try.prog) (W6.alloc (.cells #[.string ⟨#[116, 104, 101, 32, 111, 119, 110, 101, 114, 39, 115]⟩, .string ⟨#[116, 104, 101, 32, 111, 119, 110, 101, 114, 39, 115]⟩] 9)) w.heap.size 22 22 9 inf 1 Try.underlying22 HINF.out.1 HINF.out.2 w.heap.size n (n + 2) cs (bx_keptL HR6.out ((Kept.refl [] _).alloc _) (by simp)) ⟨W6.heap.size, 0, none⟩ 2 2 marksT rfl (World.news_of_block (cs := #[.string ⟨#[116, 104, 101, 32, 111, 119, 110, 101, 114, 39, 115]⟩, .string ⟨#[116, 104, 101, 32, 111, 119, 110, 101, 114, 39, 115]⟩]) (t := 9) (fr := (0, 0)) (heap_alloc_new W6 _)) (by simp [marksT, Value.oneCell']) (by omega); refine Lib.wpList_append_run _ rfl _ _ _ _ rfl _ _ rfl rfl _ _ hrun ?_; have HR7 : Hid (W7.ownsRow w.heap.size 9 1 (.slice (some ⟨w.heap.size, 0, none⟩) (n + 2) (n + 2)) (n + 2) (cs ++ marksT)) := hr7; have HG7 : Hid (Kept [] w W7) := (HG6.out.alloc _).grown hg7 (fun k hk => by simp at hk; right; omega); clear hrun hr7 hg7))
    go_ret
    exact ⟨w.heap.size, rfl, lentG_of HR7.out HSM.out.1 rfl rfl (by omega), Nat.le_refl _, HG7.out⟩
def cellsT (xs : List ByteArray) : List Value := xs.map fun x => Value.string x
theorem cellsT_at {xs : List ByteArray} {k : Nat} (h : k < xs.length) : (cellsT xs)[k]? = some ((fun x => Value.string x) xs[k]) := by simp [cellsT, h]
theorem cellsT_one (xs : List ByteArray) : ∀ u ∈ cellsT xs, u.oneCell' = true := by
  intro u hu
  obtain ⟨x, _, rfl⟩ := List.mem_map.1 hu
  rfl
set_option maxHeartbeats 1600000 in
set_option maxRecDepth 10000 in
theorem sameTexts_eq (v u : Value) (xs : List ByteArray) (w : World) (hx : Src 1 w v xs.length (cellsT xs)) (hy : Src 1 w u xs.length (cellsT xs)) (hf : xs.length ≤ 20000000000000) :
    Calls Try.prog 55 #[v, u] w fun e w' => e = .returned (.bool true) ∧ Kept [] w w' := by
  by_cases h0 : 0 < xs.length
  · obtain ⟨b, o, c, rfl, HC⟩ := hx.there h0
    obtain ⟨b2, o2, c2, rfl, HC2⟩ := hy.there h0
    have HCC : Hid (∀ k (h : k < xs.length), w.cell? ⟨b, o + k, none⟩ = some ((fun x => Value.string x) xs[k]) ∧ w.cell? ⟨b2, o2 + k, none⟩ = some ((fun x => Value.string x) xs[k])) := fun k h => ⟨HC k _ (cellsT_at h), HC2 k _ (cellsT_at h)⟩
    have hnl : ((xs.length : Int) != (xs.length : Int)) = false := by simp
    clear hx hy HC HC2
    go_enter Try.func55, Try.ntmps55
    go_wp2_with fail
    go_loopw [5] (fun i wr => ∃ k : Nat, k ≤ xs.length ∧ i = .int .i64 (k : Nat) ∧ Kept [] w wr) (fun i _ => xs.length - (intOf i).toNat)
    case atStart => exact ⟨0, Nat.zero_le _, rfl, Kept.refl [] w⟩
    case round =>
      obtain ⟨k, hk, rfl, hkw⟩ := hrel
      by_cases hlt : k < xs.length
      · have hlt' : (k : Int) < (xs.length : Int) := by omega
        obtain ⟨d1, d2⟩ := HCC.out k hlt
        have d1 := cell_kept0 hkw d1
        have d2 := cell_kept0 hkw d2
        have b0 : (0 : Int) ≤ (k : Int) := by omega
        have HKW : Hid (Kept [] w wr) := hkw
        generalize xs[k] = x at d1 d2
        have hne : (x.data.toList != x.data.toList) = false := by simp
        clear hkw
        go_wp2_with fail
        go_quiet (fail)
        go_wp2
        go_roundw
        case rel => exact ⟨k + 1, by omega, by go_num, HKW.out.drewN _⟩
        case measure => simp [intOf]; omega
      · have hlt' : ¬ (k : Int) < (xs.length : Int) := by omega
        go_wp2
        go_ret
        exact ⟨rfl, hkw⟩
  · obtain ⟨ad, c, rfl⟩ := hx.form
    obtain ⟨ad2, c2, rfl⟩ := hy.form
    obtain ⟨n, hn⟩ : ∃ n, xs.length = n := ⟨_, rfl⟩
    rw [hn]
    obtain rfl : n = 0 := by omega
    clear hx hy hn h0 hf
    go_enter Try.func55, Try.ntmps55
    go_wp2_with fail
    refine wp_loop_rounds 1 ?_
    rw [rounds_succ]
    go_wp2_with fail
    go_ret
    exact ⟨rfl, Kept.refl [] w⟩
set_option maxHeartbeats 1600000 in
set_option maxRecDepth 10000 in
theorem wholeTexts_any (b : Nat) (u : Value) (xs : List ByteArray) (w : World) (h : LentG 9 1 w b xs.length (cellsT xs) marksT) (hu : Src 1 w u xs.length (cellsT xs)) :
    Calls Try.prog 30 #[.slice (some ⟨b, 0, none⟩) xs.length (xs.length + 2), u] w fun e w' => e = .returned (.bool true) ∧ Kept [] w w' := by
  have hf := h.few
  have m0 : w.cell? ⟨b, xs.length, none⟩ = some (.string ⟨#[116, 104, 101, 32, 111, 119, 110, 101, 114, 39, 115]⟩) := by have := h.mark (j := 0) rfl; rwa [Nat.mul_one, Nat.add_zero] at this
  have m1 : w.cell? ⟨b, xs.length + 1, none⟩ = some (.string ⟨#[116, 104, 101, 32, 111, 119, 110, 101, 114, 39, 115]⟩) := by have := h.mark (j := 1) rfl; rwa [Nat.mul_one] at this
  have HC : Hid (∀ W, Kept [] w W → Calls Try.prog 55 #[.slice (some ⟨b, 0, none⟩) xs.length (xs.length + 2), u] W fun e w1 => e = .returned (.bool true) ∧ Kept [] W w1) := fun W k => sameTexts_eq _ _ xs W ((h.src (cellsT_one xs)).kept k) (hu.kept k) hf
  obtain ⟨ad, c, rfl⟩ := hu.form
  clear h hu
  generalize xs.length = n at *
  have b1 : ¬ ((n : Int) + 2 < (n : Int) + 2) := by omega
  go_enter Try.func30, Try.ntmps30
  go_wp2_with (go_at_call 55; refine (HC.out _ (Kept.refl [] _)).mono ?_; rintro e w1 ⟨rfl, hk1⟩; have HK1 : Hid (Kept [] w w1) := hk1; clear hk1)
  go_ret
  exact ⟨rfl, HK1.out⟩
set_option maxHeartbeats 1600000 in
set_option maxRecDepth 10000 in
theorem spoilTexts_any (b n : Nat) (cs : List Value) (w : World) (h : LentG 9 1 w b n cs marksT) :
    Calls Try.prog 33 #[.slice (some ⟨b, 0, none⟩) n (n + 2)] w fun e w' => (∃ v, e = .returned v) ∧ Kept [b] w w' ∧ w'.heap[b]? = some (.cells (List.replicate (n + 2) spoilT).toArray 9 (0, 0)) := by
  have hf := h.few
  have hlen : (cs ++ marksT).length = n + 2 := by rw [List.length_append, h.len, h.mlen]; omega
  have HR : Hid (w.heap[b]? = some (.cells (spoiltG spoilT (cs ++ marksT) 0).toArray 9 (0, 0))) := h.row
  have HLN : Hid ((cs ++ marksT).length = n + 2) := hlen
  have HE : Hid (spoiltG spoilT (cs ++ marksT) (n + 2) = List.replicate (n + 2) spoilT) := by show spoiltG _ _ _ = _; rw [← hlen]; exact spoiltG_end _ _
  generalize cs ++ marksT = l at *
  clear h hlen
  go_enter Try.func33, Try.ntmps33
  go_wp2_with fail
  go_loopw [3] (fun v wr => ∃ i : Nat, v = .int .i64 (i : Nat) ∧ i ≤ n + 2 ∧ Hid (wr.heap[b]? = some (.cells (spoiltG spoilT l i).toArray 9 (0, 0))) ∧ Hid (Kept [b] w wr)) (fun v _ => n + 2 - (intOf v).toNat)
  case atStart => exact ⟨0, rfl, Nat.zero_le _, HR.out, Kept.refl _ _⟩
  case round =>
    obtain ⟨i, rfl, hi, HB, HK⟩ := hrel
    by_cases hlt : i < n + 2
    · have l1 : (i : Int) < (n : Int) + 2 := by omega
      have l0 : (0 : Int) ≤ (i : Int) := by omega
      have hll : i < l.length := by rw [HLN.out]; exact hlt
      obtain ⟨x, hx⟩ : ∃ x, wr.cell? ⟨b, i, none⟩ = some x := ⟨_, (cell_of HB.out i).trans (Array.getElem?_eq_getElem (by simp [spoiltG]; omega))⟩
      have f0 : wr.frozen? ⟨b, i, none⟩ = false := free_of HB.out i
      have HS : Hid ((wr.setCell ⟨b, i, none⟩ (.string ⟨#[115, 112, 111, 105, 108, 116]⟩)).heap[b]? = some (.cells (spoiltG spoilT l (i + 1)).toArray 9 (0, 0))) := by
        show _ = _
        rw [← spoiltG_step spoilT l i hll]
        exact row_set HB.out _
      clear hll
      go_wp2
      go_roundw
      case rel => exact ⟨i + 1, by go_num, by omega, HS.out, HK.out.setCell (.inl (by simp)) _⟩
      case measure => simp [intOf]; omega
    · obtain rfl : i = n + 2 := by omega
      have l1 : ¬ (((n + 2 : Nat) : Int) < (n : Int) + 2) := by omega
      go_wp2
      first | go_end0 | refine bodyPost_ret (results_none rfl _ _ _) rfl ?_
      exact ⟨⟨_, rfl⟩, HK.out, by have hb := HB.out; rw [HE.out] at hb; simpa using hb⟩
end Go.Proofs.Ytbbfajbnklgncaa

/- Lists of letters that are lent: LentLetters, SameLetters, WholeLetters, SpoilLetters. -/
namespace Go.Proofs.Ytbbfajbnklgncaa
open Go.RowKit Go.Shelf

theorem Try.infoUL : (Try.prog.info? 55).map (fun i => (i.zero, i.size, i.bytes)) = some (some (.int .u16 0), 1, 2) := by kernel_rfl
def marksU : List Value := [.int .u16 60001, .int .u16 60002]
def spoilU : Value := .int .u16 60003
theorem make_roomU (w : World) (k : Nat) (hk : k ≤ 20000000000000) : Sem.run Try.prog (Instr.makeSlice 53 (.int .i64 0) (.int .i64 ((k : Int) + 2))) w = .ok (.slice (some ⟨w.heap.size, 0, none⟩) 0 (k + 2)) (w.alloc (.cells (madeCells (Value.cells (.int .u16 0)) ((k + 2) * 1)) 55)) := by
  obtain ⟨i, hi, hz, hs, hb⟩ := info_parts Try.infoUL
  have h := run_make (P := Try.prog) w 53 55 i _ Try.underlying53 hi hz .i64 .i64 0 ((k : Int) + 2) (by omega) (by omega) (by rw [hb]; omega) (by omega)
  rw [h, hs, show ((k : Int) + 2).toNat = k + 2 from by omega]
  rfl
theorem append_noneU (w : World) (g c : Nat) (ty : TypeId) : (Builtin.append_ #[53, 53] ty #[.slice (some ⟨g, 0, none⟩) 0 c, .slice none 0 0]).run Try.prog w = .ok (.slice (some ⟨g, 0, none⟩) 0 c) w := by
  go_simp
def cellsU (xs : List Nat) : List Value := xs.map fun x => Value.int .u16 (x : Nat)
theorem cellsU_at {xs : List Nat} {k : Nat} (h : k < xs.length) : (cellsU xs)[k]? = some ((fun x => Value.int .u16 (x : Nat)) xs[k]) := by simp [cellsU, h]
theorem cellsU_one (xs : List Nat) : ∀ u ∈ cellsU xs, u.oneCell' = true := by
  intro u hu
  obtain ⟨x, _, rfl⟩ := List.mem_map.1 hu
  rfl
end Go.Proofs.Ytbbfajbnklgncaa

/- Lists of verdicts that are lent: LentVerdicts, SameVerdicts, WholeVerdicts, SpoilVerdicts. -/
namespace Go.Proofs.Ytbbfajbnklgncaa
open Go.RowKit Go.Shelf

theorem Try.infoVL : (Try.prog.info? 60).map (fun i => (i.zero, i.size, i.bytes)) = some (some (.int .u8 0), 1, 1) := by kernel_rfl
def marksV : List Value := [.int .u8 77, .int .u8 78]
def spoilV : Value := .int .u8 79
theorem make_roomV (w : World) (k : Nat) (hk : k ≤ 20000000000000) : Sem.run Try.prog (Instr.makeSlice 24 (.int .i64 0) (.int .i64 ((k : Int) + 2))) w = .ok (.slice (some ⟨w.heap.size, 0, none⟩) 0 (k + 2)) (w.alloc (.cells (madeCells (Value.cells (.int .u8 0)) ((k + 2) * 1)) 60)) := by
  obtain ⟨i, hi, hz, hs, hb⟩ := info_parts Try.infoVL
  have h := run_make (P := Try.prog) w 24 60 i _ Try.underlying24 hi hz .i64 .i64 0 ((k : Int) + 2) (by omega) (by omega) (by rw [hb]; omega) (by omega)
  rw [h, hs, show ((k : Int) + 2).toNat = k + 2 from by omega]
  rfl
theorem append_noneV (w : World) (g c : Nat) (ty : TypeId) : (Builtin.append_ #[24, 24] ty #[.slice (some ⟨g, 0, none⟩) 0 c, .slice none 0 0]).run Try.prog w = .ok (.slice (some ⟨g, 0, none⟩) 0 c) w := by
  go_simp
set_option maxHeartbeats 1600000 in
set_option maxRecDepth 10000 in
theorem lentVerdicts_any (v : Value) (n : Nat) (cs : List Value) (w : World) (h : Src 1 w v n cs) (hn : n ≤ 17592186044416) :
    Calls Try.prog 27 #[v] w fun e w' => ∃ b, e = .returned (.slice (some ⟨b, 0, none⟩) n (n + 2)) ∧ LentG 60 1 w' b n cs marksV ∧ w.heap.size ≤ b ∧ Kept [] w w' := by
  have hmk := make_roomV w n (by omega)
  obtain ⟨inf, hi1, hi2, hi3, hi4⟩ := info_parts Try.infoVL
  have HINF : Hid (Try.prog.info? 60 = some inf ∧ inf.size = 1) := ⟨hi1, hi3⟩
  have HSM : Hid (cs.length = n * 1 ∧ ∀ u ∈ cs, u.oneCell' = true) := ⟨h.len, h.one⟩
  have hw : IntKind.i64.wrap ((n : Int) + 2) = (n : Int) + 2 := by rw [IntKind.wrap_i64]; omega
  have k0 : (0 : Int) ≤ (n : Int) := by omega
  have k1 : (n : Int) ≤ (n : Int) + 2 := by omega
  obtain ⟨W0, hW0⟩ : ∃ W0, w.alloc (.cells (madeCells (Value.cells (.int .u8 0)) ((n + 2) * 1)) 60) = W0 := ⟨_, rfl⟩
  have HW0 : Hid (Kept [] w W0) := by show Kept [] w W0; rw [← hW0]; exact (Kept.refl [] w).alloc _
  have HR0 : Hid (W0.ownsRow w.heap.size 60 1 (.slice (some ⟨w.heap.size, 0, none⟩) 0 (n + 2)) 0 []) := by
    show World.ownsRow _ _ _ _ _ _ _
    rw [← hW0]
    exact ⟨rfl, .inr ⟨_, _, _, rfl, Nat.le_refl _, heap_alloc_new _ _, Nat.zero_le _, by unfold maxLen; omega, size_madeCells _ _, by simp⟩⟩
  rw [hW0] at hmk
  clear hW0 hi1 hi2 hi3 hi4
  rcases h.lie with ⟨rfl, rfl⟩ | ⟨ad, c, rfl, hc1, hc2, hC1, hC2, hC⟩
  · obtain rfl : cs = [] := List.length_eq_zero_iff.1 (by have := HSM.out.1; omega)
    clear h
    simp only [Int.natCast_zero, Int.zero_add, Nat.zero_add] at hmk HR0
    clear hw k0 k1
    have hp : ∀ j u, (marksV)[j]? = some u → (W0.alloc (.cells #[.int .u8 77, .int .u8 78] 60)).cell? ((⟨W0.heap.size, 0, none⟩ : Addr).add j) = some u := World.news_of_block (cs := #[.int .u8 77, .int .u8 78]) (t := 60) (fr := (0, 0)) (heap_alloc_new W0 _)
    obtain ⟨W7, hrun, hr7, hg7⟩ := run_append_fits (P := Try.prog) (W0.alloc (.cells #[.int .u8 77, .int .u8 78] 60)) w.heap.size 24 24 60 inf 1 Try.underlying24 HINF.out.1 HINF.out.2 w.heap.size 0 2 [] (bx_keptL HR0.out ((Kept.refl [] _).alloc _) (by simp)) ⟨W0.heap.size, 0, none⟩ 2 2 marksV rfl hp (by simp [marksV, Value.oneCell']) (by omega)
    have HRUN : Hid ((Builtin.append_ #[24, 24] 24 #[.slice (some ⟨w.heap.size, 0, none⟩) 0 2, .slice (some ⟨W0.heap.size, 0, none⟩) 2 2]).run Try.prog (W0.alloc (.cells #[.int .u8 77, .int .u8 78] 60)) = .ok (.slice (some ⟨w.heap.size, 0, none⟩) 2 2) W7) := hrun
    have HR7 : Hid (W7.ownsRow w.heap.size 60 1 (.slice (some ⟨w.heap.size, 0, none⟩) 2 2) 2 ([] ++ marksV)) := hr7
    have HG7 : Hid (Kept [] w W7) := (HW0.out.alloc _).grown hg7 (fun k hk => by simp at hk; right; omega)
    clear hrun hr7 hg7 hp
    have T1 : Hid True := trivial
    go_enter Try.func27, Try.ntmps27
    go_wp2_with (first
      | (clear T1; at_builtin; refine Lib.wpList_append_run _ rfl _ _ _ _ rfl _ _ rfl rfl _ _ (append_noneV W0 w.heap.size 2 _) ?_)
      | (at_builtin; refine Lib.wpList_append_run _ rfl _ _ _ _ rfl _ _ rfl rfl _ _ HRUN.out ?_))
    refine bodyPost_ret (results_tmp rfl _ _ _) (by rfl) ?_
    exact ⟨w.heap.size, rfl, lentG_of (n := 0) HR7.out rfl rfl rfl (by omega), Nat.le_refl _, HG7.out⟩
  · have HN : Hid (∀ W, Kept [] w W → ∀ j u, cs[j]? = some u → W.cell? (ad.add j) = some u) := fun W k => (h.kept k).cellsAt
    have T1 : Hid True := trivial
    clear h hC1 hC2 hC
    go_enter Try.func27, Try.ntmps27
    go_wp2_with (first
      | (clear T1; at_builtin; refine wpList_append_fits _ rfl _ _ 24 rfl w.heap.size 60 inf 1 Try.underlying24 HINF.out.1 HINF.out.2 w.heap.size 0 (n + 2) [] rfl HR0.out ad n c cs rfl HSM.out.1 (HN.out _ HW0.out) HSM.out.2 (by omega) ?_; intro W6 hr6 hg6; have HR6 : Hid (W6.ownsRow w.heap.size 60 1 (.slice (some ⟨w.heap.size, 0, none⟩) n (n + 2)) n cs) := own_zeroG hr6; have HG6 : Hid (Kept [] w W6) := HW0.out.grown hg6 (fun k hk => by simp at hk; right; omega); clear hr6 hg6)
      | (at_builtin; obtain ⟨W7, hrun, hr7, hg7⟩ := run_append_fits (P := Try.prog) (W6.alloc (.cells #[.int .u8 77, .int .u8 78] 60)) w.heap.size 24 24 60 inf 1 Try.underlying24 HINF.out.1 HINF.out.2 w.heap.size n (n + 2) cs (bx_keptL HR6.out ((Kept.refl [] _).alloc _) (by simp)) ⟨W6.heap.size, 0, none⟩ 2 2 marksV rfl (World.news_of_block (cs := #[.int .u8 77, .int .u8 78]) (t := 60) (fr := (0, 0)) (heap_alloc_new W6 _)) (by simp [marksV, Value.oneCell']) (by omega); refine Lib.wpList_append_run _ rfl _ _ _ _ rfl _ _ rfl rfl _ _ hrun ?_; have HR7 : Hid (W7.ownsRow w.heap.size 60 1 (.slice (some ⟨w.heap.size, 0, none⟩) (n + 2) (n + 2)) (n + 2) (cs ++ marksV)) := hr7; have HG7 : Hid (Kept [] w W7) := (HG6.out.alloc _).grown hg7 (fun k hk => by simp at hk; right; omega); clear hrun hr7 hg7))
    go_ret
    exact ⟨w.heap.size, rfl, lentG_of HR7.out HSM.out.1 rfl rfl (by omega), Nat.le_refl _, HG7.out⟩
def cellsV (xs : List Nat) : List Value := xs.map fun x => Value.int .u8 (x : Nat)
theorem cellsV_at {xs : List Nat} {k : Nat} (h : k < xs.length) : (cellsV xs)[k]? = some ((fun x => Value.int .u8 (x : Nat)) xs[k]) := by simp [cellsV, h]
theorem cellsV_one (xs : List Nat) : ∀ u ∈ cellsV xs, u.oneCell' = true := by
  intro u hu
  obtain ⟨x, _, rfl⟩ := List.mem_map.1 hu
  rfl
set_option maxHeartbeats 1600000 in
set_option maxRecDepth 10000 in
theorem sameVerdicts_eq (v u : Value) (xs : List Nat) (w : World) (hx : Src 1 w v xs.length (cellsV xs)) (hy : Src 1 w u xs.length (cellsV xs)) (hf : xs.length ≤ 20000000000000) :
    Calls Try.prog 57 #[v, u] w fun e w' => e = .returned (.bool true) ∧ Kept [] w w' := by
  by_cases h0 : 0 < xs.length
  · obtain ⟨b, o, c, rfl, HC⟩ := hx.there h0
    obtain ⟨b2, o2, c2, rfl, HC2⟩ := hy.there h0
    have HCC : Hid (∀ k (h : k < xs.length), w.cell? ⟨b, o + k, none⟩ = some ((fun x => Value.int .u8 (x : Nat)) xs[k]) ∧ w.cell? ⟨b2, o2 + k, none⟩ = some ((fun x => Value.int .u8 (x : Nat)) xs[k])) := fun k h => ⟨HC k _ (cellsV_at h), HC2 k _ (cellsV_at h)⟩
    have hnl : ((xs.length : Int) != (xs.length : Int)) = false := by simp
    clear hx hy HC HC2
    go_enter Try.func57, Try.ntmps57
    go_wp2_with fail
    go_loopw [5] (fun i wr => ∃ k : Nat, k ≤ xs.length ∧ i = .int .i64 (k : Nat) ∧ Kept [] w wr) (fun i _ => xs.length - (intOf i).toNat)
    case atStart => exact ⟨0, Nat.zero_le _, rfl, Kept.refl [] w⟩
    case round =>
      obtain ⟨k, hk, rfl, hkw⟩ := hrel
      by_cases hlt : k < xs.length
      · have hlt' : (k : Int) < (xs.length : Int) := by omega
        obtain ⟨d1, d2⟩ := HCC.out k hlt
        have d1 := cell_kept0 hkw d1
        have d2 := cell_kept0 hkw d2
        have b0 : (0 : Int) ≤ (k : Int) := by omega
        have HKW : Hid (Kept [] w wr) := hkw
        generalize xs[k] = x at d1 d2
        have hne : ((x : Int) != (x : Int)) = false := by simp
        clear hkw
        go_wp2_with fail
        go_quiet (fail)
        go_wp2
        go_roundw
        case rel => exact ⟨k + 1, by omega, by go_num, HKW.out.drewN _⟩
        case measure => simp [intOf]; omega
      · have hlt' : ¬ (k : Int) < (xs.length : Int) := by omega
        go_wp2
        go_ret
        exact ⟨rfl, hkw⟩
  · obtain ⟨ad, c, rfl⟩ := hx.form
    obtain ⟨ad2, c2, rfl⟩ := hy.form
    obtain ⟨n, hn⟩ : ∃ n, xs.length = n := ⟨_, rfl⟩
    rw [hn]
    obtain rfl : n = 0 := by omega
    clear hx hy hn h0 hf
    go_enter Try.func57, Try.ntmps57
    go_wp2_with fail
    refine wp_loop_rounds 1 ?_
    rw [rounds_succ]
    go_wp2_with fail
    go_ret
    exact ⟨rfl, Kept.refl [] w⟩
set_option maxHeartbeats 1600000 in
set_option maxRecDepth 10000 in
theorem wholeVerdicts_any (b : Nat) (u : Value) (xs : List Nat) (w : World) (h : LentG 60 1 w b xs.length (cellsV xs) marksV) (hu : Src 1 w u xs.length (cellsV xs)) :
    Calls Try.prog 32 #[.slice (some ⟨b, 0, none⟩) xs.length (xs.length + 2), u] w fun e w' => e = .returned (.bool true) ∧ Kept [] w w' := by
  have hf := h.few
  have m0 : w.cell? ⟨b, xs.length, none⟩ = some (.int .u8 77) := by have := h.mark (j := 0) rfl; rwa [Nat.mul_one, Nat.add_zero] at this
  have m1 : w.cell? ⟨b, xs.length + 1, none⟩ = some (.int .u8 78) := by have := h.mark (j := 1) rfl; rwa [Nat.mul_one] at this
  have HC : Hid (∀ W, Kept [] w W → Calls Try.prog 57 #[.slice (some ⟨b, 0, none⟩) xs.length (xs.length + 2), u] W fun e w1 => e = .returned (.bool true) ∧ Kept [] W w1) := fun W k => sameVerdicts_eq _ _ xs W ((h.src (cellsV_one xs)).kept k) (hu.kept k) hf
  obtain ⟨ad, c, rfl⟩ := hu.form
  clear h hu
  generalize xs.length = n at *
  have b1 : ¬ ((n : Int) + 2 < (n : Int) + 2) := by omega
  go_enter Try.func32, Try.ntmps32
  go_wp2_with (go_at_call 57; refine (HC.out _ (Kept.refl [] _)).mono ?_; rintro e w1 ⟨rfl, hk1⟩; have HK1 : Hid (Kept [] w w1) := hk1; clear hk1)
  go_ret
  exact ⟨rfl, HK1.out⟩
set_option maxHeartbeats 1600000 in
set_option maxRecDepth 10000 in
theorem spoilVerdicts_any (b n : Nat) (cs : List Value) (w : World) (h : LentG 60 1 w b n cs marksV) :
    Calls Try.prog 35 #[.slice (some ⟨b, 0, none⟩) n (n + 2)] w fun e w' => (∃ v, e = .returned v) ∧ Kept [b] w w' ∧ w'.heap[b]? = some (.cells (List.replicate (n + 2) spoilV).toArray 60 (0, 0)) := by
  have hf := h.few
  have hlen : (cs ++ marksV).length = n + 2 := by rw [List.length_append, h.len, h.mlen]; omega
  have HR : Hid (w.heap[b]? = some (.cells (spoiltG spoilV (cs ++ marksV) 0).toArray 60 (0, 0))) := h.row
  have HLN : Hid ((cs ++ marksV).length = n + 2) := hlen
  have HE : Hid (spoiltG spoilV (cs ++ marksV) (n + 2) = List.replicate (n + 2) spoilV) := by show spoiltG _ _ _ = _; rw [← hlen]; exact spoiltG_end _ _
  generalize cs ++ marksV = l at *
  clear h hlen
  go_enter Try.func35, Try.ntmps35
  go_wp2_with fail
  go_loopw [3] (fun v wr => ∃ i : Nat, v = .int .i64 (i : Nat) ∧ i ≤ n + 2 ∧ Hid (wr.heap[b]? = some (.cells (spoiltG spoilV l i).toArray 60 (0, 0))) ∧ Hid (Kept [b] w wr)) (fun v _ => n + 2 - (intOf v).toNat)
  case atStart => exact ⟨0, rfl, Nat.zero_le _, HR.out, Kept.refl _ _⟩
  case round =>
    obtain ⟨i, rfl, hi, HB, HK⟩ := hrel
    by_cases hlt : i < n + 2
    · have l1 : (i : Int) < (n : Int) + 2 := by omega
      have l0 : (0 : Int) ≤ (i : Int) := by omega
      have hll : i < l.length := by rw [HLN.out]; exact hlt
      obtain ⟨x, hx⟩ : ∃ x, wr.cell? ⟨b, i, none⟩ = some x := ⟨_, (cell_of HB.out i).trans (Array.getElem?_eq_getElem (by simp [spoiltG]; omega))⟩
      have f0 : wr.frozen? ⟨b, i, none⟩ = false := free_of HB.out i
      have HS : Hid ((wr.setCell ⟨b, i, none⟩ (.int .u8 79)).heap[b]? = some (.cells (spoiltG spoilV l (i + 1)).toArray 60 (0, 0))) := by
        show _ = _
        rw [← spoiltG_step spoilV l i hll]
        exact row_set HB.out _
      clear hll
      go_wp2
      go_roundw
      case rel => exact ⟨i + 1, by go_num, by omega, HS.out, HK.out.setCell (.inl (by simp)) _⟩
      case measure => simp [intOf]; omega
    · obtain rfl : i = n + 2 := by omega
      have l1 : ¬ (((n + 2 : Nat) : Int) < (n : Int) + 2) := by omega
      go_wp2
      first | go_end0 | refine bodyPost_ret (results_none rfl _ _ _) rfl ?_
      exact ⟨⟨_, rfl⟩, HK.out, by have hb := HB.out; rw [HE.out] at hb; simpa using hb⟩
end Go.Proofs.Ytbbfajbnklgncaa
