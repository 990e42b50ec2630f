/- Lists that are lent, by their cells. -/
import Derived.Test.YtkkhilgcjaigcaaDoorBuMem
import Derived.Lib.AppendZeros
import Derived.OwnWalk
import Derived.Deep.AppendLies
import Derived.Laws.MakeOwn
import Derived.Laws.OwnMore
import Derived.BigQuiet
import Derived.Test.YtkkhilgcjaigcaaDoorBuEdge
import Derived.Test.YtkkhilgcjaigcaaDoorBuList
import Derived.Laws.StructEq
namespace Go.Proofs.YtkkhilgcjaigcaaDoor
open Go.RowKit Go.Shelf

/-- A list of n elements, each of s cells, in memory: cs are its cells. -/
structure Src (s : Nat) (w : World) (v : Value) (n : Nat) (cs : List Value) : Prop where
  len : cs.length = n * s
  one : ∀ u ∈ cs, u.oneCell' = true
  lie : (v = .slice none 0 0 ∧ n = 0) ∨ ∃ a c, v = .slice (some a) n c ∧ n ≤ c ∧ c ≤ maxLen ∧ (0 < n → a.spot = none) ∧ (n = 0 → cs = []) ∧ ∀ j u, cs[j]? = some u → w.cell? (a.add j) = some u
theorem Src.kept {s : Nat} {w w' : World} {v : Value} {n : Nat} {cs : List Value} (h : Src s w v n cs) (k : Kept [] w w') : Src s w' v n cs := by
  refine ⟨h.len, h.one, ?_⟩
  rcases h.lie with h1 | ⟨a, c, h1, h2, h3, h4, h5, h6⟩
  · exact .inl h1
  · refine .inr ⟨a, c, h1, h2, h3, h4, h5, fun j u hu => ?_⟩
    have hn : 0 < n := Nat.pos_of_ne_zero fun h0 => by rw [h5 h0] at hu; cases hu
    obtain ⟨b, o, sp⟩ := a
    obtain rfl : sp = none := h4 hn
    have q := h6 j u hu
    rw [addr_add] at q ⊢
    exact cell_kept0 k q
theorem Src.cellsAt {s : Nat} {w : World} {a : Addr} {n c : Nat} {cs : List Value} (h : Src s w (.slice (some a) n c) n cs) : ∀ j u, cs[j]? = some u → w.cell? (a.add j) = some u := by
  rcases h.lie with ⟨e, _⟩ | ⟨a', c', e, _, _, _, _, h6⟩
  · cases e
  · cases e
    exact h6
/-- What is lent: a block of its own, with two elements of room behind that have marks. -/
structure LentG (e : TypeId) (s : Nat) (W : World) (b n : Nat) (cs ms : List Value) : Prop where
  row : W.heap[b]? = some (.cells (cs ++ ms).toArray e (0, 0))
  len : cs.length = n * s
  mlen : ms.length = 2 * s
  few : n ≤ 20000000000000
theorem LentG.kept {e : TypeId} {s : Nat} {W W' : World} {b n : Nat} {cs ms : List Value} (h : LentG e s W b n cs ms) (k : Kept [] W W') : LentG e s W' b n cs ms := ⟨k.at h.row (by simp), h.len, h.mlen, h.few⟩
theorem LentG.keptF {F : List Nat} {e : TypeId} {s : Nat} {W W' : World} {b n : Nat} {cs ms : List Value} (h : LentG e s W b n cs ms) (k : Kept F W W') (hb : b ∉ F) : LentG e s W' b n cs ms := ⟨k.at h.row hb, h.len, h.mlen, h.few⟩
theorem LentG.src {e : TypeId} {s : Nat} {W : World} {b n : Nat} {cs ms : List Value} (h : LentG e s W b n cs ms) (h1 : ∀ u ∈ cs, u.oneCell' = true) : Src s W (.slice (some ⟨b, 0, none⟩) n (n + 2)) n cs := by
  have hf := h.few
  refine ⟨h.len, h1, .inr ⟨⟨b, 0, none⟩, n + 2, rfl, by omega, by unfold maxLen; omega, fun _ => rfl, fun hz => List.length_eq_zero_iff.1 (by have := h.len; rw [hz] at this; omega), fun j u hu => ?_⟩⟩
  rw [addr_add, Nat.zero_add, cell_of h.row j]
  have hl : j < cs.length := by
    rcases Nat.lt_or_ge j cs.length with h | h
    · exact h
    · rw [List.getElem?_eq_none h] at hu; cases hu
  simp only [List.getElem?_toArray]
  rw [List.getElem?_append_left hl]
  exact hu
theorem LentG.mark {e : TypeId} {s : Nat} {W : World} {b n : Nat} {cs ms : List Value} (h : LentG e s W b n cs ms) {j : Nat} {u : Value} (hu : ms[j]? = some u) : W.cell? ⟨b, n * s + j, none⟩ = some u := by
  rw [cell_of h.row, ← h.len]
  simp only [List.getElem?_toArray]
  rw [List.getElem?_append_right (by omega)]
  simpa using hu
theorem lentG_of {W : World} {e : TypeId} {s b base : Nat} {cs ms : List Value} {n m : Nat} (h : W.ownsRow base e s (.slice (some ⟨b, 0, none⟩) m (n + 2)) m (cs ++ ms)) (hc : cs.length = n * s) (hm : ms.length = 2 * s) (hn : m = n + 2) (hf : n ≤ 20000000000000) : LentG e s W b n cs ms := by
  subst hn
  rcases h.2 with ⟨e, _⟩ | ⟨g, cap, cur, e, _, h2, _, _, h5, h6⟩
  · cases e
  · cases e
    refine ⟨?_, hc, hm, hf⟩
    rw [List.take_of_length_le (by rw [Array.length_toList, h5]; exact Nat.le_refl _)] at h6
    rw [h2, ← h6]
theorem own_zeroG {W : World} {g c n s : Nat} {e : TypeId} {l : List Value} (h : W.ownsRow g e s (.slice (some ⟨g, 0, none⟩) (0 + n) c) (0 + n) ([] ++ l)) : W.ownsRow g e s (.slice (some ⟨g, 0, none⟩) n c) n l := by
  rw [Nat.zero_add, List.nil_append] at h
  exact h
theorem bx_keptL {F : List Nat} {W W' : World} {base : Nat} {e : TypeId} {size : Nat} {v : Value} {n : Nat} {xs : List Value} (h : W.ownsRow base e size v n xs) (k : Kept F W W') (hF : ∀ g, v.ownBlock = some g → g ∉ F) : W'.ownsRow base e size v n xs := by
  refine ⟨h.1, ?_⟩
  rcases h.2 with h2 | ⟨g, cap, cur, rfl, hb, hw, h3⟩
  · exact .inl h2
  · exact .inr ⟨g, cap, cur, rfl, hb, k.at hw (hF g rfl), h3⟩
/-- How far it is written over. -/
def spoiltG (x : Value) (l : List Value) (i : Nat) : List Value := List.replicate i x ++ l.drop i
theorem spoiltG_step (x : Value) (l : List Value) (i : Nat) (h : i < l.length) : (spoiltG x l i).toArray.setIfInBounds i x = (spoiltG x l (i + 1)).toArray := by
  apply Array.toList_inj.1
  simp only [Array.toList_setIfInBounds]
  apply List.ext_getElem?
  intro j
  simp only [spoiltG, List.getElem?_set]
  by_cases e : i = j
  · subst e
    have e1 : (List.replicate i x ++ List.drop i l).length = l.length := by simp; omega
    have e2 : (List.replicate (i + 1) x ++ List.drop (i + 1) l)[i]? = some x := by rw [List.getElem?_append_left (by simp)]; simp
    rw [if_pos rfl, e2, if_pos (by rw [e1]; exact h)]
  · rw [if_neg e]
    rcases Nat.lt_or_ge j i with hj | hj
    · rw [List.getElem?_append_left (by simp; omega), List.getElem?_append_left (by simp; omega)]
      simp [hj, show j < i + 1 by omega]
    · rw [List.getElem?_append_right (by simp; omega), List.getElem?_append_right (by simp; omega)]
      simp only [List.length_replicate, List.getElem?_drop]
      congr 1
      omega
theorem spoiltG_end (x : Value) (l : List Value) : spoiltG x l l.length = List.replicate l.length x := by unfold spoiltG; rw [List.drop_length, List.append_nil]
theorem Src.form {s : Nat} {w : World} {v : Value} {n : Nat} {cs : List Value} (h : Src s w v n cs) : ∃ ad c, v = .slice ad n c := by
  rcases h.lie with ⟨rfl, rfl⟩ | ⟨a, c, rfl, _⟩
  · exact ⟨_, _, rfl⟩
  · exact ⟨_, _, rfl⟩
theorem Src.there {s : Nat} {w : World} {v : Value} {n : Nat} {cs : List Value} (h : Src s w v n cs) (h0 : 0 < n) : ∃ b o c, v = .slice (some ⟨b, o, none⟩) n c ∧ ∀ j u, cs[j]? = some u → w.cell? ⟨b, o + j, none⟩ = some u := by
  rcases h.lie with ⟨_, rfl⟩ | ⟨⟨b, o, sp⟩, c, h1, _, _, h4, _, h6⟩
  · omega
  · obtain rfl : sp = none := h4 h0
    exact ⟨b, o, c, h1, fun j u hu => by have := h6 j u hu; rwa [addr_add] at this⟩
end Go.Proofs.YtkkhilgcjaigcaaDoor

/- Lists of numbers that are lent: LentInts, SameInts, WholeInts, SpoilInts. -/
namespace Go.Proofs.YtkkhilgcjaigcaaDoor
open Go.RowKit Go.Shelf

theorem Tryd.infoIL : (Tryd.prog.info? 3).map (fun i => (i.zero, i.size, i.bytes)) = some (some (.int .i64 0), 1, 8) := by kernel_rfl
def marksI : List Value := [.int .i64 (-771), .int .i64 (-772)]
def spoilI : Value := .int .i64 (-5)
theorem make_roomI (w : World) (k : Nat) (hk : k ≤ 20000000000000) : Sem.run Tryd.prog (Instr.makeSlice 23 (.int .i64 0) (.int .i64 ((k : Int) + 2))) w = .ok (.slice (some ⟨w.heap.size, 0, none⟩) 0 (k + 2)) (w.alloc (.cells (madeCells (Value.cells (.int .i64 0)) ((k + 2) * 1)) 3)) := by
  obtain ⟨i, hi, hz, hs, hb⟩ := info_parts Tryd.infoIL
  have h := run_make (P := Tryd.prog) w 23 3 i _ Tryd.underlying23 hi hz .i64 .i64 0 ((k : Int) + 2) (by omega) (by omega) (by rw [hb]; omega) (by omega)
  rw [h, hs, show ((k : Int) + 2).toNat = k + 2 from by omega]
  rfl
theorem append_noneI (w : World) (g c : Nat) (ty : TypeId) : (Builtin.append_ #[23, 23] ty #[.slice (some ⟨g, 0, none⟩) 0 c, .slice none 0 0]).run Tryd.prog w = .ok (.slice (some ⟨g, 0, none⟩) 0 c) w := by
  go_simp
set_option maxHeartbeats 1600000 in
set_option maxRecDepth 10000 in
theorem lentInts_any (v : Value) (n : Nat) (cs : List Value) (w : World) (h : Src 1 w v n cs) (hn : n ≤ 17592186044416) :
    Calls Tryd.prog 22 #[v] w fun e w' => ∃ b, e = .returned (.slice (some ⟨b, 0, none⟩) n (n + 2)) ∧ LentG 3 1 w' b n cs marksI ∧ w.heap.size ≤ b ∧ Kept [] w w' := by
  have hmk := make_roomI w n (by omega)
  obtain ⟨inf, hi1, hi2, hi3, hi4⟩ := info_parts Tryd.infoIL
  have HINF : Hid (Tryd.prog.info? 3 = some inf ∧ inf.size = 1) := ⟨hi1, hi3⟩
  have HSM : Hid (cs.length = n * 1 ∧ ∀ u ∈ cs, u.oneCell' = true) := ⟨h.len, h.one⟩
  have hw : IntKind.i64.wrap ((n : Int) + 2) = (n : Int) + 2 := by rw [IntKind.wrap_i64]; omega
  have k0 : (0 : Int) ≤ (n : Int) := by omega
  have k1 : (n : Int) ≤ (n : Int) + 2 := by omega
  obtain ⟨W0, hW0⟩ : ∃ W0, w.alloc (.cells (madeCells (Value.cells (.int .i64 0)) ((n + 2) * 1)) 3) = W0 := ⟨_, rfl⟩
  have HW0 : Hid (Kept [] w W0) := by show Kept [] w W0; rw [← hW0]; exact (Kept.refl [] w).alloc _
  have HR0 : Hid (W0.ownsRow w.heap.size 3 1 (.slice (some ⟨w.heap.size, 0, none⟩) 0 (n + 2)) 0 []) := by
    show World.ownsRow _ _ _ _ _ _ _
    rw [← hW0]
    exact ⟨rfl, .inr ⟨_, _, _, rfl, Nat.le_refl _, heap_alloc_new _ _, Nat.zero_le _, by unfold maxLen; omega, size_madeCells _ _, by simp⟩⟩
  rw [hW0] at hmk
  clear hW0 hi1 hi2 hi3 hi4
  rcases h.lie with ⟨rfl, rfl⟩ | ⟨ad, c, rfl, hc1, hc2, hC1, hC2, hC⟩
  · obtain rfl : cs = [] := List.length_eq_zero_iff.1 (by have := HSM.out.1; omega)
    clear h
    simp only [Int.natCast_zero, Int.zero_add, Nat.zero_add] at hmk HR0
    clear hw k0 k1
    have hp : ∀ j u, (marksI)[j]? = some u → (W0.alloc (.cells #[.int .i64 (-771), .int .i64 (-772)] 3)).cell? ((⟨W0.heap.size, 0, none⟩ : Addr).add j) = some u := World.news_of_block (cs := #[.int .i64 (-771), .int .i64 (-772)]) (t := 3) (fr := (0, 0)) (heap_alloc_new W0 _)
    obtain ⟨W7, hrun, hr7, hg7⟩ := run_append_fits (P := Tryd.prog) (W0.alloc (.cells #[.int .i64 (-771), .int .i64 (-772)] 3)) w.heap.size 23 23 3 inf 1 Tryd.underlying23 HINF.out.1 HINF.out.2 w.heap.size 0 2 [] (bx_keptL HR0.out ((Kept.refl [] _).alloc _) (by simp)) ⟨W0.heap.size, 0, none⟩ 2 2 marksI rfl hp (by simp [marksI, Value.oneCell']) (by omega)
    have HRUN : Hid ((Builtin.append_ #[23, 23] 23 #[.slice (some ⟨w.heap.size, 0, none⟩) 0 2, .slice (some ⟨W0.heap.size, 0, none⟩) 2 2]).run Tryd.prog (W0.alloc (.cells #[.int .i64 (-771), .int .i64 (-772)] 3)) = .ok (.slice (some ⟨w.heap.size, 0, none⟩) 2 2) W7) := hrun
    have HR7 : Hid (W7.ownsRow w.heap.size 3 1 (.slice (some ⟨w.heap.size, 0, none⟩) 2 2) 2 ([] ++ marksI)) := hr7
    have HG7 : Hid (Kept [] w W7) := (HW0.out.alloc _).grown hg7 (fun k hk => by simp at hk; right; omega)
    clear hrun hr7 hg7 hp
    have T1 : Hid True := trivial
    go_enter Tryd.func22, Tryd.ntmps22
    go_wp2_with (first
      | (clear T1; at_builtin; refine Lib.wpList_append_run _ rfl _ _ _ _ rfl _ _ rfl rfl _ _ (append_noneI W0 w.heap.size 2 _) ?_)
      | (at_builtin; refine Lib.wpList_append_run _ rfl _ _ _ _ rfl _ _ rfl rfl _ _ HRUN.out ?_))
    refine bodyPost_ret (results_tmp rfl _ _ _) (by rfl) ?_
    exact ⟨w.heap.size, rfl, lentG_of (n := 0) HR7.out rfl rfl rfl (by omega), Nat.le_refl _, HG7.out⟩
  · have HN : Hid (∀ W, Kept [] w W → ∀ j u, cs[j]? = some u → W.cell? (ad.add j) = some u) := fun W k => (h.kept k).cellsAt
    have T1 : Hid True := trivial
    clear h hC1 hC2 hC
    go_enter Tryd.func22, Tryd.ntmps22
    go_wp2_with (first
      | (clear T1; at_builtin; refine wpList_append_fits _ rfl _ _ 23 rfl w.heap.size 3 inf 1 Tryd.underlying23 HINF.out.1 HINF.out.2 w.heap.size 0 (n + 2) [] rfl HR0.out ad n c cs rfl HSM.out.1 (HN.out _ HW0.out) HSM.out.2 (by omega) ?_; intro W6 hr6 hg6; have HR6 : Hid (W6.ownsRow w.heap.size 3 1 (.slice (some ⟨w.heap.size, 0, none⟩) n (n + 2)) n cs) := own_zeroG hr6; have HG6 : Hid (Kept [] w W6) := HW0.out.grown hg6 (fun k hk => by simp at hk; right; omega); clear hr6 hg6)
      | (at_builtin; obtain ⟨W7, hrun, hr7, hg7⟩ := run_append_fits (P := Tryd.prog) (W6.alloc (.cells #[.int .i64 (-771), .int .i64 (-772)] 3)) w.heap.size 23 23 3 inf 1 Tryd.underlying23 HINF.out.1 HINF.out.2 w.heap.size n (n + 2) cs (bx_keptL HR6.out ((Kept.refl [] _).alloc _) (by simp)) ⟨W6.heap.size, 0, none⟩ 2 2 marksI rfl (World.news_of_block (cs := #[.int .i64 (-771), .int .i64 (-772)]) (t := 3) (fr := (0, 0)) (heap_alloc_new W6 _)) (by simp [marksI, Value.oneCell']) (by omega); refine Lib.wpList_append_run _ rfl _ _ _ _ rfl _ _ rfl rfl _ _ hrun ?_; have HR7 : Hid (W7.ownsRow w.heap.size 3 1 (.slice (some ⟨w.heap.size, 0, none⟩) (n + 2) (n + 2)) (n + 2) (cs ++ marksI)) := hr7; have HG7 : Hid (Kept [] w W7) := (HG6.out.alloc _).grown hg7 (fun k hk => by simp at hk; right; omega); clear hrun hr7 hg7))
    go_ret
    exact ⟨w.heap.size, rfl, lentG_of HR7.out HSM.out.1 rfl rfl (by omega), Nat.le_refl _, HG7.out⟩
def cellsI (xs : List Int) : List Value := xs.map fun x => Value.int .i64 x
theorem cellsI_at {xs : List Int} {k : Nat} (h : k < xs.length) : (cellsI xs)[k]? = some ((fun x => Value.int .i64 x) xs[k]) := by simp [cellsI, h]
theorem cellsI_one (xs : List Int) : ∀ u ∈ cellsI xs, u.oneCell' = true := by
  intro u hu
  obtain ⟨x, _, rfl⟩ := List.mem_map.1 hu
  rfl
set_option maxHeartbeats 1600000 in
set_option maxRecDepth 10000 in
theorem sameInts_eq (v u : Value) (xs : List Int) (w : World) (hx : Src 1 w v xs.length (cellsI xs)) (hy : Src 1 w u xs.length (cellsI xs)) (hf : xs.length ≤ 20000000000000) :
    Calls Tryd.prog 44 #[v, u] w fun e w' => e = .returned (.bool true) ∧ Kept [] w w' := by
  by_cases h0 : 0 < xs.length
  · obtain ⟨b, o, c, rfl, HC⟩ := hx.there h0
    obtain ⟨b2, o2, c2, rfl, HC2⟩ := hy.there h0
    have HCC : Hid (∀ k (h : k < xs.length), w.cell? ⟨b, o + k, none⟩ = some ((fun x => Value.int .i64 x) xs[k]) ∧ w.cell? ⟨b2, o2 + k, none⟩ = some ((fun x => Value.int .i64 x) xs[k])) := fun k h => ⟨HC k _ (cellsI_at h), HC2 k _ (cellsI_at h)⟩
    have hnl : ((xs.length : Int) != (xs.length : Int)) = false := by simp
    clear hx hy HC HC2
    go_enter Tryd.func44, Tryd.ntmps44
    go_wp2_with fail
    go_loopw [5] (fun i wr => ∃ k : Nat, k ≤ xs.length ∧ i = .int .i64 (k : Nat) ∧ Kept [] w wr) (fun i _ => xs.length - (intOf i).toNat)
    case atStart => exact ⟨0, Nat.zero_le _, rfl, Kept.refl [] w⟩
    case round =>
      obtain ⟨k, hk, rfl, hkw⟩ := hrel
      by_cases hlt : k < xs.length
      · have hlt' : (k : Int) < (xs.length : Int) := by omega
        obtain ⟨d1, d2⟩ := HCC.out k hlt
        have d1 := cell_kept0 hkw d1
        have d2 := cell_kept0 hkw d2
        have b0 : (0 : Int) ≤ (k : Int) := by omega
        have HKW : Hid (Kept [] w wr) := hkw
        generalize xs[k] = x at d1 d2
        have hne : ((x : Int) != (x : Int)) = false := by simp
        clear hkw
        go_wp2_with fail
        go_quiet (fail)
        go_wp2
        go_roundw
        case rel => exact ⟨k + 1, by omega, by go_num, HKW.out.drewN _⟩
        case measure => simp [intOf]; omega
      · have hlt' : ¬ (k : Int) < (xs.length : Int) := by omega
        go_wp2
        go_ret
        exact ⟨rfl, hkw⟩
  · obtain ⟨ad, c, rfl⟩ := hx.form
    obtain ⟨ad2, c2, rfl⟩ := hy.form
    obtain ⟨n, hn⟩ : ∃ n, xs.length = n := ⟨_, rfl⟩
    rw [hn]
    obtain rfl : n = 0 := by omega
    clear hx hy hn h0 hf
    go_enter Tryd.func44, Tryd.ntmps44
    go_wp2_with fail
    refine wp_loop_rounds 1 ?_
    rw [rounds_succ]
    go_wp2_with fail
    go_ret
    exact ⟨rfl, Kept.refl [] w⟩
set_option maxHeartbeats 1600000 in
set_option maxRecDepth 10000 in
theorem wholeInts_any (b : Nat) (u : Value) (xs : List Int) (w : World) (h : LentG 3 1 w b xs.length (cellsI xs) marksI) (hu : Src 1 w u xs.length (cellsI xs)) :
    Calls Tryd.prog 28 #[.slice (some ⟨b, 0, none⟩) xs.length (xs.length + 2), u] w fun e w' => e = .returned (.bool true) ∧ Kept [] w w' := by
  have hf := h.few
  have m0 : w.cell? ⟨b, xs.length, none⟩ = some (.int .i64 (-771)) := by have := h.mark (j := 0) rfl; rwa [Nat.mul_one, Nat.add_zero] at this
  have m1 : w.cell? ⟨b, xs.length + 1, none⟩ = some (.int .i64 (-772)) := by have := h.mark (j := 1) rfl; rwa [Nat.mul_one] at this
  have HC : Hid (∀ W, Kept [] w W → Calls Tryd.prog 44 #[.slice (some ⟨b, 0, none⟩) xs.length (xs.length + 2), u] W fun e w1 => e = .returned (.bool true) ∧ Kept [] W w1) := fun W k => sameInts_eq _ _ xs W ((h.src (cellsI_one xs)).kept k) (hu.kept k) hf
  obtain ⟨ad, c, rfl⟩ := hu.form
  clear h hu
  generalize xs.length = n at *
  have b1 : ¬ ((n : Int) + 2 < (n : Int) + 2) := by omega
  go_enter Tryd.func28, Tryd.ntmps28
  go_wp2_with (go_at_call 44; refine (HC.out _ (Kept.refl [] _)).mono ?_; rintro e w1 ⟨rfl, hk1⟩; have HK1 : Hid (Kept [] w w1) := hk1; clear hk1)
  go_ret
  exact ⟨rfl, HK1.out⟩
end Go.Proofs.YtkkhilgcjaigcaaDoor

/- Lists of lists of numbers that are lent: LentRows, WholeRows, SpoilRows. -/
namespace Go.Proofs.YtkkhilgcjaigcaaDoor
open Go.RowKit Go.Shelf

theorem Tryd.infoRL : (Tryd.prog.info? 23).map (fun i => (i.zero, i.size, i.bytes)) = some (some (.slice none 0 0), 1, 24) := by kernel_rfl
/-- The slices of rows that are lent. -/
def rowVs (bs : List Nat) (xss : List (List Int)) : List Value := List.zipWith (fun b xs => Value.slice (some ⟨b, 0, none⟩) xs.length (xs.length + 2)) bs xss
theorem rowVs_len {bs : List Nat} {xss : List (List Int)} (h : bs.length = xss.length) : (rowVs bs xss).length = xss.length := by simp [rowVs, h]
theorem rowVs_at {bs : List Nat} {xss : List (List Int)} {i : Nat} (h : i < xss.length) (hb : i < bs.length) : (rowVs bs xss)[i]? = some (.slice (some ⟨bs[i], 0, none⟩) xss[i].length (xss[i].length + 2)) := by
  simp [rowVs, List.getElem?_zipWith, h, hb]
theorem rowVs_one (bs : List Nat) (xss : List (List Int)) : ∀ u ∈ rowVs bs xss, u.oneCell' = true := by
  intro u hu
  obtain ⟨i, hi, rfl⟩ := List.getElem_of_mem hu
  simp [rowVs]
  rfl
theorem rowVs_snoc {bs : List Nat} {xss : List (List Int)} (h : bs.length = xss.length) (b : Nat) (xs : List Int) : rowVs (bs ++ [b]) (xss ++ [xs]) = rowVs bs xss ++ [.slice (some ⟨b, 0, none⟩) xs.length (xs.length + 2)] := by
  unfold rowVs
  rw [List.zipWith_append h]
  rfl
/-- Rows that are lent: each in a block of its own. -/
structure RowsE (W : World) (bs : List Nat) (xss : List (List Int)) : Prop where
  len : bs.length = xss.length
  each : ∀ i (h : i < xss.length) (hb : i < bs.length), LentG 3 1 W bs[i] xss[i].length (cellsI xss[i]) marksI
theorem RowsE.keptF {F : List Nat} {W W' : World} {bs : List Nat} {xss : List (List Int)} (h : RowsE W bs xss) (k : Kept F W W') (hF : ∀ b ∈ bs, b ∉ F) : RowsE W' bs xss :=
  ⟨h.len, fun i hi hb => (h.each i hi hb).keptF k (hF _ (List.getElem_mem hb))⟩
theorem RowsE.snoc {W : World} {bs : List Nat} {xss : List (List Int)} {b : Nat} {xs : List Int} (h : RowsE W bs xss) (hb : LentG 3 1 W b xs.length (cellsI xs) marksI) : RowsE W (bs ++ [b]) (xss ++ [xs]) := by
  refine ⟨by simp [h.len], fun i hi hib => ?_⟩
  by_cases hlt : i < xss.length
  · rw [List.getElem_append_left (by rw [h.len]; exact hlt)]
    simp only [List.getElem_append_left hlt]
    exact h.each i hlt _
  · have e1 : i = xss.length := by simp at hi; omega
    subst e1
    have e2 : (bs ++ [b])[xss.length] = b := by simp [← h.len]
    have e3 : (xss ++ [xs])[xss.length] = xs := by simp
    rw [e2]
    simp only [e3]
    exact hb
structure RowsL (w W : World) (b m : Nat) (bs : List Nat) (xss : List (List Int)) : Prop where
  row : W.heap[b]? = some (.cells (rowVs bs xss ++ [Value.slice (some ⟨m, 0, none⟩) 1 1]).toArray 23 (0, 0))
  rs : RowsE W bs xss
  mrk : W.heap[m]? = some (.cells #[.int .i64 (-77)] 3 (0, 0))
  nb : ∀ x ∈ bs, b < x
  nd : bs.Nodup
  lo : w.heap.size ≤ b
theorem RowsL.kept {w W W' : World} {b m : Nat} {bs : List Nat} {xss : List (List Int)} (h : RowsL w W b m bs xss) (k : Kept [] W W') : RowsL w W' b m bs xss := ⟨k.at h.row (by simp), h.rs.keptF k (by simp), k.at h.mrk (by simp), h.nb, h.nd, h.lo⟩
/-- What the loop of LentRows carries. -/
structure RowsA (w W : World) (g n i : Nat) (bs : List Nat) (xss : List (List Int)) : Prop where
  own : W.ownsRow w.heap.size 23 1 (.slice (some ⟨g, 0, none⟩) i (n + 1)) i (rowVs bs (xss.take i))
  rs : RowsE W bs (xss.take i)
  nb : ∀ x ∈ bs, g < x
  nd : bs.Nodup
  lt : ∀ x ∈ bs, x < W.heap.size
  gt : g < W.heap.size
  kept : Kept [] w W
set_option maxRecDepth 10000 in
theorem RowsA.step {w W W1 : World} {g n i b : Nat} {bs : List Nat} {xss : List (List Int)} (h : RowsA w W g n i bs xss) (hi : i < xss.length) (hn : n = xss.length) (hw : w.heap.size ≤ g) (hb : LentG 3 1 W1 b xss[i].length (cellsI xss[i]) marksI) (hbn : W.heap.size ≤ b) (k : Kept [] W W1) :
    ∃ w3, (∀ ty, (Builtin.append_ #[29, 29] ty #[.slice (some ⟨g, 0, none⟩) i (n + 1), .slice (some ⟨W1.heap.size, 0, none⟩) 1 1]).run Tryd.prog (W1.alloc (.cells #[.slice (some ⟨b, 0, none⟩) xss[i].length (xss[i].length + 2)] 23)) = .ok (.slice (some ⟨g, 0, none⟩) (i + 1) (n + 1)) w3) ∧ RowsA w w3 g n (i + 1) (bs ++ [b]) xss := by
  obtain ⟨inf, hi1, hi2, hi3, hi4⟩ := info_parts Tryd.infoRL
  have hlt : b < W1.heap.size := lt_of hb.row
  have ho : (W1.alloc (.cells #[.slice (some ⟨b, 0, none⟩) xss[i].length (xss[i].length + 2)] 23)).ownsRow w.heap.size 23 1 (.slice (some ⟨g, 0, none⟩) i (n + 1)) i (rowVs bs (xss.take i)) := bx_keptL h.own (k.alloc _) (by simp)
  obtain ⟨w3, hrun, hr3, hg3⟩ := run_append_fits (P := Tryd.prog) (W1.alloc (.cells #[.slice (some ⟨b, 0, none⟩) xss[i].length (xss[i].length + 2)] 23)) w.heap.size 29 29 23 inf 1 Tryd.underlying29 hi1 hi3 g i (n + 1) (rowVs bs (xss.take i)) ho ⟨W1.heap.size, 0, none⟩ 1 1 [.slice (some ⟨b, 0, none⟩) xss[i].length (xss[i].length + 2)] rfl (World.news_of_block (cs := #[.slice (some ⟨b, 0, none⟩) xss[i].length (xss[i].length + 2)]) (t := 23) (fr := (0, 0)) (heap_alloc_new W1 _)) (by simp [Value.oneCell']) (by omega)
  have kg : Kept [g] W1 w3 := ((Kept.refl [g] W1).alloc _).grown hg3 (fun x hx => .inl (by simp at hx; simp [hx]))
  have htk : xss.take (i + 1) = xss.take i ++ [xss[i]] := by rw [List.take_add_one]; simp [hi]
  refine ⟨w3, fun ty => hrun, ⟨?_, ?_, ?_, ?_, ?_, ?_, ?_⟩⟩
  · rw [htk, rowVs_snoc h.rs.len]
    exact hr3
  · rw [htk]
    refine RowsE.snoc ((h.rs.keptF k (by simp)).keptF kg (fun x hx => ?_)) (hb.keptF kg ?_)
    · have := h.nb x hx; simp; omega
    · have := h.gt; simp; omega
  · intro x hx
    rcases List.mem_append.1 hx with hx | hx
    · exact h.nb x hx
    · simp at hx; subst hx; have := h.gt; omega
  · rw [List.nodup_append]
    refine ⟨h.nd, by simp, fun x hx y hy => ?_⟩
    simp at hy
    subst hy
    have := h.lt x hx
    omega
  · intro x hx
    have z1 := kg.size
    have z2 := k.size
    rcases List.mem_append.1 hx with hx | hx
    · have := h.lt x hx; omega
    · simp at hx; subst hx; omega
  · have z1 := kg.size
    have z2 := k.size
    have := h.gt
    omega
  · exact (keptB h.kept k).trans kg (by simp) (by simp; exact hw)
set_option maxRecDepth 10000 in
theorem RowsA.last {w W : World} {g n : Nat} {bs : List Nat} {xss : List (List Int)} (h : RowsA w W g n n bs xss) (hn : n = xss.length) (hw : w.heap.size ≤ g) :
    ∃ w3, (∀ ty, (Builtin.append_ #[29, 29] ty #[.slice (some ⟨g, 0, none⟩) n (n + 1), .slice (some ⟨W.heap.size + 1, 0, none⟩) 1 1]).run Tryd.prog ((W.alloc (.cells #[.int .i64 (-77)] 3)).alloc (.cells #[.slice (some ⟨W.heap.size, 0, none⟩) 1 1] 23)) = .ok (.slice (some ⟨g, 0, none⟩) (n + 1) (n + 1)) w3) ∧ RowsL w w3 g W.heap.size bs xss ∧ Kept [] w w3 := by
  obtain ⟨inf, hi1, hi2, hi3, hi4⟩ := info_parts Tryd.infoRL
  have k2 : Kept [] W ((W.alloc (.cells #[.int .i64 (-77)] 3)).alloc (.cells #[.slice (some ⟨W.heap.size, 0, none⟩) 1 1] 23)) := ((Kept.refl [] W).alloc _).alloc _
  have hbk := al1 W (.cells #[.int .i64 (-77)] 3) (.cells #[.slice (some ⟨W.heap.size, 0, none⟩) 1 1] 23)
  have htk : xss.take n = xss := by rw [hn]; exact List.take_length
  obtain ⟨w3, hrun, hr3, hg3⟩ := run_append_fits (P := Tryd.prog) ((W.alloc (.cells #[.int .i64 (-77)] 3)).alloc (.cells #[.slice (some ⟨W.heap.size, 0, none⟩) 1 1] 23)) w.heap.size 29 29 23 inf 1 Tryd.underlying29 hi1 hi3 g n (n + 1) (rowVs bs (xss.take n)) (bx_keptL h.own k2 (by simp)) ⟨W.heap.size + 1, 0, none⟩ 1 1 [.slice (some ⟨W.heap.size, 0, none⟩) 1 1] rfl (World.news_of_block (cs := #[.slice (some ⟨W.heap.size, 0, none⟩) 1 1]) (t := 23) (fr := (0, 0)) hbk) (by simp [Value.oneCell']) (by omega)
  have kg : Kept [g] W w3 := (k2.mono (by simp)).grown hg3 (fun x hx => .inl (by simp at hx; simp [hx]))
  have hgt := h.gt
  refine ⟨w3, fun ty => hrun, ⟨?_, ?_, ?_, h.nb, h.nd, hw⟩, h.kept.trans kg (by simp) (by simp; exact hw)⟩
  · rw [htk] at hr3
    rcases hr3.2 with ⟨e, _⟩ | ⟨g', cap, cur, e, _, h2, _, _, h5, h6⟩
    · cases e
    · cases e
      rw [List.take_of_length_le (by rw [Array.length_toList, h5]; exact Nat.le_refl _)] at h6
      rw [h2, ← h6]
  · have hr := h.rs
    rw [htk] at hr
    refine (hr.keptF k2 (by simp)).keptF (F := [g]) (((Kept.refl [g] _)).grown hg3 (fun x hx => .inl (by simp at hx; simp [hx]))) (fun x hx => ?_)
    have := h.nb x hx
    simp; omega
  · have hm := alUp (al0 W (.cells #[.int .i64 (-77)] 3)) (.cells #[.slice (some ⟨W.heap.size, 0, none⟩) 1 1] 23)
    exact (hg3.block _ (lt_of hm) (by simp; omega)).trans hm
theorem Ints.src {W : World} {v : Value} {xs : List Int} (h : Ints W v xs) : Src 1 W v xs.length (cellsI xs) := by
  refine ⟨by simp [cellsI], cellsI_one xs, ?_⟩
  rcases h.lie with ⟨⟨ad, c, rfl, hc, hz⟩, rfl⟩ | ⟨b, o, c, rfl, h2, h3, h4⟩
  · cases ad with
    | none => obtain rfl := hz rfl; exact .inl ⟨rfl, rfl⟩
    | some a => exact .inr ⟨a, c, rfl, Nat.zero_le _, hc, fun h => absurd h (by simp), fun _ => rfl, fun j u hu => by cases hu⟩
  · refine .inr ⟨⟨b, o, none⟩, c, rfl, h2, h3, fun _ => rfl, fun hz => by rw [List.length_eq_zero_iff.1 hz]; rfl, fun j u hu => ?_⟩
    rw [addr_add]
    have hj : j < xs.length := by
      rcases Nat.lt_or_ge j xs.length with h | h
      · exact h
      · rw [List.getElem?_eq_none (by simpa [cellsI] using h)] at hu; cases hu
    rw [cellsI_at hj] at hu
    cases hu
    exact h4 j hj
theorem make_roomR (w : World) (k : Nat) (hk : k ≤ 1000000000) : Sem.run Tryd.prog (Instr.makeSlice 29 (.int .i64 0) (.int .i64 ((k : Int) + 1))) w = .ok (.slice (some ⟨w.heap.size, 0, none⟩) 0 (k + 1)) (w.alloc (.cells (madeCells (Value.cells (.slice none 0 0)) ((k + 1) * 1)) 23)) := by
  obtain ⟨i, hi, hz, hs, hb⟩ := info_parts Tryd.infoRL
  have h := run_make (P := Tryd.prog) w 29 23 i _ Tryd.underlying29 hi hz .i64 .i64 0 ((k : Int) + 1) (by omega) (by omega) (by rw [hb]; omega) (by omega)
  rw [h, hs, show ((k : Int) + 1).toNat = k + 1 from by omega]
  rfl
theorem Rowss.form {W : World} {v : Value} {ss : List (List Int)} (h : Rowss W v ss) : ∃ ad c, v = .slice ad ss.length c := by
  rcases h.lie with ⟨rfl, rfl⟩ | ⟨b, o, c, rfl, _⟩
  · exact ⟨none, 0, rfl⟩
  · exact ⟨_, _, rfl⟩
theorem Rowss.get {W : World} {ad : Option Addr} {c : Nat} {ss : List (List Int)} (h : Rowss W (.slice ad ss.length c) ss) (i : Nat) (hi : i < ss.length) : ∃ b o u, ad = some ⟨b, o, none⟩ ∧ W.cell? ⟨b, o + i, none⟩ = some u ∧ Ints W u ss[i] := by
  rcases h.lie with ⟨_, rfl⟩ | ⟨b, o, c, e, _, _, h4⟩
  · simp at hi
  · cases e
    obtain ⟨u, h5, h6⟩ := h4 i hi
    exact ⟨b, o, u, rfl, h5, h6⟩
def RowsEnd (w : World) (xss : List (List Int)) (e : Ending) (w' : World) : Prop := ∃ b m bs, e = .returned (.slice (some ⟨b, 0, none⟩) xss.length (xss.length + 1)) ∧ RowsL w w' b m bs xss ∧ Kept [] w w'
theorem RowsL.cellAt {w W : World} {b m : Nat} {bs : List Nat} {xss : List (List Int)} (h : RowsL w W b m bs xss) {i : Nat} (hi : i < xss.length) (hb : i < bs.length) : W.cell? ⟨b, i, none⟩ = some (.slice (some ⟨bs[i], 0, none⟩) xss[i].length (xss[i].length + 2)) := by
  rw [cell_of h.row]
  simp only [List.getElem?_toArray]
  rw [List.getElem?_append_left (by rw [rowVs_len h.rs.len]; exact hi)]
  exact rowVs_at hi hb
theorem RowsL.markAt {w W : World} {b m : Nat} {bs : List Nat} {xss : List (List Int)} (h : RowsL w W b m bs xss) : W.cell? ⟨b, xss.length, none⟩ = some (.slice (some ⟨m, 0, none⟩) 1 1) ∧ W.cell? ⟨m, 0, none⟩ = some (.int .i64 (-77)) := by
  refine ⟨?_, (cell_of h.mrk 0).trans rfl⟩
  rw [cell_of h.row]
  simp only [List.getElem?_toArray]
  rw [List.getElem?_append_right (by rw [rowVs_len h.rs.len]; exact Nat.le_refl _), rowVs_len h.rs.len]
  simp
theorem RowsL.rowss {w W : World} {b m : Nat} {bs : List Nat} {xss : List (List Int)} (h : RowsL w W b m bs xss) (hl : xss.length ≤ 100000000) (hr : ∀ xs ∈ xss, xs.length ≤ 100000000 ∧ ∀ x ∈ xs, -9223372036854775808 ≤ x ∧ x ≤ 9223372036854775807) : Rowss W (.slice (some ⟨b, 0, none⟩) xss.length (xss.length + 1)) xss := by
  refine ⟨by omega, .inr ⟨b, 0, xss.length + 1, rfl, by omega, by unfold maxLen; omega, fun i hi => ?_⟩⟩
  have hb : i < bs.length := by rw [h.rs.len]; exact hi
  refine ⟨_, by rw [Nat.zero_add]; exact h.cellAt hi hb, ?_⟩
  have hx := hr _ (List.getElem_mem hi)
  have hs := (h.rs.each i hi hb).src (cellsI_one _)
  refine ⟨by omega, hx.2, .inr ⟨_, 0, _, rfl, by omega, by unfold maxLen; omega, fun j hj => ?_⟩⟩
  have q := hs.cellsAt j _ (cellsI_at hj)
  rwa [addr_add] at q
end Go.Proofs.YtkkhilgcjaigcaaDoor

/- Lists of lists of numbers that are written over: SpoilRows. -/
namespace Go.Proofs.YtkkhilgcjaigcaaDoor
open Go.RowKit Go.Shelf

/-- Rows of which the first ones have been written over. -/
structure RowsS (w W : World) (b m i : Nat) (cs bs : List Nat) (xss : List (List Int)) : Prop where
  row : W.heap[b]? = some (.cells ((cs.map fun c => Value.slice (some ⟨c, 0, none⟩) 1 1) ++ (rowVs bs xss).drop i ++ [Value.slice (some ⟨m, 0, none⟩) 1 1]).toArray 23 (0, 0))
  cl : cs.length = i
  new : ∀ c ∈ cs, W.heap[c]? = some (.cells #[.int .i64 (-5)] 3 (0, 0)) ∧ w.heap.size ≤ c
  len : bs.length = xss.length
  each : ∀ j (h : j < xss.length) (hb : j < bs.length), i ≤ j → LentG 3 1 W bs[j] xss[j].length (cellsI xss[j]) marksI
  nd : bs.Nodup
  nb : ∀ x ∈ bs, x ≠ b
  blt : b < w.heap.size ∧ ∀ x ∈ bs, x < w.heap.size
  kept : Kept (b :: bs) w W
theorem RowsS.step {w W W1 : World} {b m i : Nat} {cs bs : List Nat} {xss : List (List Int)} (h : RowsS w W b m i cs bs xss) (hi : i < xss.length) (hib : i < bs.length) (k : Kept [bs[i]] W W1) :
    RowsS w ((W1.alloc (.cells #[.int .i64 (-5)] 3)).setCell ⟨b, i, none⟩ (.slice (some ⟨W1.heap.size, 0, none⟩) 1 1)) b m (i + 1) (cs ++ [W1.heap.size]) bs xss := by
  have kA : Kept [] W1 (W1.alloc (.cells #[.int .i64 (-5)] 3)) := (Kept.refl [] W1).alloc _
  have kS : Kept [b] (W1.alloc (.cells #[.int .i64 (-5)] 3)) ((W1.alloc (.cells #[.int .i64 (-5)] 3)).setCell ⟨b, i, none⟩ (.slice (some ⟨W1.heap.size, 0, none⟩) 1 1)) := (Kept.refl [b] _).setCell (.inl (by simp)) _
  have z1 := k.size
  have z0 := h.kept.size
  have hbl := h.blt
  have hbi : bs[i] ∈ bs := List.getElem_mem hib
  have hbne : b ≠ bs[i] := fun e => h.nb _ hbi e.symm
  have rowA := kA.at (k.at h.row (by simpa using hbne)) (by simp)
  have hrl := rowVs_len h.len
  refine ⟨?_, by simp [h.cl], ?_, h.len, ?_, h.nd, h.nb, h.blt, ?_⟩
  · rw [row_set rowA]
    congr 2
    apply Array.toList_inj.1
    simp only [Array.toList_setIfInBounds]
    have hd : (rowVs bs xss).drop i = (rowVs bs xss)[i]'(by rw [hrl]; exact hi) :: (rowVs bs xss).drop (i + 1) := List.drop_eq_getElem_cons (by rw [hrl]; exact hi)
    rw [hd, List.map_append, List.append_assoc, List.append_assoc, List.append_assoc]
    rw [List.set_append_right _ _ (by simp [h.cl])]
    rw [List.length_map, h.cl, Nat.sub_self]
    rfl
  · intro c hc
    rcases List.mem_append.1 hc with hc | hc
    · obtain ⟨q1, q2⟩ := h.new c hc
      refine ⟨kS.at (kA.at (k.at q1 (fun e => ?_)) (by simp)) (fun e => ?_), q2⟩
      · simp at e; have := hbl.2 _ hbi; omega
      · simp at e; omega
    · simp at hc
      subst hc
      exact ⟨kS.at (al0 W1 _) (by simp; omega), by omega⟩
  · intro j hj hjb hij
    have hm : bs[j] ∈ bs := List.getElem_mem hjb
    refine ((((h.each j hj hjb (by omega)).keptF k (fun e => ?_)).keptF kA (by simp))).keptF kS (fun e => ?_)
    · simp at e
      have := (List.getElem_inj h.nd).1 e
      omega
    · simp at e; exact h.nb _ hm e
  · refine ((h.kept.trans k (H := b :: bs) (fun _ hx => hx) (fun x hx => .inl (by simp at hx; subst hx; simp [hbi]))).trans kA (H := b :: bs) (fun _ hx => hx) (by simp)).trans kS (fun _ hx => hx) (fun x hx => .inl (by simp at hx; simp [hx]))
theorem RowsS.rowss {F : List Nat} {w W W' : World} {b m n : Nat} {cs bs : List Nat} {xss : List (List Int)} (h : RowsS w W b m n cs bs xss) (hl : n ≤ 100000000) (k : Kept F W W') (hF : ∀ x ∈ F, x < w.heap.size ∧ x ≠ b) : Rowss W' (.slice (some ⟨b, 0, none⟩) n (n + 1)) (List.replicate n [-5]) := by
  refine ⟨by rw [List.length_replicate]; omega, .inr ⟨b, 0, n + 1, by rw [List.length_replicate], by rw [List.length_replicate]; omega, by unfold maxLen; omega, fun i hi => ?_⟩⟩
  rw [List.length_replicate] at hi
  have hic : i < cs.length := by rw [h.cl]; exact hi
  refine ⟨.slice (some ⟨cs[i], 0, none⟩) 1 1, ?_, ?_⟩
  · rw [Nat.zero_add, cell_of (k.at h.row (fun hx => (hF b hx).2 rfl))]
    simp only [List.getElem?_toArray]
    rw [List.append_assoc, List.getElem?_append_left (by simpa using hic)]
    simp [hic]
  · have hx := k.at (h.new _ (List.getElem_mem hic)).1 (fun hx => by have := (hF _ hx).1; have := (h.new _ (List.getElem_mem hic)).2; omega)
    have e : (List.replicate n ([-5] : List Int))[i]'(by rw [List.length_replicate]; exact hi) = [-5] := by simp
    rw [e]
    refine ⟨by decide, by simp, .inr ⟨_, 0, 1, rfl, by decide, by unfold maxLen; omega, fun j hj => ?_⟩⟩
    obtain rfl : j = 0 := by simpa using hj
    exact (cell_of hx 0).trans rfl
end Go.Proofs.YtkkhilgcjaigcaaDoor

/- Lists of texts that are lent: LentTexts, SameTexts, WholeTexts, SpoilTexts. -/
namespace Go.Proofs.YtkkhilgcjaigcaaDoor
open Go.RowKit Go.Shelf

theorem Tryd.infoTL : (Tryd.prog.info? 9).map (fun i => (i.zero, i.size, i.bytes)) = some (some (.string ⟨#[]⟩), 1, 16) := by kernel_rfl
def marksT : List Value := [.string ⟨#[116, 104, 101, 32, 111, 119, 110, 101, 114, 39, 115]⟩, .string ⟨#[116, 104, 101, 32, 111, 119, 110, 101, 114, 39, 115]⟩]
def spoilT : Value := .string ⟨#[115, 112, 111, 105, 108, 116]⟩
theorem make_roomT (w : World) (k : Nat) (hk : k ≤ 8796093022208) : Sem.run Tryd.prog (Instr.makeSlice 22 (.int .i64 0) (.int .i64 ((k : Int) + 2))) w = .ok (.slice (some ⟨w.heap.size, 0, none⟩) 0 (k + 2)) (w.alloc (.cells (madeCells (Value.cells (.string ⟨#[]⟩)) ((k + 2) * 1)) 9)) := by
  obtain ⟨i, hi, hz, hs, hb⟩ := info_parts Tryd.infoTL
  have h := run_make (P := Tryd.prog) w 22 9 i _ Tryd.underlying22 hi hz .i64 .i64 0 ((k : Int) + 2) (by omega) (by omega) (by rw [hb]; omega) (by omega)
  rw [h, hs, show ((k : Int) + 2).toNat = k + 2 from by omega]
  rfl
theorem append_noneT (w : World) (g c : Nat) (ty : TypeId) : (Builtin.append_ #[22, 22] ty #[.slice (some ⟨g, 0, none⟩) 0 c, .slice none 0 0]).run Tryd.prog w = .ok (.slice (some ⟨g, 0, none⟩) 0 c) w := by
  go_simp
set_option maxHeartbeats 1600000 in
set_option maxRecDepth 10000 in
theorem lentTexts_any (v : Value) (n : Nat) (cs : List Value) (w : World) (h : Src 1 w v n cs) (hn : n ≤ 8796093022208) :
    Calls Tryd.prog 21 #[v] w fun e w' => ∃ b, e = .returned (.slice (some ⟨b, 0, none⟩) n (n + 2)) ∧ LentG 9 1 w' b n cs marksT ∧ w.heap.size ≤ b ∧ Kept [] w w' := by
  have hmk := make_roomT w n (by omega)
  obtain ⟨inf, hi1, hi2, hi3, hi4⟩ := info_parts Tryd.infoTL
  have HINF : Hid (Tryd.prog.info? 9 = some inf ∧ inf.size = 1) := ⟨hi1, hi3⟩
  have HSM : Hid (cs.length = n * 1 ∧ ∀ u ∈ cs, u.oneCell' = true) := ⟨h.len, h.one⟩
  have hw : IntKind.i64.wrap ((n : Int) + 2) = (n : Int) + 2 := by rw [IntKind.wrap_i64]; omega
  have k0 : (0 : Int) ≤ (n : Int) := by omega
  have k1 : (n : Int) ≤ (n : Int) + 2 := by omega
  obtain ⟨W0, hW0⟩ : ∃ W0, w.alloc (.cells (madeCells (Value.cells (.string ⟨#[]⟩)) ((n + 2) * 1)) 9) = W0 := ⟨_, rfl⟩
  have HW0 : Hid (Kept [] w W0) := by show Kept [] w W0; rw [← hW0]; exact (Kept.refl [] w).alloc _
  have HR0 : Hid (W0.ownsRow w.heap.size 9 1 (.slice (some ⟨w.heap.size, 0, none⟩) 0 (n + 2)) 0 []) := by
    show World.ownsRow _ _ _ _ _ _ _
    rw [← hW0]
    exact ⟨rfl, .inr ⟨_, _, _, rfl, Nat.le_refl _, heap_alloc_new _ _, Nat.zero_le _, by unfold maxLen; omega, size_madeCells _ _, by simp⟩⟩
  rw [hW0] at hmk
  clear hW0 hi1 hi2 hi3 hi4
  rcases h.lie with ⟨rfl, rfl⟩ | ⟨ad, c, rfl, hc1, hc2, hC1, hC2, hC⟩
  · obtain rfl : cs = [] := List.length_eq_zero_iff.1 (by have := HSM.out.1; omega)
    clear h
    simp only [Int.natCast_zero, Int.zero_add, Nat.zero_add] at hmk HR0
    clear hw k0 k1
    have hp : ∀ j u, (marksT)[j]? = some u → (W0.alloc (.cells #[.string ⟨#[116, 104, 101, 32, 111, 119, 110, 101, 114, 39, 115]⟩, .string ⟨#[116, 104, 101, 32, 111, 119, 110, 101, 114, 39, 115]⟩] 9)).cell? ((⟨W0.heap.size, 0, none⟩ : Addr).add j) = some u := World.news_of_block (cs := #[.string ⟨#[116, 104, 101, 32, 111, 119, 110, 101, 114, 39, 115]⟩, .string ⟨#[116, 104, 101, 32, 111, 119, 110, 101, 114, 39, 115]⟩]) (t := 9) (fr := (0, 0)) (heap_alloc_new W0 _)
    obtain ⟨W7, hrun, hr7, hg7⟩ := run_append_fits (P := Tryd.prog) (W0.alloc (.cells #[.string ⟨#[116, 104, 101, 32, 111, 119, 110, 101, 114, 39, 115]⟩, .string ⟨#[116, 104, 101, 32, 111, 119, 110, 101, 114, 39, 115]⟩] 9)) w.heap.size 22 22 9 inf 1 Tryd.underlying22 HINF.out.1 HINF.out.2 w.heap.size 0 2 [] (bx_keptL HR0.out ((Kept.refl [] _).alloc _) (by simp)) ⟨W0.heap.size, 0, none⟩ 2 2 marksT rfl hp (by simp [marksT, Value.oneCell']) (by omega)
    have HRUN : Hid ((Builtin.append_ #[22, 22] 22 #[.slice (some ⟨w.heap.size, 0, none⟩) 0 2, .slice (some ⟨W0.heap.size, 0, none⟩) 2 2]).run Tryd.prog (W0.alloc (.cells #[.string ⟨#[116, 104, 101, 32, 111, 119, 110, 101, 114, 39, 115]⟩, .string ⟨#[116, 104, 101, 32, 111, 119, 110, 101, 114, 39, 115]⟩] 9)) = .ok (.slice (some ⟨w.heap.size, 0, none⟩) 2 2) W7) := hrun
    have HR7 : Hid (W7.ownsRow w.heap.size 9 1 (.slice (some ⟨w.heap.size, 0, none⟩) 2 2) 2 ([] ++ marksT)) := hr7
    have HG7 : Hid (Kept [] w W7) := (HW0.out.alloc _).grown hg7 (fun k hk => by simp at hk; right; omega)
    clear hrun hr7 hg7 hp
    have T1 : Hid True := trivial
    go_enter Tryd.func21, Tryd.ntmps21
    go_wp2_with (first
      | (clear T1; at_builtin; refine Lib.wpList_append_run _ rfl _ _ _ _ rfl _ _ rfl rfl _ _ (append_noneT W0 w.heap.size 2 _) ?_)
      | (at_builtin; refine Lib.wpList_append_run _ rfl _ _ _ _ rfl _ _ rfl rfl _ _ HRUN.out ?_))
    refine bodyPost_ret (results_tmp rfl _ _ _) (by rfl) ?_
    exact ⟨w.heap.size, rfl, lentG_of (n := 0) HR7.out rfl rfl rfl (by omega), Nat.le_refl _, HG7.out⟩
  · have HN : Hid (∀ W, Kept [] w W → ∀ j u, cs[j]? = some u → W.cell? (ad.add j) = some u) := fun W k => (h.kept k).cellsAt
    have T1 : Hid True := trivial
    clear h hC1 hC2 hC
    go_enter Tryd.func21, Tryd.ntmps21
    go_wp2_with (first
      | (clear T1; at_builtin; refine wpList_append_fits _ rfl _ _ 22 rfl w.heap.size 9 inf 1 Tryd.underlying22 HINF.out.1 HINF.out.2 w.heap.size 0 (n + 2) [] rfl HR0.out ad n c cs rfl HSM.out.1 (HN.out _ HW0.out) HSM.out.2 (by omega) ?_; intro W6 hr6 hg6; have HR6 : Hid (W6.ownsRow w.heap.size 9 1 (.slice (some ⟨w.heap.size, 0, none⟩) n (n + 2)) n cs) := own_zeroG hr6; have HG6 : Hid (Kept [] w W6) := HW0.out.grown hg6 (fun k hk => by simp at hk; right; omega); clear hr6 hg6)
      | (at_builtin; obtain ⟨W7, hrun, hr7, hg7⟩ := run_append_fits (P := Tryd.prog) (W6.alloc (.cells #[.string ⟨#[116, 104, 101, 32, 111, 119, 110, 101, 114, 39, 115]⟩, .string ⟨#[116, 104, 101, 32, 111, 119, 110, 101, 114, 39, 115]⟩] 9)) w.heap.size 22 22 9 inf 1 Tryd.underlying22 HINF.out.1 HINF.out.2 w.heap.size n (n + 2) cs (bx_keptL HR6.out ((Kept.refl [] _).alloc _) (by simp)) ⟨W6.heap.size, 0, none⟩ 2 2 marksT rfl (World.news_of_block (cs := #[.string ⟨#[116, 104, 101, 32, 111, 119, 110, 101, 114, 39, 115]⟩, .string ⟨#[116, 104, 101, 32, 111, 119, 110, 101, 114, 39, 115]⟩]) (t := 9) (fr := (0, 0)) (heap_alloc_new W6 _)) (by simp [marksT, Value.oneCell']) (by omega); refine Lib.wpList_append_run _ rfl _ _ _ _ rfl _ _ rfl rfl _ _ hrun ?_; have HR7 : Hid (W7.ownsRow w.heap.size 9 1 (.slice (some ⟨w.heap.size, 0, none⟩) (n + 2) (n + 2)) (n + 2) (cs ++ marksT)) := hr7; have HG7 : Hid (Kept [] w W7) := (HG6.out.alloc _).grown hg7 (fun k hk => by simp at hk; right; omega); clear hrun hr7 hg7))
    go_ret
    exact ⟨w.heap.size, rfl, lentG_of HR7.out HSM.out.1 rfl rfl (by omega), Nat.le_refl _, HG7.out⟩
def cellsT (xs : List ByteArray) : List Value := xs.map fun x => Value.string x
theorem cellsT_at {xs : List ByteArray} {k : Nat} (h : k < xs.length) : (cellsT xs)[k]? = some ((fun x => Value.string x) xs[k]) := by simp [cellsT, h]
theorem cellsT_one (xs : List ByteArray) : ∀ u ∈ cellsT xs, u.oneCell' = true := by
  intro u hu
  obtain ⟨x, _, rfl⟩ := List.mem_map.1 hu
  rfl
set_option maxHeartbeats 1600000 in
set_option maxRecDepth 10000 in
theorem sameTexts_eq (v u : Value) (xs : List ByteArray) (w : World) (hx : Src 1 w v xs.length (cellsT xs)) (hy : Src 1 w u xs.length (cellsT xs)) (hf : xs.length ≤ 20000000000000) :
    Calls Tryd.prog 43 #[v, u] w fun e w' => e = .returned (.bool true) ∧ Kept [] w w' := by
  by_cases h0 : 0 < xs.length
  · obtain ⟨b, o, c, rfl, HC⟩ := hx.there h0
    obtain ⟨b2, o2, c2, rfl, HC2⟩ := hy.there h0
    have HCC : Hid (∀ k (h : k < xs.length), w.cell? ⟨b, o + k, none⟩ = some ((fun x => Value.string x) xs[k]) ∧ w.cell? ⟨b2, o2 + k, none⟩ = some ((fun x => Value.string x) xs[k])) := fun k h => ⟨HC k _ (cellsT_at h), HC2 k _ (cellsT_at h)⟩
    have hnl : ((xs.length : Int) != (xs.length : Int)) = false := by simp
    clear hx hy HC HC2
    go_enter Tryd.func43, Tryd.ntmps43
    go_wp2_with fail
    go_loopw [5] (fun i wr => ∃ k : Nat, k ≤ xs.length ∧ i = .int .i64 (k : Nat) ∧ Kept [] w wr) (fun i _ => xs.length - (intOf i).toNat)
    case atStart => exact ⟨0, Nat.zero_le _, rfl, Kept.refl [] w⟩
    case round =>
      obtain ⟨k, hk, rfl, hkw⟩ := hrel
      by_cases hlt : k < xs.length
      · have hlt' : (k : Int) < (xs.length : Int) := by omega
        obtain ⟨d1, d2⟩ := HCC.out k hlt
        have d1 := cell_kept0 hkw d1
        have d2 := cell_kept0 hkw d2
        have b0 : (0 : Int) ≤ (k : Int) := by omega
        have HKW : Hid (Kept [] w wr) := hkw
        generalize xs[k] = x at d1 d2
        have hne : (x.data.toList != x.data.toList) = false := by simp
        clear hkw
        go_wp2_with fail
        go_quiet (fail)
        go_wp2
        go_roundw
        case rel => exact ⟨k + 1, by omega, by go_num, HKW.out.drewN _⟩
        case measure => simp [intOf]; omega
      · have hlt' : ¬ (k : Int) < (xs.length : Int) := by omega
        go_wp2
        go_ret
        exact ⟨rfl, hkw⟩
  · obtain ⟨ad, c, rfl⟩ := hx.form
    obtain ⟨ad2, c2, rfl⟩ := hy.form
    obtain ⟨n, hn⟩ : ∃ n, xs.length = n := ⟨_, rfl⟩
    rw [hn]
    obtain rfl : n = 0 := by omega
    clear hx hy hn h0 hf
    go_enter Tryd.func43, Tryd.ntmps43
    go_wp2_with fail
    refine wp_loop_rounds 1 ?_
    rw [rounds_succ]
    go_wp2_with fail
    go_ret
    exact ⟨rfl, Kept.refl [] w⟩
set_option maxHeartbeats 1600000 in
set_option maxRecDepth 10000 in
theorem wholeTexts_any (b : Nat) (u : Value) (xs : List ByteArray) (w : World) (h : LentG 9 1 w b xs.length (cellsT xs) marksT) (hu : Src 1 w u xs.length (cellsT xs)) :
    Calls Tryd.prog 27 #[.slice (some ⟨b, 0, none⟩) xs.length (xs.length + 2), u] w fun e w' => e = .returned (.bool true) ∧ Kept [] w w' := by
  have hf := h.few
  have m0 : w.cell? ⟨b, xs.length, none⟩ = some (.string ⟨#[116, 104, 101, 32, 111, 119, 110, 101, 114, 39, 115]⟩) := by have := h.mark (j := 0) rfl; rwa [Nat.mul_one, Nat.add_zero] at this
  have m1 : w.cell? ⟨b, xs.length + 1, none⟩ = some (.string ⟨#[116, 104, 101, 32, 111, 119, 110, 101, 114, 39, 115]⟩) := by have := h.mark (j := 1) rfl; rwa [Nat.mul_one] at this
  have HC : Hid (∀ W, Kept [] w W → Calls Tryd.prog 43 #[.slice (some ⟨b, 0, none⟩) xs.length (xs.length + 2), u] W fun e w1 => e = .returned (.bool true) ∧ Kept [] W w1) := fun W k => sameTexts_eq _ _ xs W ((h.src (cellsT_one xs)).kept k) (hu.kept k) hf
  obtain ⟨ad, c, rfl⟩ := hu.form
  clear h hu
  generalize xs.length = n at *
  have b1 : ¬ ((n : Int) + 2 < (n : Int) + 2) := by omega
  go_enter Tryd.func27, Tryd.ntmps27
  go_wp2_with (go_at_call 43; refine (HC.out _ (Kept.refl [] _)).mono ?_; rintro e w1 ⟨rfl, hk1⟩; have HK1 : Hid (Kept [] w w1) := hk1; clear hk1)
  go_ret
  exact ⟨rfl, HK1.out⟩
end Go.Proofs.YtkkhilgcjaigcaaDoor

/- Edges, compared as a whole. -/
namespace Go.Proofs.YtkkhilgcjaigcaaDoor
open Go.RowKit Go.Shelf

theorem eqE_in (a b c d : Int) (w : World) : (Op.equal 52 (.agg #[.int .i64 a, .int .i64 b, .int .u16 c, .int .u16 d]) (.agg #[.int .i64 a, .int .i64 b, .int .u16 c, .int .u16 d])).run Tryd.prog w = .ok true w := by
  have h : ∀ k, (Op.equalIn (k + 1 + 1) 52 (.agg #[.int .i64 a, .int .i64 b, .int .u16 c, .int .u16 d]) (.agg #[.int .i64 a, .int .i64 b, .int .u16 c, .int .u16 d])).run Tryd.prog w = .ok true w := fun k => by
    rw [run_equalIn_struct w (k + 1) 52 _ _ (by kernel_rfl) (by kernel_rfl)]
    have e1 : (Op.equalIn (k + 1) 3 (.int .i64 a) (.int .i64 a)).run Tryd.prog w = .ok true w := by simp [Op.equalIn, run_underlying Tryd.underlying3]
    have e2 : (Op.equalIn (k + 1) 3 (.int .i64 b) (.int .i64 b)).run Tryd.prog w = .ok true w := by simp [Op.equalIn, run_underlying Tryd.underlying3]
    have e3 : (Op.equalIn (k + 1) 27 (.int .u16 c) (.int .u16 c)).run Tryd.prog w = .ok true w := by simp [Op.equalIn, run_underlying Tryd.underlying27]
    have e4 : (Op.equalIn (k + 1) 27 (.int .u16 d) (.int .u16 d)).run Tryd.prog w = .ok true w := by simp [Op.equalIn, run_underlying Tryd.underlying27]
    simp only [Program.fieldsOf, Tryd.underlying52]
    go_simp
  simp [Op.equal, Op.maxDepth, h 9998]
theorem eqlE (a b c d : Int) (w : World) : (binOp .eql 52 (.agg #[.int .i64 a, .int .i64 b, .int .u16 c, .int .u16 d]) (.agg #[.int .i64 a, .int .i64 b, .int .u16 c, .int .u16 d])).run Tryd.prog w = .ok (.bool true) w := by
  simp only [binOp]
  simp [eqE_in]
theorem neqE (a b c d : Int) (w : World) : (binOp .neq 52 (.agg #[.int .i64 a, .int .i64 b, .int .u16 c, .int .u16 d]) (.agg #[.int .i64 a, .int .i64 b, .int .u16 c, .int .u16 d])).run Tryd.prog w = .ok (.bool false) w := by
  simp only [binOp]
  simp [eqE_in]
end Go.Proofs.YtkkhilgcjaigcaaDoor

/- Lists of edges that are lent: LentEdges, SameEdges, WholeEdges, SpoilEdges. -/
namespace Go.Proofs.YtkkhilgcjaigcaaDoor
open Go.RowKit Go.Shelf

theorem Tryd.infoEL : (Tryd.prog.info? 52).map (fun i => (i.zero, i.size, i.bytes)) = some (some (.agg #[.int .i64 0, .int .i64 0, .int .u16 0, .int .u16 0]), 4, 24) := by kernel_rfl
def marksE : List Value := [.int .i64 (-7), .int .i64 0, .int .u16 0, .int .u16 0, .int .i64 (-8), .int .i64 0, .int .u16 0, .int .u16 0]
def spoilE : Value := .agg #[.int .i64 (-5), .int .i64 0, .int .u16 0, .int .u16 0]
theorem make_roomE (w : World) (k : Nat) (hk : k ≤ 1000000000) : Sem.run Tryd.prog (Instr.makeSlice 24 (.int .i64 0) (.int .i64 ((k : Int) + 2))) w = .ok (.slice (some ⟨w.heap.size, 0, none⟩) 0 (k + 2)) (w.alloc (.cells (madeCells (Value.cells (.agg #[.int .i64 0, .int .i64 0, .int .u16 0, .int .u16 0])) ((k + 2) * 4)) 52)) := by
  obtain ⟨i, hi, hz, hs, hb⟩ := info_parts Tryd.infoEL
  have h := run_make (P := Tryd.prog) w 24 52 i _ Tryd.underlying24 hi hz .i64 .i64 0 ((k : Int) + 2) (by omega) (by omega) (by rw [hb]; omega) (by omega)
  rw [h, hs, show ((k : Int) + 2).toNat = k + 2 from by omega]
  rfl
theorem append_noneE (w : World) (g c : Nat) (ty : TypeId) : (Builtin.append_ #[24, 24] ty #[.slice (some ⟨g, 0, none⟩) 0 c, .slice none 0 0]).run Tryd.prog w = .ok (.slice (some ⟨g, 0, none⟩) 0 c) w := by
  go_simp
set_option maxHeartbeats 1600000 in
set_option maxRecDepth 10000 in
theorem lentEdges_any (v : Value) (n : Nat) (cs : List Value) (w : World) (h : Src 4 w v n cs) (hn : n ≤ 100000000) :
    Calls Tryd.prog 23 #[v] w fun e w' => ∃ b, e = .returned (.slice (some ⟨b, 0, none⟩) n (n + 2)) ∧ LentG 52 4 w' b n cs marksE ∧ w.heap.size ≤ b ∧ Kept [] w w' := by
  have hmk := make_roomE w n (by omega)
  obtain ⟨inf, hi1, hi2, hi3, hi4⟩ := info_parts Tryd.infoEL
  have HINF : Hid (Tryd.prog.info? 52 = some inf ∧ inf.size = 4) := ⟨hi1, hi3⟩
  have HSM : Hid (cs.length = n * 4 ∧ ∀ u ∈ cs, u.oneCell' = true) := ⟨h.len, h.one⟩
  have hw : IntKind.i64.wrap ((n : Int) + 2) = (n : Int) + 2 := by rw [IntKind.wrap_i64]; omega
  have k0 : (0 : Int) ≤ (n : Int) := by omega
  have k1 : (n : Int) ≤ (n : Int) + 2 := by omega
  obtain ⟨W0, hW0⟩ : ∃ W0, w.alloc (.cells (madeCells (Value.cells (.agg #[.int .i64 0, .int .i64 0, .int .u16 0, .int .u16 0])) ((n + 2) * 4)) 52) = W0 := ⟨_, rfl⟩
  have HW0 : Hid (Kept [] w W0) := by show Kept [] w W0; rw [← hW0]; exact (Kept.refl [] w).alloc _
  have HR0 : Hid (W0.ownsRow w.heap.size 52 4 (.slice (some ⟨w.heap.size, 0, none⟩) 0 (n + 2)) 0 []) := by
    show World.ownsRow _ _ _ _ _ _ _
    rw [← hW0]
    exact ⟨rfl, .inr ⟨_, _, _, rfl, Nat.le_refl _, heap_alloc_new _ _, Nat.zero_le _, by unfold maxLen; omega, size_madeCells _ _, by simp⟩⟩
  rw [hW0] at hmk
  clear hW0 hi1 hi2 hi3 hi4
  rcases h.lie with ⟨rfl, rfl⟩ | ⟨ad, c, rfl, hc1, hc2, hC1, hC2, hC⟩
  · obtain rfl : cs = [] := List.length_eq_zero_iff.1 (by have := HSM.out.1; omega)
    clear h
    simp only [Int.natCast_zero, Int.zero_add, Nat.zero_add] at hmk HR0
    clear hw k0 k1
    have hp : ∀ j u, (marksE)[j]? = some u → (W0.alloc (.cells #[.int .i64 (-7), .int .i64 0, .int .u16 0, .int .u16 0, .int .i64 (-8), .int .i64 0, .int .u16 0, .int .u16 0] 52)).cell? ((⟨W0.heap.size, 0, none⟩ : Addr).add j) = some u := World.news_of_block (cs := #[.int .i64 (-7), .int .i64 0, .int .u16 0, .int .u16 0, .int .i64 (-8), .int .i64 0, .int .u16 0, .int .u16 0]) (t := 52) (fr := (0, 0)) (heap_alloc_new W0 _)
    obtain ⟨W7, hrun, hr7, hg7⟩ := run_append_fits (P := Tryd.prog) (W0.alloc (.cells #[.int .i64 (-7), .int .i64 0, .int .u16 0, .int .u16 0, .int .i64 (-8), .int .i64 0, .int .u16 0, .int .u16 0] 52)) w.heap.size 24 24 52 inf 4 Tryd.underlying24 HINF.out.1 HINF.out.2 w.heap.size 0 2 [] (bx_keptL HR0.out ((Kept.refl [] _).alloc _) (by simp)) ⟨W0.heap.size, 0, none⟩ 2 2 marksE rfl hp (by simp [marksE, Value.oneCell']) (by omega)
    have HRUN : Hid ((Builtin.append_ #[24, 24] 24 #[.slice (some ⟨w.heap.size, 0, none⟩) 0 2, .slice (some ⟨W0.heap.size, 0, none⟩) 2 2]).run Tryd.prog (W0.alloc (.cells #[.int .i64 (-7), .int .i64 0, .int .u16 0, .int .u16 0, .int .i64 (-8), .int .i64 0, .int .u16 0, .int .u16 0] 52)) = .ok (.slice (some ⟨w.heap.size, 0, none⟩) 2 2) W7) := hrun
    have HR7 : Hid (W7.ownsRow w.heap.size 52 4 (.slice (some ⟨w.heap.size, 0, none⟩) 2 2) 2 ([] ++ marksE)) := hr7
    have HG7 : Hid (Kept [] w W7) := (HW0.out.alloc _).grown hg7 (fun k hk => by simp at hk; right; omega)
    clear hrun hr7 hg7 hp
    have T1 : Hid True := trivial
    go_enter Tryd.func23, Tryd.ntmps23
    go_wp2_with (first
      | (clear T1; at_builtin; refine Lib.wpList_append_run _ rfl _ _ _ _ rfl _ _ rfl rfl _ _ (append_noneE W0 w.heap.size 2 _) ?_)
      | (at_builtin; refine Lib.wpList_append_run _ rfl _ _ _ _ rfl _ _ rfl rfl _ _ HRUN.out ?_))
    refine bodyPost_ret (results_tmp rfl _ _ _) (by rfl) ?_
    exact ⟨w.heap.size, rfl, lentG_of (n := 0) HR7.out rfl rfl rfl (by omega), Nat.le_refl _, HG7.out⟩
  · have HN : Hid (∀ W, Kept [] w W → ∀ j u, cs[j]? = some u → W.cell? (ad.add j) = some u) := fun W k => (h.kept k).cellsAt
    have T1 : Hid True := trivial
    clear h hC1 hC2 hC
    go_enter Tryd.func23, Tryd.ntmps23
    go_wp2_with (first
      | (clear T1; at_builtin; refine wpList_append_fits _ rfl _ _ 24 rfl w.heap.size 52 inf 4 Tryd.underlying24 HINF.out.1 HINF.out.2 w.heap.size 0 (n + 2) [] rfl HR0.out ad n c cs rfl HSM.out.1 (HN.out _ HW0.out) HSM.out.2 (by omega) ?_; intro W6 hr6 hg6; have HR6 : Hid (W6.ownsRow w.heap.size 52 4 (.slice (some ⟨w.heap.size, 0, none⟩) n (n + 2)) n cs) := own_zeroG hr6; have HG6 : Hid (Kept [] w W6) := HW0.out.grown hg6 (fun k hk => by simp at hk; right; omega); clear hr6 hg6)
      | (at_builtin; obtain ⟨W7, hrun, hr7, hg7⟩ := run_append_fits (P := Tryd.prog) (W6.alloc (.cells #[.int .i64 (-7), .int .i64 0, .int .u16 0, .int .u16 0, .int .i64 (-8), .int .i64 0, .int .u16 0, .int .u16 0] 52)) w.heap.size 24 24 52 inf 4 Tryd.underlying24 HINF.out.1 HINF.out.2 w.heap.size n (n + 2) cs (bx_keptL HR6.out ((Kept.refl [] _).alloc _) (by simp)) ⟨W6.heap.size, 0, none⟩ 2 2 marksE rfl (World.news_of_block (cs := #[.int .i64 (-7), .int .i64 0, .int .u16 0, .int .u16 0, .int .i64 (-8), .int .i64 0, .int .u16 0, .int .u16 0]) (t := 52) (fr := (0, 0)) (heap_alloc_new W6 _)) (by simp [marksE, Value.oneCell']) (by omega); refine Lib.wpList_append_run _ rfl _ _ _ _ rfl _ _ rfl rfl _ _ hrun ?_; have HR7 : Hid (W7.ownsRow w.heap.size 52 4 (.slice (some ⟨w.heap.size, 0, none⟩) (n + 2) (n + 2)) (n + 2) (cs ++ marksE)) := hr7; have HG7 : Hid (Kept [] w W7) := (HG6.out.alloc _).grown hg7 (fun k hk => by simp at hk; right; omega); clear hrun hr7 hg7))
    go_ret
    exact ⟨w.heap.size, rfl, lentG_of HR7.out HSM.out.1 rfl rfl (by omega), Nat.le_refl _, HG7.out⟩
def cellE (e : Edg) : List Value := [.int .i64 e.fr, .int .i64 e.to, .int .u16 (e.mu : Nat), .int .u16 (e.no : Nat)]
def cellsE (es : List Edg) : List Value := es.flatMap cellE
theorem cellsE_cons (e : Edg) (es : List Edg) : cellsE (e :: es) = cellE e ++ cellsE es := by simp [cellsE]
theorem cellsE_len (es : List Edg) : (cellsE es).length = es.length * 4 := by
  induction es with
  | nil => rfl
  | cons e es ih => rw [cellsE_cons, List.length_append, ih, List.length_cons]; show 4 + _ = _; omega
theorem cellsE_at : ∀ {es : List Edg} {k : Nat} (h : k < es.length) (j : Nat), j < 4 → (cellsE es)[k * 4 + j]? = (cellE es[k])[j]?
  | e :: es, 0, _, j, hj => by
    rw [cellsE_cons, Nat.zero_mul, Nat.zero_add, List.getElem?_append_left (by show j < 4; exact hj)]
    rfl
  | e :: es, k + 1, h, j, hj => by
    rw [cellsE_cons, List.getElem?_append_right (by show 4 ≤ _; omega), show (k + 1) * 4 + j - (cellE e).length = k * 4 + j by show _ - 4 = _; omega]
    exact cellsE_at (Nat.lt_of_succ_lt_succ h) j hj
theorem cellsE_one (es : List Edg) : ∀ u ∈ cellsE es, u.oneCell' = true := by
  intro u hu
  obtain ⟨e, _, h⟩ := List.mem_flatMap.1 hu
  simp [cellE] at h
  rcases h with rfl | rfl | rfl | rfl <;> rfl
set_option maxHeartbeats 1600000 in
set_option maxRecDepth 10000 in
theorem sameEdges_eq (v u : Value) (xs : List Edg) (w : World) (hx : Src 4 w v xs.length (cellsE xs)) (hy : Src 4 w u xs.length (cellsE xs)) (hf : xs.length ≤ 20000000000000) :
    Calls Tryd.prog 45 #[v, u] w fun e w' => e = .returned (.bool true) ∧ Kept [] w w' := by
  by_cases h0 : 0 < xs.length
  · obtain ⟨b, o, c, rfl, HC⟩ := hx.there h0
    obtain ⟨b2, o2, c2, rfl, HC2⟩ := hy.there h0
    have HCC : Hid (∀ k (h : k < xs.length) (j : Nat) (x : Value), (cellE xs[k])[j]? = some x → w.cell? ⟨b, o + k * 4 + j, none⟩ = some x ∧ w.cell? ⟨b2, o2 + k * 4 + j, none⟩ = some x) := fun k h j x hx => by
      have hj : j < 4 := by
        rcases Nat.lt_or_ge j 4 with h | h
        · exact h
        · rw [List.getElem?_eq_none (by show 4 ≤ j; exact h)] at hx; cases hx
      rw [← cellsE_at h j hj] at hx
      have h1 := HC _ _ hx
      have h2 := HC2 _ _ hx
      rw [← Nat.add_assoc] at h1 h2
      exact ⟨h1, h2⟩
    have hnl : ((xs.length : Int) != (xs.length : Int)) = false := by simp
    have hq := neqE
    clear hx hy HC HC2
    go_enter Tryd.func45, Tryd.ntmps45
    go_wp2_with fail
    go_loopw [5] (fun i wr => ∃ k : Nat, k ≤ xs.length ∧ i = .int .i64 (k : Nat) ∧ Kept [] w wr) (fun i _ => xs.length - (intOf i).toNat)
    case atStart => exact ⟨0, Nat.zero_le _, rfl, Kept.refl [] w⟩
    case round =>
      obtain ⟨k, hk, rfl, hkw⟩ := hrel
      by_cases hlt : k < xs.length
      · have hlt' : (k : Int) < (xs.length : Int) := by omega
        have hc := HCC.out k hlt
        generalize xs[k] = x at hc
        have d0 := cell_kept0 hkw (hc 0 _ rfl).1
        have d1 := cell_kept0 hkw (hc 1 _ rfl).1
        have d2 := cell_kept0 hkw (hc 2 _ rfl).1
        have d3 := cell_kept0 hkw (hc 3 _ rfl).1
        have g0 := cell_kept0 hkw (hc 0 _ rfl).2
        have g1 := cell_kept0 hkw (hc 1 _ rfl).2
        have g2 := cell_kept0 hkw (hc 2 _ rfl).2
        have g3 := cell_kept0 hkw (hc 3 _ rfl).2
        rw [Nat.add_zero] at d0 g0
        have b0 : (0 : Int) ≤ (k : Int) := by omega
        have HKW : Hid (Kept [] w wr) := hkw
        clear hkw hc
        go_wp2_with fail
        go_quiet (fail)
        go_wp2
        go_roundw
        case rel => exact ⟨k + 1, by omega, by go_num, HKW.out.drewN _⟩
        case measure => simp [intOf]; omega
      · have hlt' : ¬ (k : Int) < (xs.length : Int) := by omega
        go_wp2
        go_ret
        exact ⟨rfl, hkw⟩
  · obtain ⟨ad, c, rfl⟩ := hx.form
    obtain ⟨ad2, c2, rfl⟩ := hy.form
    obtain ⟨n, hn⟩ : ∃ n, xs.length = n := ⟨_, rfl⟩
    rw [hn]
    obtain rfl : n = 0 := by omega
    clear hx hy hn h0 hf
    go_enter Tryd.func45, Tryd.ntmps45
    go_wp2_with fail
    refine wp_loop_rounds 1 ?_
    rw [rounds_succ]
    go_wp2_with fail
    go_ret
    exact ⟨rfl, Kept.refl [] w⟩
set_option maxHeartbeats 1600000 in
set_option maxRecDepth 10000 in
theorem wholeEdges_any (b : Nat) (u : Value) (xs : List Edg) (w : World) (h : LentG 52 4 w b xs.length (cellsE xs) marksE) (hu : Src 4 w u xs.length (cellsE xs)) :
    Calls Tryd.prog 29 #[.slice (some ⟨b, 0, none⟩) xs.length (xs.length + 2), u] w fun e w' => e = .returned (.bool true) ∧ Kept [] w w' := by
  have hf := h.few
  have m0 : w.cell? ⟨b, xs.length * 4, none⟩ = some (.int .i64 (-7)) := by have := h.mark (j := 0) rfl; rwa [Nat.add_zero] at this
  have m1 : w.cell? ⟨b, xs.length * 4 + 1, none⟩ = some (.int .i64 0) := h.mark (j := 1) rfl
  have m2 : w.cell? ⟨b, xs.length * 4 + 2, none⟩ = some (.int .u16 0) := h.mark (j := 2) rfl
  have m3 : w.cell? ⟨b, xs.length * 4 + 3, none⟩ = some (.int .u16 0) := h.mark (j := 3) rfl
  have m4 : w.cell? ⟨b, (xs.length + 1) * 4, none⟩ = some (.int .i64 (-8)) := by have := h.mark (j := 4) rfl; rwa [show xs.length * 4 + 4 = (xs.length + 1) * 4 by omega] at this
  have m5 : w.cell? ⟨b, (xs.length + 1) * 4 + 1, none⟩ = some (.int .i64 0) := by have := h.mark (j := 5) rfl; rwa [show xs.length * 4 + 5 = (xs.length + 1) * 4 + 1 by omega] at this
  have m6 : w.cell? ⟨b, (xs.length + 1) * 4 + 2, none⟩ = some (.int .u16 0) := by have := h.mark (j := 6) rfl; rwa [show xs.length * 4 + 6 = (xs.length + 1) * 4 + 2 by omega] at this
  have m7 : w.cell? ⟨b, (xs.length + 1) * 4 + 3, none⟩ = some (.int .u16 0) := by have := h.mark (j := 7) rfl; rwa [show xs.length * 4 + 7 = (xs.length + 1) * 4 + 3 by omega] at this
  have HC : Hid (∀ W, Kept [] w W → Calls Tryd.prog 45 #[.slice (some ⟨b, 0, none⟩) xs.length (xs.length + 2), u] W fun e w1 => e = .returned (.bool true) ∧ Kept [] W w1) := fun W k => sameEdges_eq _ _ xs W ((h.src (cellsE_one xs)).kept k) (hu.kept k) hf
  have hq := eqlE
  obtain ⟨ad, c, rfl⟩ := hu.form
  clear h hu
  generalize xs.length = n at *
  have b1 : ¬ ((n : Int) + 2 < (n : Int) + 2) := by omega
  go_enter Tryd.func29, Tryd.ntmps29
  go_wp2_with (go_at_call 45; refine (HC.out _ (Kept.refl [] _)).mono ?_; rintro e w1 ⟨rfl, hk1⟩; have HK1 : Hid (Kept [] w w1) := hk1; clear hk1)
  go_ret
  exact ⟨rfl, HK1.out⟩
theorem cellsE_set : ∀ (l : List Edg) (i : Nat) (e : Edg), i < l.length → ((((cellsE l).set (i * 4) (.int .i64 e.fr)).set (i * 4 + 1) (.int .i64 e.to)).set (i * 4 + 2) (.int .u16 (e.mu : Nat))).set (i * 4 + 3) (.int .u16 (e.no : Nat)) = cellsE (l.set i e)
  | x :: l, 0, e, _ => by
    rw [List.set_cons_zero, cellsE_cons, cellsE_cons]
    rfl
  | x :: l, i + 1, e, h => by
    have ih := cellsE_set l i e (Nat.lt_of_succ_lt_succ h)
    rw [List.set_cons_succ, cellsE_cons, cellsE_cons, ← ih]
    have hs : ∀ (m : List Value) (j : Nat) (u : Value), (cellE x ++ m).set ((i + 1) * 4 + j) u = cellE x ++ m.set (i * 4 + j) u := fun m j u => by
      rw [List.set_append_right _ _ (by show 4 ≤ _; omega)]
      congr 2
      show (i + 1) * 4 + j - 4 = _
      omega
    have h0 := hs (cellsE l) 0 (.int .i64 e.fr)
    simp only [Nat.add_zero] at h0
    rw [h0, hs, hs, hs]
def edgS : Edg := ⟨-5, 0, 0, 0⟩
end Go.Proofs.YtkkhilgcjaigcaaDoor
