/- package buchi: areEdges. -/
import Derived.Test.YtbbfajbnklgncaaHC
import Derived.Deep.RegionHeld3
import Derived.Laws.BitsAllLaws
import Derived.BigQuiet
import Derived.Deep.QuietTactic
import Derived.Deep.CutRange
namespace Go.Proofs.Ytbbfajbnklgncaa
open Go.RowKit Go.Shelf

theorem keptB {A B C : World} (h : Kept [] A B) (k : Kept [] B C) : Kept [] A C := Kept.trans (F := []) (G := []) (H := []) h k (by simp) (by simp)
/-- Lists of numbers in a list. -/
structure Rowss (W : World) (v : Value) (ss : List (List Int)) : Prop where
  few : ss.length ≤ 8796093022208
  lie : (v = .slice none 0 0 ∧ ss = []) ∨ ∃ b o c, v = .slice (some ⟨b, o, none⟩) ss.length c ∧ ss.length ≤ c ∧ c ≤ maxLen ∧ ∀ i (h : i < ss.length), ∃ u, W.cell? ⟨b, o + i, none⟩ = some u ∧ Ints W u ss[i]
theorem Rowss.kept {W W' : World} {v : Value} {ss : List (List Int)} (h : Rowss W v ss) (k : Kept [] W W') : Rowss W' v ss := by
  refine ⟨h.few, ?_⟩
  rcases h.lie with h1 | ⟨b, o, c, h1, h2, h3, h4⟩
  · exact .inl h1
  · refine .inr ⟨b, o, c, h1, h2, h3, fun i hi => ?_⟩
    obtain ⟨u, q1, q2⟩ := h4 i hi
    exact ⟨u, cell_kept0 k q1, q2.kept k⟩
/-- An automaton with sets. -/
structure Gen where
  ps : List ByteArray
  st : Int
  ini : List Int
  es : List Edg
  sets : List (List Int)
def genV (pv : Value) (st : Int) (iv ev sv : Value) : Value := .agg #[pv, .int .i64 st, iv, ev, sv]
structure IsG (W : World) (pv iv ev sv : Value) (g : Gen) : Prop where
  ps : Strs W pv g.ps
  ini : Ints W iv g.ini
  es : Edgs W ev g.es
  sets : Rowss W sv g.sets
  st : -9223372036854775808 ≤ g.st ∧ g.st ≤ 9223372036854775807
theorem IsG.kept {W W' : World} {pv iv ev sv : Value} {g : Gen} (h : IsG W pv iv ev sv g) (k : Kept [] W W') : IsG W' pv iv ev sv g := ⟨h.ps.kept k, h.ini.kept k, h.es.kept k, h.sets.kept k, h.st⟩
def edOk (g : Gen) (e : Edg) : Bool := stateB e.fr g.st && stateB e.to g.st && decide (e.mu &&& e.no = 0) && letterB (e.mu ||| e.no) g.ps.length
def edB (g : Gen) (i : Nat) (e : Edg) : Bool := edOk g e && (decide (i = 0) || decide (cmpEd (g.es.getD (i - 1) ⟨0, 0, 0, 0⟩) e < 0))
def edgesB (g : Gen) : Bool := (List.range g.es.length).all fun i => edB g i (g.es.getD i ⟨0, 0, 0, 0⟩)
theorem edgesB_no {g : Gen} {i : Nat} (hi : i < g.es.length) (h : edB g i g.es[i] = false) : edgesB g = false := by
  unfold edgesB
  rw [List.all_eq_false]
  exact ⟨i, List.mem_range.2 hi, by rw [List.getD_eq_getElem?_getD, List.getElem?_eq_getElem hi]; simp [h]⟩
theorem edgesB_yes {g : Gen} (h : ∀ i (hi : i < g.es.length), edB g i g.es[i] = true) : edgesB g = true := by
  unfold edgesB
  rw [List.all_eq_true]
  intro i hi
  have hi' := List.mem_range.1 hi
  rw [List.getD_eq_getElem?_getD, List.getElem?_eq_getElem hi']
  exact h i hi'
set_option maxHeartbeats 4000000 in
set_option maxRecDepth 10000 in
theorem areEdges_any (pv iv ev sv : Value) (g : Gen) (w : World) (h : IsG w pv iv ev sv g) :
    Calls Try.prog 89 #[genV pv g.st iv ev sv] w fun e w' => e = .returned (.bool (edgesB g)) ∧ Kept [] w w' := by
  obtain ⟨rr, hrr⟩ : ∃ rr, edgesB g = rr := ⟨_, rfl⟩
  rw [hrr]
  have HR : Hid (edgesB g = rr) := hrr
  clear hrr
  obtain ⟨pad, pc, rfl, _, _⟩ := h.ps.form
  obtain ⟨iad, ic, rfl, _, _⟩ := h.ini.form
  have HG : Hid (IsG w (.slice pad g.ps.length pc) (.slice iad g.ini.length ic) ev sv g) := h
  have hfew := h.es.few
  unfold genV
  obtain ⟨sad, sn, sc, rfl⟩ : ∃ ad n c, sv = .slice ad n c := by
    rcases h.sets.lie with ⟨rfl, _⟩ | ⟨_, _, _, rfl, _⟩
    · exact ⟨_, _, _, rfl⟩
    · exact ⟨_, _, _, rfl⟩
  rcases h.es.lie with ⟨rfl, he⟩ | ⟨b, o, c, rfl, hc1, hc2, hcell⟩
  · obtain rfl : true = rr := by rw [← HR.out]; unfold edgesB; rw [he]; rfl
    clear h hfew he HG
    go_enter Try.func89, Try.ntmps89
    go_wp2_with fail
    refine wp_loop_rounds 1 ?_
    rw [rounds_succ]
    go_wp2
    go_ret
    exact ⟨rfl, (Kept.refl [] w).alloc _⟩
  · have HCE : Hid (∀ i (h : i < g.es.length), w.cell? ⟨b, o + i * 4, none⟩ = some (.int .i64 g.es[i].fr) ∧ w.cell? ⟨b, o + i * 4 + 1, none⟩ = some (.int .i64 g.es[i].to) ∧ w.cell? ⟨b, o + i * 4 + 2, none⟩ = some (.int .u16 (g.es[i].mu : Nat)) ∧ w.cell? ⟨b, o + i * 4 + 3, none⟩ = some (.int .u16 (g.es[i].no : Nat))) := hcell
    clear h hcell
    have hcm : c ≤ 9223372036854775807 := by unfold maxLen at hc2; exact hc2
    obtain ⟨V, hV⟩ : ∃ V, w.alloc (.cells #[.slice pad g.ps.length pc, .int .i64 g.st, .slice iad g.ini.length ic, .slice (some ⟨b, o, none⟩) g.es.length c, .slice sad sn sc] 134) = V := ⟨_, rfl⟩
    have HKV : Hid (Kept [] w V) := by show Kept [] w V; rw [← hV]; exact (Kept.refl [] w).alloc _
    have HBV : Hid (V.heap[w.heap.size]? = some (.cells #[.slice pad g.ps.length pc, .int .i64 g.st, .slice iad g.ini.length ic, .slice (some ⟨b, o, none⟩) g.es.length c, .slice sad sn sc] 134 (0, 0))) := by show V.heap[w.heap.size]? = _; rw [← hV]; exact al0 _ _
    have HC5 : Hid (∀ W, Kept [] V W → W.cell? ⟨w.heap.size, 0, none⟩ = some (.slice pad g.ps.length pc) ∧ W.cell? ⟨w.heap.size, 1, none⟩ = some (.int .i64 g.st) ∧ W.cell? ⟨w.heap.size, 3, none⟩ = some (.slice (some ⟨b, o, none⟩) g.es.length c)) := fun W k => ⟨(cell_of (k.at HBV.out (by simp)) 0).trans rfl, (cell_of (k.at HBV.out (by simp)) 1).trans rfl, (cell_of (k.at HBV.out (by simp)) 3).trans rfl⟩
    have HIS : Hid (∀ s W, Calls Try.prog 92 #[.int .i64 s, .int .i64 g.st] W fun e w' => e = .returned (.bool (stateB s g.st)) ∧ w' = W) := fun s W => isState_any s g.st W
    have HLB : Hid (w.heap.size < V.heap.size) := by show _ < _; rw [← hV, World.size_alloc]; omega
    obtain ⟨q0, q1, q3⟩ := HC5.out V (Kept.refl [] V)
    go_enter Try.func89, Try.ntmps89
    go_wp2_with fail
    first | rw [hV] | skip
    clear hV q0 q1 q3
    go_loopw [8] (fun i wr => ∃ k : Nat, i = .int .i64 (k : Nat) ∧ k ≤ g.es.length ∧ Hid (∀ j (h : j < g.es.length), j < k → edB g j g.es[j] = true) ∧ Hid (Kept [] V wr)) (fun i _ => g.es.length - (intOf i).toNat)
    case atStart => exact ⟨0, rfl, Nat.zero_le _, fun j _ h => by omega, Kept.refl [] V⟩
    case round =>
      obtain ⟨k, rfl, hk, HA, HKW⟩ := hrel
      by_cases hlt : k < g.es.length
      · have z0 : (k : Int) < (g.es.length : Int) := by omega
        obtain ⟨e1, he1⟩ : ∃ x, g.es[k].fr = x := ⟨_, rfl⟩
        obtain ⟨e2, he2⟩ : ∃ x, g.es[k].to = x := ⟨_, rfl⟩
        obtain ⟨e3, he3⟩ : ∃ x, g.es[k].mu = x := ⟨_, rfl⟩
        obtain ⟨e4, he4⟩ : ∃ x, g.es[k].no = x := ⟨_, rfl⟩
        obtain ⟨c1, c2, c3, c4⟩ := HCE.out k hlt
        rw [he1] at c1
        rw [he2] at c2
        rw [he3] at c3
        rw [he4] at c4
        have c1 := cell_kept0 (keptB HKV.out HKW.out) c1
        have c2 := cell_kept0 (keptB HKV.out HKW.out) c2
        have c3 := cell_kept0 (keptB HKV.out HKW.out) c3
        have c4 := cell_kept0 (keptB HKV.out HKW.out) c4
        go_upto_region 4 with fail
        obtain ⟨U, hU⟩ : ∃ U, wr.alloc (.cells #[.int .i64 e1, .int .i64 e2, .int .u16 (e3 : Nat), .int .u16 (e4 : Nat)] 141) = U := ⟨_, rfl⟩
        have hkU : Kept [] wr U := by rw [← hU]; exact (Kept.refl [] wr).alloc _
        have hbU : U.heap[wr.heap.size]? = some (.cells #[.int .i64 e1, .int .i64 e2, .int .u16 (e3 : Nat), .int .u16 (e4 : Nat)] 141 (0, 0)) := by rw [← hU]; exact al0 _ _
        rw [hU]
        have HKU : Hid (Kept [] V U) := keptB HKW.out hkU
        have x1 : U.cell? ⟨wr.heap.size, 0, none⟩ = some (.int .i64 e1) := (cell_of hbU 0).trans rfl
        have x2 : U.cell? ⟨wr.heap.size, 1, none⟩ = some (.int .i64 e2) := (cell_of hbU 1).trans rfl
        have x3 : U.cell? ⟨wr.heap.size, 2, none⟩ = some (.int .u16 (e3 : Nat)) := (cell_of hbU 2).trans rfl
        have x4 : U.cell? ⟨wr.heap.size, 3, none⟩ = some (.int .u16 (e4 : Nat)) := (cell_of hbU 3).trans rfl
        have HBU : Hid (U.heap[wr.heap.size]? = some (.cells #[.int .i64 e1, .int .i64 e2, .int .u16 (e3 : Nat), .int .u16 (e4 : Nat)] 141 (0, 0))) := hbU
        clear hU hkU hbU c1 c2 c3 c4
        obtain ⟨Be, hBe⟩ : ∃ Be, wr.heap.size = Be := ⟨_, rfl⟩
        rw [hBe] at x1 x2 x3 x4 HBU ⊢
        clear hBe
        obtain ⟨d0, d1, d3⟩ := HC5.out U HKU.out
        have hwf := HG.out.es.wf _ (List.getElem_mem hlt)
        have h3 : e3 < 65536 := by rw [← he3]; exact hwf.2.2.1
        have h4 : e4 < 65536 := by rw [← he4]; exact hwf.2.2.2
        have HED : Hid (g.es[k] = ⟨e1, e2, e3, e4⟩) := by
          show g.es[k] = _
          rw [← he1, ← he2, ← he3, ← he4]
        clear he1 he2 he3 he4 hwf
        obtain ⟨b1, hb1⟩ : ∃ b1, stateB e1 g.st = b1 := ⟨_, rfl⟩
        obtain ⟨b2, hb2⟩ : ∃ b2, stateB e2 g.st = b2 := ⟨_, rfl⟩
        obtain ⟨an, han⟩ : ∃ an : Nat, e3 &&& e4 = an := ⟨_, rfl⟩
        obtain ⟨on, hon⟩ : ∃ on : Nat, e3 ||| e4 = on := ⟨_, rfl⟩
        obtain ⟨lb, hlb⟩ : ∃ lb, letterB on g.ps.length = lb := ⟨_, rfl⟩
        have hand : bits .and .u16 (e3 : Int) (e4 : Int) = (an : Int) := by rw [u16_and_nat e3 e4 h3 h4, han]
        have hor : bits .or .u16 (e3 : Int) (e4 : Int) = (on : Int) := by rw [u16_or_nat e3 e4 h3 h4, hon]
        have HOK : Hid (edOk g ⟨e1, e2, e3, e4⟩ = (b1 && b2 && decide (an = 0) && lb)) := by show edOk g _ = _; unfold edOk; dsimp only; rw [hb1, hb2, han, hon, hlb]
        have HI1 : Hid (∀ W, Calls Try.prog 92 #[.int .i64 e1, .int .i64 g.st] W fun e w' => e = .returned (.bool b1) ∧ w' = W) := fun W => by rw [← hb1]; exact HIS.out e1 W
        have HI2 : Hid (∀ W, Calls Try.prog 92 #[.int .i64 e2, .int .i64 g.st] W fun e w' => e = .returned (.bool b2) ∧ w' = W) := fun W => by rw [← hb2]; exact HIS.out e2 W
        have HLE : Hid (∀ W, Calls Try.prog 93 #[.int .u16 (on : Nat), .slice pad g.ps.length pc] W fun e w' => e = .returned (.bool lb) ∧ w' = W) := fun W => by rw [← hlb]; exact isLetter_any on pad _ pc W
        have HBAD : Hid (edOk g ⟨e1, e2, e3, e4⟩ = false → edgesB g = false) := fun e => edgesB_no hlt (by unfold edB; rw [HED.out, e, Bool.false_and])
        have HKw : Hid (Kept [] w U) := keptB HKV.out HKU.out
        clear hb1 hb2 han hon hlb h3 h4
        have T1 : Hid True := trivial
        have T2 : Hid True := trivial
        cases b1 with
        | false =>
          obtain rfl : false = rr := (HBAD.out HOK.out).symm.trans HR.out
          go_wp2_with (clear T1; go_at_call 92; refine (HI1.out _).mono ?_; rintro e w1 ⟨rfl, hw1⟩; rw [hw1]; clear hw1)
          go_ret
          exact ⟨rfl, HKw.out⟩
        | true =>
          cases b2 with
          | false =>
            obtain rfl : false = rr := (HBAD.out HOK.out).symm.trans HR.out
            go_wp2_with (first | (clear T1; go_at_call 92; refine (HI1.out _).mono ?_; rintro e w1 ⟨rfl, hw1⟩; rw [hw1]; clear hw1) | (clear T2; go_at_call 92; refine (HI2.out _).mono ?_; rintro e w2 ⟨rfl, hw2⟩; rw [hw2]; clear hw2))
            go_ret
            exact ⟨rfl, HKw.out⟩
          | true =>
            by_cases ha0 : an = 0
            · subst ha0
              cases lb with
              | false =>
                obtain rfl : false = rr := (HBAD.out (by rw [HOK.out]; rfl)).symm.trans HR.out
                go_wp2_with (first | (clear T1; go_at_call 92; refine (HI1.out _).mono ?_; rintro e w1 ⟨rfl, hw1⟩; rw [hw1]; clear hw1) | (clear T2; go_at_call 92; refine (HI2.out _).mono ?_; rintro e w2 ⟨rfl, hw2⟩; rw [hw2]; clear hw2) | (go_at_call 93; refine (HLE.out _).mono ?_; rintro e w3 ⟨rfl, hw3⟩; rw [hw3]; clear hw3))
                go_ret
                exact ⟨rfl, HKw.out⟩
              | true =>
                go_upto_region 6 with (first | (clear T1; go_at_call 92; refine (HI1.out _).mono ?_; rintro e w1 ⟨rfl, hw1⟩; rw [hw1]; clear hw1) | (clear T2; go_at_call 92; refine (HI2.out _).mono ?_; rintro e w2 ⟨rfl, hw2⟩; rw [hw2]; clear hw2) | (go_at_call 93; refine (HLE.out _).mono ?_; rintro e w3 ⟨rfl, hw3⟩; rw [hw3]; clear hw3))
                have HOK2 : Hid (edOk g ⟨e1, e2, e3, e4⟩ = true) := HOK.out
                have HQ0 : Hid (∀ w', Kept [] U w' → w'.cell? ⟨w.heap.size, 0, none⟩ = some (.slice pad g.ps.length pc) ∧ w'.cell? ⟨w.heap.size, 1, none⟩ = some (.int .i64 g.st) ∧ w'.cell? ⟨w.heap.size, 3, none⟩ = some (.slice (some ⟨b, o, none⟩) g.es.length c) ∧ w'.cell? ⟨Be, 0, none⟩ = some (.int .i64 e1) ∧ w'.cell? ⟨Be, 1, none⟩ = some (.int .i64 e2) ∧ w'.cell? ⟨Be, 2, none⟩ = some (.int .u16 (e3 : Nat)) ∧ w'.cell? ⟨Be, 3, none⟩ = some (.int .u16 (e4 : Nat))) := fun w' hw => ⟨cell_kept0 hw d0, cell_kept0 hw d1, cell_kept0 hw d3, cell_kept0 hw x1, cell_kept0 hw x2, cell_kept0 hw x3, cell_kept0 hw x4⟩
                clear d0 d1 d3 x1 x2 x3 x4 HI1 HI2 HLE hand hor HBAD HOK
                by_cases hk0 : k = 0
                · subst hk0
                  have HYES : Hid (∀ j (h : j < g.es.length), j < 1 → edB g j g.es[j] = true) := fun j hj h' => by
                    obtain rfl : j = 0 := by omega
                    unfold edB; rw [HED.out, HOK2.out]; rfl
                  go_cut [58] from 46 to 58 (fun s58 wx => s58 = .bool false ∧ Hid (Kept [] U wx))
                  case first =>
                    refine wp_region_quiet (C := fun w' => Kept [] U w') (by kernel_rfl) (by kernel_rfl) ((Kept.refl [] U).drew) ?_
                    simp only []
                    go_big_quiet_want
                    refine ⟨.int .i64 0, fun w' hw => (by go_simp), ?_⟩
                    go_big_quiet_on
                    simp only [Act.put, Array.setIfInBounds, List.size_toArray, List.length_cons, List.length_nil, Nat.reduceAdd, Nat.reduceLT, ↓reduceDIte, List.set_toArray, List.set_cons_succ, List.set_cons_zero]
                    go_big_quiet_want
                    refine ⟨.bool false, fun w' hw => (by go_simp), ?_⟩
                    go_big_quiet_on
                    simp only [Act.put, Array.setIfInBounds, List.size_toArray, List.length_cons, List.length_nil, Nat.reduceAdd, Nat.reduceLT, ↓reduceDIte, List.set_toArray, List.set_cons_succ, List.set_cons_zero]
                    go_big_quiet_want
                    refine ⟨.bool false, fun w' hw => (by go_simp), ?_⟩
                    go_big_quiet_on
                    simp only [Act.put, Array.setIfInBounds, List.size_toArray, List.length_cons, List.length_nil, Nat.reduceAdd, Nat.reduceLT, ↓reduceDIte, List.set_toArray, List.set_cons_succ, List.set_cons_zero]
                    go_big_quiet_skip
                    go_big_quiet_skip
                    go_big_quiet_skip
                    go_big_quiet_skip
                    go_big_quiet_skip
                    go_big_quiet_skip
                    go_big_quiet_skip
                    go_big_quiet_skip
                    go_big_quiet_skip
                    go_big_quiet_want
                    refine ⟨.bool false, fun w' hw => (by go_simp), ?_⟩
                    go_big_quiet_on
                    simp only [Act.put, Array.setIfInBounds, List.size_toArray, List.length_cons, List.length_nil, Nat.reduceAdd, Nat.reduceLT, ↓reduceDIte, List.set_toArray, List.set_cons_succ, List.set_cons_zero]
                    refine wpQuiet_nil ?_
                    intro W9 hk9
                    first | go_meet | (go_wp2_with fail; go_meet)
                    exact ⟨rfl, hk9⟩
                  case rest =>
                    obtain ⟨rfl, HK9⟩ := hcut
                    rename World => W9
                    go_wp2_with fail
                    go_roundw
                    case rel => exact ⟨1, by go_num, by omega, HYES.out, keptB HKU.out HK9.out⟩
                    case measure => simp [intOf]; omega
                · obtain ⟨k1, hk1e⟩ : ∃ k1 : Nat, (k : Int) - 1 = k1 := ⟨k - 1, by omega⟩
                  have hk1 : k1 < g.es.length := by omega
                  have HKK : Hid (k = k1 + 1) := by show _ = _; omega
                  obtain ⟨a1, ha1⟩ : ∃ x, g.es[k1].fr = x := ⟨_, rfl⟩
                  obtain ⟨a2, ha2⟩ : ∃ x, g.es[k1].to = x := ⟨_, rfl⟩
                  obtain ⟨a3, ha3⟩ : ∃ x, g.es[k1].mu = x := ⟨_, rfl⟩
                  obtain ⟨a4, ha4⟩ : ∃ x, g.es[k1].no = x := ⟨_, rfl⟩
                  obtain ⟨p1, p2, p3, p4⟩ := HCE.out k1 hk1
                  rw [ha1] at p1
                  rw [ha2] at p2
                  rw [ha3] at p3
                  rw [ha4] at p4
                  have HAD : Hid (g.es.getD (k - 1) ⟨0, 0, 0, 0⟩ = ⟨a1, a2, a3, a4⟩) := by
                    show g.es.getD (k - 1) ⟨0, 0, 0, 0⟩ = _
                    rw [HKK.out, Nat.add_sub_cancel, List.getD_eq_getElem?_getD, List.getElem?_eq_getElem hk1, ← ha1, ← ha2, ← ha3, ← ha4]
                    rfl
                  have HQ : Hid (∀ w', Kept [] U w' → w'.cell? ⟨w.heap.size, 0, none⟩ = some (.slice pad g.ps.length pc) ∧ w'.cell? ⟨w.heap.size, 1, none⟩ = some (.int .i64 g.st) ∧ w'.cell? ⟨w.heap.size, 3, none⟩ = some (.slice (some ⟨b, o, none⟩) g.es.length c) ∧ w'.cell? ⟨Be, 0, none⟩ = some (.int .i64 e1) ∧ w'.cell? ⟨Be, 1, none⟩ = some (.int .i64 e2) ∧ w'.cell? ⟨Be, 2, none⟩ = some (.int .u16 (e3 : Nat)) ∧ w'.cell? ⟨Be, 3, none⟩ = some (.int .u16 (e4 : Nat)) ∧ w'.cell? ⟨b, o + k1 * 4, none⟩ = some (.int .i64 a1) ∧ w'.cell? ⟨b, o + k1 * 4 + 1, none⟩ = some (.int .i64 a2) ∧ w'.cell? ⟨b, o + k1 * 4 + 2, none⟩ = some (.int .u16 (a3 : Nat)) ∧ w'.cell? ⟨b, o + k1 * 4 + 3, none⟩ = some (.int .u16 (a4 : Nat))) := fun w' hw => by
                    obtain ⟨y0, y1, y3, y4, y5, y6, y7⟩ := HQ0.out w' hw
                    exact ⟨y0, y1, y3, y4, y5, y6, y7, cell_kept0 (keptB HKw.out hw) p1, cell_kept0 (keptB HKw.out hw) p2, cell_kept0 (keptB HKw.out hw) p3, cell_kept0 (keptB HKw.out hw) p4⟩
                  obtain ⟨cv, hcv⟩ : ∃ cv, cmpEd ⟨a1, a2, a3, a4⟩ ⟨e1, e2, e3, e4⟩ = cv := ⟨_, rfl⟩
                  have HCM : Hid (∀ W, Calls Try.prog 94 #[.agg #[.int .i64 a1, .int .i64 a2, .int .u16 (a3 : Nat), .int .u16 (a4 : Nat)], .agg #[.int .i64 e1, .int .i64 e2, .int .u16 (e3 : Nat), .int .u16 (e4 : Nat)]] W fun e w' => e = .returned (.int .i64 cv) ∧ Kept [] W w') := fun W => by rw [← hcv]; exact compareEdges_any ⟨a1, a2, a3, a4⟩ ⟨e1, e2, e3, e4⟩ W
                  have HCV : Hid (cmpEd ⟨a1, a2, a3, a4⟩ ⟨e1, e2, e3, e4⟩ = cv) := hcv
                  obtain ⟨gb, hgb⟩ : ∃ gb, decide (0 ≤ cv) = gb := ⟨_, rfl⟩
                  have z1 : (0 : Int) < (k : Int) := by omega
                  have z2 : (k1 : Int) < (g.es.length : Int) := by omega
                  have z4 : decide ((0 : Int) < (k : Int)) = true := decide_eq_true z1
                  have z5 : decide (0 < k) = true := decide_eq_true (by omega)
                  have z6 : IntKind.i64.wrap ((k : Int) - 1) = (k1 : Int) := by rw [IntKind.wrap_i64]; omega
                  have z7 : IntKind.i64.wrap (k1 : Int) = (k1 : Int) := by rw [IntKind.wrap_i64]; omega
                  clear ha1 ha2 ha3 ha4 p1 p2 p3 p4 hcv
                  go_cut [58] from 46 to 58 (fun s58 wx => s58 = .bool gb ∧ Hid (Kept [] U wx))
                  case first =>
                    refine wp_region_quiet (C := fun w' => Kept [] U w') (by kernel_rfl) (by kernel_rfl) ((Kept.refl [] U).drew) ?_
                    simp only []
                    go_big_quiet_want
                    refine ⟨.int .i64 (k : Nat), fun w' hw => (by go_simp), ?_⟩
                    go_big_quiet_on
                    simp only [Act.put, Array.setIfInBounds, List.size_toArray, List.length_cons, List.length_nil, Nat.reduceAdd, Nat.reduceLT, ↓reduceDIte, List.set_toArray, List.set_cons_succ, List.set_cons_zero]
                    go_big_quiet_want
                    refine ⟨.bool true, fun w' hw => (by go_simp), ?_⟩
                    go_big_quiet_on
                    simp only [Act.put, Array.setIfInBounds, List.size_toArray, List.length_cons, List.length_nil, Nat.reduceAdd, Nat.reduceLT, ↓reduceDIte, List.set_toArray, List.set_cons_succ, List.set_cons_zero]
                    go_big_quiet_want
                    refine ⟨.bool true, fun w' hw => (by go_simp), ?_⟩
                    go_big_quiet_on
                    simp only [Act.put, Array.setIfInBounds, List.size_toArray, List.length_cons, List.length_nil, Nat.reduceAdd, Nat.reduceLT, ↓reduceDIte, List.set_toArray, List.set_cons_succ, List.set_cons_zero]
                    go_big_quiet_want
                    refine ⟨.pointer (some ⟨w.heap.size, 3, none⟩), fun w' hw => (by go_simp), ?_⟩
                    go_big_quiet_on
                    simp only [Act.put, Array.setIfInBounds, List.size_toArray, List.length_cons, List.length_nil, Nat.reduceAdd, Nat.reduceLT, ↓reduceDIte, List.set_toArray, List.set_cons_succ, List.set_cons_zero]
                    go_big_quiet_want
                    refine ⟨.slice (some ⟨b, o, none⟩) g.es.length c, fun w' hw => ?_, ?_⟩
                    · obtain ⟨d0, d1, d3, x1, x2, x3, x4, p1, p2, p3, p4⟩ := HQ.out w' hw
                      go_simp
                    go_big_quiet_on
                    simp only [Act.put, Array.setIfInBounds, List.size_toArray, List.length_cons, List.length_nil, Nat.reduceAdd, Nat.reduceLT, ↓reduceDIte, List.set_toArray, List.set_cons_succ, List.set_cons_zero]
                    go_big_quiet_want
                    refine ⟨.int .i64 (k : Nat), fun w' hw => (by go_simp), ?_⟩
                    go_big_quiet_on
                    simp only [Act.put, Array.setIfInBounds, List.size_toArray, List.length_cons, List.length_nil, Nat.reduceAdd, Nat.reduceLT, ↓reduceDIte, List.set_toArray, List.set_cons_succ, List.set_cons_zero]
                    go_big_quiet_want
                    refine ⟨.int .i64 (k1 : Nat), fun w' hw => (by go_simp), ?_⟩
                    go_big_quiet_on
                    simp only [Act.put, Array.setIfInBounds, List.size_toArray, List.length_cons, List.length_nil, Nat.reduceAdd, Nat.reduceLT, ↓reduceDIte, List.set_toArray, List.set_cons_succ, List.set_cons_zero]
                    go_big_quiet_want
                    refine ⟨.pointer (some ⟨b, o + k1 * 4, none⟩), fun w' hw => (by go_simp), ?_⟩
                    go_big_quiet_on
                    simp only [Act.put, Array.setIfInBounds, List.size_toArray, List.length_cons, List.length_nil, Nat.reduceAdd, Nat.reduceLT, ↓reduceDIte, List.set_toArray, List.set_cons_succ, List.set_cons_zero]
                    go_big_quiet_want
                    refine ⟨.agg #[.int .i64 a1, .int .i64 a2, .int .u16 (a3 : Nat), .int .u16 (a4 : Nat)], fun w' hw => ?_, ?_⟩
                    · obtain ⟨d0, d1, d3, x1, x2, x3, x4, p1, p2, p3, p4⟩ := HQ.out w' hw
                      go_simp
                    go_big_quiet_on
                    simp only [Act.put, Array.setIfInBounds, List.size_toArray, List.length_cons, List.length_nil, Nat.reduceAdd, Nat.reduceLT, ↓reduceDIte, List.set_toArray, List.set_cons_succ, List.set_cons_zero]
                    go_big_quiet_want
                    refine ⟨.agg #[.int .i64 e1, .int .i64 e2, .int .u16 (e3 : Nat), .int .u16 (e4 : Nat)], fun w' hw => ?_, ?_⟩
                    · obtain ⟨d0, d1, d3, x1, x2, x3, x4, p1, p2, p3, p4⟩ := HQ.out w' hw
                      go_simp
                    go_big_quiet_on
                    simp only [Act.put, Array.setIfInBounds, List.size_toArray, List.length_cons, List.length_nil, Nat.reduceAdd, Nat.reduceLT, ↓reduceDIte, List.set_toArray, List.set_cons_succ, List.set_cons_zero]
                    go_big_quiet_want
                    refine ⟨.int .i64 cv, fun w' hw => ?_, ?_⟩
                    · go_simp
                      exact (HCM.out w').mono fun e w'' ⟨h1, h2⟩ => ⟨h1, keptB hw h2⟩
                    go_big_quiet_on
                    simp only [Act.put, Array.setIfInBounds, List.size_toArray, List.length_cons, List.length_nil, Nat.reduceAdd, Nat.reduceLT, ↓reduceDIte, List.set_toArray, List.set_cons_succ, List.set_cons_zero]
                    go_big_quiet_want
                    refine ⟨.bool gb, fun w' hw => (by go_simp), ?_⟩
                    go_big_quiet_on
                    simp only [Act.put, Array.setIfInBounds, List.size_toArray, List.length_cons, List.length_nil, Nat.reduceAdd, Nat.reduceLT, ↓reduceDIte, List.set_toArray, List.set_cons_succ, List.set_cons_zero]
                    go_big_quiet_want
                    refine ⟨.bool gb, fun w' hw => (by go_simp), ?_⟩
                    go_big_quiet_on
                    simp only [Act.put, Array.setIfInBounds, List.size_toArray, List.length_cons, List.length_nil, Nat.reduceAdd, Nat.reduceLT, ↓reduceDIte, List.set_toArray, List.set_cons_succ, List.set_cons_zero]
                    refine wpQuiet_nil ?_
                    intro W9 hk9
                    first | go_meet | (go_wp2_with fail; go_meet)
                    exact ⟨rfl, hk9⟩
                  case rest =>
                    obtain ⟨rfl, HK9⟩ := hcut
                    rename World => W9
                    cases gb with
                    | true =>
                      have hcn : ¬ (cv < 0) := by have := of_decide_eq_true hgb; omega
                      obtain rfl : false = rr := (edgesB_no hlt (by unfold edB; rw [HED.out, HOK2.out, HAD.out, HCV.out, decide_eq_false hk0, decide_eq_false hcn]; rfl)).symm.trans HR.out
                      go_wp2
                      go_ret
                      exact ⟨rfl, keptB HKw.out HK9.out⟩
                    | false =>
                      have hcn : cv < 0 := by have := of_decide_eq_false hgb; omega
                      have HYES : Hid (∀ j (h : j < g.es.length), j < k + 1 → edB g j g.es[j] = true) := fun j hj h' => by
                        rcases Nat.lt_or_ge j k with q | q
                        · exact HA.out j hj q
                        · obtain rfl : j = k := by omega
                          unfold edB; rw [HED.out, HOK2.out, HAD.out, HCV.out, decide_eq_true hcn]; simp
                      go_wp2_with fail
                      go_roundw
                      case rel => exact ⟨k + 1, by go_num, by omega, HYES.out, keptB HKU.out HK9.out⟩
                      case measure => simp [intOf]; omega
            · have za : ((an : Int) == 0) = false := by rw [beq_eq_false_iff_ne]; omega
              have zb : ((an : Int) != 0) = true := by rw [bne, za]; rfl
              obtain rfl : false = rr := (HBAD.out (by rw [HOK.out, decide_eq_false ha0]; rfl)).symm.trans HR.out
              go_wp2_with (first | (clear T1; go_at_call 92; refine (HI1.out _).mono ?_; rintro e w1 ⟨rfl, hw1⟩; rw [hw1]; clear hw1) | (clear T2; go_at_call 92; refine (HI2.out _).mono ?_; rintro e w2 ⟨rfl, hw2⟩; rw [hw2]; clear hw2) | (go_at_call 93; refine (HLE.out _).mono ?_; rintro e w3 ⟨rfl, hw3⟩; rw [hw3]; clear hw3))
              go_ret
              exact ⟨rfl, HKw.out⟩
      · obtain rfl : k = g.es.length := by omega
        have z0 : ¬ ((g.es.length : Int) < (g.es.length : Int)) := by omega
        obtain rfl : true = rr := (edgesB_yes (fun i hi => HA.out i hi hi)).symm.trans HR.out
        go_wp2
        go_ret
        exact ⟨rfl, keptB HKV.out HKW.out⟩
end Go.Proofs.Ytbbfajbnklgncaa

/- package buchi: isRight, CheckGeneral, Check. -/
namespace Go.Proofs.Ytbbfajbnklgncaa
open Go.RowKit Go.Shelf

theorem noStates_any (v : Value) (xs : List Int) (st : Int) (B : Nat) (w : World) (h : Ints w v xs) (hb : w.cell? ⟨B, 1, none⟩ = some (.int .i64 st)) :
    Calls Try.prog 87 #[v, .pointer (some ⟨B, 0, none⟩)] w fun e w' => e = .returned (.bool (!(statesB xs st))) ∧ w' = w := by
  have HA : Hid (Calls Try.prog 88 #[v, .int .i64 st] w fun e w' => e = .returned (.bool (statesB xs st)) ∧ w' = w) := areStates_any v xs st w h
  obtain ⟨ad, c, rfl, _, _⟩ := h.form
  clear h
  go_enter Try.func87, Try.ntmps87
  go_wp2_with (go_at_call 88; refine HA.out.mono ?_; rintro e w1 ⟨rfl, hw1⟩; rw [hw1]; clear hw1)
  go_ret
  exact ⟨rfl, rfl⟩
def setsB (ss : List (List Int)) (st : Int) : Bool := ss.all fun xs => statesB xs st
theorem setsB_no {ss : List (List Int)} {st : Int} {i : Nat} (hi : i < ss.length) (h : statesB ss[i] st = false) : setsB ss st = false := by
  unfold setsB
  rw [List.all_eq_false]
  exact ⟨_, List.getElem_mem hi, by rw [h]; simp⟩
theorem setsB_yes {ss : List (List Int)} {st : Int} (h : ∀ i (hi : i < ss.length), statesB ss[i] st = true) : setsB ss st = true := by
  unfold setsB
  rw [List.all_eq_true]
  intro x hx
  obtain ⟨i, hi, rfl⟩ := List.getElem_of_mem hx
  exact h i hi
set_option maxHeartbeats 2000000 in
set_option maxRecDepth 10000 in
theorem indexS_any (v : Value) (ss : List (List Int)) (st : Int) (B : Nat) (w : World) (h : Rowss w v ss) (hb : w.cell? ⟨B, 1, none⟩ = some (.int .i64 st)) :
    Calls Try.prog 80 #[v, .func (.func 87) #[] #[.pointer (some ⟨B, 0, none⟩)]] w fun e w' => ∃ k : Int, e = .returned (.int .i64 k) ∧ Hid (decide (0 ≤ k) = !(setsB ss st)) ∧ w' = w := by
  have hfew := h.few
  rcases h.lie with ⟨rfl, rfl⟩ | ⟨b, o, c, rfl, hc1, hc2, hcell⟩
  · clear h hfew
    go_enter Try.func80, Try.ntmps80
    go_wp2_with fail
    refine wp_loop_rounds 1 ?_
    rw [rounds_succ]
    go_wp2
    go_ret
    exact ⟨-1, rfl, rfl, rfl⟩
  · have HCE : Hid (∀ i (h : i < ss.length), ∃ u, w.cell? ⟨b, o + i, none⟩ = some u ∧ Ints w u ss[i]) := hcell
    have HB : Hid (w.cell? ⟨B, 1, none⟩ = some (.int .i64 st)) := hb
    clear h hcell hb
    go_enter Try.func80, Try.ntmps80
    go_wp2_with fail
    go_loopw [8] (fun i wr => ∃ k : Nat, i = .int .i64 (k : Nat) ∧ k ≤ ss.length ∧ wr = w ∧ Hid (∀ j (h : j < ss.length), j < k → statesB ss[j] st = true)) (fun i _ => ss.length - (intOf i).toNat)
    case atStart => exact ⟨0, rfl, Nat.zero_le _, rfl, fun j _ h => by omega⟩
    case round =>
      obtain ⟨k, rfl, hk, hwr, HA⟩ := hrel
      have HWR : Hid (wr = w) := hwr
      clear hwr
      by_cases hlt : k < ss.length
      · have z0 : (k : Int) < (ss.length : Int) := by omega
        obtain ⟨u, hu1, hu2⟩ := HCE.out k hlt
        obtain ⟨ua, uc, rfl, _, _⟩ := hu2.form
        obtain ⟨sb, hsb⟩ : ∃ sb, statesB ss[k] st = sb := ⟨_, rfl⟩
        have HN : Hid (Calls Try.prog 87 #[.slice ua ss[k].length uc, .pointer (some ⟨B, 0, none⟩)] wr fun e w' => e = .returned (.bool (!sb)) ∧ w' = wr) := by rw [← hsb, HWR.out]; exact noStates_any _ _ st B w hu2 HB.out
        obtain ⟨un, hun⟩ : ∃ un, ss[k].length = un := ⟨_, rfl⟩
        have c0 : wr.cell? ⟨b, o + k, none⟩ = some (.slice ua un uc) := by rw [HWR.out, ← hun]; exact hu1
        rw [hun] at HN
        have HSB : Hid (statesB ss[k] st = sb) := hsb
        clear hu1 hu2 hun hsb
        cases sb with
        | false =>
          have HY : Hid (setsB ss st = false) := setsB_no hlt HSB.out
          go_wp2_with (go_at_call 87; refine HN.out.mono ?_; rintro e w1 ⟨rfl, hw1⟩; rw [hw1]; clear hw1)
          go_ret
          exact ⟨k, rfl, by show decide (0 ≤ (k : Int)) = _; rw [HY.out]; simp, HWR.out⟩
        | true =>
          have HY : Hid (∀ j (h : j < ss.length), j < k + 1 → statesB ss[j] st = true) := fun j hj h' => by
            rcases Nat.lt_or_ge j k with q | q
            · exact HA.out j hj q
            · obtain rfl : j = k := by omega
              exact HSB.out
          go_wp2_with (go_at_call 87; refine HN.out.mono ?_; rintro e w1 ⟨rfl, hw1⟩; rw [hw1]; clear hw1)
          go_roundw
          case rel => exact ⟨k + 1, by go_num, by omega, HWR.out, HY.out⟩
          case measure => simp [intOf]; omega
      · obtain rfl : k = ss.length := by omega
        have z0 : ¬ ((ss.length : Int) < (ss.length : Int)) := by omega
        have HY : Hid (setsB ss st = true) := setsB_yes (fun i hi => HA.out i hi hi)
        go_wp2
        go_ret
        exact ⟨-1, rfl, by show decide ((0 : Int) ≤ -1) = _; rw [HY.out]; rfl, HWR.out⟩
theorem containsS_any (v : Value) (ss : List (List Int)) (st : Int) (B : Nat) (w : World) (h : Rowss w v ss) (hb : w.cell? ⟨B, 1, none⟩ = some (.int .i64 st)) :
    Calls Try.prog 76 #[v, .func (.func 87) #[] #[.pointer (some ⟨B, 0, none⟩)]] w fun e w' => e = .returned (.bool (!(setsB ss st))) ∧ w' = w := by
  have HI : Hid (Calls Try.prog 80 #[v, .func (.func 87) #[] #[.pointer (some ⟨B, 0, none⟩)]] w fun e w' => ∃ k : Int, e = .returned (.int .i64 k) ∧ Hid (decide (0 ≤ k) = !(setsB ss st)) ∧ w' = w) := indexS_any v ss st B w h hb
  obtain ⟨ad, n, c, rfl⟩ : ∃ ad n c, v = .slice ad n c := by
    rcases h.lie with ⟨rfl, _⟩ | ⟨_, _, _, rfl, _⟩
    · exact ⟨_, _, _, rfl⟩
    · exact ⟨_, _, _, rfl⟩
  clear h hb
  go_enter Try.func76, Try.ntmps76
  go_wp2_with (go_at_call 80; refine HI.out.mono ?_; rintro e w1 ⟨k, rfl, HK, hw1⟩; rw [hw1]; clear hw1)
  go_ret
  exact ⟨by rw [← HK.out]; rfl, rfl⟩
/-- Is an automaton with sets right. -/
def rightG (g : Gen) : Bool := listB g.ps && decide (0 ≤ g.st) && decide (g.st ≤ 65536) && statesB g.ini g.st && edgesB g && setsB g.sets g.st
set_option maxHeartbeats 4000000 in
set_option maxRecDepth 10000 in
theorem isRight_any (pv iv ev sv : Value) (g : Gen) (w : World) (h : IsG w pv iv ev sv g) :
    Calls Try.prog 85 #[genV pv g.st iv ev sv] w fun e w' => e = .returned (.bool (rightG g)) ∧ Kept [] w w' := by
  obtain ⟨pad, pc, rfl, _, _⟩ := h.ps.form
  obtain ⟨iad, ic, rfl, _, _⟩ := h.ini.form
  obtain ⟨ead, ec, rfl, _, _⟩ := h.es.form
  obtain ⟨sad, sn, sc, rfl⟩ : ∃ ad n c, sv = .slice ad n c := by
    rcases h.sets.lie with ⟨rfl, _⟩ | ⟨_, _, _, rfl, _⟩
    · exact ⟨_, _, _, rfl⟩
    · exact ⟨_, _, _, rfl⟩
  obtain ⟨V, hV⟩ : ∃ V, w.alloc (.cells #[.slice pad g.ps.length pc, .int .i64 g.st, .slice iad g.ini.length ic, .slice ead g.es.length ec, .slice sad sn sc] 134) = V := ⟨_, rfl⟩
  have kV : Kept [] w V := by rw [← hV]; exact (Kept.refl [] w).alloc _
  have hBV : V.heap[w.heap.size]? = some (.cells #[.slice pad g.ps.length pc, .int .i64 g.st, .slice iad g.ini.length ic, .slice ead g.es.length ec, .slice sad sn sc] 134 (0, 0)) := by rw [← hV]; exact al0 _ _
  have HC5 : Hid (∀ W, Kept [] V W → W.cell? ⟨w.heap.size, 0, none⟩ = some (.slice pad g.ps.length pc) ∧ W.cell? ⟨w.heap.size, 1, none⟩ = some (.int .i64 g.st) ∧ W.cell? ⟨w.heap.size, 2, none⟩ = some (.slice iad g.ini.length ic) ∧ W.cell? ⟨w.heap.size, 3, none⟩ = some (.slice ead g.es.length ec) ∧ W.cell? ⟨w.heap.size, 4, none⟩ = some (.slice sad sn sc)) := fun W k => ⟨(cell_of (k.at hBV (by simp)) 0).trans rfl, (cell_of (k.at hBV (by simp)) 1).trans rfl, (cell_of (k.at hBV (by simp)) 2).trans rfl, (cell_of (k.at hBV (by simp)) 3).trans rfl, (cell_of (k.at hBV (by simp)) 4).trans rfl⟩
  have HKV : Hid (Kept [] w V) := kV
  have HV : Hid (_ = V) := hV
  obtain ⟨r1, h1⟩ : ∃ r, listB g.ps = r := ⟨_, rfl⟩
  obtain ⟨r2, h2⟩ : ∃ r, statesB g.ini g.st = r := ⟨_, rfl⟩
  obtain ⟨r3, h3⟩ : ∃ r, edgesB g = r := ⟨_, rfl⟩
  obtain ⟨r4, h4⟩ : ∃ r, setsB g.sets g.st = r := ⟨_, rfl⟩
  have HL : Hid (Calls Try.prog 86 #[.slice pad g.ps.length pc] V fun e w' => e = .returned (.bool r1) ∧ w' = V) := by rw [← h1]; exact isList_any _ _ V (h.ps.kept kV)
  have HS : Hid (Calls Try.prog 88 #[.slice iad g.ini.length ic, .int .i64 g.st] V fun e w' => e = .returned (.bool r2) ∧ w' = V) := by rw [← h2]; exact areStates_any _ _ _ V (h.ini.kept kV)
  have HE : Hid (Calls Try.prog 89 #[.agg #[.slice pad g.ps.length pc, .int .i64 g.st, .slice iad g.ini.length ic, .slice ead g.es.length ec, .slice sad sn sc]] V fun e w' => e = .returned (.bool r3) ∧ Kept [] V w') := by rw [← h3]; exact areEdges_any _ _ _ _ g V (h.kept kV)
  have HC : Hid (∀ W, Kept [] V W → Calls Try.prog 76 #[.slice sad sn sc, .func (.func 87) #[] #[.pointer (some ⟨w.heap.size, 0, none⟩)]] W fun e w' => e = .returned (.bool (!r4)) ∧ w' = W) := fun W k => by rw [← h4]; exact containsS_any _ _ _ _ W ((h.sets.kept kV).kept k) (HC5.out W k).2.1
  have HR : Hid (rightG g = (r1 && decide (0 ≤ g.st) && decide (g.st ≤ 65536) && r2 && r3 && r4)) := by show rightG g = _; unfold rightG; rw [h1, h2, h3, h4]
  obtain ⟨d0, d1, d2, d3, d4⟩ := HC5.out V (Kept.refl [] V)
  rw [HR.out]
  unfold genV
  clear h kV hBV h1 h2 h3 h4 hV
  cases r1 with
  | false =>
    go_enter Try.func85, Try.ntmps85
    go_wp2_with (go_at_call 86; rw [HV.out]; refine HL.out.mono ?_; rintro e w1 ⟨rfl, hw1⟩; rw [hw1]; clear hw1)
    go_ret
    exact ⟨rfl, HKV.out⟩
  | true =>
    by_cases hs0 : 0 ≤ g.st
    · by_cases hs1 : g.st ≤ 65536
      · have y0 : ¬ (g.st < 0) := by omega
        have y1 : ¬ (65536 < g.st) := by omega
        rw [decide_eq_true hs0, decide_eq_true hs1]
        cases r2 with
        | false =>
          go_enter Try.func85, Try.ntmps85
          go_wp2_with (first | (go_at_call 86; rw [HV.out]; refine HL.out.mono ?_; rintro e w1 ⟨rfl, hw1⟩; rw [hw1]; clear hw1) | (go_at_call 88; refine HS.out.mono ?_; rintro e w2 ⟨rfl, hw2⟩; rw [hw2]; clear hw2) | (go_at_call 89; refine HE.out.mono ?_; rintro e w3 ⟨rfl, hk3⟩; have HK3 : Hid (Kept [] V w3) := hk3; clear hk3 d0 d1 d2 d3 d4; obtain ⟨d0, d1, d2, d3, d4⟩ := HC5.out w3 HK3.out) | (go_at_call 76; refine (HC.out w3 HK3.out).mono ?_; rintro e w4 ⟨rfl, hw4⟩; rw [hw4]; clear hw4))
          go_ret
          exact ⟨rfl, HKV.out⟩
        | true =>
          cases r3 with
          | false =>
            go_enter Try.func85, Try.ntmps85
            go_wp2_with (first | (go_at_call 86; rw [HV.out]; refine HL.out.mono ?_; rintro e w1 ⟨rfl, hw1⟩; rw [hw1]; clear hw1) | (go_at_call 88; refine HS.out.mono ?_; rintro e w2 ⟨rfl, hw2⟩; rw [hw2]; clear hw2) | (go_at_call 89; refine HE.out.mono ?_; rintro e w3 ⟨rfl, hk3⟩; have HK3 : Hid (Kept [] V w3) := hk3; clear hk3 d0 d1 d2 d3 d4; obtain ⟨d0, d1, d2, d3, d4⟩ := HC5.out w3 HK3.out) | (go_at_call 76; refine (HC.out w3 HK3.out).mono ?_; rintro e w4 ⟨rfl, hw4⟩; rw [hw4]; clear hw4))
            go_ret
            exact ⟨rfl, keptB HKV.out HK3.out⟩
          | true =>
            cases r4 with
            | false =>
              go_enter Try.func85, Try.ntmps85
              go_wp2_with (first | (go_at_call 86; rw [HV.out]; refine HL.out.mono ?_; rintro e w1 ⟨rfl, hw1⟩; rw [hw1]; clear hw1) | (go_at_call 88; refine HS.out.mono ?_; rintro e w2 ⟨rfl, hw2⟩; rw [hw2]; clear hw2) | (go_at_call 89; refine HE.out.mono ?_; rintro e w3 ⟨rfl, hk3⟩; have HK3 : Hid (Kept [] V w3) := hk3; clear hk3 d0 d1 d2 d3 d4; obtain ⟨d0, d1, d2, d3, d4⟩ := HC5.out w3 HK3.out) | (go_at_call 76; refine (HC.out w3 HK3.out).mono ?_; rintro e w4 ⟨rfl, hw4⟩; rw [hw4]; clear hw4))
              go_ret
              exact ⟨rfl, keptB HKV.out HK3.out⟩
            | true =>
              go_enter Try.func85, Try.ntmps85
              go_wp2_with (first | (go_at_call 86; rw [HV.out]; refine HL.out.mono ?_; rintro e w1 ⟨rfl, hw1⟩; rw [hw1]; clear hw1) | (go_at_call 88; refine HS.out.mono ?_; rintro e w2 ⟨rfl, hw2⟩; rw [hw2]; clear hw2) | (go_at_call 89; refine HE.out.mono ?_; rintro e w3 ⟨rfl, hk3⟩; have HK3 : Hid (Kept [] V w3) := hk3; clear hk3 d0 d1 d2 d3 d4; obtain ⟨d0, d1, d2, d3, d4⟩ := HC5.out w3 HK3.out) | (go_at_call 76; refine (HC.out w3 HK3.out).mono ?_; rintro e w4 ⟨rfl, hw4⟩; rw [hw4]; clear hw4))
              go_ret
              exact ⟨rfl, keptB HKV.out HK3.out⟩
      · have y0 : ¬ (g.st < 0) := by omega
        have y1 : 65536 < g.st := by omega
        rw [decide_eq_false hs1, Bool.and_false, Bool.false_and, Bool.false_and, Bool.false_and]
        go_enter Try.func85, Try.ntmps85
        go_wp2_with (first | (go_at_call 86; rw [HV.out]; refine HL.out.mono ?_; rintro e w1 ⟨rfl, hw1⟩; rw [hw1]; clear hw1) | (go_at_call 88; refine HS.out.mono ?_; rintro e w2 ⟨rfl, hw2⟩; rw [hw2]; clear hw2) | (go_at_call 89; refine HE.out.mono ?_; rintro e w3 ⟨rfl, hk3⟩; have HK3 : Hid (Kept [] V w3) := hk3; clear hk3 d0 d1 d2 d3 d4; obtain ⟨d0, d1, d2, d3, d4⟩ := HC5.out w3 HK3.out) | (go_at_call 76; refine (HC.out w3 HK3.out).mono ?_; rintro e w4 ⟨rfl, hw4⟩; rw [hw4]; clear hw4))
        go_ret
        exact ⟨rfl, HKV.out⟩
    · have y0 : g.st < 0 := by omega
      rw [decide_eq_false hs0, Bool.and_false, Bool.false_and, Bool.false_and, Bool.false_and, Bool.false_and]
      go_enter Try.func85, Try.ntmps85
      go_wp2_with (first | (go_at_call 86; rw [HV.out]; refine HL.out.mono ?_; rintro e w1 ⟨rfl, hw1⟩; rw [hw1]; clear hw1) | (go_at_call 88; refine HS.out.mono ?_; rintro e w2 ⟨rfl, hw2⟩; rw [hw2]; clear hw2) | (go_at_call 89; refine HE.out.mono ?_; rintro e w3 ⟨rfl, hk3⟩; have HK3 : Hid (Kept [] V w3) := hk3; clear hk3 d0 d1 d2 d3 d4; obtain ⟨d0, d1, d2, d3, d4⟩ := HC5.out w3 HK3.out) | (go_at_call 76; refine (HC.out w3 HK3.out).mono ?_; rintro e w4 ⟨rfl, hw4⟩; rw [hw4]; clear hw4))
      go_ret
      exact ⟨rfl, HKV.out⟩
def errG (g : Gen) : Nat := if rightG g then 0 else 100
set_option maxHeartbeats 1000000 in
theorem checkG_any (pv iv ev sv : Value) (g : Gen) (w : World) (h : IsG w pv iv ev sv g) :
    Calls Try.prog 83 #[genV pv g.st iv ev sv] w fun e w' => e = .returned (.int .i64 (errG g : Nat)) ∧ Kept [] w w' := by
  obtain ⟨r, hr⟩ : ∃ r, rightG g = r := ⟨_, rfl⟩
  have HI : Hid (∀ W, Kept [] w W → Calls Try.prog 85 #[genV pv g.st iv ev sv] W fun e w' => e = .returned (.bool r) ∧ Kept [] W w') := fun W k => by rw [← hr]; exact isRight_any pv iv ev sv g W (h.kept k)
  obtain ⟨pad, pc, rfl, _, _⟩ := h.ps.form
  obtain ⟨iad, ic, rfl, _, _⟩ := h.ini.form
  obtain ⟨ead, ec, rfl, _, _⟩ := h.es.form
  obtain ⟨sad, sn, sc, rfl⟩ : ∃ ad n c, sv = .slice ad n c := by
    rcases h.sets.lie with ⟨rfl, _⟩ | ⟨_, _, _, rfl, _⟩
    · exact ⟨_, _, _, rfl⟩
    · exact ⟨_, _, _, rfl⟩
  unfold errG
  rw [hr]
  unfold genV at HI ⊢
  clear h hr
  cases r with
  | false =>
    go_enter Try.func83, Try.ntmps83
    go_wp2_with (go_at_call 85; refine (HI.out _ ((Kept.refl [] w).alloc _)).mono ?_; rintro e w1 ⟨rfl, hk⟩; have HK : Hid (Kept [] w w1) := keptB ((Kept.refl [] w).alloc _) hk; clear hk)
    go_ret
    exact ⟨rfl, HK.out⟩
  | true =>
    go_enter Try.func83, Try.ntmps83
    go_wp2_with (go_at_call 85; refine (HI.out _ ((Kept.refl [] w).alloc _)).mono ?_; rintro e w1 ⟨rfl, hk⟩; have HK : Hid (Kept [] w w1) := keptB ((Kept.refl [] w).alloc _) hk; clear hk)
    go_ret
    exact ⟨rfl, HK.out⟩
end Go.Proofs.Ytbbfajbnklgncaa

/- package buchi: asGeneral, Check, goes. -/
namespace Go.Proofs.Ytbbfajbnklgncaa
open Go.RowKit Go.Shelf

/-- An automaton with final states, as one with one set. -/
def Gen.with (g : Gen) (fin : List Int) : Gen := { g with sets := [fin] }
theorem rowss_one {W : World} {B : Nat} {fv : Value} {fin : List Int} (hb : W.heap[B]? = some (.cells #[fv] 83 (0, 0))) (h : Ints W fv fin) : Rowss W (.slice (some ⟨B, 0, none⟩) 1 1) [fin] := by
  refine ⟨by simp, .inr ⟨B, 0, 1, rfl, by simp, by unfold maxLen; omega, fun i hi => ?_⟩⟩
  obtain rfl : i = 0 := by simpa using hi
  exact ⟨fv, by rw [cell_of hb]; rfl, h⟩
theorem ret_gen {fn : Func} {p : Tmp} {a : Act} {w : World} {g : Nat} {x1 x2 x3 x4 x5 : Value} {R : Ending → World → Prop} (h : fn.results = #[.cell p 134]) (hp : a.tmps.getD p undef = .pointer (some ⟨g, 0, none⟩)) (hd : a.defers = []) (hg : w.heap[g]? = some (.cells #[x1, x2, x3, x4, x5] 134 (0, 0))) (hR : R (.returned (.agg #[x1, x2, x3, x4, x5])) w) : bodyPost Try.prog fn R .ret a w :=
  bodyPost_ret (results_cell_row h _ w g 134 #[x1, x2, x3, x4, x5] _ _ hp hg Try.underlying134 rfl (by kernel_rfl)) hd hR
set_option maxHeartbeats 1000000 in
theorem asGeneral_any (pad iad ead fad : Option Addr) (pn pc n ic en ec fn fc : Nat) (st : Int) (w : World) :
    Calls Try.prog 84 #[.agg #[.slice pad pn pc, .int .i64 st, .slice iad n ic, .slice ead en ec, .slice fad fn fc]] w fun e w' => ∃ B, e = .returned (.agg #[.slice pad pn pc, .int .i64 st, .slice iad n ic, .slice ead en ec, .slice (some ⟨B, 0, none⟩) 1 1]) ∧ Hid (w'.heap[B]? = some (.cells #[.slice fad fn fc] 83 (0, 0))) ∧ Hid (Kept [] w w') := by
  go_enter Try.func84, Try.ntmps84
  go_wp2
  exact ret_gen rfl rfl rfl (alUp (al1 w _ _) _) ⟨_, rfl, al2 w _ _ _, (((Kept.refl [] w).alloc _).alloc _).alloc _⟩
/-- An automaton with final states in memory. -/
structure IsB (W : World) (pv iv ev fv : Value) (g : Gen) (fin : List Int) : Prop where
  ps : Strs W pv g.ps
  ini : Ints W iv g.ini
  es : Edgs W ev g.es
  fin : Ints W fv fin
  st : -9223372036854775808 ≤ g.st ∧ g.st ≤ 9223372036854775807
theorem IsB.kept {W W' : World} {pv iv ev fv : Value} {g : Gen} {fin : List Int} (h : IsB W pv iv ev fv g fin) (k : Kept [] W W') : IsB W' pv iv ev fv g fin := ⟨h.ps.kept k, h.ini.kept k, h.es.kept k, h.fin.kept k, h.st⟩
theorem IsB.gen {W : World} {pv iv ev fv : Value} {g : Gen} {fin : List Int} {B : Nat} (h : IsB W pv iv ev fv g fin) (hb : W.heap[B]? = some (.cells #[fv] 83 (0, 0))) : IsG W pv iv ev (.slice (some ⟨B, 0, none⟩) 1 1) (g.with fin) := ⟨h.ps, h.ini, h.es, rowss_one hb h.fin, h.st⟩
set_option maxHeartbeats 1000000 in
theorem check_anyB (pv iv ev fv : Value) (g : Gen) (fin : List Int) (w : World) (h : IsB w pv iv ev fv g fin) :
    Calls Try.prog 79 #[.agg #[pv, .int .i64 g.st, iv, ev, fv]] w fun e w' => e = .returned (.int .i64 (errG (g.with fin) : Nat)) ∧ Kept [] w w' := by
  obtain ⟨pad, pc, rfl, _, _⟩ := h.ps.form
  obtain ⟨iad, ic, rfl, _, _⟩ := h.ini.form
  obtain ⟨ead, ec, rfl, _, _⟩ := h.es.form
  obtain ⟨fad, fc, rfl, _, _⟩ := h.fin.form
  have HG : Hid (∀ W B, Kept [] w W → W.heap[B]? = some (.cells #[.slice fad fin.length fc] 83 (0, 0)) → Calls Try.prog 83 #[.agg #[.slice pad g.ps.length pc, .int .i64 g.st, .slice iad g.ini.length ic, .slice ead g.es.length ec, .slice (some ⟨B, 0, none⟩) 1 1]] W fun e w' => e = .returned (.int .i64 (errG (g.with fin) : Nat)) ∧ Kept [] W w') := fun W B k hb => checkG_any _ _ _ _ (g.with fin) W ((h.kept k).gen hb)
  obtain ⟨en, hen⟩ : ∃ en, errG (g.with fin) = en := ⟨_, rfl⟩
  rw [hen] at HG ⊢
  clear h hen
  go_enter Try.func79, Try.ntmps79
  go_wp2_with (first
    | (go_at_call 84; refine (asGeneral_any _ _ _ _ _ _ _ _ _ _ _ _ _ _).mono ?_; rintro e w1 ⟨B, rfl, HB, hk⟩; have HK : Hid (Kept [] w w1) := keptB ((Kept.refl [] w).alloc _) hk.out; clear hk)
    | (go_at_call 83; refine (HG.out w1 B HK.out HB.out).mono ?_; rintro e w2 ⟨rfl, hk2⟩; have HK2 : Hid (Kept [] w w2) := keptB HK.out hk2; clear hk2))
  go_ret
  exact ⟨rfl, HK2.out⟩
/-- Does an edge go with a letter. -/
def goesB (e : Edg) (c : Nat) : Bool := decide (c &&& e.mu = e.mu) && decide (c &&& e.no = 0)
end Go.Proofs.Ytbbfajbnklgncaa
