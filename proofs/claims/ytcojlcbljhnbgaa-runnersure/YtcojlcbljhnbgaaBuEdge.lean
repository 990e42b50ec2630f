/- package buchi: areEdges. -/
import Derived.Test.YtcojlcbljhnbgaaBuList
import Derived.Deep.RegionHeld3
import Derived.Laws.BitsAllLaws
import Derived.BigQuiet
import Derived.Deep.QuietTactic
import Derived.Deep.CutRange
namespace Go.Proofs.Ytcojlcbljhnbgaa
open Go.RowKit Go.Shelf

theorem keptB {A B C : World} (h : Kept [] A B) (k : Kept [] B C) : Kept [] A C := Kept.trans (F := []) (G := []) (H := []) h k (by simp) (by simp)
/-- Lists of numbers in a list. -/
structure Rowss (W : World) (v : Value) (ss : List (List Int)) : Prop where
  few : ss.length ≤ 8796093022208
  lie : (v = .slice none 0 0 ∧ ss = []) ∨ ∃ b o c, v = .slice (some ⟨b, o, none⟩) ss.length c ∧ ss.length ≤ c ∧ c ≤ maxLen ∧ ∀ i (h : i < ss.length), ∃ u, W.cell? ⟨b, o + i, none⟩ = some u ∧ Ints W u ss[i]
theorem Rowss.kept {W W' : World} {v : Value} {ss : List (List Int)} (h : Rowss W v ss) (k : Kept [] W W') : Rowss W' v ss := by
  refine ⟨h.few, ?_⟩
  rcases h.lie with h1 | ⟨b, o, c, h1, h2, h3, h4⟩
  · exact .inl h1
  · refine .inr ⟨b, o, c, h1, h2, h3, fun i hi => ?_⟩
    obtain ⟨u, q1, q2⟩ := h4 i hi
    exact ⟨u, cell_kept0 k q1, q2.kept k⟩
/-- An automaton with sets. -/
structure Gen where
  ps : List ByteArray
  st : Int
  ini : List Int
  es : List Edg
  sets : List (List Int)
def genV (pv : Value) (st : Int) (iv ev sv : Value) : Value := .agg #[pv, .int .i64 st, iv, ev, sv]
structure IsG (W : World) (pv iv ev sv : Value) (g : Gen) : Prop where
  ps : Strs W pv g.ps
  ini : Ints W iv g.ini
  es : Edgs W ev g.es
  sets : Rowss W sv g.sets
  st : -9223372036854775808 ≤ g.st ∧ g.st ≤ 9223372036854775807
theorem IsG.kept {W W' : World} {pv iv ev sv : Value} {g : Gen} (h : IsG W pv iv ev sv g) (k : Kept [] W W') : IsG W' pv iv ev sv g := ⟨h.ps.kept k, h.ini.kept k, h.es.kept k, h.sets.kept k, h.st⟩
def edOk (g : Gen) (e : Edg) : Bool := stateB e.fr g.st && stateB e.to g.st && decide (e.mu &&& e.no = 0) && letterB (e.mu ||| e.no) g.ps.length
def edB (g : Gen) (i : Nat) (e : Edg) : Bool := edOk g e && (decide (i = 0) || decide (cmpEd (g.es.getD (i - 1) ⟨0, 0, 0, 0⟩) e < 0))
def edgesB (g : Gen) : Bool := (List.range g.es.length).all fun i => edB g i (g.es.getD i ⟨0, 0, 0, 0⟩)
theorem edgesB_no {g : Gen} {i : Nat} (hi : i < g.es.length) (h : edB g i g.es[i] = false) : edgesB g = false := by
  unfold edgesB
  rw [List.all_eq_false]
  exact ⟨i, List.mem_range.2 hi, by rw [List.getD_eq_getElem?_getD, List.getElem?_eq_getElem hi]; simp [h]⟩
theorem edgesB_yes {g : Gen} (h : ∀ i (hi : i < g.es.length), edB g i g.es[i] = true) : edgesB g = true := by
  unfold edgesB
  rw [List.all_eq_true]
  intro i hi
  have hi' := List.mem_range.1 hi
  rw [List.getD_eq_getElem?_getD, List.getElem?_eq_getElem hi']
  exact h i hi'
set_option maxHeartbeats 4000000 in
set_option maxRecDepth 10000 in
theorem areEdges_any (pv iv ev sv : Value) (g : Gen) (w : World) (h : IsG w pv iv ev sv g) :
    Calls Try.prog 61 #[genV pv g.st iv ev sv] w fun e w' => e = .returned (.bool (edgesB g)) ∧ Kept [] w w' := by
  obtain ⟨rr, hrr⟩ : ∃ rr, edgesB g = rr := ⟨_, rfl⟩
  rw [hrr]
  have HR : Hid (edgesB g = rr) := hrr
  clear hrr
  obtain ⟨pad, pc, rfl, _, _⟩ := h.ps.form
  obtain ⟨iad, ic, rfl, _, _⟩ := h.ini.form
  have HG : Hid (IsG w (.slice pad g.ps.length pc) (.slice iad g.ini.length ic) ev sv g) := h
  have hfew := h.es.few
  unfold genV
  obtain ⟨sad, sn, sc, rfl⟩ : ∃ ad n c, sv = .slice ad n c := by
    rcases h.sets.lie with ⟨rfl, _⟩ | ⟨_, _, _, rfl, _⟩
    · exact ⟨_, _, _, rfl⟩
    · exact ⟨_, _, _, rfl⟩
  rcases h.es.lie with ⟨rfl, he⟩ | ⟨b, o, c, rfl, hc1, hc2, hcell⟩
  · obtain rfl : true = rr := by rw [← HR.out]; unfold edgesB; rw [he]; rfl
    clear h hfew he HG
    go_enter Try.func61, Try.ntmps61
    go_wp2_with fail
    refine wp_loop_rounds 1 ?_
    rw [rounds_succ]
    go_wp2
    go_ret
    exact ⟨rfl, (Kept.refl [] w).alloc _⟩
  · have HCE : Hid (∀ i (h : i < g.es.length), w.cell? ⟨b, o + i * 4, none⟩ = some (.int .i64 g.es[i].fr) ∧ w.cell? ⟨b, o + i * 4 + 1, none⟩ = some (.int .i64 g.es[i].to) ∧ w.cell? ⟨b, o + i * 4 + 2, none⟩ = some (.int .u16 (g.es[i].mu : Nat)) ∧ w.cell? ⟨b, o + i * 4 + 3, none⟩ = some (.int .u16 (g.es[i].no : Nat))) := hcell
    clear h hcell
    have hcm : c ≤ 9223372036854775807 := by unfold maxLen at hc2; exact hc2
    obtain ⟨V, hV⟩ : ∃ V, w.alloc (.cells #[.slice pad g.ps.length pc, .int .i64 g.st, .slice iad g.ini.length ic, .slice (some ⟨b, o, none⟩) g.es.length c, .slice sad sn sc] 105) = V := ⟨_, rfl⟩
    have HKV : Hid (Kept [] w V) := by show Kept [] w V; rw [← hV]; exact (Kept.refl [] w).alloc _
    have HBV : Hid (V.heap[w.heap.size]? = some (.cells #[.slice pad g.ps.length pc, .int .i64 g.st, .slice iad g.ini.length ic, .slice (some ⟨b, o, none⟩) g.es.length c, .slice sad sn sc] 105 (0, 0))) := by show V.heap[w.heap.size]? = _; rw [← hV]; exact al0 _ _
    have HC5 : Hid (∀ W, Kept [] V W → W.cell? ⟨w.heap.size, 0, none⟩ = some (.slice pad g.ps.length pc) ∧ W.cell? ⟨w.heap.size, 1, none⟩ = some (.int .i64 g.st) ∧ W.cell? ⟨w.heap.size, 3, none⟩ = some (.slice (some ⟨b, o, none⟩) g.es.length c)) := fun W k => ⟨(cell_of (k.at HBV.out (by simp)) 0).trans rfl, (cell_of (k.at HBV.out (by simp)) 1).trans rfl, (cell_of (k.at HBV.out (by simp)) 3).trans rfl⟩
    have HIS : Hid (∀ s W, Calls Try.prog 64 #[.int .i64 s, .int .i64 g.st] W fun e w' => e = .returned (.bool (stateB s g.st)) ∧ w' = W) := fun s W => isState_any s g.st W
    have HLB : Hid (w.heap.size < V.heap.size) := by show _ < _; rw [← hV, World.size_alloc]; omega
    obtain ⟨q0, q1, q3⟩ := HC5.out V (Kept.refl [] V)
    go_enter Try.func61, Try.ntmps61
    go_wp2_with fail
    first | rw [hV] | skip
    clear hV q0 q1 q3
    go_loopw [8] (fun i wr => ∃ k : Nat, i = .int .i64 (k : Nat) ∧ k ≤ g.es.length ∧ Hid (∀ j (h : j < g.es.length), j < k → edB g j g.es[j] = true) ∧ Hid (Kept [] V wr)) (fun i _ => g.es.length - (intOf i).toNat)
    case atStart => exact ⟨0, rfl, Nat.zero_le _, fun j _ h => by omega, Kept.refl [] V⟩
    case round =>
      obtain ⟨k, rfl, hk, HA, HKW⟩ := hrel
      by_cases hlt : k < g.es.length
      · have z0 : (k : Int) < (g.es.length : Int) := by omega
        obtain ⟨e1, he1⟩ : ∃ x, g.es[k].fr = x := ⟨_, rfl⟩
        obtain ⟨e2, he2⟩ : ∃ x, g.es[k].to = x := ⟨_, rfl⟩
        obtain ⟨e3, he3⟩ : ∃ x, g.es[k].mu = x := ⟨_, rfl⟩
        obtain ⟨e4, he4⟩ : ∃ x, g.es[k].no = x := ⟨_, rfl⟩
        obtain ⟨c1, c2, c3, c4⟩ := HCE.out k hlt
        rw [he1] at c1
        rw [he2] at c2
        rw [he3] at c3
        rw [he4] at c4
        have c1 := cell_kept0 (keptB HKV.out HKW.out) c1
        have c2 := cell_kept0 (keptB HKV.out HKW.out) c2
        have c3 := cell_kept0 (keptB HKV.out HKW.out) c3
        have c4 := cell_kept0 (keptB HKV.out HKW.out) c4
        go_upto_region 4 with fail
        obtain ⟨U, hU⟩ : ∃ U, wr.alloc (.cells #[.int .i64 e1, .int .i64 e2, .int .u16 (e3 : Nat), .int .u16 (e4 : Nat)] 113) = U := ⟨_, rfl⟩
        have hkU : Kept [] wr U := by rw [← hU]; exact (Kept.refl [] wr).alloc _
        have hbU : U.heap[wr.heap.size]? = some (.cells #[.int .i64 e1, .int .i64 e2, .int .u16 (e3 : Nat), .int .u16 (e4 : Nat)] 113 (0, 0)) := by rw [← hU]; exact al0 _ _
        rw [hU]
        have HKU : Hid (Kept [] V U) := keptB HKW.out hkU
        have x1 : U.cell? ⟨wr.heap.size, 0, none⟩ = some (.int .i64 e1) := (cell_of hbU 0).trans rfl
        have x2 : U.cell? ⟨wr.heap.size, 1, none⟩ = some (.int .i64 e2) := (cell_of hbU 1).trans rfl
        have x3 : U.cell? ⟨wr.heap.size, 2, none⟩ = some (.int .u16 (e3 : Nat)) := (cell_of hbU 2).trans rfl
        have x4 : U.cell? ⟨wr.heap.size, 3, none⟩ = some (.int .u16 (e4 : Nat)) := (cell_of hbU 3).trans rfl
        have HBU : Hid (U.heap[wr.heap.size]? = some (.cells #[.int .i64 e1, .int .i64 e2, .int .u16 (e3 : Nat), .int .u16 (e4 : Nat)] 113 (0, 0))) := hbU
        clear hU hkU hbU c1 c2 c3 c4
        obtain ⟨Be, hBe⟩ : ∃ Be, wr.heap.size = Be := ⟨_, rfl⟩
        rw [hBe] at x1 x2 x3 x4 HBU ⊢
        clear hBe
        obtain ⟨d0, d1, d3⟩ := HC5.out U HKU.out
        have hwf := HG.out.es.wf _ (List.getElem_mem hlt)
        have h3 : e3 < 65536 := by rw [← he3]; exact hwf.2.2.1
        have h4 : e4 < 65536 := by rw [← he4]; exact hwf.2.2.2
        have HED : Hid (g.es[k] = ⟨e1, e2, e3, e4⟩) := by
          show g.es[k] = _
          rw [← he1, ← he2, ← he3, ← he4]
        clear he1 he2 he3 he4 hwf
        obtain ⟨b1, hb1⟩ : ∃ b1, stateB e1 g.st = b1 := ⟨_, rfl⟩
        obtain ⟨b2, hb2⟩ : ∃ b2, stateB e2 g.st = b2 := ⟨_, rfl⟩
        obtain ⟨an, han⟩ : ∃ an : Nat, e3 &&& e4 = an := ⟨_, rfl⟩
        obtain ⟨on, hon⟩ : ∃ on : Nat, e3 ||| e4 = on := ⟨_, rfl⟩
        obtain ⟨lb, hlb⟩ : ∃ lb, letterB on g.ps.length = lb := ⟨_, rfl⟩
        have hand : bits .and .u16 (e3 : Int) (e4 : Int) = (an : Int) := by rw [u16_and_nat e3 e4 h3 h4, han]
        have hor : bits .or .u16 (e3 : Int) (e4 : Int) = (on : Int) := by rw [u16_or_nat e3 e4 h3 h4, hon]
        have HOK : Hid (edOk g ⟨e1, e2, e3, e4⟩ = (b1 && b2 && decide (an = 0) && lb)) := by show edOk g _ = _; unfold edOk; dsimp only; rw [hb1, hb2, han, hon, hlb]
        have HI1 : Hid (∀ W, Calls Try.prog 64 #[.int .i64 e1, .int .i64 g.st] W fun e w' => e = .returned (.bool b1) ∧ w' = W) := fun W => by rw [← hb1]; exact HIS.out e1 W
        have HI2 : Hid (∀ W, Calls Try.prog 64 #[.int .i64 e2, .int .i64 g.st] W fun e w' => e = .returned (.bool b2) ∧ w' = W) := fun W => by rw [← hb2]; exact HIS.out e2 W
        have HLE : Hid (∀ W, Calls Try.prog 65 #[.int .u16 (on : Nat), .slice pad g.ps.length pc] W fun e w' => e = .returned (.bool lb) ∧ w' = W) := fun W => by rw [← hlb]; exact isLetter_any on pad _ pc W
        have HBAD : Hid (edOk g ⟨e1, e2, e3, e4⟩ = false → edgesB g = false) := fun e => edgesB_no hlt (by unfold edB; rw [HED.out, e, Bool.false_and])
        have HKw : Hid (Kept [] w U) := keptB HKV.out HKU.out
        clear hb1 hb2 han hon hlb h3 h4
        have T1 : Hid True := trivial
        have T2 : Hid True := trivial
        cases b1 with
        | false =>
          obtain rfl : false = rr := (HBAD.out HOK.out).symm.trans HR.out
          go_wp2_with (clear T1; go_at_call 64; refine (HI1.out _).mono ?_; rintro e w1 ⟨rfl, hw1⟩; rw [hw1]; clear hw1)
          go_ret
          exact ⟨rfl, HKw.out⟩
        | true =>
          cases b2 with
          | false =>
            obtain rfl : false = rr := (HBAD.out HOK.out).symm.trans HR.out
            go_wp2_with (first | (clear T1; go_at_call 64; refine (HI1.out _).mono ?_; rintro e w1 ⟨rfl, hw1⟩; rw [hw1]; clear hw1) | (clear T2; go_at_call 64; refine (HI2.out _).mono ?_; rintro e w2 ⟨rfl, hw2⟩; rw [hw2]; clear hw2))
            go_ret
            exact ⟨rfl, HKw.out⟩
          | true =>
            by_cases ha0 : an = 0
            · subst ha0
              cases lb with
              | false =>
                obtain rfl : false = rr := (HBAD.out (by rw [HOK.out]; rfl)).symm.trans HR.out
                go_wp2_with (first | (clear T1; go_at_call 64; refine (HI1.out _).mono ?_; rintro e w1 ⟨rfl, hw1⟩; rw [hw1]; clear hw1) | (clear T2; go_at_call 64; refine (HI2.out _).mono ?_; rintro e w2 ⟨rfl, hw2⟩; rw [hw2]; clear hw2) | (go_at_call 65; refine (HLE.out _).mono ?_; rintro e w3 ⟨rfl, hw3⟩; rw [hw3]; clear hw3))
                go_ret
                exact ⟨rfl, HKw.out⟩
              | true =>
                go_upto_region 6 with (first | (clear T1; go_at_call 64; refine (HI1.out _).mono ?_; rintro e w1 ⟨rfl, hw1⟩; rw [hw1]; clear hw1) | (clear T2; go_at_call 64; refine (HI2.out _).mono ?_; rintro e w2 ⟨rfl, hw2⟩; rw [hw2]; clear hw2) | (go_at_call 65; refine (HLE.out _).mono ?_; rintro e w3 ⟨rfl, hw3⟩; rw [hw3]; clear hw3))
                have HOK2 : Hid (edOk g ⟨e1, e2, e3, e4⟩ = true) := HOK.out
                have HQ0 : Hid (∀ w', Kept [] U w' → w'.cell? ⟨w.heap.size, 0, none⟩ = some (.slice pad g.ps.length pc) ∧ w'.cell? ⟨w.heap.size, 1, none⟩ = some (.int .i64 g.st) ∧ w'.cell? ⟨w.heap.size, 3, none⟩ = some (.slice (some ⟨b, o, none⟩) g.es.length c) ∧ w'.cell? ⟨Be, 0, none⟩ = some (.int .i64 e1) ∧ w'.cell? ⟨Be, 1, none⟩ = some (.int .i64 e2) ∧ w'.cell? ⟨Be, 2, none⟩ = some (.int .u16 (e3 : Nat)) ∧ w'.cell? ⟨Be, 3, none⟩ = some (.int .u16 (e4 : Nat))) := fun w' hw => ⟨cell_kept0 hw d0, cell_kept0 hw d1, cell_kept0 hw d3, cell_kept0 hw x1, cell_kept0 hw x2, cell_kept0 hw x3, cell_kept0 hw x4⟩
                clear d0 d1 d3 x1 x2 x3 x4 HI1 HI2 HLE hand hor HBAD HOK
                by_cases hk0 : k = 0
                · subst hk0
                  have HYES : Hid (∀ j (h : j < g.es.length), j < 1 → edB g j g.es[j] = true) := fun j hj h' => by
                    obtain rfl : j = 0 := by omega
                    unfold edB; rw [HED.out, HOK2.out]; rfl
                  go_cut [58] from 46 to 58 (fun s58 wx => s58 = .bool false ∧ Hid (Kept [] U wx))
                  case first =>
                    refine wp_region_quiet (C := fun w' => Kept [] U w') (by kernel_rfl) (by kernel_rfl) ((Kept.refl [] U).drew) ?_
                    simp only []
                    go_big_quiet_want
                    refine ⟨.int .i64 0, fun w' hw => (by go_simp), ?_⟩
                    go_big_quiet_on
                    simp only [Act.put, Array.setIfInBounds, List.size_toArray, List.length_cons, List.length_nil, Nat.reduceAdd, Nat.reduceLT, ↓reduceDIte, List.set_toArray, List.set_cons_succ, List.set_cons_zero]
                    go_big_quiet_want
                    refine ⟨.bool false, fun w' hw => (by go_simp), ?_⟩
                    go_big_quiet_on
                    simp only [Act.put, Array.setIfInBounds, List.size_toArray, List.length_cons, List.length_nil, Nat.reduceAdd, Nat.reduceLT, ↓reduceDIte, List.set_toArray, List.set_cons_succ, List.set_cons_zero]
                    go_big_quiet_want
                    refine ⟨.bool false, fun w' hw => (by go_simp), ?_⟩
                    go_big_quiet_on
                    simp only [Act.put, Array.setIfInBounds, List.size_toArray, List.length_cons, List.length_nil, Nat.reduceAdd, Nat.reduceLT, ↓reduceDIte, List.set_toArray, List.set_cons_succ, List.set_cons_zero]
                    go_big_quiet_skip
                    go_big_quiet_skip
                    go_big_quiet_skip
                    go_big_quiet_skip
                    go_big_quiet_skip
                    go_big_quiet_skip
                    go_big_quiet_skip
                    go_big_quiet_skip
                    go_big_quiet_skip
                    go_big_quiet_want
                    refine ⟨.bool false, fun w' hw => (by go_simp), ?_⟩
                    go_big_quiet_on
                    simp only [Act.put, Array.setIfInBounds, List.size_toArray, List.length_cons, List.length_nil, Nat.reduceAdd, Nat.reduceLT, ↓reduceDIte, List.set_toArray, List.set_cons_succ, List.set_cons_zero]
                    refine wpQuiet_nil ?_
                    intro W9 hk9
                    first | go_meet | (go_wp2_with fail; go_meet)
                    exact ⟨rfl, hk9⟩
                  case rest =>
                    obtain ⟨rfl, HK9⟩ := hcut
                    rename World => W9
                    go_wp2_with fail
                    go_roundw
                    case rel => exact ⟨1, by go_num, by omega, HYES.out, keptB HKU.out HK9.out⟩
                    case measure => simp [intOf]; omega
                · obtain ⟨k1, hk1e⟩ : ∃ k1 : Nat, (k : Int) - 1 = k1 := ⟨k - 1, by omega⟩
                  have hk1 : k1 < g.es.length := by omega
                  have HKK : Hid (k = k1 + 1) := by show _ = _; omega
                  obtain ⟨a1, ha1⟩ : ∃ x, g.es[k1].fr = x := ⟨_, rfl⟩
                  obtain ⟨a2, ha2⟩ : ∃ x, g.es[k1].to = x := ⟨_, rfl⟩
                  obtain ⟨a3, ha3⟩ : ∃ x, g.es[k1].mu = x := ⟨_, rfl⟩
                  obtain ⟨a4, ha4⟩ : ∃ x, g.es[k1].no = x := ⟨_, rfl⟩
                  obtain ⟨p1, p2, p3, p4⟩ := HCE.out k1 hk1
                  rw [ha1] at p1
                  rw [ha2] at p2
                  rw [ha3] at p3
                  rw [ha4] at p4
                  have HAD : Hid (g.es.getD (k - 1) ⟨0, 0, 0, 0⟩ = ⟨a1, a2, a3, a4⟩) := by
                    show g.es.getD (k - 1) ⟨0, 0, 0, 0⟩ = _
                    rw [HKK.out, Nat.add_sub_cancel, List.getD_eq_getElem?_getD, List.getElem?_eq_getElem hk1, ← ha1, ← ha2, ← ha3, ← ha4]
                    rfl
                  have HQ : Hid (∀ w', Kept [] U w' → w'.cell? ⟨w.heap.size, 0, none⟩ = some (.slice pad g.ps.length pc) ∧ w'.cell? ⟨w.heap.size, 1, none⟩ = some (.int .i64 g.st) ∧ w'.cell? ⟨w.heap.size, 3, none⟩ = some (.slice (some ⟨b, o, none⟩) g.es.length c) ∧ w'.cell? ⟨Be, 0, none⟩ = some (.int .i64 e1) ∧ w'.cell? ⟨Be, 1, none⟩ = some (.int .i64 e2) ∧ w'.cell? ⟨Be, 2, none⟩ = some (.int .u16 (e3 : Nat)) ∧ w'.cell? ⟨Be, 3, none⟩ = some (.int .u16 (e4 : Nat)) ∧ w'.cell? ⟨b, o + k1 * 4, none⟩ = some (.int .i64 a1) ∧ w'.cell? ⟨b, o + k1 * 4 + 1, none⟩ = some (.int .i64 a2) ∧ w'.cell? ⟨b, o + k1 * 4 + 2, none⟩ = some (.int .u16 (a3 : Nat)) ∧ w'.cell? ⟨b, o + k1 * 4 + 3, none⟩ = some (.int .u16 (a4 : Nat))) := fun w' hw => by
                    obtain ⟨y0, y1, y3, y4, y5, y6, y7⟩ := HQ0.out w' hw
                    exact ⟨y0, y1, y3, y4, y5, y6, y7, cell_kept0 (keptB HKw.out hw) p1, cell_kept0 (keptB HKw.out hw) p2, cell_kept0 (keptB HKw.out hw) p3, cell_kept0 (keptB HKw.out hw) p4⟩
                  obtain ⟨cv, hcv⟩ : ∃ cv, cmpEd ⟨a1, a2, a3, a4⟩ ⟨e1, e2, e3, e4⟩ = cv := ⟨_, rfl⟩
                  have HCM : Hid (∀ W, Calls Try.prog 66 #[.agg #[.int .i64 a1, .int .i64 a2, .int .u16 (a3 : Nat), .int .u16 (a4 : Nat)], .agg #[.int .i64 e1, .int .i64 e2, .int .u16 (e3 : Nat), .int .u16 (e4 : Nat)]] W fun e w' => e = .returned (.int .i64 cv) ∧ Kept [] W w') := fun W => by rw [← hcv]; exact compareEdges_any ⟨a1, a2, a3, a4⟩ ⟨e1, e2, e3, e4⟩ W
                  have HCV : Hid (cmpEd ⟨a1, a2, a3, a4⟩ ⟨e1, e2, e3, e4⟩ = cv) := hcv
                  obtain ⟨gb, hgb⟩ : ∃ gb, decide (0 ≤ cv) = gb := ⟨_, rfl⟩
                  have z1 : (0 : Int) < (k : Int) := by omega
                  have z2 : (k1 : Int) < (g.es.length : Int) := by omega
                  have z4 : decide ((0 : Int) < (k : Int)) = true := decide_eq_true z1
                  have z5 : decide (0 < k) = true := decide_eq_true (by omega)
                  have z6 : IntKind.i64.wrap ((k : Int) - 1) = (k1 : Int) := by rw [IntKind.wrap_i64]; omega
                  have z7 : IntKind.i64.wrap (k1 : Int) = (k1 : Int) := by rw [IntKind.wrap_i64]; omega
                  clear ha1 ha2 ha3 ha4 p1 p2 p3 p4 hcv
                  go_cut [58] from 46 to 58 (fun s58 wx => s58 = .bool gb ∧ Hid (Kept [] U wx))
                  case first =>
                    refine wp_region_quiet (C := fun w' => Kept [] U w') (by kernel_rfl) (by kernel_rfl) ((Kept.refl [] U).drew) ?_
                    simp only []
                    go_big_quiet_want
                    refine ⟨.int .i64 (k : Nat), fun w' hw => (by go_simp), ?_⟩
                    go_big_quiet_on
                    simp only [Act.put, Array.setIfInBounds, List.size_toArray, List.length_cons, List.length_nil, Nat.reduceAdd, Nat.reduceLT, ↓reduceDIte, List.set_toArray, List.set_cons_succ, List.set_cons_zero]
                    go_big_quiet_want
                    refine ⟨.bool true, fun w' hw => (by go_simp), ?_⟩
                    go_big_quiet_on
                    simp only [Act.put, Array.setIfInBounds, List.size_toArray, List.length_cons, List.length_nil, Nat.reduceAdd, Nat.reduceLT, ↓reduceDIte, List.set_toArray, List.set_cons_succ, List.set_cons_zero]
                    go_big_quiet_want
                    refine ⟨.bool true, fun w' hw => (by go_simp), ?_⟩
                    go_big_quiet_on
                    simp only [Act.put, Array.setIfInBounds, List.size_toArray, List.length_cons, List.length_nil, Nat.reduceAdd, Nat.reduceLT, ↓reduceDIte, List.set_toArray, List.set_cons_succ, List.set_cons_zero]
                    go_big_quiet_want
                    refine ⟨.pointer (some ⟨w.heap.size, 3, none⟩), fun w' hw => (by go_simp), ?_⟩
                    go_big_quiet_on
                    simp only [Act.put, Array.setIfInBounds, List.size_toArray, List.length_cons, List.length_nil, Nat.reduceAdd, Nat.reduceLT, ↓reduceDIte, List.set_toArray, List.set_cons_succ, List.set_cons_zero]
                    go_big_quiet_want
                    refine ⟨.slice (some ⟨b, o, none⟩) g.es.length c, fun w' hw => ?_, ?_⟩
                    · obtain ⟨d0, d1, d3, x1, x2, x3, x4, p1, p2, p3, p4⟩ := HQ.out w' hw
                      go_simp
                    go_big_quiet_on
                    simp only [Act.put, Array.setIfInBounds, List.size_toArray, List.length_cons, List.length_nil, Nat.reduceAdd, Nat.reduceLT, ↓reduceDIte, List.set_toArray, List.set_cons_succ, List.set_cons_zero]
                    go_big_quiet_want
                    refine ⟨.int .i64 (k : Nat), fun w' hw => (by go_simp), ?_⟩
                    go_big_quiet_on
                    simp only [Act.put, Array.setIfInBounds, List.size_toArray, List.length_cons, List.length_nil, Nat.reduceAdd, Nat.reduceLT, ↓reduceDIte, List.set_toArray, List.set_cons_succ, List.set_cons_zero]
                    go_big_quiet_want
                    refine ⟨.int .i64 (k1 : Nat), fun w' hw => (by go_simp), ?_⟩
                    go_big_quiet_on
                    simp only [Act.put, Array.setIfInBounds, List.size_toArray, List.length_cons, List.length_nil, Nat.reduceAdd, Nat.reduceLT, ↓reduceDIte, List.set_toArray, List.set_cons_succ, List.set_cons_zero]
                    go_big_quiet_want
                    refine ⟨.pointer (some ⟨b, o + k1 * 4, none⟩), fun w' hw => (by go_simp), ?_⟩
                    go_big_quiet_on
                    simp only [Act.put, Array.setIfInBounds, List.size_toArray, List.length_cons, List.length_nil, Nat.reduceAdd, Nat.reduceLT, ↓reduceDIte, List.set_toArray, List.set_cons_succ, List.set_cons_zero]
                    go_big_quiet_want
                    refine ⟨.agg #[.int .i64 a1, .int .i64 a2, .int .u16 (a3 : Nat), .int .u16 (a4 : Nat)], fun w' hw => ?_, ?_⟩
                    · obtain ⟨d0, d1, d3, x1, x2, x3, x4, p1, p2, p3, p4⟩ := HQ.out w' hw
                      go_simp
                    go_big_quiet_on
                    simp only [Act.put, Array.setIfInBounds, List.size_toArray, List.length_cons, List.length_nil, Nat.reduceAdd, Nat.reduceLT, ↓reduceDIte, List.set_toArray, List.set_cons_succ, List.set_cons_zero]
                    go_big_quiet_want
                    refine ⟨.agg #[.int .i64 e1, .int .i64 e2, .int .u16 (e3 : Nat), .int .u16 (e4 : Nat)], fun w' hw => ?_, ?_⟩
                    · obtain ⟨d0, d1, d3, x1, x2, x3, x4, p1, p2, p3, p4⟩ := HQ.out w' hw
                      go_simp
                    go_big_quiet_on
                    simp only [Act.put, Array.setIfInBounds, List.size_toArray, List.length_cons, List.length_nil, Nat.reduceAdd, Nat.reduceLT, ↓reduceDIte, List.set_toArray, List.set_cons_succ, List.set_cons_zero]
                    go_big_quiet_want
                    refine ⟨.int .i64 cv, fun w' hw => ?_, ?_⟩
                    · go_simp
                      exact (HCM.out w').mono fun e w'' ⟨h1, h2⟩ => ⟨h1, keptB hw h2⟩
                    go_big_quiet_on
                    simp only [Act.put, Array.setIfInBounds, List.size_toArray, List.length_cons, List.length_nil, Nat.reduceAdd, Nat.reduceLT, ↓reduceDIte, List.set_toArray, List.set_cons_succ, List.set_cons_zero]
                    go_big_quiet_want
                    refine ⟨.bool gb, fun w' hw => (by go_simp), ?_⟩
                    go_big_quiet_on
                    simp only [Act.put, Array.setIfInBounds, List.size_toArray, List.length_cons, List.length_nil, Nat.reduceAdd, Nat.reduceLT, ↓reduceDIte, List.set_toArray, List.set_cons_succ, List.set_cons_zero]
                    go_big_quiet_want
                    refine ⟨.bool gb, fun w' hw => (by go_simp), ?_⟩
                    go_big_quiet_on
                    simp only [Act.put, Array.setIfInBounds, List.size_toArray, List.length_cons, List.length_nil, Nat.reduceAdd, Nat.reduceLT, ↓reduceDIte, List.set_toArray, List.set_cons_succ, List.set_cons_zero]
                    refine wpQuiet_nil ?_
                    intro W9 hk9
                    first | go_meet | (go_wp2_with fail; go_meet)
                    exact ⟨rfl, hk9⟩
                  case rest =>
                    obtain ⟨rfl, HK9⟩ := hcut
                    rename World => W9
                    cases gb with
                    | true =>
                      have hcn : ¬ (cv < 0) := by have := of_decide_eq_true hgb; omega
                      obtain rfl : false = rr := (edgesB_no hlt (by unfold edB; rw [HED.out, HOK2.out, HAD.out, HCV.out, decide_eq_false hk0, decide_eq_false hcn]; rfl)).symm.trans HR.out
                      go_wp2
                      go_ret
                      exact ⟨rfl, keptB HKw.out HK9.out⟩
                    | false =>
                      have hcn : cv < 0 := by have := of_decide_eq_false hgb; omega
                      have HYES : Hid (∀ j (h : j < g.es.length), j < k + 1 → edB g j g.es[j] = true) := fun j hj h' => by
                        rcases Nat.lt_or_ge j k with q | q
                        · exact HA.out j hj q
                        · obtain rfl : j = k := by omega
                          unfold edB; rw [HED.out, HOK2.out, HAD.out, HCV.out, decide_eq_true hcn]; simp
                      go_wp2_with fail
                      go_roundw
                      case rel => exact ⟨k + 1, by go_num, by omega, HYES.out, keptB HKU.out HK9.out⟩
                      case measure => simp [intOf]; omega
            · have za : ((an : Int) == 0) = false := by rw [beq_eq_false_iff_ne]; omega
              have zb : ((an : Int) != 0) = true := by rw [bne, za]; rfl
              obtain rfl : false = rr := (HBAD.out (by rw [HOK.out, decide_eq_false ha0]; rfl)).symm.trans HR.out
              go_wp2_with (first | (clear T1; go_at_call 64; refine (HI1.out _).mono ?_; rintro e w1 ⟨rfl, hw1⟩; rw [hw1]; clear hw1) | (clear T2; go_at_call 64; refine (HI2.out _).mono ?_; rintro e w2 ⟨rfl, hw2⟩; rw [hw2]; clear hw2) | (go_at_call 65; refine (HLE.out _).mono ?_; rintro e w3 ⟨rfl, hw3⟩; rw [hw3]; clear hw3))
              go_ret
              exact ⟨rfl, HKw.out⟩
      · obtain rfl : k = g.es.length := by omega
        have z0 : ¬ ((g.es.length : Int) < (g.es.length : Int)) := by omega
        obtain rfl : true = rr := (edgesB_yes (fun i hi => HA.out i hi hi)).symm.trans HR.out
        go_wp2
        go_ret
        exact ⟨rfl, keptB HKV.out HKW.out⟩
end Go.Proofs.Ytcojlcbljhnbgaa
