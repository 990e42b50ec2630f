/- EvalWays, walked. -/
import Derived.Test.YtddgciilcghbaaaDoorHB
import Derived.Test.YtddgciilcghbaaaDoorEvStp
namespace Go.Proofs.YtddgciilcghbaaaDoor
open Go.RowKit Go.Shelf

/-- What the law carries: its boxes. -/
structure WyC (w V : World) (f : Tr) (fv nv sv lv : Value) (xs : List ByteArray) (q : Wd) : Prop where
  kept : Kept [] w V
  b0 : For3 V w.heap.size (.int .u8 (f.op : Nat)) (.string f.name) fv
  b2 : Wd2 V (w.heap.size + 1) sv lv
  f_ : IsF V f fv
  n_ : Strs V nv xs
  st : Lets V sv q.stem
  lp : Lets V lv q.loop
  tab : KidsTab V
theorem WyC.go {w V W : World} {f : Tr} {fv nv sv lv : Value} {xs : List ByteArray} {q : Wd} (h : WyC w V f fv nv sv lv xs q) (k : Kept [] V W) : WyC w W f fv nv sv lv xs q :=
  ⟨h.kept.trans k (by simp) (by simp), h.b0.kept k, h.b2.kept k, h.f_.kept k, h.n_.kept k, h.st.kept k, h.lp.kept k, h.tab.kept k⟩
theorem WyC.cells {w V : World} {f : Tr} {fv nv sv lv : Value} {xs : List ByteArray} {q : Wd} (h : WyC w V f fv nv sv lv xs q) : V.cell? ⟨w.heap.size, 0, none⟩ = some (.int .u8 (f.op : Nat)) ∧ V.cell? ⟨w.heap.size, 1, none⟩ = some (.string f.name) ∧ V.cell? ⟨w.heap.size, 2, none⟩ = some fv ∧ V.cell? ⟨w.heap.size + 1, 0, none⟩ = some sv ∧ V.cell? ⟨w.heap.size + 1, 1, none⟩ = some lv :=
  ⟨h.b0.cells.1, h.b0.cells.2.1, h.b0.cells.2.2.1, h.b2.cells.1, h.b2.cells.2.1⟩
set_option maxHeartbeats 4000000 in
set_option maxRecDepth 20000 in
theorem evalWays_walk (f : Tr) (fv nv sv lv : Value) (xs : List ByteArray) (q : Wd) (ti mo : Nat) (w : World) (hI : IsF w f fv) (hF : f.Fine) (hM : f.Modest) (hN : Strs w nv xs) (hX : ∀ x ∈ xs, x.size ≤ 140737488351232) (hS : Lets w sv q.stem) (hL : Lets w lv q.loop) (hti : ti < 256) (hmo : mo < 256) (hT : KidsTab w) :
    Calls Tryd.prog 4 #[.agg #[.int .u8 (f.op : Nat), .string f.name, fv], nv, .agg #[sv, lv], .int .u8 (ti : Nat), .int .u8 (mo : Nat)] w fun e w' => e = .returned (.bool true) ∧ Kept [] w w' := by
  obtain ⟨fad, fcap, rfl⟩ := hI.slice
  obtain ⟨V, hV⟩ : ∃ V, (w.alloc (.cells #[.int .u8 (f.op : Nat), .string f.name, .slice fad f.kids.length fcap] 25)).alloc (.cells #[sv, lv] 29) = V := ⟨_, rfl⟩
  have kV : Kept [] w V := by rw [← hV]; exact ((Kept.refl [] w).alloc _).alloc _
  have hC : WyC w V f (.slice fad f.kids.length fcap) nv sv lv xs q :=
    ⟨kV, by rw [← hV]; exact alUp (al0 _ _) _, by rw [← hV]; exact al1 _ _ _, hI.kept kV, hN.kept kV, hS.kept kV, hL.kept kV, hT.kept kV⟩
  have HAW : Hid (Calls Tryd.prog 6 #[] V fun e w' => e = .returned (.bool true) ∧ Kept [] V w') := awake_any V hC.tab
  have hlf := hL.few
  have hsf := hS.few
  obtain ⟨nad, nc, rfl, _⟩ := hN.form
  obtain ⟨sad, sc, rfl, _, _⟩ := hS.form
  obtain ⟨lad, lc, rfl, _, _⟩ := hL.form
  obtain ⟨N, hNN⟩ : ∃ N : Nat, 12 * (q.loop.length % 100000) = N := ⟨_, rfl⟩
  have hN1 : N ≤ 1200000 := by omega
  have HNN : Hid (12 * (q.loop.length % 100000) = N) := hNN
  have HFF : Hid (∀ W, Kept [] V W → Calls Tryd.prog 7 #[.agg #[.int .u8 (f.op : Nat), .string f.name, .slice fad f.kids.length fcap], .slice nad xs.length nc, .agg #[.slice sad q.stem.length sc, .slice lad q.loop.length lc]] W fun e w' => ∃ n : Nat, e = .returned (.bool (decide (0 < n))) ∧ (n = 0 ↔ ¬ farP f xs q) ∧ Kept [] W w') := fun W k => farD_any f _ _ _ _ xs q W (hC.go k).f_ hM (hC.go k).n_ hX (hC.go k).st (hC.go k).lp
  have HFG : Hid (∀ W u, Kept [] V W → Lets W u (List.replicate N 0) → Calls Tryd.prog 7 #[.agg #[.int .u8 (f.op : Nat), .string f.name, .slice fad f.kids.length fcap], .slice nad xs.length nc, .agg #[.slice sad q.stem.length sc, u]] W fun e w' => ∃ n : Nat, e = .returned (.bool (decide (0 < n))) ∧ (n = 0 ↔ ¬ farP f xs ⟨q.stem, List.replicate N 0⟩) ∧ Kept [] W w') := fun W u k hu => farD_any f _ _ _ _ xs ⟨q.stem, List.replicate N 0⟩ W (hC.go k).f_ hM (hC.go k).n_ hX (hC.go k).st hu
  have HC : Hid (WyC w V f (.slice fad f.kids.length fcap) (.slice nad xs.length nc) (.slice sad q.stem.length sc) (.slice lad q.loop.length lc) xs q) := hC
  have HVV : Hid (_ = V) := hV
  rw [← hV] at HAW
  have HFI : Hid f.Fine := hF
  have HB : Hid (ti < 256 ∧ mo < 256) := ⟨hti, hmo⟩
  obtain ⟨mr, hmr⟩ : ∃ mr, q.loop.length % 100000 = mr := ⟨_, rfl⟩
  have hm1 : (q.loop.length : Int).tmod 100000 = (mr : Int) := by rw [Int.tmod_eq_emod_of_nonneg (by omega), ← hmr]; rfl
  have hm2 : (q.loop.length : Int) % 100000 = (mr : Int) := by rw [← hmr]; rfl
  have hm3 : (12 : Int) * (mr : Int) = (N : Int) := by omega
  have hm5 : IntKind.i64.wrap (mr : Int) = (mr : Int) := by rw [IntKind.wrap_i64]; omega
  have hm4 : IntKind.i64.wrap (N : Int) = (N : Int) := by rw [IntKind.wrap_i64]; omega
  have hmk := fun W => make_zeros W N (by omega)
  clear hI hF hM hN hX hS hL hT kV hC hV hNN hsf hlf hmr
  go_enter Tryd.func4, Tryd.ntmps4
  go_upto_region 2 with (go_at_call 6; refine HAW.out.mono ?_; rintro e V1 ⟨rfl, k1⟩; rw [HVV.out] at k1; have HK1 : Hid (Kept [] V V1) := k1; have HC1 : Hid (WyC w V1 f (.slice fad f.kids.length fcap) (.slice nad xs.length nc) (.slice sad q.stem.length sc) (.slice lad q.loop.length lc) xs q) := HC.out.go k1; clear k1)
  clear HAW HVV
  have HS : Hid (∀ W, Kept [] V1 W → W.cell? ⟨w.heap.size, 0, none⟩ = some (.int .u8 (f.op : Nat)) ∧ W.cell? ⟨w.heap.size, 1, none⟩ = some (.string f.name) ∧ W.cell? ⟨w.heap.size, 2, none⟩ = some (.slice fad f.kids.length fcap) ∧ W.cell? ⟨w.heap.size + 1, 0, none⟩ = some (.slice sad q.stem.length sc) ∧ W.cell? ⟨w.heap.size + 1, 1, none⟩ = some (.slice lad q.loop.length lc)) := fun W k => (HC1.out.go k).cells
  go_cut [43] from 26 to 43 (fun s43 wx => ∃ b, s43 = .bool b ∧ Hid (Kept [] V wx ∧ (b = false → ¬ farP f xs q ∧ ¬ farP f xs ⟨q.stem, List.replicate N 0⟩)))
  case first =>
    by_cases hp : farP f xs q
    · have HF1 : Hid (∀ W, Kept [] V1 W → Calls Tryd.prog 7 #[.agg #[.int .u8 (f.op : Nat), .string f.name, .slice fad f.kids.length fcap], .slice nad xs.length nc, .agg #[.slice sad q.stem.length sc, .slice lad q.loop.length lc]] W fun e w' => e = .returned (.bool true) ∧ Kept [] V1 w') := fun W k => (HFF.out W (HK1.out.trans k (by simp) (by simp))).mono fun e w' ⟨n, h1, h2, h3⟩ => ⟨by rw [h1, show decide (0 < n) = true from decide_eq_true (Nat.pos_of_ne_zero fun h => (h2.1 h) hp)], k.trans h3 (by simp) (by simp)⟩
      clear hp HFF HFG hmk
      refine wp_region_quiet (C := fun w' => Kept [] V1 w') (by kernel_rfl) (by kernel_rfl) ((Kept.refl [] V1).drew) ?_
      simp only []
      go_big_quiet_want
      refine ⟨.agg #[.int .u8 (f.op : Nat), .string f.name, .slice fad f.kids.length fcap], fun w' hw => ?_, ?_⟩
      · obtain ⟨f0, f1, f2, f3, f4⟩ := HS.out w' hw
        go_simp
      go_big_quiet_on
      simp only [Act.put, Array.setIfInBounds, List.size_toArray, List.length_cons, List.length_nil, Nat.reduceAdd, Nat.reduceLT, ↓reduceDIte, List.set_toArray, List.set_cons_succ, List.set_cons_zero]
      go_big_quiet_want
      refine ⟨.slice nad xs.length nc, fun w' hw => (by go_simp), ?_⟩
      go_big_quiet_on
      simp only [Act.put, Array.setIfInBounds, List.size_toArray, List.length_cons, List.length_nil, Nat.reduceAdd, Nat.reduceLT, ↓reduceDIte, List.set_toArray, List.set_cons_succ, List.set_cons_zero]
      go_big_quiet_want
      refine ⟨.agg #[.slice sad q.stem.length sc, .slice lad q.loop.length lc], fun w' hw => ?_, ?_⟩
      · obtain ⟨f0, f1, f2, f3, f4⟩ := HS.out w' hw
        go_simp
      go_big_quiet_on
      simp only [Act.put, Array.setIfInBounds, List.size_toArray, List.length_cons, List.length_nil, Nat.reduceAdd, Nat.reduceLT, ↓reduceDIte, List.set_toArray, List.set_cons_succ, List.set_cons_zero]
      go_big_quiet_want
      refine ⟨.bool true, fun w' hw => ?_, ?_⟩
      · go_simp
        exact HF1.out w' hw
      go_big_quiet_on
      simp only [Act.put, Array.setIfInBounds, List.size_toArray, List.length_cons, List.length_nil, Nat.reduceAdd, Nat.reduceLT, ↓reduceDIte, List.set_toArray, List.set_cons_succ, List.set_cons_zero]
      go_big_quiet_want
      refine ⟨.bool true, fun w' hw => (by go_simp), ?_⟩
      go_big_quiet_on
      simp only [Act.put, Array.setIfInBounds, List.size_toArray, List.length_cons, List.length_nil, Nat.reduceAdd, Nat.reduceLT, ↓reduceDIte, List.set_toArray, List.set_cons_succ, List.set_cons_zero]
      go_big_quiet_skip
      go_big_quiet_skip
      go_big_quiet_skip
      go_big_quiet_skip
      go_big_quiet_skip
      go_big_quiet_skip
      go_big_quiet_skip
      go_big_quiet_skip
      go_big_quiet_skip
      go_big_quiet_skip
      go_big_quiet_skip
      go_big_quiet_skip
      go_big_quiet_want
      refine ⟨.bool true, fun w' hw => (by go_simp), ?_⟩
      go_big_quiet_on
      simp only [Act.put, Array.setIfInBounds, List.size_toArray, List.length_cons, List.length_nil, Nat.reduceAdd, Nat.reduceLT, ↓reduceDIte, List.set_toArray, List.set_cons_succ, List.set_cons_zero]
      refine wpQuiet_nil ?_
      intro W1 hk1
      go_wp2_with fail
      go_meet
      exact ⟨_, rfl, HK1.out.trans hk1 (by simp) (by simp), fun h => by cases h⟩
    · have HF1 : Hid (∀ W, Kept [] V1 W → Calls Tryd.prog 7 #[.agg #[.int .u8 (f.op : Nat), .string f.name, .slice fad f.kids.length fcap], .slice nad xs.length nc, .agg #[.slice sad q.stem.length sc, .slice lad q.loop.length lc]] W fun e w' => e = .returned (.bool false) ∧ Kept [] V1 w') := fun W k => (HFF.out W (HK1.out.trans k (by simp) (by simp))).mono fun e w' ⟨n, h1, h2, h3⟩ => ⟨by rw [h1, h2.2 hp]; rfl, k.trans h3 (by simp) (by simp)⟩
      have HP : Hid (¬ farP f xs q) := hp
      obtain ⟨f0, f1, f2, f3, f4⟩ := HS.out V1 (Kept.refl [] V1)
      have T1 : Hid True := trivial
      have HKc : Hid (Kept [] V1 V1) := Kept.refl [] V1
      clear hp HFF
      go_region_held3 (fun w' => w'.cell? ⟨w.heap.size, 0, none⟩ = some (.int .u8 (f.op : Nat)) ∧ w'.cell? ⟨w.heap.size, 1, none⟩ = some (.string f.name) ∧ w'.cell? ⟨w.heap.size, 2, none⟩ = some (.slice fad f.kids.length fcap) ∧ w'.cell? ⟨w.heap.size + 1, 0, none⟩ = some (.slice sad q.stem.length sc) ∧ w'.cell? ⟨w.heap.size + 1, 1, none⟩ = some (.slice lad q.loop.length lc))
        ((refine HS.out _ ?_; (first | exact HKc.out | exact HKc.out.drew | exact HKc.out.alloc _ | exact HKd.out)))
        (first
          | (clear T1; go_at_call 7; refine (HF1.out _ (by first | exact HKc.out | exact HKc.out.drew)).mono ?_; rintro e Wa ⟨rfl, ka⟩; clear HKc; have HKc : Hid (Kept [] V1 Wa) := ka; clear ka)
          | (go_at_call 7; refine (HFG.out _ _ (HK1.out.trans (HKc.out.alloc _) (by simp) (by simp)) (lets_zeros _ N (by omega))).mono ?_; rintro e Wb ⟨n2, rfl, hn2, kb⟩; have HKd : Hid (Kept [] V1 Wb) := (HKc.out.alloc _).trans kb (by simp) (by simp); have HN2 : Hid (n2 = 0 ↔ ¬ farP f xs ⟨q.stem, List.replicate N 0⟩) := hn2; clear kb hn2))
      all_goals (go_wp2_with fail; go_meet)
      all_goals exact ⟨_, rfl, HK1.out.trans HKd.out (by simp) (by simp), fun h => ⟨HP.out, HN2.out.1 (by simpa using h)⟩⟩
  case rest =>
    obtain ⟨b, rfl, HX⟩ := hcut
    cases b with
    | true =>
      go_wp2
      go_ret
      exact ⟨rfl, HC.out.kept.trans HX.out.1 (by simp) (by simp)⟩
    | false =>
      have HC2 : Hid (WyC w wc f (.slice fad f.kids.length fcap) (.slice nad xs.length nc) (.slice sad q.stem.length sc) (.slice lad q.loop.length lc) xs q) := HC.out.go HX.out.1
      have hfar := HX.out.2 rfl
      obtain ⟨hwf, hwq⟩ := farP_not hfar.1
      obtain ⟨_, hwq2⟩ := farP_not hfar.2
      have hwq3 : q.stem.length + 12 * q.loop.length ≤ 65535 := by have h1 := HNN.out; have h2 : (List.replicate N (0 : Nat)).length = N := List.length_replicate; simp only [h2] at hwq2; rw [Nat.mod_eq_of_lt (by omega)] at h1; omega
      have hsf := f.size_wsum
      have HWD : Hid (∀ W, Kept [] wc W → IsW W (.slice sad q.stem.length sc) (.slice lad q.loop.length lc) q) := fun W k => ⟨(HC2.out.go k).st, (HC2.out.go k).lp, by omega⟩
      have HRF : Hid (∀ W, Kept [] wc W → Calls Tryd.prog 8 #[.agg #[.int .u8 (f.op : Nat), .string f.name, .slice fad f.kids.length fcap], .slice nad xs.length nc, .agg #[.slice sad q.stem.length sc, .slice lad q.loop.length lc]] W fun e w' => e = .returned (.bool (askB f xs q)) ∧ Kept [] W w') := fun W k => ask_any f _ _ _ _ xs q W (HC2.out.go k).f_ HFI.out (by omega) (HC2.out.go k).n_ (HWD.out W k)
      obtain ⟨af, haf⟩ : ∃ af, askB f xs q = af := ⟨_, rfl⟩
      rw [haf] at HRF
      have HAF : Hid (askB f xs q = af) := haf
      have HSZ : Hid (q.stem.length + 12 * q.loop.length ≤ 65535) := hwq3
      obtain ⟨f0, f1, f2, _⟩ := HC2.out.b0.cells
      obtain ⟨d0, d1, _, _⟩ := HC2.out.b2.cells
      clear haf hwf hwq hwq2 hwq3 hsf hfar HX HFF HFG HK1 HC1 HC HS hmk HNN hm1 hm2 hm3 hm4 hm5 hN1
      rename World => V2
      go_upto_region 5 with (go_at_call 8; refine Calls.mono (HRF.out V2 (Kept.refl [] V2)) ?_; rintro e V3 ⟨rfl, k3⟩; have HK3 : Hid (Kept [] V2 V3) := k3; clear k3)
      have HC3 : Hid (WyC w V3 f (.slice fad f.kids.length fcap) (.slice nad xs.length nc) (.slice sad q.stem.length sc) (.slice lad q.loop.length lc) xs q) := HC2.out.go HK3.out
      have HWD3 : Hid (∀ W, Kept [] V3 W → IsW W (.slice sad q.stem.length sc) (.slice lad q.loop.length lc) q) := fun W k => HWD.out W (HK3.out.trans k (by simp) (by simp))
      clear HRF HWD HK3 HC2 f0 f1 f2 d0 d1
      cases af with
      | false =>
        go_wp2
        go_ret
        exact ⟨rfl, HC3.out.kept⟩
      | true =>
        obtain ⟨g1, nm, hl, hc, hs1000, hd100⟩ := ask_along HAF.out
        have h0 : 0 < q.loop.length := (check_at hc).2.1
        obtain ⟨ln, hln⟩ : ∃ ln, q.len = ln := ⟨_, rfl⟩
        have hlp : q.stem.length + q.loop.length = ln := hln
        have hlnp : 0 < ln := by omega
        have hlnb : ln ≤ 65535 := by have := HSZ.out; omega
        obtain ⟨R, hR⟩ : ∃ R : Nat → Bool, rowT q xs f = R := ⟨_, rfl⟩
        have HAL : Hid (∀ W, Kept [] V3 W → Calls Tryd.prog 12 #[.agg #[.int .u8 (f.op : Nat), .string f.name, .slice fad f.kids.length fcap], .slice nad xs.length nc, .agg #[.slice sad q.stem.length sc, .slice lad q.loop.length lc]] W fun e w' => ∃ b, e = .returned (.tuple #[.slice (some ⟨b, 0, none⟩) ln ln, .int .i64 0]) ∧ RowB w' b ln R ∧ Kept [] W w') := fun W k => by
          have := along_ok f _ _ _ _ xs q W (HC3.out.go k).f_ HFI.out (HC3.out.go k).n_ (HWD3.out W k) (HC3.out.go k).tab (by omega) (by omega) (along_let HAF.out h0 (fun i => ⟨i, rfl⟩))
          rw [hln, hR] at this
          exact this
        have HHW : Hid (∀ W x y r i, Kept [] V3 W → IsW W x y r → 0 < r.loop.length → i < ln → (∀ j, r.at j = q.at (j + i)) → Calls Tryd.prog 13 #[.agg #[.int .u8 (f.op : Nat), .string f.name, .slice fad f.kids.length fcap], .slice nad xs.length nc, .agg #[x, y]] W fun e w' => e = .returned (.tuple #[.bool (R i), .int .i64 0]) ∧ Kept [] W w') := fun W x y r i k hw h1 hi hat => by
          have := holds_ok f _ _ x y xs r W (HC3.out.go k).f_ HFI.out (HC3.out.go k).n_ hw (HC3.out.go k).tab (by omega) (by omega) (along_let HAF.out h1 (fun j => ⟨j + i, hat j⟩))
          rw [row_suffix h0 h1 g1 (by rw [hln]; exact hi) hat, hR] at this
          exact this
        have HHM : Hid (∀ W a1 n1 c1 a2 n2 c2 (g : Nat → Nat) n i, Kept [] V3 W → Made W (.slice a1 n1 c1) (.slice a2 n2 c2) g n → i < ln → (∀ j, g j = q.at (j + i)) → Calls Tryd.prog 13 #[.agg #[.int .u8 (f.op : Nat), .string f.name, .slice fad f.kids.length fcap], .slice nad xs.length nc, .agg #[.slice a1 n1 c1, .slice a2 n2 c2]] W fun e w' => e = .returned (.tuple #[.bool (R i), .int .i64 0]) ∧ Kept [] W w') := fun W a1 n1 c1 a2 n2 c2 g n i k hm hi hat => by
          obtain ⟨r, hw, hno, hra, _⟩ := hm
          exact HHW.out W _ _ r i k hw hno.1 hi (fun j => (hra j).trans (hat j))
        have HWT : Hid (∀ W, Kept [] V3 W → Wat W (.slice sad q.stem.length sc) (.slice lad q.loop.length lc) q.at ln) := fun W k => ⟨q, HWD3.out W k, h0, fun _ => rfl, by omega⟩
        have HNO : Hid (∀ W, Kept [] V3 W → Calls Tryd.prog 14 #[.agg #[.slice sad q.stem.length sc, .slice lad q.loop.length lc]] W (Makes W q.at ln)) := fun W k => normal_wat (HWT.out W k) (by omega)
        have HSU : Hid (∀ W (i : Nat), Kept [] V3 W → i ≤ 65535 → Calls Tryd.prog 15 #[.agg #[.slice sad q.stem.length sc, .slice lad q.loop.length lc], .int .i64 (i : Nat)] W (Makes W (fun j => q.at (i + j)) ln)) := fun W i k hi => suffix_wat (HWT.out W k) (by omega) i (by omega)
        obtain ⟨lb, lo, rfl⟩ : ∃ lb lo, lad = some ⟨lb, lo, none⟩ := by
          obtain ⟨b, o, c, e, _⟩ := HC3.out.lp.there h0
          cases e
          exact ⟨b, o, rfl⟩
        have hcap : q.loop.length ≤ lc := by
          obtain ⟨b, o, c, e, h, _⟩ := HC3.out.lp.there h0
          cases e
          exact h
        have HSM : Hid (∀ x ∈ q.stem, x < 65536) := HC3.out.st.small
        have HLM : Hid (∀ x ∈ q.loop, x < 65536) := HC3.out.lp.small
        have HLN : Hid (q.stem.length + q.loop.length = ln) := hlp
        obtain ⟨f0, f1, f2, f3, f4⟩ := HC3.out.cells
        clear g1 nm hl hc hs1000 hd100 hln hlp hR
        go_upto_region 8 with (go_at_call 12; refine Calls.mono (HAL.out V3 (Kept.refl [] V3)) ?_; rintro e V4 ⟨rb, rfl, hrb, k4⟩; have HK4 : Hid (Kept [] V3 V4) := k4; have HRB : Hid (RowB V4 rb ln R) := hrb; clear k4 hrb)
        have HC4 : Hid (WyC w V4 f (.slice fad f.kids.length fcap) (.slice nad xs.length nc) (.slice sad q.stem.length sc) (.slice (some ⟨lb, lo, none⟩) q.loop.length lc) xs q) := HC3.out.go HK4.out
        have HS4 : Hid (∀ W, Kept [] V4 W → W.cell? ⟨w.heap.size, 0, none⟩ = some (.int .u8 (f.op : Nat)) ∧ W.cell? ⟨w.heap.size, 1, none⟩ = some (.string f.name) ∧ W.cell? ⟨w.heap.size, 2, none⟩ = some (.slice fad f.kids.length fcap) ∧ W.cell? ⟨w.heap.size + 1, 0, none⟩ = some (.slice sad q.stem.length sc) ∧ W.cell? ⟨w.heap.size + 1, 1, none⟩ = some (.slice (some ⟨lb, lo, none⟩) q.loop.length lc)) := fun W k => (HC4.out.go k).cells
        obtain ⟨r0, hr0⟩ : ∃ r0, R 0 = r0 := ⟨_, rfl⟩
        have HR0 : Hid (R 0 = r0) := hr0
        clear f0 f1 f2 f3 f4 hr0 HAL
        obtain ⟨f0, f1, f2, f3, f4⟩ := HC4.out.cells
        go_cut [15, 16] from 59 to 66 (fun s15 s16 wx => s15 = .bool r0 ∧ s16 = .int .i64 0 ∧ Hid (Kept [] V4 wx))
        case first =>
          have HKc : Hid (Kept [] V4 V4) := Kept.refl [] V4
          go_region_held3 (fun w' => w'.cell? ⟨w.heap.size, 0, none⟩ = some (.int .u8 (f.op : Nat)) ∧ w'.cell? ⟨w.heap.size, 1, none⟩ = some (.string f.name) ∧ w'.cell? ⟨w.heap.size, 2, none⟩ = some (.slice fad f.kids.length fcap) ∧ w'.cell? ⟨w.heap.size + 1, 0, none⟩ = some (.slice sad q.stem.length sc) ∧ w'.cell? ⟨w.heap.size + 1, 1, none⟩ = some (.slice (some ⟨lb, lo, none⟩) q.loop.length lc))
            ((refine HS4.out _ ?_; (first | exact HKc.out | exact HKc.out.drew)))
            (first
              | (go_at_call 14; refine (HNO.out _ (HK4.out.trans (by first | exact HKc.out | exact HKc.out.drew) (by simp) (by simp))).mono ?_; rintro e Wa ⟨a1, n1, c1, a2, n2, c2, rfl, HMD, hka⟩; have HKn : Hid (Kept [] V4 Wa) := (by first | exact HKc.out.trans hka.out (by simp) (by simp) | exact HKc.out.drew.trans hka.out (by simp) (by simp)); clear HKc hka; have HKc : Hid (Kept [] V4 Wa) := HKn.out; clear HKn)
              | (go_at_call 13; refine (HHM.out _ _ _ _ _ _ _ _ _ 0 (HK4.out.trans HKc.out (by simp) (by simp)) HMD.out (by omega) (fun j => rfl)).mono ?_; rintro e Wb ⟨rfl, hkb⟩; rw [HR0.out]; have HKn : Hid (Kept [] V4 Wb) := HKc.out.trans hkb (by simp) (by simp); clear HKc hkb; have HKc : Hid (Kept [] V4 Wb) := HKn.out; clear HKn))
          all_goals (go_wp2_with fail; go_meet)
          all_goals exact ⟨rfl, rfl, HKc.out⟩
        case rest =>
          obtain ⟨rfl, rfl, HK5⟩ := hcut
          rename World => V5
          have HC5 : Hid (WyC w V5 f (.slice fad f.kids.length fcap) (.slice nad xs.length nc) (.slice sad q.stem.length sc) (.slice (some ⟨lb, lo, none⟩) q.loop.length lc) xs q) := HC4.out.go HK5.out
          have HRB5 : Hid (RowB V5 rb ln R) := HRB.out.kept HK5.out
          have HK35 : Hid (Kept [] V3 V5) := HK4.out.trans HK5.out (by simp) (by simp)
          clear f0 f1 f2 f3 f4 HC4 HS4 HRB HK5 HNO HC3 HK4
          obtain ⟨f0, f1, f2, f3, f4⟩ := HC5.out.cells
          have lw1 : w.heap.size + 1 < V5.heap.size := lt_of HC5.out.b2
          have lw0 : w.heap.size < V5.heap.size := by omega
          go_upto_region 11 with (at_builtin; obtain ⟨oa, on, oc, w2, hr, hbx, ho⟩ := (Oth.new V5).put (Kept.refl [] _) (HC5.out.st.kept ((Kept.refl [] V5).alloc _)) (by simp only [List.length_nil]; have := HSZ.out; omega); obtain ⟨d0, d1, e0, e1⟩ := hbx.cells; have HO2 : Hid (Oth V5 ([] ++ q.stem) [] (w2.setCell ⟨V5.heap.size, 0, none⟩ (.slice oa on oc)) (.slice oa on oc) (.slice none 0 0)) := ho; refine Lib.wpList_append_run _ rfl _ _ _ _ rfl _ _ rfl rfl _ _ (hr _) ?_; clear hr hbx ho)
          obtain ⟨W0, hW0⟩ : ∃ W0, w2.setCell ⟨V5.heap.size, 0, none⟩ (.slice oa on oc) = W0 := ⟨_, rfl⟩
          rw [hW0]
          have HO3 : Hid (Oth V5 q.stem [] W0 (.slice oa on oc) (.slice none 0 0)) := by show Oth _ _ _ _ _ _; rw [← hW0]; have := HO2.out; simpa only [List.nil_append] using this
          clear hW0 HO2 d0 d1 e0 e1 f0 f1 f2 f3 f4
          obtain ⟨f0, f1, f2, f3, f4⟩ := (HC5.out.go HO3.out.kept).cells
          obtain ⟨k, hk⟩ : ∃ k, mo % (q.loop.length + 1) = k := ⟨_, rfl⟩
          have hkl : k ≤ q.loop.length := by have := Nat.mod_lt mo (show 0 < q.loop.length + 1 by omega); omega
          have hbl : q.loop.length ≤ 65535 := by have := HSZ.out; omega
          have hbm : mo < 256 := HB.out.2
          have z1 : IntKind.i64.wrap (mo : Int) = (mo : Int) := by rw [IntKind.wrap_i64]; omega
          have z2 : IntKind.i64.wrap ((q.loop.length : Int) + 1) = (q.loop.length : Int) + 1 := by rw [IntKind.wrap_i64]; omega
          have z3 : ¬ ((q.loop.length : Int) + 1 = 0) := by omega
          have z4 : (mo : Int).tmod ((q.loop.length : Int) + 1) = (k : Int) := by rw [Int.tmod_eq_emod_of_nonneg (by omega), ← hk]; rfl
          have z5 : (mo : Int) % ((q.loop.length : Int) + 1) = (k : Int) := by rw [← hk]; rfl
          have z6 : IntKind.i64.wrap (k : Int) = (k : Int) := by rw [IntKind.wrap_i64]; omega
          clear hk
          go_upto_region 12 with fail
          clear f0 f1 f2 f3 f4 z1 z2 z3 z4 z5 z6
          obtain ⟨f0, f1, f2, f3, f4⟩ := (HC5.out.go HO3.out.kept).cells
          obtain ⟨d0, d1, e0, e1⟩ := HO3.out.box.cells
          have k0 : (0 : Int) ≤ (k : Int) := by omega
          have k1 : (k : Int) ≤ (q.loop.length : Int) := by omega
          have k2 : (k : Int) ≤ (lc : Int) := by omega
          have k3 : k ≤ lc := by omega
          have kd0 : Kept [] W0 W0.drew := (Kept.refl [] W0).drew
          obtain ⟨ya, yn, yc, w3, hrun, hbx, ho⟩ := HO3.out.put (U := W0.drew) kd0 (zs := q.loop.take k) (u := .slice (some ⟨lb, lo, none⟩) k lc) (Lets.takeA ((HC5.out.go HO3.out.kept).lp.kept kd0) k hkl) (by rw [List.length_take]; have := HSZ.out; omega)
          obtain ⟨u0, u1, u2, u3⟩ := hbx.cells
          have HRUN : Hid (∀ ty, (Builtin.append_ #[27, 27] ty #[.slice oa on oc, .slice (some ⟨lb, lo, none⟩) k lc]).run Tryd.prog W0.drew = .ok (.slice ya yn yc) w3) := hrun
          have HO4 : Hid (Oth V5 (q.stem ++ q.loop.take k) [] (w3.setCell ⟨V5.heap.size, 0, none⟩ (.slice ya yn yc)) (.slice ya yn yc) (.slice none 0 0)) := ho
          clear hrun hbx ho kd0
          go_cut [18] from 81 to 88 (fun s18 wx => s18 = .int .i64 (k : Nat) ∧ ∃ xa xn xc, Hid (Oth V5 (q.stem ++ q.loop.take k) [] wx (.slice xa xn xc) (.slice none 0 0)))
          case first =>
            go_region_law (refine step_append_run rfl _ _ _ rfl _ _ _ _ rfl rfl (HRUN.out _) ?_)
            all_goals go_wp2_with fail
            all_goals go_meet
            all_goals exact ⟨rfl, _, _, _, HO4.out⟩
          case rest =>
            obtain ⟨rfl, xa, xn, xc, HO5⟩ := hcut
            rename World => V6
            clear f0 f1 f2 f3 f4 d0 d1 e0 e1 u0 u1 u2 u3 HO3 HO4 HRUN
            obtain ⟨mt, hmt⟩ : ∃ mt, ti % 4 = mt := ⟨_, rfl⟩
            have hmt4 : mt < 4 := by omega
            have hbt : ti < 256 := HB.out.1
            have z1 : IntKind.i64.wrap (ti : Int) = (ti : Int) := by rw [IntKind.wrap_i64]; omega
            have z4 : (ti : Int).tmod 4 = (mt : Int) := by rw [Int.tmod_eq_emod_of_nonneg (by omega), ← hmt]; rfl
            have z5 : (ti : Int) % 4 = (mt : Int) := by rw [← hmt]; rfl
            have z6 : IntKind.i64.wrap (mt : Int) = (mt : Int) := by rw [IntKind.wrap_i64]; omega
            have HO6 : Hid (Oth V5 (q.stem ++ q.loop.take k) (loopW q.loop k 0) V6 (.slice xa xn xc) (.slice none 0 0)) := by show Oth _ _ _ _ _ _; rw [loopW_zero]; exact HO5.out
            clear hmt HO5
            go_wp2_with fail
            go_loopw [19] (fun v wr => ∃ j : Nat, v = .int .i64 (j : Nat) ∧ j ≤ mt + 1 ∧ ∃ ya yn yc, Hid (Oth V5 (q.stem ++ q.loop.take k) (loopW q.loop k j) wr (.slice xa xn xc) (.slice ya yn yc))) (fun v _ => mt + 1 - (intOf v).toNat)
            case atStart => exact ⟨0, rfl, Nat.zero_le _, _, _, _, HO6.out⟩
            case round =>
              obtain ⟨j, rfl, hj, ya, yn, yc, HO⟩ := hrel
              by_cases hlt : j < mt + 1
              · have l1 : (j : Int) ≤ (mt : Int) := by omega
                obtain ⟨f0, f1, f2, f3, f4⟩ := (HC5.out.go HO.out.kept).cells
                obtain ⟨d0, d1, e0, e1⟩ := HO.out.box.cells
                have kd0 : Kept [] wr wr.drew := (Kept.refl [] wr).drew
                obtain ⟨ad, had⟩ : ∃ ad : Option Addr, (if lc = k then some ⟨lb, lo, none⟩ else some ⟨lb, lo + k, none⟩) = ad := ⟨_, rfl⟩
                have hjl : (loopW q.loop k j).length ≤ 4 * q.loop.length := by rw [loopW_len]; exact Nat.mul_le_mul_right _ (by omega)
                have hld : Lets wr.drew (.slice ad (q.loop.length - k) (lc - k)) (q.loop.drop k) := by rw [← had]; exact Lets.dropI ((HC5.out.go HO.out.kept).lp.kept kd0) k hkl
                obtain ⟨za, zn, zc, w3, hrun, hbx, ho⟩ := HO.out.put2 (U := wr.drew) kd0 (zs := q.loop.drop k) (u := .slice ad (q.loop.length - k) (lc - k)) hld (by rw [List.length_drop]; omega)
                obtain ⟨u0, u1, u2, u3⟩ := hbx.cells
                have HRUN : Hid (∀ ty, (Builtin.append_ #[27, 27] ty #[.slice ya yn yc, .slice ad (q.loop.length - k) (lc - k)]).run Tryd.prog wr.drew = .ok (.slice za zn zc) w3) := hrun
                have HO4 : Hid (Oth V5 (q.stem ++ q.loop.take k) (loopW q.loop k j ++ q.loop.drop k) (w3.setCell ⟨V5.heap.size, 1, none⟩ (.slice za zn zc)) (.slice xa xn xc) (.slice za zn zc)) := ho
                have HJL : Hid ((loopW q.loop k j).length ≤ 4 * q.loop.length) := hjl
                clear hrun hbx ho kd0 hld hjl hlt
                go_wp2_with fail
                go_cut [19] from 96 to 103 (fun s19 wx => s19 = .int .i64 (j : Nat) ∧ ∃ pa pn pc, Hid (Oth V5 (q.stem ++ q.loop.take k) (loopW q.loop k j ++ q.loop.drop k) wx (.slice xa xn xc) (.slice pa pn pc)))
                case first =>
                  go_region_law (refine step_append_run rfl _ _ _ rfl _ _ _ _ rfl rfl (HRUN.out _) ?_)
                  all_goals go_wp2_with fail
                  all_goals go_meet
                  all_goals exact ⟨rfl, _, _, _, HO4.out⟩
                case rest =>
                  obtain ⟨rfl, pa, pn, pc, HP⟩ := hcut
                  rename World => V7
                  clear f0 f1 f2 f3 f4 d0 d1 e0 e1 u0 u1 u2 u3 HO4 HRUN had
                  obtain ⟨f0, f1, f2, f3, f4⟩ := (HC5.out.go HP.out.kept).cells
                  obtain ⟨d0, d1, e0, e1⟩ := HP.out.box.cells
                  have kd0 : Kept [] V7 V7.drew := (Kept.refl [] V7).drew
                  obtain ⟨za, zn, zc, w3, hrun, hbx, ho⟩ := HP.out.put2 (U := V7.drew) kd0 (zs := q.loop.take k) (u := .slice (some ⟨lb, lo, none⟩) k lc) (Lets.takeA ((HC5.out.go HP.out.kept).lp.kept kd0) k hkl) (by rw [List.length_append, List.length_take, List.length_drop]; have := HJL.out; omega)
                  obtain ⟨u0, u1, u2, u3⟩ := hbx.cells
                  have HRUN : Hid (∀ ty, (Builtin.append_ #[27, 27] ty #[.slice pa pn pc, .slice (some ⟨lb, lo, none⟩) k lc]).run Tryd.prog V7.drew = .ok (.slice za zn zc) w3) := hrun
                  have HO4 : Hid (Oth V5 (q.stem ++ q.loop.take k) (loopW q.loop k (j + 1)) (w3.setCell ⟨V5.heap.size, 1, none⟩ (.slice za zn zc)) (.slice xa xn xc) (.slice za zn zc)) := by show Oth _ _ _ _ _ _; rw [loopW_succ _ hkl]; exact ho
                  clear hrun hbx ho kd0
                  go_wp2_with fail
                  go_region_law (refine step_append_run rfl _ _ _ rfl _ _ _ _ rfl rfl (HRUN.out _) ?_)
                  all_goals go_wp2
                  all_goals go_roundw
                  all_goals first | exact ⟨j + 1, by go_num, by omega, _, _, _, HO4.out⟩ | (simp [intOf]; omega)
              · obtain rfl : j = mt + 1 := by omega
                have l1 : ¬ (((mt + 1 : Nat) : Int) ≤ (mt : Int)) := by omega
                clear hlt hj
                obtain ⟨f0, f1, f2, f3, f4⟩ := (HC5.out.go HO.out.kept).cells
                obtain ⟨d0, d1, e0, e1⟩ := HO.out.box.cells
                have hIW : IsW wr (.slice xa xn xc) (.slice ya yn yc) ⟨q.stem ++ q.loop.take k, loopW q.loop k (mt + 1)⟩ := HO.out.isW (fun x hx => (List.mem_append.1 hx).elim (HSM.out x) (fun h => HLM.out x (List.mem_of_mem_take h))) (loopW_small HLM.out _ _) (by rw [loopW_len, List.length_append, List.length_take]; have h1 : (mt + 1) * q.loop.length ≤ 4 * q.loop.length := Nat.mul_le_mul_right _ (by omega); have := HSZ.out; omega)
                have HHV : Hid (Calls Tryd.prog 13 #[.agg #[.int .u8 (f.op : Nat), .string f.name, .slice fad f.kids.length fcap], .slice nad xs.length nc, .agg #[.slice xa xn xc, .slice ya yn yc]] wr fun e w' => e = .returned (.tuple #[.bool r0, .int .i64 0]) ∧ Kept [] wr w') := by
                  have := HHW.out wr _ _ _ 0 (HK35.out.trans HO.out.kept (by simp) (by simp)) hIW (by show 0 < (loopW q.loop k (mt + 1)).length; rw [loopW_len]; exact Nat.mul_pos (by omega) h0) hlnp (fun i => vW_at q hkl (by omega) h0 i)
                  rw [HR0.out] at this
                  exact this
                clear hIW
                go_upto_region 19 with (go_at_call 13; refine Calls.mono HHV.out ?_; rintro e V8 ⟨rfl, k8⟩; have HK8 : Hid (Kept [] V5 V8) := HO.out.kept.trans k8 (by simp) (by simp); clear k8)
                have HC8 : Hid (WyC w V8 f (.slice fad f.kids.length fcap) (.slice nad xs.length nc) (.slice sad q.stem.length sc) (.slice (some ⟨lb, lo, none⟩) q.loop.length lc) xs q) := HC5.out.go HK8.out
                have HK38 : Hid (Kept [] V3 V8) := HK35.out.trans HK8.out (by simp) (by simp)
                have HRB8 : Hid (RowB V8 rb ln R) := HRB5.out.kept HK8.out
                clear f0 f1 f2 f3 f4 d0 d1 e0 e1 HHV HO HC5 HRB5 HK35 HHW HK8
                have c0 : V8.cell? ⟨rb, 0, none⟩ = some (.bool r0) := by rw [← HR0.out]; exact HRB8.out.cell hlnp
                have hne : ((ln : Int) == 0) = false := by rw [beq_eq_false_iff_ne]; omega
                have hpi : (0 : Int) < (ln : Int) := by omega
                have hrr : (r0 != r0) = false := by cases r0 <;> rfl
                have hrr2 : (r0 == r0) = true := by cases r0 <;> rfl
                go_upto_region 22 with fail
                clear c0 hne hrr hrr2
                have HS8 : Hid (∀ W, Kept [] V8 W → W.cell? ⟨w.heap.size, 0, none⟩ = some (.int .u8 (f.op : Nat)) ∧ W.cell? ⟨w.heap.size, 1, none⟩ = some (.string f.name) ∧ W.cell? ⟨w.heap.size, 2, none⟩ = some (.slice fad f.kids.length fcap) ∧ W.cell? ⟨w.heap.size + 1, 0, none⟩ = some (.slice sad q.stem.length sc) ∧ W.cell? ⟨w.heap.size + 1, 1, none⟩ = some (.slice (some ⟨lb, lo, none⟩) q.loop.length lc)) := fun W k => (HC8.out.go k).cells
                go_loopw [22] (fun v wr => ∃ i : Nat, v = .int .i64 (i : Nat) ∧ i ≤ ln ∧ i ≤ 40 ∧ Hid (Kept [] V8 wr)) (fun v _ => 40 - (intOf v).toNat)
                case atStart => exact ⟨0, rfl, Nat.zero_le _, Nat.zero_le _, Kept.refl [] V8⟩
                case round =>
                  obtain ⟨i, rfl, hi1, hi2, HKr⟩ := hrel
                  by_cases h1 : i < ln
                  · have h1i : (i : Int) < (ln : Int) := by omega
                    by_cases h2 : i < 40
                    · have h2i : (i : Int) < 40 := by omega
                      have i0 : (0 : Int) ≤ (i : Int) := by omega
                      obtain ⟨ri, hri⟩ : ∃ ri, R i = ri := ⟨_, rfl⟩
                      have HRI : Hid (R i = ri) := hri
                      have HIL : Hid (i < ln ∧ i ≤ 65535) := ⟨h1, by omega⟩
                      obtain ⟨f0, f1, f2, f3, f4⟩ := HS8.out wr HKr.out
                      have HSr : Hid (∀ W, Kept [] wr W → W.cell? ⟨w.heap.size, 0, none⟩ = some (.int .u8 (f.op : Nat)) ∧ W.cell? ⟨w.heap.size, 1, none⟩ = some (.string f.name) ∧ W.cell? ⟨w.heap.size, 2, none⟩ = some (.slice fad f.kids.length fcap) ∧ W.cell? ⟨w.heap.size + 1, 0, none⟩ = some (.slice sad q.stem.length sc) ∧ W.cell? ⟨w.heap.size + 1, 1, none⟩ = some (.slice (some ⟨lb, lo, none⟩) q.loop.length lc)) := fun W k => HS8.out W (HKr.out.trans k (by simp) (by simp))
                      have HK3r : Hid (Kept [] V3 wr) := HK38.out.trans HKr.out (by simp) (by simp)
                      have hrr : (ri != ri) = false := by cases ri <;> rfl
                      have hrr2 : (ri == ri) = true := by cases ri <;> rfl
                      clear hri
                      go_wp2_with fail
                      go_cut [23, 24] from 158 to 166 (fun s23 s24 wx => s23 = .bool ri ∧ s24 = .int .i64 0 ∧ Hid (Kept [] wr wx))
                      case first =>
                        have HKc : Hid (Kept [] wr wr) := Kept.refl [] wr
                        go_region_held3 (fun w' => w'.cell? ⟨w.heap.size, 0, none⟩ = some (.int .u8 (f.op : Nat)) ∧ w'.cell? ⟨w.heap.size, 1, none⟩ = some (.string f.name) ∧ w'.cell? ⟨w.heap.size, 2, none⟩ = some (.slice fad f.kids.length fcap) ∧ w'.cell? ⟨w.heap.size + 1, 0, none⟩ = some (.slice sad q.stem.length sc) ∧ w'.cell? ⟨w.heap.size + 1, 1, none⟩ = some (.slice (some ⟨lb, lo, none⟩) q.loop.length lc))
                          ((refine HSr.out _ ?_; (first | exact HKc.out | exact HKc.out.drew)))
                          (first
                            | (go_at_call 15; refine (HSU.out _ i (HK3r.out.trans (by first | exact HKc.out | exact HKc.out.drew) (by simp) (by simp)) HIL.out.2).mono ?_; rintro e Wa ⟨a1, n1, c1, a2, n2, c2, rfl, HMD, hka⟩; have HKn : Hid (Kept [] wr Wa) := (by first | exact HKc.out.trans hka.out (by simp) (by simp) | exact HKc.out.drew.trans hka.out (by simp) (by simp)); clear HKc hka; have HKc : Hid (Kept [] wr Wa) := HKn.out; clear HKn)
                            | (go_at_call 13; refine (HHM.out _ _ _ _ _ _ _ _ _ i (HK3r.out.trans HKc.out (by simp) (by simp)) HMD.out HIL.out.1 (fun j => by rw [Nat.add_comm])).mono ?_; rintro e Wb ⟨rfl, hkb⟩; rw [HRI.out]; have HKn : Hid (Kept [] wr Wb) := HKc.out.trans hkb (by simp) (by simp); clear HKc hkb; have HKc : Hid (Kept [] wr Wb) := HKn.out; clear HKn))
                        all_goals (go_wp2_with fail; go_meet)
                        all_goals exact ⟨rfl, rfl, HKc.out⟩
                      case rest =>
                        obtain ⟨rfl, rfl, HK9⟩ := hcut
                        rename World => V9
                        have HK89 : Hid (Kept [] V8 V9) := HKr.out.trans HK9.out (by simp) (by simp)
                        have c0 : V9.cell? ⟨rb, i, none⟩ = some (.bool ri) := by rw [← HRI.out]; exact (HRB8.out.kept HK89.out).cell HIL.out.1
                        clear f0 f1 f2 f3 f4
                        go_wp2
                        go_roundw
                        case rel => exact ⟨i + 1, by go_num, by omega, by omega, HK89.out⟩
                        case measure => simp [intOf]; omega
                    · have h2i : ¬ ((i : Int) < 40) := by omega
                      go_wp2
                      go_ret
                      exact ⟨rfl, HC8.out.kept.trans HKr.out (by simp) (by simp)⟩
                  · have h1i : ¬ ((i : Int) < (ln : Int)) := by omega
                    go_wp2
                    go_ret
                    exact ⟨rfl, HC8.out.kept.trans HKr.out (by simp) (by simp)⟩
end Go.Proofs.YtddgciilcghbaaaDoor
