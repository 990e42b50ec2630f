/- EvalSteps, walked. -/
import Derived.Test.YtondmjnagkldpaaDoorEvStp
namespace Go.Proofs.YtondmjnagkldpaaDoor
open Go.RowKit Go.Shelf

/-- What the law carries: its boxes. -/
structure StC (w V : World) (f g : Tr) (fv gv nv sv lv : Value) (xs : List ByteArray) (q : Wd) : Prop where
  kept : Kept [] w V
  b0 : For3 V w.heap.size (.int .u8 (f.op : Nat)) (.string f.name) fv
  b1 : For3 V (w.heap.size + 1) (.int .u8 (g.op : Nat)) (.string g.name) gv
  b2 : Wd2 V (w.heap.size + 1 + 1) sv lv
  f_ : IsF V f fv
  g_ : IsF V g gv
  n_ : Strs V nv xs
  st : Lets V sv q.stem
  lp : Lets V lv q.loop
  tab : KidsTab V
theorem StC.go {w V W : World} {f g : Tr} {fv gv nv sv lv : Value} {xs : List ByteArray} {q : Wd} (h : StC w V f g fv gv nv sv lv xs q) (k : Kept [] V W) : StC w W f g fv gv nv sv lv xs q :=
  ⟨h.kept.trans k (by simp) (by simp), h.b0.kept k, h.b1.kept k, h.b2.kept k, h.f_.kept k, h.g_.kept k, h.n_.kept k, h.st.kept k, h.lp.kept k, h.tab.kept k⟩
set_option maxHeartbeats 2000000 in
set_option maxRecDepth 20000 in
theorem evalSteps_walk (f g : Tr) (fv gv nv sv lv : Value) (xs : List ByteArray) (q : Wd) (w : World) (hI : IsF w f fv) (hJ : IsF w g gv) (hF : f.Fine) (hG : g.Fine) (hM : f.Modest) (hO : g.Modest) (hN : Strs w nv xs) (hX : ∀ x ∈ xs, x.size ≤ 140737488351232) (hS : Lets w sv q.stem) (hL : Lets w lv q.loop) (hT : KidsTab w) :
    Calls Tryd.prog 5 #[.agg #[.int .u8 (f.op : Nat), .string f.name, fv], .agg #[.int .u8 (g.op : Nat), .string g.name, gv], nv, .agg #[sv, lv]] w fun e w' => e = .returned (.bool true) ∧ Kept [] w w' := by
  obtain ⟨fad, fcap, rfl⟩ := hI.slice
  obtain ⟨gad, gcap, rfl⟩ := hJ.slice
  obtain ⟨V, hV⟩ : ∃ V, ((w.alloc (.cells #[.int .u8 (f.op : Nat), .string f.name, .slice fad f.kids.length fcap] 26)).alloc (.cells #[.int .u8 (g.op : Nat), .string g.name, .slice gad g.kids.length gcap] 26)).alloc (.cells #[sv, lv] 30) = V := ⟨_, rfl⟩
  have kV : Kept [] w V := by rw [← hV]; exact (((Kept.refl [] w).alloc _).alloc _).alloc _
  have hC : StC w V f g (.slice fad f.kids.length fcap) (.slice gad g.kids.length gcap) nv sv lv xs q :=
    ⟨kV, by rw [← hV]; exact alUp (alUp (al0 _ _) _) _, by rw [← hV]; exact alUp (al1 _ _ _) _, by rw [← hV]; exact al2 _ _ _ _, hI.kept kV, hJ.kept kV, hN.kept kV, hS.kept kV, hL.kept kV, hT.kept kV⟩
  have HAW : Hid (Calls Tryd.prog 7 #[] V fun e w' => e = .returned (.bool true) ∧ Kept [] V w') := awake_any V hC.tab
  have HFF : Hid (∀ W, Kept [] V W → Calls Tryd.prog 8 #[.agg #[.int .u8 (f.op : Nat), .string f.name, .slice fad f.kids.length fcap], nv, .agg #[sv, lv]] W fun e w' => ∃ n : Nat, e = .returned (.bool (decide (0 < n))) ∧ (n = 0 → f.wsum ≤ 65536 ∧ q.stem.length + q.loop.length ≤ 65535) ∧ Kept [] W w') := fun W k => far_any f _ nv sv lv xs q W (hC.go k).f_ hM (hC.go k).n_ hX (hC.go k).st (hC.go k).lp
  have HFG : Hid (∀ W, Kept [] V W → Calls Tryd.prog 8 #[.agg #[.int .u8 (g.op : Nat), .string g.name, .slice gad g.kids.length gcap], nv, .agg #[sv, lv]] W fun e w' => ∃ n : Nat, e = .returned (.bool (decide (0 < n))) ∧ (n = 0 → g.wsum ≤ 65536 ∧ q.stem.length + q.loop.length ≤ 65535) ∧ Kept [] W w') := fun W k => far_any g _ nv sv lv xs q W (hC.go k).g_ hO (hC.go k).n_ hX (hC.go k).st (hC.go k).lp
  obtain ⟨nad, nc, rfl, _⟩ := hN.form
  obtain ⟨sad, sc, rfl, _, _⟩ := hS.form
  obtain ⟨lad, lc, rfl, _, _⟩ := hL.form
  have HC : Hid (StC w V f g (.slice fad f.kids.length fcap) (.slice gad g.kids.length gcap) (.slice nad xs.length nc) (.slice sad q.stem.length sc) (.slice lad q.loop.length lc) xs q) := hC
  have HVV : Hid (_ = V) := hV
  rw [← hV] at HAW
  have HFI : Hid (f.Fine ∧ g.Fine) := ⟨hF, hG⟩
  clear hI hJ hF hG hM hO hN hX hS hL hT kV hC hV
  go_enter Tryd.func5, Tryd.ntmps5
  go_upto_region 2 with (go_at_call 7; refine HAW.out.mono ?_; rintro e V1 ⟨rfl, k1⟩; rw [HVV.out] at k1; have HK1 : Hid (Kept [] V V1) := k1; have HC1 : Hid (StC w V1 f g (.slice fad f.kids.length fcap) (.slice gad g.kids.length gcap) (.slice nad xs.length nc) (.slice sad q.stem.length sc) (.slice lad q.loop.length lc) xs q) := HC.out.go k1; obtain ⟨f0, f1, f2, _⟩ := HC1.out.b0.cells; obtain ⟨d0, d1, _, _⟩ := HC1.out.b2.cells; clear k1)
  clear HAW HVV
  have T1 : Hid True := trivial
  go_cut [28] from 19 to 28 (fun s28 wx => ∃ b, s28 = .bool b ∧ Hid (Kept [] V wx ∧ (b = false → f.wsum ≤ 65536 ∧ g.wsum ≤ 65536 ∧ q.stem.length + q.loop.length ≤ 65535)))
  case first =>
    go_wp2_with (first
      | (clear T1; go_at_call 8; refine (HFF.out _ HK1.out).mono ?_; rintro e V2 ⟨n1, rfl, hn1, k2⟩; have HK2 : Hid (Kept [] V V2) := HK1.out.trans k2 (by simp) (by simp); have HN1 : Hid _ := hn1; obtain ⟨g0, g1, g2, _⟩ := (HC.out.go HK2.out).b1.cells; obtain ⟨d0, d1, _, _⟩ := (HC.out.go HK2.out).b2.cells; have T2 : Hid True := trivial; clear k2 hn1; rcases Nat.eq_zero_or_pos n1 with rfl | hn1)
      | (clear T2; go_at_call 8; refine (HFG.out _ HK2.out).mono ?_; rintro e V3 ⟨n2, rfl, hn2, k3⟩; have HK3 : Hid (Kept [] V V3) := HK2.out.trans k3 (by simp) (by simp); have HN2 : Hid _ := hn2; clear k3 hn2))
    · go_meet
      exact ⟨_, rfl, HK3.out, fun h => by
        have h2 : n2 = 0 := by simpa using h
        exact ⟨(HN1.out (by first | rfl | trivial)).1, HN2.out h2⟩⟩
    · go_meet
      exact ⟨_, rfl, HK2.out, fun h => by cases h⟩
  case rest =>
    obtain ⟨b, rfl, HX⟩ := hcut
    cases b with
    | true =>
      go_wp2
      go_ret
      exact ⟨rfl, HC.out.kept.trans HX.out.1 (by simp) (by simp)⟩
    | false =>
      have HC2 : Hid (StC w wc f g (.slice fad f.kids.length fcap) (.slice gad g.kids.length gcap) (.slice nad xs.length nc) (.slice sad q.stem.length sc) (.slice lad q.loop.length lc) xs q) := HC.out.go HX.out.1
      obtain ⟨hwf, hwg, hwq⟩ := HX.out.2 rfl
      have hsf := f.size_wsum
      have hsg := g.size_wsum
      have HWD : Hid (∀ W, Kept [] wc W → IsW W (.slice sad q.stem.length sc) (.slice lad q.loop.length lc) q) := fun W k => ⟨(HC2.out.go k).st, (HC2.out.go k).lp, by omega⟩
      have HRF : Hid (∀ W, Kept [] wc W → Calls Tryd.prog 9 #[.agg #[.int .u8 (f.op : Nat), .string f.name, .slice fad f.kids.length fcap], .slice nad xs.length nc, .agg #[.slice sad q.stem.length sc, .slice lad q.loop.length lc]] W fun e w' => e = .returned (.bool (askB f xs q)) ∧ Kept [] W w') := fun W k => ask_any f _ _ _ _ xs q W (HC2.out.go k).f_ HFI.out.1 (by omega) (HC2.out.go k).n_ (HWD.out W k)
      have HRG : Hid (∀ W, Kept [] wc W → Calls Tryd.prog 9 #[.agg #[.int .u8 (g.op : Nat), .string g.name, .slice gad g.kids.length gcap], .slice nad xs.length nc, .agg #[.slice sad q.stem.length sc, .slice lad q.loop.length lc]] W fun e w' => e = .returned (.bool (askB g xs q)) ∧ Kept [] W w') := fun W k => ask_any g _ _ _ _ xs q W (HC2.out.go k).g_ HFI.out.2 (by omega) (HC2.out.go k).n_ (HWD.out W k)
      have hzf : f.size ≤ 65536 := by omega
      have hzg : g.size ≤ 65536 := by omega
      obtain ⟨af, haf⟩ : ∃ af, askB f xs q = af := ⟨_, rfl⟩
      obtain ⟨ag, hag⟩ : ∃ ag, askB g xs q = ag := ⟨_, rfl⟩
      rw [haf] at HRF
      rw [hag] at HRG
      have HAF : Hid (askB f xs q = af) := haf
      have HAG : Hid (askB g xs q = ag) := hag
      have HTT : Hid (f.size ≤ 65536 ∧ g.size ≤ 65536) := ⟨hzf, hzg⟩
      obtain ⟨f0, f1, f2, _⟩ := HC2.out.b0.cells
      obtain ⟨d0, d1, _, _⟩ := HC2.out.b2.cells
      have T5 : Hid True := trivial
      clear haf hag hwf hwg hwq hsf hsg hzf hzg HX HFF HFG HK1 HC1 HC
      rename World => V2
      go_upto_region 6 with (first
        | (clear T5; go_at_call 9; refine Calls.mono (HRF.out V2 (Kept.refl [] V2)) ?_; rintro e V3 ⟨rfl, k3⟩; have HK3 : Hid (Kept [] V2 V3) := k3; obtain ⟨g0, g1, g2, _⟩ := (HC2.out.go k3).b1.cells; obtain ⟨e0, e1, _, _⟩ := (HC2.out.go k3).b2.cells; have T6 : Hid True := trivial; clear k3)
        | (clear T6; go_at_call 9; refine Calls.mono (HRG.out V3 HK3.out) ?_; rintro e V4 ⟨rfl, k4⟩; have HK4 : Hid (Kept [] V2 V4) := HK3.out.trans k4 (by simp) (by simp); clear k4))
      have HC4 : Hid (StC w V4 f g (.slice fad f.kids.length fcap) (.slice gad g.kids.length gcap) (.slice nad xs.length nc) (.slice sad q.stem.length sc) (.slice lad q.loop.length lc) xs q) := HC2.out.go HK4.out
      have HWD4 : Hid (∀ W, Kept [] V4 W → IsW W (.slice sad q.stem.length sc) (.slice lad q.loop.length lc) q) := fun W k => HWD.out W (HK4.out.trans k (by simp) (by simp))
      clear HRF HRG HWD HK3 HK4 HC2 f0 f1 f2 d0 d1 g0 g1 g2 e0 e1
      cases af with
      | false =>
        go_wp2
        go_ret
        exact ⟨rfl, HC4.out.kept⟩
      | true =>
        cases ag with
        | false =>
          go_wp2
          go_ret
          exact ⟨rfl, HC4.out.kept⟩
        | true =>
          go_upto_region 10 with fail
          obtain ⟨U, hU⟩ : ∃ U, V4.alloc (.cells #[.int .u8 12, .int .u8 14, .int .u8 13, .int .u8 15] 23) = U := ⟨_, rfl⟩
          have kU : Kept [] V4 U := by rw [← hU]; exact kA _ _
          have hU1 : U.heap[V4.heap.size]? = some (.cells #[.int .u8 12, .int .u8 14, .int .u8 13, .int .u8 15] 23 (0, 0)) := by rw [← hU]; exact al0 _ _
          rw [hU]
          obtain ⟨lb, hlb⟩ : ∃ lb, V4.heap.size = lb := ⟨_, rfl⟩
          rw [hlb] at hU1 ⊢
          have HC5 : Hid (StC w U f g (.slice fad f.kids.length fcap) (.slice gad g.kids.length gcap) (.slice nad xs.length nc) (.slice sad q.stem.length sc) (.slice lad q.loop.length lc) xs q) := HC4.out.go kU
          have HWD5 : Hid (∀ W, Kept [] U W → IsW W (.slice sad q.stem.length sc) (.slice lad q.loop.length lc) q) := fun W k => HWD4.out W (kU.trans k (by simp) (by simp))
          have HOPS : Hid (∀ k, k < 4 → ∃ o : Nat, U.cell? ⟨lb, k, none⟩ = some (.int .u8 (o : Nat)) ∧ ((k ≤ 1 ∧ (o = 12 ∨ o = 14)) ∨ (2 ≤ k ∧ (o = 13 ∨ o = 15)))) := fun k hk => by
            match k, hk with
            | 0, _ => exact ⟨12, (cell_of hU1 0).trans rfl, by omega⟩
            | 1, _ => exact ⟨14, (cell_of hU1 1).trans rfl, by omega⟩
            | 2, _ => exact ⟨13, (cell_of hU1 2).trans rfl, by omega⟩
            | 3, _ => exact ⟨15, (cell_of hU1 3).trans rfl, by omega⟩
          have HAK : Hid (∀ W (m n o bu bv : Nat), Kept [] U W → IsF W (stepL o f g) (sl bu 2) → IsF W (stepR m n o f g) (sl bv 2) → (((o = 12 ∨ o = 14) ∧ m = 6 ∧ n = 5) ∨ ((o = 13 ∨ o = 15) ∧ m = 5 ∧ n = 6)) → Calls Tryd.prog 12 #[.agg #[.int .u8 (o : Nat), .string ⟨#[]⟩, .slice (some ⟨bu, 0, none⟩) 2 2], .agg #[.int .u8 (m : Nat), .string ⟨#[]⟩, .slice (some ⟨bv, 0, none⟩) 2 2], .slice nad xs.length nc, .agg #[.slice sad q.stem.length sc, .slice lad q.loop.length lc]] W fun e w' => e = .returned (.bool true) ∧ Kept [] W w') := fun W m n o bu bv k h1 h2 h3 =>
            alike_any (stepL o f g) (stepR m n o f g) _ _ _ _ _ xs q W h1 h2 (step_fine HFI.out.1 HFI.out.2 (m := m) (n := n) (o := o) (by omega) (by omega) (by omega)).1 (step_fine HFI.out.1 HFI.out.2 (by omega) (by omega) (by omega)).2 (by rw [(step_size f g m n o).1]; have := HTT.out; omega) (by rw [(step_size f g m n o).2]; have := HTT.out; omega) (HC5.out.go k).n_ (HWD5.out W k) (HC5.out.go k).tab (step_alike HAF.out HAG.out h3)
          clear hU hU1 kU hlb HC4 HWD4 HWD5 HAF HAG HTT HFI
          go_loopw [13] (fun v13 wr => ∃ k : Nat, k ≤ 4 ∧ v13 = .int .i64 (k : Nat) ∧ Hid (Kept [] U wr)) (fun v13 _ => 4 - (intOf v13).toNat)
          case atStart => exact ⟨0, Nat.zero_le _, rfl, Kept.refl [] U⟩
          case round =>
            obtain ⟨k, hk, rfl, HF⟩ := hrel
            by_cases hlt : k < 4
            · have hlt' : (k : Int) < 4 := by omega
              have b0 : (0 : Int) ≤ (k : Int) := by omega
              obtain ⟨o, hco, ho⟩ := HOPS.out k hlt
              have HOR : Hid _ := ho
              have HCO : Hid (U.cell? ⟨lb, k, none⟩ = some (.int .u8 (o : Nat))) := hco
              have HCR : Hid (StC w wr f g (.slice fad f.kids.length fcap) (.slice gad g.kids.length gcap) (.slice nad xs.length nc) (.slice sad q.stem.length sc) (.slice lad q.loop.length lc) xs q) := HC5.out.go HF.out
              clear hco ho
              go_wp2_with fail
              go_cut [14] from 52 to 58 (fun s14 wx => ∃ B b, s14 = .pointer (some ⟨B, 0, none⟩) ∧ Hid (Filled wr wx B (.int .u8 (o : Nat)) (.string ⟨#[]⟩) (sl b 2) [(b, twoO (f.op : Nat) f.name (.slice fad f.kids.length fcap) (g.op : Nat) g.name (.slice gad g.kids.length gcap))]))
              case first =>
                have hS : ∀ W, Kept [] wr W → (W.cell? ⟨lb, k, none⟩ = some (.int .u8 (o : Nat)) ∧ W.cell? ⟨w.heap.size, 0, none⟩ = some (.int .u8 (f.op : Nat)) ∧ W.cell? ⟨w.heap.size, 1, none⟩ = some (.string f.name) ∧ W.cell? ⟨w.heap.size, 2, none⟩ = some (.slice fad f.kids.length fcap) ∧ W.cell? ⟨w.heap.size + 1, 0, none⟩ = some (.int .u8 (g.op : Nat)) ∧ W.cell? ⟨w.heap.size + 1, 1, none⟩ = some (.string g.name) ∧ W.cell? ⟨w.heap.size + 1, 2, none⟩ = some (.slice gad g.kids.length gcap)) := fun W kk =>
                  ⟨cell_kept0 kk (cell_kept0 HF.out HCO.out), (box_cells HCR.out.b0 kk).1, (box_cells HCR.out.b0 kk).2.1, (box_cells HCR.out.b0 kk).2.2, (box_cells HCR.out.b1 kk).1, (box_cells HCR.out.b1 kk).2.1, (box_cells HCR.out.b1 kk).2.2⟩
                have HS : Hid _ := hS
                obtain ⟨e0, e1, e2, e3, e4, e5, e6⟩ := hS wr (Kept.refl [] wr)
                clear hS
                go_region_held3 (fun w' => w'.cell? ⟨lb, k, none⟩ = some (.int .u8 (o : Nat)) ∧ w'.cell? ⟨w.heap.size, 0, none⟩ = some (.int .u8 (f.op : Nat)) ∧ w'.cell? ⟨w.heap.size, 1, none⟩ = some (.string f.name) ∧ w'.cell? ⟨w.heap.size, 2, none⟩ = some (.slice fad f.kids.length fcap) ∧ w'.cell? ⟨w.heap.size + 1, 0, none⟩ = some (.int .u8 (g.op : Nat)) ∧ w'.cell? ⟨w.heap.size + 1, 1, none⟩ = some (.string g.name) ∧ w'.cell? ⟨w.heap.size + 1, 2, none⟩ = some (.slice gad g.kids.length gcap))
                  ((refine HS.out _ ?_; (repeat (first | exact Kept.refl [] _ | refine Kept.drew ?_ | refine Kept.alloc ?_ _ | refine Kept.trans (F := []) (G := []) (H := []) ?_ HKb.out (by simp) (by simp) | refine Kept.trans (F := []) (G := []) (H := []) ?_ HKa.out (by simp) (by simp) | refine Kept.setCell ?_ (Or.inr (by dsimp only; omega)) _))))
                  (first | (go_at_call 11; refine (lawTwoC _ _ _ _ _ _ _ _ _ _ _ _).mono ?_; rintro e Wa ⟨ba, rfl, hb1, hb2, hb, ka⟩; obtain ⟨hca, hfa⟩ := bcell ka.below; have hza := ka.size; (try simp only [drew_heap] at hza hb1); (try simp only [World.size_alloc] at hza hb1); (try have qa0 : wr.heap.size < Wa.heap.size := (by omega)); have HKa : Hid _ := ka; have HBa : Hid (Wa.heap[ba]? = some (twoO (f.op : Nat) f.name (.slice fad f.kids.length fcap) (g.op : Nat) g.name (.slice gad g.kids.length gcap))) := hb; clear ka hb))
                all_goals (go_wp2_with fail; go_meet)
                all_goals first
                  | exact ⟨Wa.heap.size, ba, rfl, filled_new (by (repeat (first | with_reducible exact Kept.refl [] _ | with_reducible refine Kept.drew ?_ | with_reducible refine Kept.alloc ?_ _ | with_reducible refine Kept.trans (F := []) (G := []) (H := []) ?_ HKb.out (by simp) (by simp) | with_reducible refine Kept.trans (F := []) (G := []) (H := []) ?_ HKa.out (by simp) (by simp)))) (one_in HBa.out)⟩
                  | exact ⟨wr.heap.size, ba, rfl, filled_set (x0 := .int .u8 0) (y0 := .string ⟨#[]⟩) (z0 := .slice none 0 0) (by (repeat (first | with_reducible exact Kept.refl [] _ | with_reducible refine Kept.drew ?_ | with_reducible refine Kept.alloc ?_ _ | with_reducible refine Kept.trans (F := []) (G := []) (H := []) ?_ HKb.out (by simp) (by simp) | with_reducible refine Kept.trans (F := []) (G := []) (H := []) ?_ HKa.out (by simp) (by simp)))) (Nat.le_refl _) (by (repeat (first | with_reducible exact For3.new _ _ _ _ | with_reducible refine For3.drew ?_ | with_reducible refine For3.up1 ?_ _ | with_reducible refine For3.kept ?_ HKb.out | with_reducible refine For3.kept ?_ HKa.out))) (one_in HBa.out) (one_ne (by omega))⟩
              case rest =>
                obtain ⟨B14, bu, rfl, HU1⟩ := hcut
                rename World => V12
                obtain ⟨c0, c1, c2, _⟩ := HU1.out.2.2.1.cells
                go_wp2_with (go_at_call 10; refine (lawOneC _ _ _ _ _ _ _).mono ?_; rintro e Wn ⟨bn, rfl, _, _, hn, kn⟩; have HKN : Hid (Kept [] V12 Wn) := kn; have HBN : Hid (Wn.heap[bn]? = some (oneO (o : Nat) ⟨#[]⟩ (sl bu 2))) := hn; clear kn hn)
                obtain ⟨V13, hV13⟩ : ∃ V13, Wn.alloc (.cells #[.int .u8 9, .string ⟨#[]⟩, .slice (some ⟨bn, 0, none⟩) 1 1] 26) = V13 := ⟨_, rfl⟩
                have k13 : Kept [] Wn V13 := by rw [← hV13]; exact kA _ _
                have HF13 : Hid (Filled wr V13 B14 (.int .u8 (o : Nat)) (.string ⟨#[]⟩) (sl bu 2) [(bu, twoO (f.op : Nat) f.name (.slice fad f.kids.length fcap) (g.op : Nat) g.name (.slice gad g.kids.length gcap))]) := (HU1.out.go HKN.out).go k13
                have HC13 : Hid (StC w V13 f g (.slice fad f.kids.length fcap) (.slice gad g.kids.length gcap) (.slice nad xs.length nc) (.slice sad q.stem.length sc) (.slice lad q.loop.length lc) xs q) := HCR.out.go HF13.out.2.1
                have HKU : Hid (Kept [] U V13) := HF.out.trans HF13.out.2.1 (by simp) (by simp)
                have hb15 : For3 V13 Wn.heap.size (.int .u8 9) (.string ⟨#[]⟩) (.slice (some ⟨bn, 0, none⟩) 1 1) := by rw [← hV13]; exact al0 _ _
                have HHN : Hid (V13.heap[bn]? = some (oneO (o : Nat) ⟨#[]⟩ (sl bu 2))) := k13.at HBN.out (by simp)
                have HHU : Hid (V13.heap[bu]? = some (twoO (f.op : Nat) f.name (.slice fad f.kids.length fcap) (g.op : Nat) g.name (.slice gad g.kids.length gcap))) := HF13.out.2.2.2 _ (List.mem_singleton.2 rfl)
                rw [hV13]
                obtain ⟨B15, hB15⟩ : ∃ B15, Wn.heap.size = B15 := ⟨_, rfl⟩
                rw [hB15] at hb15 ⊢
                have HB15 : Hid (For3 V13 B15 (.int .u8 9) (.string ⟨#[]⟩) (.slice (some ⟨bn, 0, none⟩) 1 1)) := hb15
                have hS : ∀ W, Kept [] V13 W → (W.cell? ⟨w.heap.size, 0, none⟩ = some (.int .u8 (f.op : Nat)) ∧ W.cell? ⟨w.heap.size, 1, none⟩ = some (.string f.name) ∧ W.cell? ⟨w.heap.size, 2, none⟩ = some (.slice fad f.kids.length fcap) ∧ W.cell? ⟨w.heap.size + 1, 0, none⟩ = some (.int .u8 (g.op : Nat)) ∧ W.cell? ⟨w.heap.size + 1, 1, none⟩ = some (.string g.name) ∧ W.cell? ⟨w.heap.size + 1, 2, none⟩ = some (.slice gad g.kids.length gcap) ∧ W.cell? ⟨B15, 0, none⟩ = some (.int .u8 9) ∧ W.cell? ⟨B15, 1, none⟩ = some (.string ⟨#[]⟩) ∧ W.cell? ⟨B15, 2, none⟩ = some (.slice (some ⟨bn, 0, none⟩) 1 1)) := fun W kk =>
                  ⟨(box_cells HC13.out.b0 kk).1, (box_cells HC13.out.b0 kk).2.1, (box_cells HC13.out.b0 kk).2.2, (box_cells HC13.out.b1 kk).1, (box_cells HC13.out.b1 kk).2.1, (box_cells HC13.out.b1 kk).2.2, (box_cells HB15.out kk).1, (box_cells HB15.out kk).2.1, (box_cells HB15.out kk).2.2⟩
                have HS : Hid (∀ W, Kept [] V13 W → (W.cell? ⟨w.heap.size, 0, none⟩ = some (.int .u8 (f.op : Nat)) ∧ W.cell? ⟨w.heap.size, 1, none⟩ = some (.string f.name) ∧ W.cell? ⟨w.heap.size, 2, none⟩ = some (.slice fad f.kids.length fcap) ∧ W.cell? ⟨w.heap.size + 1, 0, none⟩ = some (.int .u8 (g.op : Nat)) ∧ W.cell? ⟨w.heap.size + 1, 1, none⟩ = some (.string g.name) ∧ W.cell? ⟨w.heap.size + 1, 2, none⟩ = some (.slice gad g.kids.length gcap) ∧ W.cell? ⟨B15, 0, none⟩ = some (.int .u8 9) ∧ W.cell? ⟨B15, 1, none⟩ = some (.string ⟨#[]⟩) ∧ W.cell? ⟨B15, 2, none⟩ = some (.slice (some ⟨bn, 0, none⟩) 1 1))) := hS
                clear hV13 k13 hb15 hB15 HU1 HKN HBN c0 c1 c2 hS
                go_cut [16] from 61 to 65 (fun s16 wx => ∃ B b1 b2, s16 = .pointer (some ⟨B, 0, none⟩) ∧ Hid (Filled V13 wx B (.int .u8 6) (.string ⟨#[]⟩) (sl b2 2) [(b1, twoO (f.op : Nat) f.name (.slice fad f.kids.length fcap) 9 ⟨#[]⟩ (sl bn 1)), (b2, twoO (g.op : Nat) g.name (.slice gad g.kids.length gcap) 5 ⟨#[]⟩ (sl b1 2))]))
                case first =>
                  obtain ⟨e0, e1, e2, e3, e4, e5, e6, e7, e8⟩ := HS.out V13 (Kept.refl [] V13)
                  go_region_held3 (fun w' => w'.cell? ⟨w.heap.size, 0, none⟩ = some (.int .u8 (f.op : Nat)) ∧ w'.cell? ⟨w.heap.size, 1, none⟩ = some (.string f.name) ∧ w'.cell? ⟨w.heap.size, 2, none⟩ = some (.slice fad f.kids.length fcap) ∧ w'.cell? ⟨w.heap.size + 1, 0, none⟩ = some (.int .u8 (g.op : Nat)) ∧ w'.cell? ⟨w.heap.size + 1, 1, none⟩ = some (.string g.name) ∧ w'.cell? ⟨w.heap.size + 1, 2, none⟩ = some (.slice gad g.kids.length gcap) ∧ w'.cell? ⟨B15, 0, none⟩ = some (.int .u8 9) ∧ w'.cell? ⟨B15, 1, none⟩ = some (.string ⟨#[]⟩) ∧ w'.cell? ⟨B15, 2, none⟩ = some (.slice (some ⟨bn, 0, none⟩) 1 1))
                    ((refine HS.out _ ?_; (repeat (first | exact Kept.refl [] _ | refine Kept.drew ?_ | refine Kept.alloc ?_ _ | refine Kept.trans (F := []) (G := []) (H := []) ?_ HKb.out (by simp) (by simp) | refine Kept.trans (F := []) (G := []) (H := []) ?_ HKa.out (by simp) (by simp) | refine Kept.setCell ?_ (Or.inr (by dsimp only; omega)) _))))
                    (first
                    | (go_at_call 11; (with_reducible show Calls _ _ #[.int .u8 5, _, _] _ _); refine (lawTwoC _ _ _ _ _ _ _ _ _ _ _ _).mono ?_; rintro e Wa ⟨ba, rfl, ga1, ga2, hb, ka⟩; obtain ⟨hca, hfa⟩ := bcell ka.below; have hza := ka.size; (try simp only [drew_heap] at hza ga1); (try simp only [World.size_alloc] at hza ga1); (try have qa0 : V13.heap.size < Wa.heap.size := (by omega)); have HKa : Hid _ := ka; have HBa : Hid (Wa.heap[ba]? = some (twoO (f.op : Nat) f.name (.slice fad f.kids.length fcap) 9 ⟨#[]⟩ (sl bn 1))) := hb; clear ka hb)
                    | (go_at_call 11; (with_reducible show Calls _ _ #[.int .u8 6, _, _] _ _); refine (lawTwoC _ _ _ _ _ _ _ _ _ _ _ _).mono ?_; rintro e Wb ⟨bb, rfl, gb1, gb2, hb, kb⟩; obtain ⟨hcb, hfb⟩ := bcell kb.below; have hzb := kb.size; (try simp only [drew_heap] at hzb gb1); (try simp only [World.size_alloc] at hzb gb1); (try have qb0 : V13.heap.size < Wb.heap.size := (by omega)); (try have qb1 : Wa.heap.size < Wb.heap.size := (by omega)); have HKb : Hid _ := kb; have HBb : Hid (Wb.heap[bb]? = some (twoO (g.op : Nat) g.name (.slice gad g.kids.length gcap) 5 ⟨#[]⟩ (sl ba 2))) := hb; clear kb hb))
                  all_goals (go_wp2_with fail; go_meet)
                  all_goals first
                    | exact ⟨Wb.heap.size, ba, bb, rfl, filled_new (by (repeat (first | with_reducible exact Kept.refl [] _ | with_reducible refine Kept.drew ?_ | with_reducible refine Kept.alloc ?_ _ | with_reducible refine Kept.trans (F := []) (G := []) (H := []) ?_ HKb.out (by simp) (by simp) | with_reducible refine Kept.trans (F := []) (G := []) (H := []) ?_ HKa.out (by simp) (by simp)))) (two_in (HKb.out.at HBa.out (by simp)) HBb.out)⟩
                    | exact ⟨Wa.heap.size, ba, bb, rfl, filled_set (x0 := .int .u8 0) (y0 := .string ⟨#[]⟩) (z0 := .slice none 0 0) (by (repeat (first | with_reducible exact Kept.refl [] _ | with_reducible refine Kept.drew ?_ | with_reducible refine Kept.alloc ?_ _ | with_reducible refine Kept.trans (F := []) (G := []) (H := []) ?_ HKb.out (by simp) (by simp) | with_reducible refine Kept.trans (F := []) (G := []) (H := []) ?_ HKa.out (by simp) (by simp)))) (by omega) (by (repeat (first | with_reducible exact For3.new _ _ _ _ | with_reducible exact HBX.out | with_reducible refine For3.drew ?_ | with_reducible refine For3.up1 ?_ _ | with_reducible refine For3.kept ?_ HKb.out | with_reducible refine For3.kept ?_ HKa.out))) (two_in (HKb.out.at ((kA _ _).at HBa.out (by simp)) (by simp)) HBb.out) (two_ne (by omega) (by omega))⟩
                    | exact ⟨V13.heap.size, ba, bb, rfl, filled_set (x0 := .int .u8 0) (y0 := .string ⟨#[]⟩) (z0 := .slice none 0 0) (by (repeat (first | with_reducible exact Kept.refl [] _ | with_reducible refine Kept.drew ?_ | with_reducible refine Kept.alloc ?_ _ | with_reducible refine Kept.trans (F := []) (G := []) (H := []) ?_ HKb.out (by simp) (by simp) | with_reducible refine Kept.trans (F := []) (G := []) (H := []) ?_ HKa.out (by simp) (by simp)))) (Nat.le_refl _) (by (repeat (first | with_reducible exact For3.new _ _ _ _ | with_reducible exact HBX.out | with_reducible refine For3.drew ?_ | with_reducible refine For3.up1 ?_ _ | with_reducible refine For3.kept ?_ HKb.out | with_reducible refine For3.kept ?_ HKa.out))) (two_in (HKb.out.at HBa.out (by simp)) HBb.out) (two_ne (by omega) (by omega))⟩
                case rest =>
                  obtain ⟨B16, b1, b2, rfl, HX⟩ := hcut
                  rename World => V14
                  by_cases hk1 : k ≤ 1
                  · have hk1i : ¬ ((1 : Int) < (k : Int)) := by omega
                    have HKW : Hid (Kept [] U V14) := HKU.out.trans HX.out.2.1 (by simp) (by simp)
                    have HSH : Hid (((o = 12 ∨ o = 14) ∧ 6 = 6 ∧ 5 = 5) ∨ ((o = 13 ∨ o = 15) ∧ 6 = 5 ∧ 5 = 6)) := by
                      show _ ∨ _
                      have := HOR.out
                      omega
                    have HTR : Hid (IsF V14 (stepL o f g) (sl bu 2) ∧ IsF V14 (stepR 6 5 o f g) (sl b2 2)) := step_trees (HC13.out.go HX.out.2.1).f_ (HC13.out.go HX.out.2.1).g_ (HX.out.2.1.at HHU.out (by simp)) (HX.out.2.1.at HHN.out (by simp)) HX.out.pair.1 HX.out.pair.2
                    obtain ⟨c0, c1, c2⟩ := box_cells HF13.out.2.2.1 HX.out.2.1
                    obtain ⟨a0, a1, a2, _⟩ := HX.out.2.2.1.cells
                    obtain ⟨d0, d1, _, _⟩ := (HC13.out.go HX.out.2.1).b2.cells
                    clear HS HC13 HF13 HHN HHU HB15 HKU HCR HCO
                    go_wp2_with (go_at_call 12; refine Calls.mono (HAK.out V14 6 5 o bu b2 HKW.out HTR.out.1 HTR.out.2 HSH.out) ?_; rintro e W9 ⟨rfl, k9⟩; have HK9 : Hid (Kept [] U W9) := HKW.out.trans k9 (by simp) (by simp); clear k9)
                    go_roundw
                    case rel => exact ⟨k + 1, by omega, by go_num, HK9.out⟩
                    case measure => simp [intOf]; omega
                  · have hk1i : (1 : Int) < (k : Int) := by omega
                    have hB16 : B16 < V14.heap.size := (Array.getElem?_eq_some_iff.1 (show V14.heap[B16]? = some _ from HX.out.2.2.1)).1
                    have HBX : Hid (For3 V14 B16 (.int .u8 6) (.string ⟨#[]⟩) (sl b2 2)) := HX.out.2.2.1
                    have hVB : V13.heap.size ≤ B16 := HX.out.1
                    have HKX : Hid (Kept [] V13 V14) := HX.out.2.1
                    clear HX
                    go_wp2_with fail
                    go_cut [16] from 68 to 72 (fun s16 wx => ∃ b1 b2, s16 = .pointer (some ⟨B16, 0, none⟩) ∧ Hid (Filled V13 wx B16 (.int .u8 5) (.string ⟨#[]⟩) (sl b2 2) [(b1, twoO (f.op : Nat) f.name (.slice fad f.kids.length fcap) 9 ⟨#[]⟩ (sl bn 1)), (b2, twoO (g.op : Nat) g.name (.slice gad g.kids.length gcap) 6 ⟨#[]⟩ (sl b1 2))]))
                    case first =>
                      obtain ⟨e0, e1, e2, e3, e4, e5, e6, e7, e8⟩ := HS.out V14 HKX.out
                      have hfr := HBX.out.cells.2.2.2
                      go_region_held3 (fun w' => w'.cell? ⟨w.heap.size, 0, none⟩ = some (.int .u8 (f.op : Nat)) ∧ w'.cell? ⟨w.heap.size, 1, none⟩ = some (.string f.name) ∧ w'.cell? ⟨w.heap.size, 2, none⟩ = some (.slice fad f.kids.length fcap) ∧ w'.cell? ⟨w.heap.size + 1, 0, none⟩ = some (.int .u8 (g.op : Nat)) ∧ w'.cell? ⟨w.heap.size + 1, 1, none⟩ = some (.string g.name) ∧ w'.cell? ⟨w.heap.size + 1, 2, none⟩ = some (.slice gad g.kids.length gcap) ∧ w'.cell? ⟨B15, 0, none⟩ = some (.int .u8 9) ∧ w'.cell? ⟨B15, 1, none⟩ = some (.string ⟨#[]⟩) ∧ w'.cell? ⟨B15, 2, none⟩ = some (.slice (some ⟨bn, 0, none⟩) 1 1))
                        ((refine HS.out _ ?_; (repeat (first | exact Kept.refl [] _ | refine Kept.drew ?_ | refine Kept.alloc ?_ _ | refine Kept.trans (F := []) (G := []) (H := []) ?_ HKb.out (by simp) (by simp) | refine Kept.trans (F := []) (G := []) (H := []) ?_ HKa.out (by simp) (by simp) | refine Kept.trans (F := []) (G := []) (H := []) ?_ HKX.out (by simp) (by simp) | refine Kept.setCell ?_ (Or.inr (by dsimp only; omega)) _))))
                        (first
                    | (go_at_call 11; (with_reducible show Calls _ _ #[.int .u8 6, _, _] _ _); refine (lawTwoC _ _ _ _ _ _ _ _ _ _ _ _).mono ?_; rintro e Wa ⟨ba, rfl, ga1, ga2, hb, ka⟩; obtain ⟨xa0, xa1, xa2, xaf⟩ := (For3.kept (W := V14.drew) HBX.out ka).cells; obtain ⟨hca, hfa⟩ := bcell ka.below; have hza := ka.size; (try simp only [drew_heap] at hza ga1); (try simp only [World.size_alloc] at hza ga1); (try have qa0 : V14.heap.size < Wa.heap.size := (by omega)); have HKa : Hid _ := ka; have HBa : Hid (Wa.heap[ba]? = some (twoO (f.op : Nat) f.name (.slice fad f.kids.length fcap) 9 ⟨#[]⟩ (sl bn 1))) := hb; clear ka hb)
                    | (go_at_call 11; (with_reducible show Calls _ _ #[.int .u8 5, _, _] _ _); refine (lawTwoC _ _ _ _ _ _ _ _ _ _ _ _).mono ?_; rintro e Wb ⟨bb, rfl, gb1, gb2, hb, kb⟩; obtain ⟨xb0, xb1, xb2, xbf⟩ := (For3.kept (For3.kept (W := V14.drew) HBX.out HKa.out) kb).cells; obtain ⟨hcb, hfb⟩ := bcell kb.below; have hzb := kb.size; (try simp only [drew_heap] at hzb gb1); (try simp only [World.size_alloc] at hzb gb1); (try have qb0 : V14.heap.size < Wb.heap.size := (by omega)); (try have qb1 : Wa.heap.size < Wb.heap.size := (by omega)); have HKb : Hid _ := kb; have HBb : Hid (Wb.heap[bb]? = some (twoO (g.op : Nat) g.name (.slice gad g.kids.length gcap) 6 ⟨#[]⟩ (sl ba 2))) := hb; clear kb hb))
                      all_goals (go_wp2_with fail; go_meet)
                      all_goals exact ⟨ba, bb, rfl, filled_set (x0 := .int .u8 6) (y0 := .string ⟨#[]⟩) (z0 := sl b2 2) (by (repeat (first | with_reducible exact Kept.refl [] _ | with_reducible refine Kept.drew ?_ | with_reducible refine Kept.alloc ?_ _ | with_reducible refine Kept.trans (F := []) (G := []) (H := []) ?_ HKb.out (by simp) (by simp) | with_reducible refine Kept.trans (F := []) (G := []) (H := []) ?_ HKa.out (by simp) (by simp) | with_reducible refine Kept.trans (F := []) (G := []) (H := []) ?_ HKX.out (by simp) (by simp)))) hVB (by (repeat (first | with_reducible exact For3.new _ _ _ _ | with_reducible exact HBX.out | with_reducible refine For3.drew ?_ | with_reducible refine For3.up1 ?_ _ | with_reducible refine For3.kept ?_ HKb.out | with_reducible refine For3.kept ?_ HKa.out))) (two_in (HKb.out.at HBa.out (by simp)) HBb.out) (two_ne (by omega) (by omega))⟩
                    case rest =>
                      clear HBX HKX hB16 hVB
                      obtain ⟨b1, b2, rfl, HX⟩ := hcut
                      rename World => V16
                      have HKW : Hid (Kept [] U V16) := HKU.out.trans HX.out.2.1 (by simp) (by simp)
                      have HSH : Hid (((o = 12 ∨ o = 14) ∧ 5 = 6 ∧ 6 = 5) ∨ ((o = 13 ∨ o = 15) ∧ 5 = 5 ∧ 6 = 6)) := by
                        show _ ∨ _
                        have := HOR.out
                        omega
                      have HTR : Hid (IsF V16 (stepL o f g) (sl bu 2) ∧ IsF V16 (stepR 5 6 o f g) (sl b2 2)) := step_trees (HC13.out.go HX.out.2.1).f_ (HC13.out.go HX.out.2.1).g_ (HX.out.2.1.at HHU.out (by simp)) (HX.out.2.1.at HHN.out (by simp)) HX.out.pair.1 HX.out.pair.2
                      obtain ⟨c0, c1, c2⟩ := box_cells HF13.out.2.2.1 HX.out.2.1
                      obtain ⟨a0, a1, a2, _⟩ := HX.out.2.2.1.cells
                      obtain ⟨d0, d1, _, _⟩ := (HC13.out.go HX.out.2.1).b2.cells
                      clear HS HC13 HF13 HHN HHU HB15 HKU HCR HCO
                      go_wp2_with (go_at_call 12; refine Calls.mono (HAK.out V16 5 6 o bu b2 HKW.out HTR.out.1 HTR.out.2 HSH.out) ?_; rintro e W9 ⟨rfl, k9⟩; have HK9 : Hid (Kept [] U W9) := HKW.out.trans k9 (by simp) (by simp); clear k9)
                      go_roundw
                      case rel => exact ⟨k + 1, by omega, by go_num, HK9.out⟩
                      case measure => simp [intOf]; omega
            · obtain rfl : k = 4 := by omega
              have hlt' : ¬ ((4 : Int) < 4) := by omega
              go_wp2
              go_ret
              exact ⟨rfl, HC5.out.kept.trans HF.out (by simp) (by simp)⟩
end Go.Proofs.YtondmjnagkldpaaDoor
