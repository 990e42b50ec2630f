/- tree.fits: is a tree, with another in the place of a name, within the bounds. -/
import Derived.Test.YtnjajafmmociiaaGreatDoorTrCopy
import Derived.Deep.RegionHeld3
import Derived.Deep.CutRange
namespace Go.Proofs.YtnjajafmmociiaaGreatDoor
open Go.RowKit Go.Shelf
attribute [local go_sem] Oper.semAt_some

theorem bcell {W w1 : World} (hb : Below W.heap.size W w1) : (∀ b o, b < W.heap.size → w1.cell? ⟨b, o, none⟩ = W.cell? ⟨b, o, none⟩) ∧ (∀ b o, b < W.heap.size → w1.frozen? ⟨b, o, none⟩ = W.frozen? ⟨b, o, none⟩) :=
  ⟨fun b o h => hb.cell (p := ⟨b, o, none⟩) h, fun b o h => hb.frozen (p := ⟨b, o, none⟩) h⟩
theorem drew_heap (w : World) : w.drew.heap = w.heap := rfl
theorem uS_of {V W : World} {B : Nat} {a b c : Value} (h : For3 V B a b c) (k : Kept [] V W) : W.cell? ⟨B, 0, none⟩ = some a ∧ W.cell? ⟨B, 1, none⟩ = some b ∧ W.cell? ⟨B, 2, none⟩ = some c := ⟨(h.kept k).cells.1, (h.kept k).cells.2.1, (h.kept k).cells.2.2.1⟩
theorem al0s (W : World) (p : Addr) (v : Value) (o : Obj) : ((W.setCell p v).alloc o).heap[W.heap.size]? = some o := by
  have := heap_alloc_new (W.setCell p v) o
  rwa [show (W.setCell p v).heap.size = W.heap.size from by simp [World.setCell]] at this
/-- Is a tree that name. -/
def propB (nm : ByteArray) (t : Tr) : Bool := decide (t.op = 3) && (t.name.toList == nm.toList)
/-- What a measure comes to. -/
def measStep (nm : ByteArray) (sz dp : Nat) (m : Nat × Nat) (x : List Nat × Tr) : Nat × Nat := if propB nm x.2 then (m.1 + sz, max m.2 (x.1.length + dp)) else (m.1 + 1, max m.2 (x.1.length + 1))
def measOf (nm : ByteArray) (sz dp : Nat) (l : List (List Nat × Tr)) : Nat × Nat := l.foldl (measStep nm sz dp) (0, 0)
def measFits (m : Nat × Nat) : Bool := decide (m.1 ≤ 1000) && decide (m.2 ≤ 100)
theorem measOf_snoc (nm : ByteArray) (sz dp : Nat) (l : List (List Nat × Tr)) (x : List Nat × Tr) : measOf nm sz dp (l ++ [x]) = measStep nm sz dp (measOf nm sz dp l) x := by simp [measOf]
theorem measStep_le (nm : ByteArray) (sz dp : Nat) (m : Nat × Nat) (x : List Nat × Tr) : m.1 ≤ (measStep nm sz dp m x).1 ∧ m.2 ≤ (measStep nm sz dp m x).2 := by
  unfold measStep; split <;> exact ⟨by simp, Nat.le_max_left _ _⟩
theorem meas_le (nm : ByteArray) (sz dp : Nat) (l : List (List Nat × Tr)) : ∀ m : Nat × Nat, m.1 ≤ (l.foldl (measStep nm sz dp) m).1 ∧ m.2 ≤ (l.foldl (measStep nm sz dp) m).2 := by
  induction l with
  | nil => intro m; exact ⟨Nat.le_refl _, Nat.le_refl _⟩
  | cons x r ih =>
    intro m
    have h1 := measStep_le nm sz dp m x
    have h2 := ih (measStep nm sz dp m x)
    exact ⟨Nat.le_trans h1.1 h2.1, Nat.le_trans h1.2 h2.2⟩
theorem fits_no {nm : ByteArray} {sz dp : Nat} {l pre : List (List Nat × Tr)} (hp : pre <+: l) (h : measFits (measOf nm sz dp pre) = false) : measFits (measOf nm sz dp l) = false := by
  obtain ⟨r, rfl⟩ := hp
  have := meas_le nm sz dp r (measOf nm sz dp pre)
  rw [show (r.foldl (measStep nm sz dp) (measOf nm sz dp pre)) = measOf nm sz dp (pre ++ r) from by simp [measOf]] at this
  unfold measFits at h ⊢
  rw [Bool.and_eq_false_iff, decide_eq_false_iff_not, decide_eq_false_iff_not] at h ⊢
  omega

set_option maxHeartbeats 4000000 in
set_option maxRecDepth 20000 in
theorem fitsPut_any (t : Tr) (kv : Value) (nm : ByteArray) (u : Tr) (kvu : Value) (w : World) (hI : IsF w t kv) (hIu : IsF w u kvu) (hs : t.size ≤ 1099511627776) (hsu : u.size ≤ 1099511627776) (hdu : u.depth ≤ 1099511627776) (hd : t.depth ≤ 1099511627776) :
    Calls Tryz.prog 41 #[.agg #[.int .u8 (t.op : Nat), .string t.name, kv], .string nm, .agg #[.int .u8 (u.op : Nat), .string u.name, kvu]] w fun e w' => e = .returned (.bool (measFits (measOf nm u.size u.depth (t.parts [])))) ∧ Kept [] w w' := by
  obtain ⟨r, hr⟩ : ∃ r, measFits (measOf nm u.size u.depth (t.parts [])) = r := ⟨_, rfl⟩
  rw [hr]
  obtain ⟨kad, kcap, rfl⟩ := hI.slice
  obtain ⟨uad, ucap, rfl⟩ := hIu.slice
  have HR : Hid _ := hr
  have HI : Hid (IsF w t (.slice kad t.kids.length kcap)) := hI
  have HSU : Hid _ := fun W (k : Kept [] w W) => size_any u _ W (hIu.kept k) hsu
  have HDU : Hid _ := fun W (k : Kept [] w W) => depth_any u _ W (hIu.kept k) hsu hdu
  clear hI hr hIu
  refine (callsIn_wide (n := 9)).1 ?_
  refine callsIn_of_wp_marks Tryz.func41 rfl trivial ?_ rfl
  simp only [Tryz.ntmps41, List.size_toArray, List.length_cons, List.length_nil, Nat.reduceAdd, Nat.reduceSub, Array.replicate_succ, Array.replicate_zero, List.push_toArray, List.append_toArray, List.nil_append, List.cons_append]
  gi_wp2
  obtain ⟨V, hV⟩ : ∃ V, (((w.alloc (.cells #[.int .u8 (t.op : Nat), .string t.name, .slice kad t.kids.length kcap] 25)).alloc (.cells #[.string nm] 9)).alloc (.cells #[.int .u8 (u.op : Nat), .string u.name, .slice uad u.kids.length ucap] 25)).alloc (.cells #[.bool false] 4) = V := ⟨_, rfl⟩
  have kV : Kept [] w V := by rw [← hV]; exact ((((Kept.refl [] w).alloc _).alloc _).alloc _).alloc _
  have zV : V.heap.size = w.heap.size + 4 := by rw [← hV]; simp
  have v0 : For3 V w.heap.size (.int .u8 (t.op : Nat)) (.string t.name) (.slice kad t.kids.length kcap) := by rw [← hV]; exact alUp (alUp (alUp (al0 _ _) _) _) _
  have v1 : Boxed V (w.heap.size + 1) 9 (.string nm) := by rw [← hV]; exact alUp (alUp (al1 _ _ _) _) _
  have v2 : For3 V (w.heap.size + 1 + 1) (.int .u8 (u.op : Nat)) (.string u.name) (.slice uad u.kids.length ucap) := by rw [← hV]; exact alUp (al2 _ _ _ _) _
  have v3 : Boxed V (w.heap.size + 1 + 1 + 1) 4 (.bool false) := by rw [← hV]; exact al3 _ _ _ _ _
  rw [hV]
  clear hV
  have HKV : Hid (Kept [] w V) := kV
  have HV0 : Hid _ := v0
  have HV1 : Hid _ := v1
  have HV3 : Hid _ := v3
  have HV2 : Hid (For3 V (w.heap.size + 1 + 1) (.int .u8 (u.op : Nat)) (.string u.name) (.slice uad u.kids.length ucap)) := v2
  clear kV v0 v1 v2 v3
  refine wpIn_wide.2 ?_
  go_cut [7, 8] from 12 to 15 (fun s7 s8 wc => ∃ B7 B8, s7 = .pointer (some ⟨B7, 0, none⟩) ∧ s8 = .pointer (some ⟨B8, 0, none⟩) ∧ Hid (V.heap.size ≤ B7 ∧ V.heap.size ≤ B8 ∧ Boxed wc B7 3 (.int .i64 (u.size : Nat)) ∧ Boxed wc B8 3 (.int .i64 (u.depth : Nat)) ∧ Kept [] V wc))
  case first =>
    clear HR HI
    obtain ⟨c0, c1, c2, _⟩ := HV2.out.cells
    clear zV
    go_region_held3 (fun w' => w'.cell? ⟨w.heap.size + 1 + 1, 0, none⟩ = some (.int .u8 (u.op : Nat)) ∧ w'.cell? ⟨w.heap.size + 1 + 1, 1, none⟩ = some (.string u.name) ∧ w'.cell? ⟨w.heap.size + 1 + 1, 2, none⟩ = some (.slice uad u.kids.length ucap))
      ((refine uS_of HV2.out ?_; (repeat (first | exact Kept.refl [] _ | refine Kept.drew ?_ | refine Kept.alloc ?_ _ | refine Kept.trans (F := []) (G := []) (H := []) ?_ HK3.out (by simp) (by simp) | refine Kept.trans (F := []) (G := []) (H := []) ?_ HK2.out (by simp) (by simp) | refine Kept.setCell ?_ (Or.inr (by dsimp only; omega)) _))))
      (first
      | (go_at_call 29; refine (HSU.out _ (by repeat (first | exact HKV.out | refine Kept.drew ?_ | refine Kept.alloc ?_ _))).mono ?_; rintro e W2 ⟨rfl, hk2⟩; obtain ⟨hc2, hf2⟩ := bcell hk2.below; have hz2 := hk2.size; (try simp only [drew_heap] at hz2); (try simp only [World.size_alloc] at hz2); (try have q1 : V.heap.size < W2.heap.size := (by omega)); (try have q2 : V.heap.size + 1 < W2.heap.size := (by omega)); have HK2 : Hid _ := hk2; clear hk2)
      | (go_at_call 30; refine (HDU.out _ (by repeat (first | exact HKV.out | refine Kept.drew ?_ | refine Kept.alloc ?_ _ | refine Kept.trans (F := []) (G := []) (H := []) ?_ HK2.out (by simp) (by simp)))).mono ?_; rintro e W3 ⟨rfl, hk3⟩; obtain ⟨hc3, hf3⟩ := bcell hk3.below; have hz3 := hk3.size; (try simp only [drew_heap] at hz3); (try simp only [World.size_alloc] at hz3); (try have q3 : V.heap.size < W3.heap.size := (by omega)); (try have q4 : V.heap.size + 1 < W3.heap.size := (by omega)); (try have q5 : W2.heap.size < W3.heap.size := (by omega)); (try have q6 : W2.heap.size + 1 < W3.heap.size := (by omega)); have HK3 : Hid _ := hk3; clear hk3))
    all_goals (go_wp2_with fail; go_meet)
    all_goals
      refine ⟨_, _, rfl, rfl, by omega, by omega, ?_, ?_, ?_⟩
      · repeat (first | exact al1 _ _ _ | exact heap_alloc_new _ _ | exact al0s _ _ _ _ | refine Boxed.set _ (v := .int .i64 0) ?_ | refine box_other ?_ (by omega) | refine alUp ?_ _ | refine Kept.at HK3.out ?_ (by simp) | refine Kept.at HK2.out ?_ (by simp))
      · repeat (first | exact al1 _ _ _ | exact heap_alloc_new _ _ | exact al0s _ _ _ _ | refine Boxed.set _ (v := .int .i64 0) ?_ | refine box_other ?_ (by omega) | refine alUp ?_ _ | refine Kept.at HK3.out ?_ (by simp) | refine Kept.at HK2.out ?_ (by simp))
      · repeat (first | exact Kept.refl [] _ | refine Kept.drew ?_ | refine Kept.alloc ?_ _ | refine Kept.trans (F := []) (G := []) (H := []) ?_ HK3.out (by simp) (by simp) | refine Kept.trans (F := []) (G := []) (H := []) ?_ HK2.out (by simp) (by simp) | refine Kept.setCell ?_ (Or.inr (by dsimp only; omega)) _)
  case rest =>
    obtain ⟨B7, B8, rfl, rfl, HW⟩ := hcut
    obtain ⟨hB7, hB8, b7, b8, kc⟩ := HW.out
    have HC : Hid (Kept [] V wc) := kc
    have zc := kc.size
    obtain ⟨s0, s1, s2, _⟩ := (For3.kept (show For3 V w.heap.size (.int .u8 (t.op : Nat)) (.string t.name) (.slice kad t.kids.length kcap) from HV0.out) kc).cells
    have z0 := fun o => cell_kept0 ((Kept.refl [] wc).alloc o) s0
    have z1 := fun o => cell_kept0 ((Kept.refl [] wc).alloc o) s1
    have z2 := fun o => cell_kept0 ((Kept.refl [] wc).alloc o) s2
    have HB7 : Hid _ := b7
    have HB8 : Hid _ := b8
    have l7 := b7.lt
    have l8 := b8.lt
    have n1 : ¬ w.heap.size = wc.heap.size := by omega
    have n2 : ¬ wc.heap.size = w.heap.size := by omega
    clear kc b7 b8 HW HSU HDU HV2
    gi_wp2_with (refine ⟨trivial, ?_⟩; gi_at_call 73; refine (callsIn_wide.2 (parts_any t _ _)).mono ?_; rintro e V2 ⟨rfl, rfl⟩)
    obtain ⟨U, hU⟩ : ∃ U, (wc.alloc (.cells #[.int .i64 0, .int .i64 0] 126)).alloc (.cells #[.int .u8 (t.op : Nat), .string t.name, .slice kad t.kids.length kcap] 25) = U := ⟨_, rfl⟩
    have kcU : Kept [] wc U := by rw [← hU]; exact ((Kept.refl [] wc).alloc _).alloc _
    have zU : U.heap.size = wc.heap.size + 2 := by rw [← hU]; simp
    have u1 : U.heap[wc.heap.size]? = some (.cells (measC 0 0) 126 (0, 0)) := by rw [← hU]; exact alUp (al0 _ _) _
    have u2 : U.heap[wc.heap.size + 1]? = some (.cells #[.int .u8 (t.op : Nat), .string t.name, .slice kad t.kids.length kcap] 25 (0, 0)) := by rw [← hU]; exact al1 _ _ _
    rw [hU]
    clear hU
    have kU : Kept [] w U := (HKV.out.trans HC.out (H := []) (by simp) (by simp)).trans kcU (by simp) (by simp)
    have kVU : Kept [] V U := HC.out.trans kcU (by simp) (by simp)
    refine rangePart rfl (by omega) (gf := 100) (lb := #[.pointer (some ⟨wc.heap.size + 1, 0, none⟩)]) rfl trivial (enters_of Tryz.func100 (by kernel_rfl) rfl)
      (parts_goes (9 - 1) (wc.heap.size + 1) (fun k => k < w.heap.size) t kad kcap U ⟨u2, IsT.cells (fun _ h => h) (fun _ _ _ _ c => cell_kept0 kU c) HI.out, fun k h => by omega⟩ hs) (partAt_kept _ _) (fun k h => by omega) (fun k h => by omega) (fun _ => rfl)
      (fun X pre W => measFits (measOf nm u.size u.depth (pre.map Part.key)) = true ∧ Bx1 (w.heap.size + 1) 9 (.string nm) X W ∧ Bx1 (w.heap.size + 1 + 1 + 1) 4 (.bool false) X W ∧ Bx1 B7 3 (.int .i64 (u.size : Nat)) X W ∧ Bx1 B8 3 (.int .i64 (u.depth : Nat)) X W ∧ Blk wc.heap.size (measC (measOf nm u.size u.depth (pre.map Part.key)).1 (measOf nm u.size u.depth (pre.map Part.key)).2) 126 X W ∧ Bw w.heap.size w X W)
      (fun c X pre W => c = .ret ∧ measFits (measOf nm u.size u.depth (pre.map Part.key)) = false ∧ Bx1 (w.heap.size + 1 + 1 + 1) 4 (.bool false) X W ∧ Bw w.heap.size w X W)
      (abide_and (abide_pure _) (abide_and (abide_bx _ _ _) (abide_and (abide_bx _ _ _) (abide_and (abide_bx _ _ _) (abide_and (abide_bx _ _ _) (abide_and (abide_blk _ (fun pre : List Part => measC (measOf nm u.size u.depth (pre.map Part.key)).1 (measOf nm u.size u.depth (pre.map Part.key)).2) _) (abide_bw _ _))))))) (fun _ => abide_and (abide_pure _) (abide_and (abide_pure _) (abide_and (abide_bx _ _ _) (abide_bw _ _))))
      ⟨rfl, ⟨kVU.at HV1.out (by simp), by omega⟩, ⟨kVU.at HV3.out (by simp), by omega⟩, ⟨kcU.at HB7.out (by simp), by omega⟩, ⟨kcU.at HB8.out (by simp), by omega⟩, ⟨u1, by omega⟩, kU.below, kU.size, fun k h => by omega⟩ ?a1 ?assign ?body ?done ?stop
    case assign =>
      intro l x W Bx K hBx hK
      dsimp only [partV]
      dsimp only [partC] at hK
      gi_wp2
      exact hK
    case body =>
      rintro l X pre x Bx W _ _ hXb ⟨q1, hnb, hrb, h7, h8, hm, hB⟩ hBx hrow hat hN
      dsimp only [partC] at hrow
      have hxl : x.path.length + 1 ≤ t.depth := by
        have := dmax_mem hat.mem 0
        rw [Tr.parts_depth] at this
        simpa [Part.key] using this
      have t0 : W.cell? ⟨Bx, 0, none⟩ = some (.int .u8 (x.t.op : Nat)) := (cell_of hrow 0).trans rfl
      have t1 : W.cell? ⟨Bx, 1, none⟩ = some (.string x.t.name) := (cell_of hrow 1).trans rfl
      have t2 : W.cell? ⟨Bx, 2, none⟩ = some (.slice x.kad x.t.kids.length x.kcap) := (cell_of hrow 2).trans rfl
      obtain ⟨m, hmm⟩ : ∃ m, measOf nm u.size u.depth (pre.map Part.key) = m := ⟨_, rfl⟩
      rw [hmm] at q1 hm
      have hmf : m.1 ≤ 1000 ∧ m.2 ≤ 100 := by
        unfold measFits at q1
        rw [Bool.and_eq_true, decide_eq_true_iff, decide_eq_true_iff] at q1
        exact q1
      have hm' : measOf nm u.size u.depth ((pre ++ [x]).map Part.key) = measStep nm u.size u.depth m x.key := by
        rw [List.map_append, List.map_singleton, measOf_snoc, hmm]
      have HM' : Hid _ := hm'
      have cn := hnb.1.cell
      have hip := isProp_any x.t x.kad x.t.kids.length x.kcap nm W
      rw [show (decide (x.t.op = 3) && (x.t.name.toList == nm.toList)) = propB nm x.t from rfl] at hip
      have HNB : Hid (Bx1 (w.heap.size + 1) 9 (.string nm) X W) := hnb
      have HRB : Hid (Bx1 (w.heap.size + 1 + 1 + 1) 4 (.bool false) X W) := hrb
      have H7 : Hid (Bx1 B7 3 (.int .i64 (u.size : Nat)) X W) := h7
      have H8 : Hid (Bx1 B8 3 (.int .i64 (u.depth : Nat)) X W) := h8
      have HM : Hid (Blk wc.heap.size (measC m.1 m.2) 126 X W) := hm
      have HB2 : Hid (Bw w.heap.size w X W) := hB
      have HIP : Hid _ := hip
      clear hnb hrb h7 h8 hm hB hip q1 hat hrow hmm hm' s0 s1 s2 z0 z1 z2
      -- what is to be shown behind the measure's step, and the test
      have key : ∀ (m' : Nat × Nat) W2 W4, Kept [] W W2 → Kept [wc.heap.size] W2 W4 → MeasAt wc.heap.size m'.1 m'.2 W4 → measStep nm u.size u.depth m x.key = m' →
          KpX (orT (fun k => k < w.heap.size) X) W W4 ∧ Bx1 (w.heap.size + 1) 9 (.string nm) X W4 ∧ Bx1 (w.heap.size + 1 + 1 + 1) 4 (.bool false) X W4 ∧ Bx1 B7 3 (.int .i64 (u.size : Nat)) X W4 ∧ Bx1 B8 3 (.int .i64 (u.depth : Nat)) X W4 ∧ Blk wc.heap.size (measC m'.1 m'.2) 126 X W4 ∧ Bw w.heap.size w X W4 := fun m' W2 W4 k2 k4 hm4 _ =>
        ⟨(KpX.of_kept k2).trans (KpX.of_keptF k4 (fun y hy h => by
            obtain rfl : y = wc.heap.size := by simpa using hy
            exact h.elim HM.out.2 (fun (h : wc.heap.size < w.heap.size) => by omega))),
          (HNB.out.kept0 k2).keptF k4 (by simp; omega), (HRB.out.kept0 k2).keptF k4 (by simp; omega), (H7.out.kept0 k2).keptF k4 (by simp; omega), (H8.out.kept0 k2).keptF k4 (by simp; omega), ⟨hm4, HM.out.2⟩, (HB2.out.kept0 k2).keptF k4 (by simp; omega)⟩
      have KEY : Hid _ := key
      clear key
      obtain ⟨m', hm2⟩ : ∃ m', measStep nm u.size u.depth m x.key = m' := ⟨_, rfl⟩
      have hxk : x.key = (x.path, x.t) := rfl
      have hb' : m'.1 ≤ 1099511628776 ∧ m'.2 ≤ 2199023255552 := by
        rw [← hm2, hxk]; unfold measStep
        have : max m.2 (x.path.length + u.depth) ≤ 2199023255552 := by omega
        have : max m.2 (x.path.length + 1) ≤ 2199023255552 := by omega
        split
        · exact ⟨by show m.1 + u.size ≤ _; omega, by assumption⟩
        · exact ⟨by show m.1 + 1 ≤ _; omega, by assumption⟩
      have HFI : Hid (∀ W4, MeasAt wc.heap.size m'.1 m'.2 W4 → Calls Tryz.prog 86 #[.pointer (some ⟨wc.heap.size, 0, none⟩)] W4 fun e w' => e = .returned (.bool (measFits m')) ∧ Kept [] W4 w') := fun W4 h => fits_any wc.heap.size m'.1 m'.2 W4 h (by omega) (by omega)
      have HM2 : Hid _ := hm2
      obtain ⟨fb, hfb⟩ : ∃ fb, measFits m' = fb := ⟨_, rfl⟩
      rw [hfb] at HFI
      have HFB : Hid _ := hfb
      clear hfb hxk hm2
      -- behind the test: one more, or the way out
      have hgo : ∀ W2 W4 W5, Kept [] W W2 → Kept [wc.heap.size] W2 W4 → MeasAt wc.heap.size m'.1 m'.2 W4 → Kept [] W4 W5 → fb = true →
          KpX (orT (fun k => k < w.heap.size) X) W W5 ∧ measFits (measOf nm u.size u.depth ((pre ++ [x]).map Part.key)) = true ∧ Bx1 (w.heap.size + 1) 9 (.string nm) X W5 ∧ Bx1 (w.heap.size + 1 + 1 + 1) 4 (.bool false) X W5 ∧ Bx1 B7 3 (.int .i64 (u.size : Nat)) X W5 ∧ Bx1 B8 3 (.int .i64 (u.depth : Nat)) X W5 ∧ Blk wc.heap.size (measC (measOf nm u.size u.depth ((pre ++ [x]).map Part.key)).1 (measOf nm u.size u.depth ((pre ++ [x]).map Part.key)).2) 126 X W5 ∧ Bw w.heap.size w X W5 := fun W2 W4 W5 k2 k4 hm4 k5 hf => by
        obtain ⟨q0, q1, q2, q3, q4, q5, q6⟩ := KEY.out m' W2 W4 k2 k4 hm4 HM2.out
        rw [HM'.out, HM2.out]
        exact ⟨q0.trans (KpX.of_kept k5), HFB.out.trans hf, q1.kept0 k5, q2.kept0 k5, q3.kept0 k5, q4.kept0 k5, q5.kept0 k5, q6.kept0 k5⟩
      have hout : ∀ W2 W4 W5, Kept [] W W2 → Kept [wc.heap.size] W2 W4 → MeasAt wc.heap.size m'.1 m'.2 W4 → Kept [] W4 W5 → fb = false →
          (W5.cell? ⟨w.heap.size + 1 + 1 + 1, 0, none⟩ = some (.bool false) ∧ W5.frozen? ⟨w.heap.size + 1 + 1 + 1, 0, none⟩ = false) ∧
          (KpX (orT (fun k => k < w.heap.size) X) W (W5.setCell ⟨w.heap.size + 1 + 1 + 1, 0, none⟩ (.bool false)) ∧ Code.ret = Code.ret ∧ measFits (measOf nm u.size u.depth ((pre ++ [x]).map Part.key)) = false ∧ Bx1 (w.heap.size + 1 + 1 + 1) 4 (.bool false) X (W5.setCell ⟨w.heap.size + 1 + 1 + 1, 0, none⟩ (.bool false)) ∧ Bw w.heap.size w X (W5.setCell ⟨w.heap.size + 1 + 1 + 1, 0, none⟩ (.bool false))) := fun W2 W4 W5 k2 k4 hm4 k5 hf => by
        obtain ⟨q0, q1, q2, q3, q4, q5, q6⟩ := KEY.out m' W2 W4 k2 k4 hm4 HM2.out
        rw [HM'.out, HM2.out]
        exact ⟨⟨(q2.kept0 k5).1.cell, (q2.kept0 k5).1.frozen⟩, (q0.trans (KpX.of_kept k5)).trans (KpX.setCell (fun h => h.elim q2.2 (fun (h : w.heap.size + 1 + 1 + 1 < w.heap.size) => by omega)) _), rfl, HFB.out.trans hf, (q2.kept0 k5).set _, (q6.kept0 k5).set (by omega) _⟩
      have HGO : Hid _ := hgo
      have HOUT : Hid _ := hout
      clear hgo hout
      by_cases hp : propB nm x.t = true
      · rw [hp] at HIP
        have hadd : ∀ W2, Kept [] W W2 → Calls Tryz.prog 85 #[.pointer (some ⟨wc.heap.size, 0, none⟩), .int .i64 (u.size : Nat), .int .i64 ((x.path.length : Int) + (u.depth : Int))] W2 fun e w' => (∃ v, e = .returned v) ∧ MeasAt wc.heap.size m'.1 m'.2 w' ∧ Kept [wc.heap.size] W2 w' := fun W2 k2 => by
          have := add_any wc.heap.size m.1 m.2 u.size (x.path.length + u.depth) W2 (HM.out.kept0 k2).1 (by omega)
          rw [← HM2.out, show measStep nm u.size u.depth m x.key = (m.1 + u.size, max m.2 (x.path.length + u.depth)) from if_pos hp]
          exact this
        have HADD : Hid _ := hadd
        clear hadd
        cases fb with
        | true =>
          gi_wp2_with (first | (refine ⟨trivial, ?_⟩; gi_at_call 44; refine (CallsIn.inRound l (callsIn_wide.2 HIP.out)).mono ?_; rintro e W2 ⟨rfl, hk2⟩; have c7 := (H7.out.kept0 hk2).1.cell; have c8 := (H8.out.kept0 hk2).1.cell; have HK2 : Hid _ := hk2; clear hk2) | (refine ⟨trivial, ?_⟩; gi_at_call 85; refine (CallsIn.inRound l (callsIn_wide.2 (HADD.out _ HK2.out))).mono ?_; rintro e W4 ⟨⟨v, rfl⟩, hm4, hk4⟩; have HM4 : Hid _ := hm4; have HK4 : Hid _ := hk4; clear hm4 hk4) | (refine ⟨trivial, ?_⟩; gi_at_call 86; refine (CallsIn.inRound l (callsIn_wide.2 (HFI.out _ HM4.out))).mono ?_; rintro e W5 ⟨rfl, hk5⟩))
          exact HGO.out W2 W4 W5 HK2.out HK4.out HM4.out hk5 (by first | rfl | trivial)
        | false =>
          gi_wp2_with (first | (refine ⟨trivial, ?_⟩; gi_at_call 44; refine (CallsIn.inRound l (callsIn_wide.2 HIP.out)).mono ?_; rintro e W2 ⟨rfl, hk2⟩; have c7 := (H7.out.kept0 hk2).1.cell; have c8 := (H8.out.kept0 hk2).1.cell; have HK2 : Hid _ := hk2; clear hk2) | (refine ⟨trivial, ?_⟩; gi_at_call 85; refine (CallsIn.inRound l (callsIn_wide.2 (HADD.out _ HK2.out))).mono ?_; rintro e W4 ⟨⟨v, rfl⟩, hm4, hk4⟩; have HM4 : Hid _ := hm4; have HK4 : Hid _ := hk4; clear hm4 hk4) | (refine ⟨trivial, ?_⟩; gi_at_call 86; refine (CallsIn.inRound l (callsIn_wide.2 (HFI.out _ HM4.out))).mono ?_; rintro e W5 ⟨rfl, hk5⟩; obtain ⟨⟨cr, fr⟩, ho⟩ := HOUT.out W2 W4 W5 HK2.out HK4.out HM4.out hk5 (by first | rfl | trivial); have HO : Hid _ := ho; clear ho hk5))
          exact ⟨HO.out.1, rfl, HO.out.2.2⟩
      · have hp' : propB nm x.t = false := by simpa using hp
        rw [hp'] at HIP
        have hadd : ∀ W2, Kept [] W W2 → Calls Tryz.prog 85 #[.pointer (some ⟨wc.heap.size, 0, none⟩), .int .i64 1, .int .i64 ((x.path.length : Int) + 1)] W2 fun e w' => (∃ v, e = .returned v) ∧ MeasAt wc.heap.size m'.1 m'.2 w' ∧ Kept [wc.heap.size] W2 w' := fun W2 k2 => by
          have := add_any wc.heap.size m.1 m.2 1 (x.path.length + 1) W2 (HM.out.kept0 k2).1 (by omega)
          rw [← HM2.out, show measStep nm u.size u.depth m x.key = (m.1 + 1, max m.2 (x.path.length + 1)) from if_neg hp]
          exact this
        have HADD : Hid _ := hadd
        clear hadd hp
        cases fb with
        | true =>
          gi_wp2_with (first | (refine ⟨trivial, ?_⟩; gi_at_call 44; refine (CallsIn.inRound l (callsIn_wide.2 HIP.out)).mono ?_; rintro e W2 ⟨rfl, hk2⟩; have HK2 : Hid _ := hk2; clear hk2) | (refine ⟨trivial, ?_⟩; gi_at_call 85; refine (CallsIn.inRound l (callsIn_wide.2 (HADD.out _ HK2.out))).mono ?_; rintro e W4 ⟨⟨v, rfl⟩, hm4, hk4⟩; have HM4 : Hid _ := hm4; have HK4 : Hid _ := hk4; clear hm4 hk4) | (refine ⟨trivial, ?_⟩; gi_at_call 86; refine (CallsIn.inRound l (callsIn_wide.2 (HFI.out _ HM4.out))).mono ?_; rintro e W5 ⟨rfl, hk5⟩))
          exact HGO.out W2 W4 W5 HK2.out HK4.out HM4.out hk5 (by first | rfl | trivial)
        | false =>
          gi_wp2_with (first | (refine ⟨trivial, ?_⟩; gi_at_call 44; refine (CallsIn.inRound l (callsIn_wide.2 HIP.out)).mono ?_; rintro e W2 ⟨rfl, hk2⟩; have HK2 : Hid _ := hk2; clear hk2) | (refine ⟨trivial, ?_⟩; gi_at_call 85; refine (CallsIn.inRound l (callsIn_wide.2 (HADD.out _ HK2.out))).mono ?_; rintro e W4 ⟨⟨v, rfl⟩, hm4, hk4⟩; have HM4 : Hid _ := hm4; have HK4 : Hid _ := hk4; clear hm4 hk4) | (refine ⟨trivial, ?_⟩; gi_at_call 86; refine (CallsIn.inRound l (callsIn_wide.2 (HFI.out _ HM4.out))).mono ?_; rintro e W5 ⟨rfl, hk5⟩; obtain ⟨⟨cr, fr⟩, ho⟩ := HOUT.out W2 W4 W5 HK2.out HK4.out HM4.out hk5 (by first | rfl | trivial); have HO : Hid _ := ho; clear ho hk5))
          exact ⟨HO.out.1, rfl, HO.out.2.2⟩
    case done =>
      rintro D X xs W hD hXD hS ⟨q1, _, hb, _, _, _, hB⟩ hK
      rw [hS] at q1
      have hr := q1.symm.trans HR.out
      subst hr
      have hc := hb.1.cell
      have hf := hb.1.frozen
      have HB1 : Hid (Bx1 (w.heap.size + 1 + 1 + 1) 4 (.bool false) X W) := hb
      have HB2 : Hid (Bw w.heap.size w X W) := hB
      have HQ : Hid _ := hK
      clear hb hB hS hK q1
      gi_wp2
      have hD' : (W.setCell ⟨w.heap.size + 1 + 1 + 1, 0, none⟩ (.bool true)).heap[D]? = some (.deferred (some [])) := (Below.heap_setCell _ _ _ _ (by show D ≠ w.heap.size + 1 + 1 + 1; omega)).trans HQ.out
      exact leave1 rfl rfl (HB1.out.1.set _) (fun _ => by rfl) hD' ⟨rfl, nil_or_eq hD' (HB2.out.set (by omega) _).1 (by omega)⟩
    case stop =>
      rintro D X c pre W hD _ hS ⟨rfl, hx, hb, hB⟩ hK
      have hr := (fits_no hS hx).symm.trans HR.out
      subst hr
      gi_wp2
      exact leave1 rfl rfl hb.1 (fun _ => by rfl) hK ⟨rfl, nil_or_eq hK hB.1 (by omega)⟩
end Go.Proofs.YtnjajafmmociiaaGreatDoor
