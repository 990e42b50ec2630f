/- lex.cut: the closure that goes through a text's tokens, as an iterator's contract. -/
import Derived.Deep.RegionWith
import Derived.Deep.CutRange
import Derived.RangeFuncBox
import Derived.Test.YtilgfnafkcjdgaaDoorRg
import Derived.Test.YtilgfnafkcjdgaaDoorLxTable
namespace Go.Proofs.YtilgfnafkcjdgaaDoor
open Go.RowKit Go.Shelf

def begF (j : Nat) : Value := fnV (fnOf (UInt8.ofNat j))
/-- What the iterator leans on: its text's box and its table. -/
structure CutAt (Bt Bb : Nat) (s : ByteArray) (W : World) : Prop where
  text : Boxed W Bt 9 (.string s)
  tab : IsTab W Bb begF
theorem CutAt.box {Bt Bb : Nat} {s : ByteArray} {W : World} (h : CutAt Bt Bb s W) : W.cell? ⟨Bt, 0, none⟩ = some (.string s) := h.text.cell
theorem CutAt.kept {Bt Bb : Nat} {s : ByteArray} {W W' : World} (h : CutAt Bt Bb s W) (k : Kept [] W W') : CutAt Bt Bb s W' := ⟨k.at h.text (by simp), h.tab.kept k⟩
theorem CutAt.kpx {X : Nat → Prop} {Bt Bb : Nat} {s : ByteArray} {W W' : World} (h : CutAt Bt Bb s W) (k : KpX X W W') (h1 : X Bt) (h2 : X Bb) : CutAt Bt Bb s W' := ⟨k.own _ _ h1 h.text, k.own _ _ h2 h.tab⟩

set_option maxHeartbeats 1000000 in
set_option maxRecDepth 20000 in
theorem cut_any (s : ByteArray) (w : World) :
    Calls Tryd.prog 26 #[.string s] w fun e w' => ∃ Bt Bb, e = .returned (.func (.func 51) #[] #[.pointer (some ⟨Bt, 0, none⟩), .pointer (some ⟨Bb, 0, none⟩)]) ∧ CutAt Bt Bb s w' ∧ w.heap.size ≤ Bt ∧ w.heap.size ≤ Bb ∧ Bt < w'.heap.size ∧ Bb < w'.heap.size ∧ Kept [] w w' := by
  go_enter Tryd.func26, Tryd.ntmps26
  go_wp2_with (go_at_call 50; refine (beginnings_any _).mono ?_; rintro e w1 ⟨rfl, hk⟩)
  have hst : Hid _ := run_storeCells_new (P := Tryd.prog) w1 81 Tryd.zeroCells81 (tabOf fun j => fnV (fnOf (UInt8.ofNat j))) (by rw [tabOf_size]; exact Tryd.infoTab) (by rw [tabOf_size, Tryd.zeroCells81_size]) (tabOf_one _ (fun _ => rfl))
  rw [hst.out]
  simp only [Result.andThen]
  rw [Oper.upon_skip]
  clear hst
  go_wp2
  go_ret
  have z := hk.size
  simp at z
  have hb0 : Boxed w1 w.heap.size 9 (.string s) := hk.at (heap_alloc_new w _) (by simp)
  exact ⟨w.heap.size, w1.heap.size, rfl, ⟨hb0.alloc _, heap_alloc_new w1 _⟩, Nat.le_refl _, by omega, by simp; omega, by simp, (((Kept.refl [] w).alloc _).trans hk (by simp) (by simp)).alloc _⟩

/-- What comes, as the loop is handed it. -/
def tokV (x : Item) : Value := .agg #[.int .u8 (x.kind.val : Nat), .string ⟨x.text.toArray⟩, .int .i64 (x.pos : Nat)]
def itemV (x : Item) : Array Value := #[tokV x, .int .i64 (x.err : Nat)]

theorem fnOf_enters (b : UInt8) (args : Array Value) (w : World) : (callFunc (fnOf b) args).run Tryd.prog w = .ok (.enter (fnOf b) args) w := by
  unfold fnOf
  split
  · exact enters_of Tryd.func60 (by kernel_rfl) rfl args w
  split
  · exact enters_of Tryd.func61 (by kernel_rfl) rfl args w
  split
  · exact enters_of Tryd.func62 (by kernel_rfl) rfl args w
  split
  · exact enters_of Tryd.func63 (by kernel_rfl) rfl args w
  split
  · exact enters_of Tryd.func64 (by kernel_rfl) rfl args w
  · exact enters_of Tryd.func59 (by kernel_rfl) rfl args w

set_option maxHeartbeats 2000000 in
set_option maxRecDepth 20000 in
theorem cut1_in (m : Nat) (hm : 1 ≤ m) (l Bt Bb : Nat) (s : ByteArray) (hs : s.size ≤ 9223372036854775800) (J Jx : (Nat → Prop) → List Item → World → Prop) (hJ : Abide J)
    (hY : ∀ X pre x W, J X pre W → (∀ k, X k → k < W.heap.size) → pre.length < (itemsOf s.data.toList).length → YieldAt Fence.wide (m - 1) Tryd.prog l (itemV x) W fun e W' =>
      (e = .returned (.bool true) ∧ J X (pre ++ [x]) W' ∧ KpX X W W') ∨ (e = .returned (.bool false) ∧ Jx X (pre ++ [x]) W' ∧ KpX X W W'))
    (X : Nat → Prop) (W : World) (hA : CutAt Bt Bb s W) (h0 : J X [] W) (hX1 : X Bt) (hX2 : X Bb) (hX0 : ∀ k, X k → k < W.heap.size) :
    CallsIn Fence.wide m Tryd.prog 51 #[.func (.yield l) #[] #[], .pointer (some ⟨Bt, 0, none⟩), .pointer (some ⟨Bb, 0, none⟩)] W fun e W' => (∃ v, e = .returned v) ∧
      ((∃ ys X', ys = itemsOf s.data.toList ∧ J X' ys W') ∨ (∃ pre X', pre <+: itemsOf s.data.toList ∧ Jx X' pre W')) := by
  refine callsIn_of_wp Tryd.func51 rfl trivial ?_ rfl
  simp only [Tryd.ntmps51, List.size_toArray, List.length_cons, List.length_nil, Nat.reduceAdd, Nat.reduceSub, Array.replicate_succ, Array.replicate_zero, List.push_toArray, List.append_toArray, List.nil_append, List.cons_append]
  have HA : Hid (CutAt Bt Bb s W) := hA
  have HY : Hid _ := hY
  have HJ : Hid _ := hJ
  clear hA hY hJ
  gi_wp2
  gi_loopw [4] (fun v wr => ∃ (p : Nat) (pre : List Item), v = .int .i64 (p : Nat) ∧ p ≤ s.size ∧ Hid (itemsOf s.data.toList = pre ++ from_ s.data.toList p) ∧ Hid (∃ X, J X pre wr ∧ X Bt ∧ X Bb ∧ ∀ k, X k → k < wr.heap.size) ∧ Hid (CutAt Bt Bb s wr)) (fun v _ => s.size - (intOf v).toNat)
  case atStart => exact ⟨0, [], rfl, Nat.zero_le _, rfl, ⟨X, h0, hX1, hX2, hX0⟩, HA⟩
  case round =>
    obtain ⟨p, pre, rfl, hp, HX, HJs, HA1⟩ := hrel
    have hbox := HA1.out.box
    clear h0 hX0 hX1 hX2
    obtain ⟨t, ht⟩ : ∃ t, s.extract p s.size = t := ⟨_, rfl⟩
    have hpi : (p : Int) ≤ (s.size : Int) := by omega
    obtain ⟨q, hq⟩ : ∃ q, blanksN (s.data.toList.drop p) = q := ⟨_, rfl⟩
    have htd : t.data.toList = s.data.toList.drop p := by rw [← ht, Lib.extract_to_end]
    have hts : t.size = s.size - p := by rw [Lib.size_eq, htd, List.length_drop, ← Lib.size_eq]
    have hqle : q ≤ s.size - p := by rw [← hq, ← hts, Lib.size_eq, ← htd]; exact blanksN_le _
    have hbl := fun w => blanks_any t w (by omega)
    rw [htd, hq] at hbl
    have HBL : Hid _ := hbl
    have HT : Hid _ := htd
    have HQ : Hid _ := hq
    clear hbl htd hq
    obtain ⟨a, ha⟩ : ∃ a, p + q = a := ⟨_, rfl⟩
    have hai : (p : Int) + (q : Int) = (a : Int) := by omega
    by_cases hend : a = s.size
    · have HF := from_end s.data.toList p (by rw [HQ.out, ha, hend, Lib.size_eq]; simp)
      rw [HQ.out, ha] at HF
      have hx2 : itemsOf s.data.toList = pre ++ [⟨1, [], a, 0⟩] := by rw [HX.out, HF]
      subst hend
      have HX2 : Hid _ := hx2
      clear HX HF hx2
      have hyy : ∀ W1, Kept [] wr W1 → YieldAt Fence.wide (m - 1) Tryd.prog l #[.agg #[.int .u8 1, .string ⟨#[]⟩, .int .i64 (s.size : Nat)], .int .i64 0] W1 (fun e W' => ∃ X, (e = .returned (.bool true) ∧ J X (pre ++ [⟨1, [], s.size, 0⟩]) W' ∧ KpX X W1 W') ∨ (e = .returned (.bool false) ∧ Jx X (pre ++ [⟨1, [], s.size, 0⟩]) W' ∧ KpX X W1 W')) := fun W1 hk => by
        obtain ⟨Z, hj, _, _, hZ⟩ := HJs.out
        exact (HY.out Z pre ⟨1, [], s.size, 0⟩ W1 (HJ.out.kept hj hk) (fun k h => Nat.lt_of_lt_of_le (hZ k h) hk.size) (by rw [HX2.out]; simp)).mono (fun e w h => ⟨Z, h⟩)
      have HYY : Hid _ := hyy
      clear hyy
      gi_wp2_with (refine ⟨trivial, ?_⟩; gi_at_call 52; refine (callsIn_wide.2 (HBL.out _)).mono ?_; rintro e w1 ⟨rfl, hk1⟩; obtain ⟨fn, tmps, assign, body, hy, hR⟩ := HYY.out w1 hk1; have HK1 : Hid _ := hk1; have hbox1 : w1.cell? ⟨Bt, 0, none⟩ = some (.string s) := (HA1.out.kept hk1).box; clear hk1)
      refine hR.mono ?_
      rintro e W3 ⟨Z, (⟨rfl, hJ3, hk3⟩ | ⟨rfl, hJx3, hk3⟩)⟩
      · clear hk3
        gi_wp2
        refine bodyPost_ret (results_none rfl _ _ _) rfl ?_
        exact ⟨⟨_, rfl⟩, .inl ⟨_, _, HX2.out.symm, hJ3⟩⟩
      · clear hk3
        gi_wp2
        refine bodyPost_ret (results_none rfl _ _ _) rfl ?_
        exact ⟨⟨_, rfl⟩, .inr ⟨_, _, by rw [HX2.out]; exact List.prefix_refl _, hJx3⟩⟩
    · have hne : ¬ (a : Int) = (s.size : Int) := by omega
      have hlt : a < s.size := by omega
      have hlti : (a : Int) < (s.size : Int) := by omega
      have hlei : (a : Int) ≤ (s.size : Int) := by omega
      obtain ⟨x, hx⟩ : ∃ x : UInt8, s[a]'hlt = x := ⟨_, rfl⟩
      obtain ⟨t2, ht2⟩ : ∃ t2, s.extract a s.size = t2 := ⟨_, rfl⟩
      have hxl : s.data.toList[a]? = some x := by rw [← hx]; exact Lib.data_getElem? s a hlt
      obtain ⟨r, hr⟩ : ∃ r, s.data.toList.drop a = x :: r := ⟨s.data.toList.drop (a + 1), by rw [List.drop_eq_getElem?_toList_append, hxl]; rfl⟩
      have ht2d : t2.data.toList = x :: r := by rw [← ht2, Lib.extract_to_end, hr]
      have ht2s : t2.size ≤ s.size := by rw [← ht2, Lib.size_eq, Lib.extract_to_end, List.length_drop, Lib.size_eq]; omega
      obtain ⟨pc, hpcq⟩ : ∃ pc, pieceOf (x :: r) = pc := ⟨_, rfl⟩
      have hpc : ∀ w, Calls Tryd.prog (fnOf x) #[.string t2] w fun e w' => e = .returned (.agg #[.int .u8 (pc.kind.val : Nat), .string ⟨pc.text.toArray⟩, .int .i64 (pc.width : Nat), .int .i64 (pc.err : Nat)]) ∧ Kept [] w w' := fun w => by rw [← hpcq]; exact piece_any t2 x r ht2d w (by omega)
      have HPQ : Hid _ := hpcq
      clear hpcq
      have hen := fnOf_enters x
      have hxn : x.toNat < 256 := UInt8.toNat_lt x
      have hxi : (x.toNat : Int) < 256 := by omega
      have htc : ∀ W1, Kept [] wr W1 → W1.cell? ⟨Bb, x.toNat, none⟩ = some (.func (.func (fnOf x)) #[] #[]) := fun W1 hk => by
        rw [((HA1.out.kept hk).tab).cell x.toNat hxn]
        show some (fnV (fnOf (UInt8.ofNat x.toNat))) = _
        rw [UInt8.ofNat_toNat]; rfl
      obtain ⟨k, hk⟩ : ∃ k, fnOf x = k := ⟨_, rfl⟩
      rw [hk] at hpc hen htc
      have HR : Hid _ := hr
      have HPC : Hid _ := hpc
      have HTC : Hid _ := htc
      clear hk hr hpc htc hxl ht2d
      gi_wp2_with (refine ⟨trivial, ?_⟩; gi_at_call 52; refine (callsIn_wide.2 (HBL.out _)).mono ?_; rintro e w1 ⟨rfl, hk1⟩; have htc1 := HTC.out w1 hk1; have HK1 : Hid _ := hk1; have hbox1 : w1.cell? ⟨Bt, 0, none⟩ = some (.string s) := (HA1.out.kept hk1).box; clear hk1)
      refine wpIn_wide.2 ?_
      go_cut [5] from 6 to 50 (fun s5 wc => ∃ Bp, s5 = .pointer (some ⟨Bp, 0, none⟩) ∧ w1.heap.size ≤ Bp ∧ Hid (wc.heap[Bp]? = some (.cells #[.int .u8 (pc.kind.val : Nat), .string ⟨pc.text.toArray⟩, .int .i64 (pc.width : Nat), .int .i64 (pc.err : Nat)] 85 (0, 0))) ∧ Hid (Kept [] w1 wc))
      case first =>
        clear HY HJ HA HX HBL HT HQ HJs
        have hb2 : ∀ o, (w1.drew.alloc o).cell? ⟨Bt, 0, none⟩ = some (.string s) := fun o => (World.cell?_of_block (w := w1.drew) (a := ⟨Bt, 0, none⟩) (((Kept.refl [] w1.drew).alloc o).block Bt (World.block_lt_of_cell? w1.drew _ hbox1) (by simp))).trans hbox1
        have hb3 : ∀ o, (w1.drew.alloc o).cell? ⟨Bb, x.toNat, none⟩ = some (.func (.func k) #[] #[]) := fun o => (World.cell?_of_block (w := w1.drew) (a := ⟨Bb, x.toNat, none⟩) (((Kept.refl [] w1.drew).alloc o).block Bb (World.block_lt_of_cell? w1.drew _ htc1) (by simp))).trans htc1
        have hl1 : Bt < w1.heap.size := World.block_lt_of_cell? w1 _ hbox1
        have hl2 : Bb < w1.heap.size := World.block_lt_of_cell? w1 _ htc1
        have hn1 : ¬ Bt = w1.heap.size := by omega
        have hn2 : ¬ Bb = w1.heap.size := by omega
        have hn3 : ¬ w1.heap.size = Bt := by omega
        have hn4 : ¬ w1.heap.size = Bb := by omega
        go_region_with (go_at_fn k; refine (HPC.out _).mono ?_; rintro e w2 ⟨rfl, hk2⟩; first | (have hz : Zero4 w2 w1.heap.size := Zero4.kept (show Zero4 _ w1.heap.size from heap_alloc_new w1.drew _) hk2; obtain ⟨c0, c1, c2, c3, cf⟩ := hz.cells; have HZ : Hid (Zero4 w2 w1.heap.size) := hz; have HK2 : Hid _ := hk2; clear hz hk2) | (have HK2 : Hid _ := hk2; clear hk2))
        all_goals (go_wp2_with fail; go_meet)
        all_goals first
          | exact ⟨_, rfl, HK2.out.size, heap_alloc_new w2 _, (((Kept.refl [] w1).drew).trans HK2.out (by simp) (by simp)).alloc _⟩
          | exact ⟨_, rfl, Nat.le_refl _, Zero4.set (show Zero4 w2 w1.heap.size from HZ.out) _ _ _ _, ((((((((Kept.refl [] w1).drew).alloc _).trans HK2.out (by simp) (by simp)).setCell (Or.inr (Nat.le_refl _)) _).setCell (Or.inr (Nat.le_refl _)) _).setCell (Or.inr (Nat.le_refl _)) _).setCell (Or.inr (Nat.le_refl _)) _)⟩
      case rest =>
        obtain ⟨Bp, rfl, hBp, hrow, HK3⟩ := hcut
        have d0 : wc.cell? ⟨Bp, 0, none⟩ = some (.int .u8 (pc.kind.val : Nat)) := (cell_of hrow.out 0).trans rfl
        have d1 : wc.cell? ⟨Bp, 1, none⟩ = some (.string ⟨pc.text.toArray⟩) := (cell_of hrow.out 1).trans rfl
        have d2 : wc.cell? ⟨Bp, 2, none⟩ = some (.int .i64 (pc.width : Nat)) := (cell_of hrow.out 2).trans rfl
        have d3 : wc.cell? ⟨Bp, 3, none⟩ = some (.int .i64 (pc.err : Nat)) := (cell_of hrow.out 3).trans rfl
        by_cases herr : pc.err = 0
        · have hsp := from_go s.data.toList p x r (by rw [HQ.out, ha]; exact HR.out) (by rw [HPQ.out]; exact herr)
          rw [HQ.out, HPQ.out, ha] at hsp
          have hwid := piece_width x r (by rw [HPQ.out]; exact herr)
          rw [HPQ.out, ← HR.out, List.length_drop, ← Lib.size_eq] at hwid
          have hx2 : itemsOf s.data.toList = (pre ++ [⟨pc.kind, pc.text, a, 0⟩]) ++ from_ s.data.toList (a + pc.width) := by rw [HX.out, hsp]; simp
          have HX2 : Hid _ := hx2
          have hkk := HK1.out.trans HK3.out (H := []) (by simp) (by simp)
          obtain ⟨Z, hj, hZ1, hZ2, hZ⟩ := HJs.out
          obtain ⟨fn, tmps, assign, body, hy, hR⟩ : YieldAt Fence.wide (m - 1) Tryd.prog l #[.agg #[.int .u8 (pc.kind.val : Nat), .string ⟨pc.text.toArray⟩, .int .i64 (a : Nat)], .int .i64 0] wc _ := HY.out (fun i => Z i ∨ Between wr wc i) pre ⟨pc.kind, pc.text, a, 0⟩ wc (HJ.out.lay hj hkk) (fun k h => h.elim (fun h => Nat.lt_of_lt_of_le (hZ k h) hkk.size) (fun h => h.2)) (by rw [HX2.out]; simp)
          have HZ : Hid _ := hZ
          clear hZ hj
          have HKK : Hid _ := hkk
          rw [herr] at d3
          clear hsp hx2 hkk HX htc1 hbox hbox1 hx ht2
          gi_wp2
          refine hR.mono ?_
          rintro e W3 (⟨rfl, hJ3, hk3⟩ | ⟨rfl, hJx3, hk3⟩)
          · have e2 : W3.cell? ⟨Bp, 2, none⟩ = some (.int .i64 (pc.width : Nat)) := (cell_of (hk3.own Bp _ (.inr ⟨by have h2 := HK1.out.size; omega, lt_of hrow.out⟩) hrow.out) 2).trans rfl
            have hbz : Hid (CutAt Bt Bb s W3) := (HA1.out.kept HKK.out).kpx hk3 (.inl hZ1) (.inl hZ2)
            have hj3 : Hid (∃ X, J X (pre ++ [⟨pc.kind, pc.text, a, 0⟩]) W3 ∧ X Bt ∧ X Bb ∧ ∀ k, X k → k < W3.heap.size) := ⟨_, hJ3, .inl hZ1, .inl hZ2, fun k h => Nat.lt_of_lt_of_le (h.elim (fun h => Nat.lt_of_lt_of_le (HZ.out k h) HKK.out.size) (fun h => h.2)) hk3.size⟩
            clear hk3 d0 d1 d2 d3 hJ3
            gi_wp2
            go_roundw
            case rel => exact ⟨a + pc.width, _, by go_num, by omega, HX2, hj3, hbz⟩
            case measure => simp [intOf]; omega
          · clear hk3
            gi_wp2
            refine bodyPost_ret (results_none rfl _ _ _) rfl ?_
            exact ⟨⟨_, rfl⟩, .inr ⟨_, _, ⟨_, HX2.out.symm⟩, hJx3⟩⟩
        · have hsp := from_err s.data.toList p x r (by rw [HQ.out, ha]; exact HR.out) (by rw [HPQ.out]; exact herr)
          rw [HQ.out, HPQ.out, ha] at hsp
          have hx2 : itemsOf s.data.toList = pre ++ [⟨0, [], a, pc.err⟩] := by rw [HX.out, hsp]
          have HX2 : Hid _ := hx2
          have hkk := HK1.out.trans HK3.out (H := []) (by simp) (by simp)
          obtain ⟨fn, tmps, assign, body, hy, hR⟩ : YieldAt Fence.wide (m - 1) Tryd.prog l #[.agg #[.int .u8 0, .string ⟨#[]⟩, .int .i64 (a : Nat)], .int .i64 (pc.err : Nat)] wc (fun e W' => ∃ X, (e = .returned (.bool true) ∧ J X (pre ++ [⟨0, [], a, pc.err⟩]) W' ∧ KpX X wc W') ∨ (e = .returned (.bool false) ∧ Jx X (pre ++ [⟨0, [], a, pc.err⟩]) W' ∧ KpX X wc W')) := by
            obtain ⟨Z, hj, _, _, hZ⟩ := HJs.out
            exact (HY.out Z pre ⟨0, [], a, pc.err⟩ wc (HJ.out.kept hj hkk) (fun k h => Nat.lt_of_lt_of_le (hZ k h) hkk.size) (by rw [HX2.out]; simp)).mono (fun e w h => ⟨Z, h⟩)
          have hei : ¬ ((pc.err : Nat) : Int) = 0 := by omega
          clear hsp hx2 hkk HX htc1 hbox hbox1 hx ht2
          gi_wp2
          refine hR.mono ?_
          rintro e W3 ⟨Z, (⟨rfl, hJ3, hk3⟩ | ⟨rfl, hJx3, hk3⟩)⟩
          · clear hk3
            gi_wp2
            refine bodyPost_ret (results_none rfl _ _ _) rfl ?_
            exact ⟨⟨_, rfl⟩, .inl ⟨_, _, HX2.out.symm, hJ3⟩⟩
          · clear hk3
            gi_wp2
            refine bodyPost_ret (results_none rfl _ _ _) rfl ?_
            exact ⟨⟨_, rfl⟩, .inr ⟨_, _, by rw [HX2.out]; exact List.prefix_refl _, hJx3⟩⟩

/-- The function value that cut hands back goes through what comes of the text: to the end, or till a round has said 'no more'. -/
theorem cut_goes (m : Nat) (hm : 1 ≤ m) (Bt Bb : Nat) (s : ByteArray) (hs : s.size ≤ 9223372036854775800) (w : World) (hA : CutAt Bt Bb s w) :
    Goes Fence.wide m Tryd.prog 51 #[.pointer (some ⟨Bt, 0, none⟩), .pointer (some ⟨Bb, 0, none⟩)] itemV (fun k => k = Bt ∨ k = Bb) (fun ys => ys = itemsOf s.data.toList) (fun pre => pre <+: itemsOf s.data.toList) (itemsOf s.data.toList).length w :=
  fun l J Jx X W hW hJ _ hY h0 hX1 hX2 =>
    cut1_in m hm l Bt Bb s hs J Jx hJ hY X W ⟨(hW.block Bt hA.text.lt).trans hA.text, (hW.block Bb (lt_of hA.tab)).trans hA.tab⟩ h0 (hX1 _ (.inl rfl)) (hX1 _ (.inr rfl)) hX2
end Go.Proofs.YtilgfnafkcjdgaaDoor
