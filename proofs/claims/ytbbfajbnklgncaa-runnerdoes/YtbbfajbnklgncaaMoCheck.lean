/- package moore: Check and Run of any machine. -/
import Derived.Test.YtbbfajbnklgncaaHF
import Derived.Test.YtbbfajbnklgncaaHH
import Derived.Laws.ResultCell
import Derived.Deep.RegionHeld3
namespace Go.Proofs.Ytbbfajbnklgncaa
open Go.RowKit Go.Shelf

theorem Try.infoBM : (Try.prog.info? 4).map (fun i => (i.zero, i.size, i.bytes)) = some (some (.bool false), 1, 1) := by kernel_rfl
theorem make_boolsM (w : World) (k : Nat) (hk : k ≤ 1000000) : Sem.run Try.prog (Instr.makeSlice 90 (.int .i64 (k : Nat)) (.int .i64 (k : Nat))) w = .ok (.slice (some ⟨w.heap.size, 0, none⟩) k k) (w.alloc (.cells ((List.replicate k false).map Value.bool).toArray 4)) := by
  obtain ⟨i, hi, hz, hs, hb⟩ := info_parts Try.infoBM
  have h := run_make (P := Try.prog) w 90 4 i _ Try.underlying90 hi hz .i64 .i64 (k : Int) (k : Int) (by omega) (by omega) (by rw [hb]; omega) (by omega)
  have e : madeCells (Value.cells (.bool false)) (k * 1) = ((List.replicate k false).map Value.bool).toArray := by
    rw [Nat.mul_one]
    apply Array.ext'
    simp only [madeCells, Value.cells, List.size_toArray, List.length_cons, List.length_nil, Array.toList_map, Array.toList_range]
    apply List.ext_getElem
    · simp
    · intro i h1 h2
      simp [Nat.mod_one]
  rw [h, hs, Int.toNat_natCast, e]
theorem ret_shape {fn : Func} {p : Tmp} {a : Act} {w : World} {g : Nat} {x1 x2 x3 : Value} {R : Ending → World → Prop} (h : fn.results = #[.cell p 96]) (hp : a.tmps.getD p undef = .pointer (some ⟨g, 0, none⟩)) (hd : a.defers = []) (hg : w.heap[g]? = some (.cells #[x1, x2, x3] 96 (0, 0))) (hR : R (.returned (.agg #[x1, x2, x3])) w) : bodyPost Try.prog fn R .ret a w :=
  bodyPost_ret (results_cell_row h _ w g 96 #[x1, x2, x3] _ _ hp hg Try.underlying96 rfl (by kernel_rfl)) hd hR
def ShapeEnd (w : World) (pv nv : Value) (ol : Nat) (e : Ending) (w' : World) : Prop := ∃ b, e = .returned (.agg #[pv, nv, .slice (some ⟨b, 0, none⟩) ol ol]) ∧ Kept [] w w'
set_option maxHeartbeats 1600000 in
set_option maxRecDepth 10000 in
theorem shapeOf_any14 (pa na oa : Option Addr) (pl pc nl nc ol oc : Nat) (w : World) (ho : ol ≤ 1000000) :
    Calls Try.prog 50 #[.agg #[.slice pa pl pc, .slice na nl nc, .slice oa ol oc]] w (ShapeEnd w (.slice pa pl pc) (.slice na nl nc) ol) := by
  obtain ⟨V, hV⟩ : ∃ V, (w.alloc (.cells #[.slice pa pl pc, .slice na nl nc, .slice oa ol oc] 26)).alloc (.cells #[.slice none 0 0, .slice none 0 0, .slice none 0 0] 96) = V := ⟨_, rfl⟩
  have kV : Kept [] w V := by rw [← hV]; exact ((Kept.refl [] w).alloc _).alloc _
  have hB : Thr 26 V w.heap.size (.slice pa pl pc) (.slice na nl nc) (.slice oa ol oc) := by rw [← hV]; exact alUp (al0 _ _) _
  have hR : Thr 96 V (w.heap.size + 1) (.slice none 0 0) (.slice none 0 0) (.slice none 0 0) := by rw [← hV]; exact al1 _ _ _
  have hmk := make_boolsM V.drew ol ho
  obtain ⟨U, hU⟩ : ∃ U, V.drew.alloc (.cells ((List.replicate ol false).map Value.bool).toArray 4) = U := ⟨_, rfl⟩
  have kU : Kept [] V U := by rw [← hU]; exact (Kept.refl [] V).drew.alloc _
  rw [hU] at hmk
  have HRU : Hid (Thr 96 U (w.heap.size + 1) (.slice none 0 0) (.slice none 0 0) (.slice none 0 0)) := hR.keptF kU (by simp)
  have HKU : Hid (Kept [] w U) := keptB kV kU
  have HC : Hid (∀ W, Kept [w.heap.size + 1] V W → W.cell? ⟨w.heap.size, 0, none⟩ = some (.slice pa pl pc) ∧ W.cell? ⟨w.heap.size, 1, none⟩ = some (.slice na nl nc) ∧ W.cell? ⟨w.heap.size, 2, none⟩ = some (.slice oa ol oc)) := fun W k => (hB.keptF k (by simp)).cells
  have HKV2 : Hid (Kept [w.heap.size + 1] V V.drew) := (Kept.refl _ V).drew
  have HKU2 : Hid (Kept [w.heap.size + 1] V U) := kept_moreD kU
  have HSZ : Hid (w.heap.size ≤ w.heap.size + 1) := Nat.le_succ _
  have HVV : Hid (_ = V) := hV
  obtain ⟨c0, c1, c2⟩ := HC.out V (Kept.refl _ V)
  have o1 : (0 : Int) ≤ (ol : Int) := by omega
  obtain ⟨B, hBq⟩ : ∃ B, V.drew.heap.size = B := ⟨_, rfl⟩
  rw [hBq] at hmk
  have HZ := HRU.out.cells
  obtain ⟨r0, r1, r2⟩ := HRU.out.cells
  obtain ⟨s0, s1, s2⟩ := HRU.out.free
  clear hV kV hB hR hU kU hBq HZ
  go_enter Try.func50, Try.ntmps50
  go_upto_region 1 with fail
  rw [HVV.out]
  clear HVV
  go_region_held3 (fun w' => w'.cell? ⟨w.heap.size, 0, none⟩ = some (.slice pa pl pc) ∧ w'.cell? ⟨w.heap.size, 1, none⟩ = some (.slice na nl nc) ∧ w'.cell? ⟨w.heap.size, 2, none⟩ = some (.slice oa ol oc)) ((refine HC.out _ ?_; (repeat (first | exact HKU2.out | exact HKV2.out | refine Kept.setCell ?_ (.inl (by simp)) _)))) (fail)
  all_goals go_wp2
  all_goals exact ret_shape rfl rfl rfl (HRU.out.set _ _ _) ⟨_, rfl, kept_set3 HKU.out HSZ.out _ _ _⟩
/-- Is it a machine. -/
def rightM (ps : List ByteArray) (next : List (List Int)) (out : List Nat) : Bool := rightD ps next out.length && !out.any badV
set_option maxHeartbeats 1600000 in
set_option maxRecDepth 10000 in
theorem mCheck_any (pv nv ov : Value) (ps : List ByteArray) (next : List (List Int)) (out : List Nat) (w : World) (hp : Strs w pv ps) (hn : Rowss w nv next) (ho : Vds w ov out) (hf : out.length ≤ 1000000) :
    Calls Try.prog 28 #[.agg #[pv, nv, ov]] w fun e w' => e = .returned (.int .i64 ((if rightM ps next out then 0 else 140 : Nat) : Int)) ∧ Kept [] w w' := by
  obtain ⟨pa, pc, rfl, _, _⟩ := hp.form
  obtain ⟨na, nc, rfl, _, _⟩ := hn.form13
  obtain ⟨oa, oc, rfl⟩ := ho.form
  obtain ⟨V, hV⟩ : ∃ V, w.alloc (.cells #[.slice pa ps.length pc, .slice na next.length nc, .slice oa out.length oc] 26) = V := ⟨_, rfl⟩
  have kV : Kept [] w V := by rw [← hV]; exact (Kept.refl [] w).alloc _
  have hB : Thr 26 V w.heap.size (.slice pa ps.length pc) (.slice na next.length nc) (.slice oa out.length oc) := by rw [← hV]; exact al0 _ _
  have HV : Hid (_ = V) := hV
  have HKV : Hid (Kept [] w V) := kV
  have HC : Hid (∀ W, Kept [] V W → W.cell? ⟨w.heap.size, 0, none⟩ = some (.slice pa ps.length pc) ∧ W.cell? ⟨w.heap.size, 1, none⟩ = some (.slice na next.length nc) ∧ W.cell? ⟨w.heap.size, 2, none⟩ = some (.slice oa out.length oc)) := fun W k => (hB.keptF k (by simp)).cells
  have HSH : Hid (Calls Try.prog 50 #[.agg #[.slice pa ps.length pc, .slice na next.length nc, .slice oa out.length oc]] V (ShapeEnd V (.slice pa ps.length pc) (.slice na next.length nc) out.length)) := shapeOf_any14 pa na oa _ _ _ _ _ _ V hf
  have HCK : Hid (∀ W b, Kept [] V W → Calls Try.prog 49 #[.agg #[.slice pa ps.length pc, .slice na next.length nc, .slice (some ⟨b, 0, none⟩) out.length out.length]] W fun e w' => e = .returned (.int .i64 ((if rightD ps next out.length then 0 else 130 : Nat) : Int)) ∧ Kept [] W w') := fun W b k => check_any13 _ _ ps next _ _ _ W (hp.kept (keptB kV k)) (hn.kept (keptB kV k))
  have HCV : Hid (∀ W, Kept [] V W → Calls Try.prog 51 #[.slice oa out.length oc, .func (.func 48) #[] #[]] W fun e w' => e = .returned (.bool (out.any badV)) ∧ w' = W) := fun W k => containsV_any14 _ out W (ho.kept (keptB kV k))
  obtain ⟨c0, c1, c2⟩ := HC.out V (Kept.refl [] V)
  unfold rightM
  obtain ⟨r, hr⟩ : ∃ r, rightD ps next out.length = r := ⟨_, rfl⟩
  obtain ⟨b, hb⟩ : ∃ b, out.any badV = b := ⟨_, rfl⟩
  rw [hr] at HCK ⊢
  rw [hb] at HCV ⊢
  clear hp hn ho hV kV hB hr hb hf
  cases r with
  | false =>
    go_enter Try.func28, Try.ntmps28
    go_upto_region 1 with fail
    rw [HV.out]
    clear HV
    go_wp2_with (first
      | (go_at_call 50; refine Calls.mono HSH.out ?_; rintro e W1 ⟨sb, rfl, k1⟩; have HK1 : Hid (Kept [] V W1) := k1; clear k1 c0 c1 c2; obtain ⟨c0, c1, c2⟩ := HC.out W1 HK1.out)
      | (go_at_call 49; refine (HCK.out W1 sb HK1.out).mono ?_; rintro e W2 ⟨rfl, k2⟩; have HK2 : Hid (Kept [] V W2) := keptB HK1.out k2; clear k2 c0 c1 c2; obtain ⟨c0, c1, c2⟩ := HC.out W2 HK2.out))
    go_ret
    exact ⟨rfl, keptB HKV.out HK2.out⟩
  | true =>
    cases b
    all_goals
      go_enter Try.func28, Try.ntmps28
      go_upto_region 1 with fail
      rw [HV.out]
      clear HV
      go_wp2_with (first
        | (go_at_call 50; refine Calls.mono HSH.out ?_; rintro e W1 ⟨sb, rfl, k1⟩; have HK1 : Hid (Kept [] V W1) := k1; clear k1 c0 c1 c2; obtain ⟨c0, c1, c2⟩ := HC.out W1 HK1.out)
        | (go_at_call 49; refine (HCK.out W1 sb HK1.out).mono ?_; rintro e W2 ⟨rfl, k2⟩; have HK2 : Hid (Kept [] V W2) := keptB HK1.out k2; clear k2 c0 c1 c2; obtain ⟨c0, c1, c2⟩ := HC.out W2 HK2.out)
        | (go_at_call 51; refine (HCV.out W2 HK2.out).mono ?_; rintro e W3 ⟨rfl, hw3⟩; rw [hw3]; clear hw3))
      go_ret
      exact ⟨rfl, keptB HKV.out HK2.out⟩
/-- What Run answers. -/
def mrunS (ps : List ByteArray) (next : List (List Int)) (out us : List Nat) : Nat := if rightM ps next out then runS ps next out.length us else 0
def mrunE (ps : List ByteArray) (next : List (List Int)) (out us : List Nat) : Nat := if rightM ps next out then runE ps next out.length us else 140
end Go.Proofs.Ytbbfajbnklgncaa
