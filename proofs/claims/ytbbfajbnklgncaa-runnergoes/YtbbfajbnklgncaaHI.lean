/- package moore: Check and Run of any machine. -/
import Derived.Test.YtbbfajbnklgncaaHF
import Derived.Test.YtbbfajbnklgncaaHH
import Derived.Laws.ResultCell
import Derived.Deep.RegionHeld3
import Derived.Test.YtbbfajbnklgncaaHE
namespace Go.Proofs.Ytbbfajbnklgncaa
open Go.RowKit Go.Shelf

theorem Try.infoBM : (Try.prog.info? 4).map (fun i => (i.zero, i.size, i.bytes)) = some (some (.bool false), 1, 1) := by kernel_rfl
theorem make_boolsM (w : World) (k : Nat) (hk : k ≤ 1000000) : Sem.run Try.prog (Instr.makeSlice 90 (.int .i64 (k : Nat)) (.int .i64 (k : Nat))) w = .ok (.slice (some ⟨w.heap.size, 0, none⟩) k k) (w.alloc (.cells ((List.replicate k false).map Value.bool).toArray 4)) := by
  obtain ⟨i, hi, hz, hs, hb⟩ := info_parts Try.infoBM
  have h := run_make (P := Try.prog) w 90 4 i _ Try.underlying90 hi hz .i64 .i64 (k : Int) (k : Int) (by omega) (by omega) (by rw [hb]; omega) (by omega)
  have e : madeCells (Value.cells (.bool false)) (k * 1) = ((List.replicate k false).map Value.bool).toArray := by
    rw [Nat.mul_one]
    apply Array.ext'
    simp only [madeCells, Value.cells, List.size_toArray, List.length_cons, List.length_nil, Array.toList_map, Array.toList_range]
    apply List.ext_getElem
    · simp
    · intro i h1 h2
      simp [Nat.mod_one]
  rw [h, hs, Int.toNat_natCast, e]
theorem ret_shape {fn : Func} {p : Tmp} {a : Act} {w : World} {g : Nat} {x1 x2 x3 : Value} {R : Ending → World → Prop} (h : fn.results = #[.cell p 96]) (hp : a.tmps.getD p undef = .pointer (some ⟨g, 0, none⟩)) (hd : a.defers = []) (hg : w.heap[g]? = some (.cells #[x1, x2, x3] 96 (0, 0))) (hR : R (.returned (.agg #[x1, x2, x3])) w) : bodyPost Try.prog fn R .ret a w :=
  bodyPost_ret (results_cell_row h _ w g 96 #[x1, x2, x3] _ _ hp hg Try.underlying96 rfl (by kernel_rfl)) hd hR
def ShapeEnd (w : World) (pv nv : Value) (ol : Nat) (e : Ending) (w' : World) : Prop := ∃ b, e = .returned (.agg #[pv, nv, .slice (some ⟨b, 0, none⟩) ol ol]) ∧ Kept [] w w'
set_option maxHeartbeats 1600000 in
set_option maxRecDepth 10000 in
theorem shapeOf_any14 (pa na oa : Option Addr) (pl pc nl nc ol oc : Nat) (w : World) (ho : ol ≤ 1000000) :
    Calls Try.prog 50 #[.agg #[.slice pa pl pc, .slice na nl nc, .slice oa ol oc]] w (ShapeEnd w (.slice pa pl pc) (.slice na nl nc) ol) := by
  obtain ⟨V, hV⟩ : ∃ V, (w.alloc (.cells #[.slice pa pl pc, .slice na nl nc, .slice oa ol oc] 26)).alloc (.cells #[.slice none 0 0, .slice none 0 0, .slice none 0 0] 96) = V := ⟨_, rfl⟩
  have kV : Kept [] w V := by rw [← hV]; exact ((Kept.refl [] w).alloc _).alloc _
  have hB : Thr 26 V w.heap.size (.slice pa pl pc) (.slice na nl nc) (.slice oa ol oc) := by rw [← hV]; exact alUp (al0 _ _) _
  have hR : Thr 96 V (w.heap.size + 1) (.slice none 0 0) (.slice none 0 0) (.slice none 0 0) := by rw [← hV]; exact al1 _ _ _
  have hmk := make_boolsM V.drew ol ho
  obtain ⟨U, hU⟩ : ∃ U, V.drew.alloc (.cells ((List.replicate ol false).map Value.bool).toArray 4) = U := ⟨_, rfl⟩
  have kU : Kept [] V U := by rw [← hU]; exact (Kept.refl [] V).drew.alloc _
  rw [hU] at hmk
  have HRU : Hid (Thr 96 U (w.heap.size + 1) (.slice none 0 0) (.slice none 0 0) (.slice none 0 0)) := hR.keptF kU (by simp)
  have HKU : Hid (Kept [] w U) := keptB kV kU
  have HC : Hid (∀ W, Kept [w.heap.size + 1] V W → W.cell? ⟨w.heap.size, 0, none⟩ = some (.slice pa pl pc) ∧ W.cell? ⟨w.heap.size, 1, none⟩ = some (.slice na nl nc) ∧ W.cell? ⟨w.heap.size, 2, none⟩ = some (.slice oa ol oc)) := fun W k => (hB.keptF k (by simp)).cells
  have HKV2 : Hid (Kept [w.heap.size + 1] V V.drew) := (Kept.refl _ V).drew
  have HKU2 : Hid (Kept [w.heap.size + 1] V U) := kept_moreD kU
  have HSZ : Hid (w.heap.size ≤ w.heap.size + 1) := Nat.le_succ _
  have HVV : Hid (_ = V) := hV
  obtain ⟨c0, c1, c2⟩ := HC.out V (Kept.refl _ V)
  have o1 : (0 : Int) ≤ (ol : Int) := by omega
  obtain ⟨B, hBq⟩ : ∃ B, V.drew.heap.size = B := ⟨_, rfl⟩
  rw [hBq] at hmk
  have HZ := HRU.out.cells
  obtain ⟨r0, r1, r2⟩ := HRU.out.cells
  obtain ⟨s0, s1, s2⟩ := HRU.out.free
  clear hV kV hB hR hU kU hBq HZ
  go_enter Try.func50, Try.ntmps50
  go_upto_region 1 with fail
  rw [HVV.out]
  clear HVV
  go_region_held3 (fun w' => w'.cell? ⟨w.heap.size, 0, none⟩ = some (.slice pa pl pc) ∧ w'.cell? ⟨w.heap.size, 1, none⟩ = some (.slice na nl nc) ∧ w'.cell? ⟨w.heap.size, 2, none⟩ = some (.slice oa ol oc)) ((refine HC.out _ ?_; (repeat (first | exact HKU2.out | exact HKV2.out | refine Kept.setCell ?_ (.inl (by simp)) _)))) (fail)
  all_goals go_wp2
  all_goals exact ret_shape rfl rfl rfl (HRU.out.set _ _ _) ⟨_, rfl, kept_set3 HKU.out HSZ.out _ _ _⟩
/-- Is it a machine. -/
def rightM (ps : List ByteArray) (next : List (List Int)) (out : List Nat) : Bool := rightD ps next out.length && !out.any badV
set_option maxHeartbeats 1600000 in
set_option maxRecDepth 10000 in
theorem mCheck_any (pv nv ov : Value) (ps : List ByteArray) (next : List (List Int)) (out : List Nat) (w : World) (hp : Strs w pv ps) (hn : Rowss w nv next) (ho : Vds w ov out) (hf : out.length ≤ 1000000) :
    Calls Try.prog 28 #[.agg #[pv, nv, ov]] w fun e w' => e = .returned (.int .i64 ((if rightM ps next out then 0 else 140 : Nat) : Int)) ∧ Kept [] w w' := by
  obtain ⟨pa, pc, rfl, _, _⟩ := hp.form
  obtain ⟨na, nc, rfl, _, _⟩ := hn.form13
  obtain ⟨oa, oc, rfl⟩ := ho.form
  obtain ⟨V, hV⟩ : ∃ V, w.alloc (.cells #[.slice pa ps.length pc, .slice na next.length nc, .slice oa out.length oc] 26) = V := ⟨_, rfl⟩
  have kV : Kept [] w V := by rw [← hV]; exact (Kept.refl [] w).alloc _
  have hB : Thr 26 V w.heap.size (.slice pa ps.length pc) (.slice na next.length nc) (.slice oa out.length oc) := by rw [← hV]; exact al0 _ _
  have HV : Hid (_ = V) := hV
  have HKV : Hid (Kept [] w V) := kV
  have HC : Hid (∀ W, Kept [] V W → W.cell? ⟨w.heap.size, 0, none⟩ = some (.slice pa ps.length pc) ∧ W.cell? ⟨w.heap.size, 1, none⟩ = some (.slice na next.length nc) ∧ W.cell? ⟨w.heap.size, 2, none⟩ = some (.slice oa out.length oc)) := fun W k => (hB.keptF k (by simp)).cells
  have HSH : Hid (Calls Try.prog 50 #[.agg #[.slice pa ps.length pc, .slice na next.length nc, .slice oa out.length oc]] V (ShapeEnd V (.slice pa ps.length pc) (.slice na next.length nc) out.length)) := shapeOf_any14 pa na oa _ _ _ _ _ _ V hf
  have HCK : Hid (∀ W b, Kept [] V W → Calls Try.prog 49 #[.agg #[.slice pa ps.length pc, .slice na next.length nc, .slice (some ⟨b, 0, none⟩) out.length out.length]] W fun e w' => e = .returned (.int .i64 ((if rightD ps next out.length then 0 else 130 : Nat) : Int)) ∧ Kept [] W w') := fun W b k => check_any13 _ _ ps next _ _ _ W (hp.kept (keptB kV k)) (hn.kept (keptB kV k))
  have HCV : Hid (∀ W, Kept [] V W → Calls Try.prog 51 #[.slice oa out.length oc, .func (.func 48) #[] #[]] W fun e w' => e = .returned (.bool (out.any badV)) ∧ w' = W) := fun W k => containsV_any14 _ out W (ho.kept (keptB kV k))
  obtain ⟨c0, c1, c2⟩ := HC.out V (Kept.refl [] V)
  unfold rightM
  obtain ⟨r, hr⟩ : ∃ r, rightD ps next out.length = r := ⟨_, rfl⟩
  obtain ⟨b, hb⟩ : ∃ b, out.any badV = b := ⟨_, rfl⟩
  rw [hr] at HCK ⊢
  rw [hb] at HCV ⊢
  clear hp hn ho hV kV hB hr hb hf
  cases r with
  | false =>
    go_enter Try.func28, Try.ntmps28
    go_upto_region 1 with fail
    rw [HV.out]
    clear HV
    go_wp2_with (first
      | (go_at_call 50; refine Calls.mono HSH.out ?_; rintro e W1 ⟨sb, rfl, k1⟩; have HK1 : Hid (Kept [] V W1) := k1; clear k1 c0 c1 c2; obtain ⟨c0, c1, c2⟩ := HC.out W1 HK1.out)
      | (go_at_call 49; refine (HCK.out W1 sb HK1.out).mono ?_; rintro e W2 ⟨rfl, k2⟩; have HK2 : Hid (Kept [] V W2) := keptB HK1.out k2; clear k2 c0 c1 c2; obtain ⟨c0, c1, c2⟩ := HC.out W2 HK2.out))
    go_ret
    exact ⟨rfl, keptB HKV.out HK2.out⟩
  | true =>
    cases b
    all_goals
      go_enter Try.func28, Try.ntmps28
      go_upto_region 1 with fail
      rw [HV.out]
      clear HV
      go_wp2_with (first
        | (go_at_call 50; refine Calls.mono HSH.out ?_; rintro e W1 ⟨sb, rfl, k1⟩; have HK1 : Hid (Kept [] V W1) := k1; clear k1 c0 c1 c2; obtain ⟨c0, c1, c2⟩ := HC.out W1 HK1.out)
        | (go_at_call 49; refine (HCK.out W1 sb HK1.out).mono ?_; rintro e W2 ⟨rfl, k2⟩; have HK2 : Hid (Kept [] V W2) := keptB HK1.out k2; clear k2 c0 c1 c2; obtain ⟨c0, c1, c2⟩ := HC.out W2 HK2.out)
        | (go_at_call 51; refine (HCV.out W2 HK2.out).mono ?_; rintro e W3 ⟨rfl, hw3⟩; rw [hw3]; clear hw3))
      go_ret
      exact ⟨rfl, keptB HKV.out HK2.out⟩
/-- What Run answers. -/
def mrunS (ps : List ByteArray) (next : List (List Int)) (out us : List Nat) : Nat := if rightM ps next out then runS ps next out.length us else 0
def mrunE (ps : List ByteArray) (next : List (List Int)) (out us : List Nat) : Nat := if rightM ps next out then runE ps next out.length us else 140
end Go.Proofs.Ytbbfajbnklgncaa

/- runner.backOf of any machine. -/
namespace Go.Proofs.Ytbbfajbnklgncaa
open Go.RowKit Go.Shelf

theorem make_rowsN (w : World) (k : Nat) (hk : k ≤ 1000000) : Sem.run Try.prog (Instr.makeSlice 23 (.int .i64 (k : Nat)) (.int .i64 (k : Nat))) w = .ok (.slice (some ⟨w.heap.size, 0, none⟩) k k) (w.alloc (.cells (List.replicate k (.slice none 0 0)).toArray 83)) := by
  have hinf : (Try.prog.info? 83).map (fun i => (i.zero, i.size, i.bytes)) = some (some (.slice none 0 0), 1, 24) := by kernel_rfl
  obtain ⟨i, hi, hz, hs, hb⟩ := info_parts hinf
  have h := run_make (P := Try.prog) w 23 83 i _ Try.underlying23 hi hz .i64 .i64 (k : Int) (k : Int) (by omega) (by omega) (by rw [hb]; omega) (by omega)
  have e : madeCells (Value.cells (.slice none 0 0)) (k * 1) = (List.replicate k (Value.slice none 0 0)).toArray := by
    rw [Nat.mul_one]
    apply Array.ext'
    simp only [madeCells, Value.cells, List.size_toArray, List.length_cons, List.length_nil, Array.toList_map, Array.toList_range]
    apply List.ext_getElem
    · simp
    · intro i h1 h2
      simp [Nat.mod_one]
  rw [h, hs, Int.toNat_natCast, e]
/-- The rows of a machine that is right. -/
structure RightR (next : List (List Int)) : Prop where
  pos : 0 < next.length
  few : next.length ≤ 1000000
  row : ∀ r ∈ next, 0 < r.length ∧ r.length ≤ 256 ∧ ∀ x ∈ r, 0 ≤ x ∧ x < (next.length : Int)
/-- What leads where, behind k rows and j entries of the next one. -/
structure BkTo (next : List (List Int)) (bk : List (List Nat)) (k j : Nat) : Prop where
  iff : ∀ tg fr, tg < next.length → (fr ∈ bk.getD tg [] ↔ (fr < k ∧ (tg : Int) ∈ next.getD fr []) ∨ (fr = k ∧ (tg : Int) ∈ (next.getD k []).take j))
  len : ∀ tg, (bk.getD tg []).length ≤ k * 256 + j
theorem BkTo.zero (next : List (List Int)) : BkTo next (List.replicate next.length []) 0 0 := by
  have e : ∀ tg, (List.replicate next.length ([] : List Nat)).getD tg [] = [] := fun tg => by
    rw [List.getD_eq_getElem?_getD, List.getElem?_replicate]; split <;> rfl
  exact ⟨fun tg fr _ => by rw [e]; simp, fun tg => by rw [e]; simp⟩
theorem take_one {l : List Int} {j : Nat} {x : Int} (h : l[j]? = some x) (y : Int) : y ∈ l.take (j + 1) ↔ y ∈ l.take j ∨ y = x := by
  rw [List.take_add_one, h]; simp
theorem BkTo.same {next : List (List Int)} {bk : List (List Nat)} {k j tg : Nat} (h : BkTo next bk k j) (hx : (next.getD k [])[j]? = some (tg : Int)) (hin : k ∈ bk.getD tg []) : BkTo next bk k (j + 1) := by
  refine ⟨fun t fr ht => ?_, fun t => by have := h.len t; omega⟩
  rw [h.iff t fr ht, take_one hx]
  by_cases e : t = tg
  · subst e
    have h1 := (h.iff t k ht).1 hin
    constructor
    · rintro (q | ⟨q1, q2⟩)
      · exact .inl q
      · exact .inr ⟨q1, .inl q2⟩
    · rintro (q | ⟨q1, q2 | q2⟩)
      · exact .inl q
      · exact .inr ⟨q1, q2⟩
      · subst q1
        exact h1
  · have : ¬ (t : Int) = (tg : Int) := by omega
    simp [this]
theorem BkTo.add {next : List (List Int)} {bk : List (List Nat)} {k j tg : Nat} {xs : List Nat} (h : BkTo next bk k j) (hx : (next.getD k [])[j]? = some (tg : Int)) (hb : bk[tg]? = some xs) : BkTo next (bk.set tg (xs ++ [k])) k (j + 1) := by
  have hlt : tg < bk.length := (List.getElem?_eq_some_iff.1 hb).1
  have e0 : bk.getD tg [] = xs := by rw [List.getD_eq_getElem?_getD, hb]; rfl
  have e1 : (bk.set tg (xs ++ [k])).getD tg [] = xs ++ [k] := by rw [List.getD_eq_getElem?_getD, List.getElem?_set_self hlt]; rfl
  have e2 : ∀ t, t ≠ tg → (bk.set tg (xs ++ [k])).getD t [] = bk.getD t [] := fun t ht => by rw [List.getD_eq_getElem?_getD, List.getElem?_set_ne (fun e => ht e.symm), ← List.getD_eq_getElem?_getD]
  refine ⟨fun t fr ht => ?_, fun t => ?_⟩
  · rw [take_one hx]
    by_cases e : t = tg
    · subst e
      rw [e1, List.mem_append, ← e0, h.iff t fr ht, List.mem_singleton]
      constructor
      · rintro ((q | ⟨q1, q2⟩) | q)
        · exact .inl q
        · exact .inr ⟨q1, .inl q2⟩
        · exact .inr ⟨q, .inr rfl⟩
      · rintro (q | ⟨q1, q2 | _⟩)
        · exact .inl (.inl q)
        · exact .inl (.inr ⟨q1, q2⟩)
        · exact .inr q1
    · have : ¬ (t : Int) = (tg : Int) := by omega
      rw [e2 t e, h.iff t fr ht]
      simp [this]
  · by_cases e : t = tg
    · subst e
      rw [e1, List.length_append, List.length_singleton]
      have := h.len t
      rw [e0] at this
      omega
    · rw [e2 t e]
      have := h.len t
      omega
set_option maxRecDepth 10000 in
theorem BkTo.next {next : List (List Int)} {bk : List (List Nat)} {k j : Nat} (h : BkTo next bk k j) (hj : (next.getD k []).length ≤ j) (hl : j ≤ 256) : BkTo next bk (k + 1) 0 := by
  refine ⟨fun t fr ht => ?_, fun t => by have := h.len t; omega⟩
  rw [h.iff t fr ht, List.take_of_length_le hj]
  constructor
  · rintro (⟨q1, q2⟩ | ⟨q1, q2⟩)
    · exact .inl ⟨by omega, q2⟩
    · subst q1; exact .inl ⟨by omega, q2⟩
  · rintro (⟨q1, q2⟩ | ⟨_, q2⟩)
    · rcases Nat.lt_or_ge fr k with q | q
      · exact .inl ⟨q, q2⟩
      · obtain rfl : fr = k := by omega
        exact .inr ⟨rfl, q2⟩
    · simp at q2
theorem last_in {xs : List Nat} {k : Nat} (h0 : 0 < xs.length) (h : xs[xs.length - 1]'(by omega) = k) : k ∈ xs := by
  rw [← h]; exact List.getElem_mem _

set_option maxHeartbeats 4000000 in
set_option maxRecDepth 10000 in
theorem backOf_any (pv nv ov : Value) (next : List (List Int)) (w : World) (hn : Rowss w nv next) (hr : RightR next) :
    Calls Try.prog 69 #[.agg #[pv, nv, ov]] w fun e w' => ∃ B vs bk, e = .returned (.slice (some ⟨B, 0, none⟩) next.length next.length) ∧ Hid (RowsN w' w.heap.size B next.length vs bk) ∧ Hid (BkTo next bk next.length 0) ∧ Hid (Kept [] w w') := by
  obtain ⟨n, hln⟩ : ∃ n, next.length = n := ⟨_, rfl⟩
  have hfew : n ≤ 1000000 := by rw [← hln]; exact hr.few
  obtain ⟨V, hV⟩ : ∃ V, w.alloc (.cells #[pv, nv, ov] 26) = V := ⟨_, rfl⟩
  have kV : Kept [] w V := by rw [← hV]; exact (Kept.refl [] w).alloc _
  have hB : V.heap[w.heap.size]? = some (.cells #[pv, nv, ov] 26 (0, 0)) := by rw [← hV]; exact al0 _ _
  have hmk := make_rowsN V n hfew
  obtain ⟨U, hU⟩ : ∃ U, V.alloc (.cells (List.replicate n (.slice none 0 0)).toArray 83) = U := ⟨_, rfl⟩
  obtain ⟨B, hBq⟩ : ∃ B, V.heap.size = B := ⟨_, rfl⟩
  have kU : Kept [] V U := by rw [← hU]; exact (Kept.refl [] V).alloc _
  have HR0 : Hid (RowsN U w.heap.size B n (List.replicate n (.slice none 0 0)) (List.replicate n [])) := by
    show RowsN U _ _ _ _ _
    refine ⟨by rw [← hU, ← hBq]; exact al0 _ _, by rw [← hBq]; exact kV.size, by simp, by simp, fun i v xs h1 h2 => ?_, fun i j v u g _ h1 _ h3 => ?_⟩
    · obtain rfl := (List.eq_of_mem_replicate (List.mem_of_getElem? h1))
      obtain rfl := (List.eq_of_mem_replicate (List.mem_of_getElem? h2))
      exact ⟨rfl, .inl ⟨rfl, rfl⟩⟩
    · obtain rfl := (List.eq_of_mem_replicate (List.mem_of_getElem? h1))
      cases h3
  have HK0 : Hid (Kept [] w U) := keptB kV kU
  have HZ : Hid (BkTo next (List.replicate n []) 0 0) := by rw [← hln]; exact BkTo.zero next
  rw [hBq, hU] at hmk
  have HV : Hid (_ = V) := hV
  have HN : Hid (∀ W, Kept [] w W → Rowss W nv next) := fun W k => hn.kept k
  have HRR : Hid (∀ r ∈ next, 0 < r.length ∧ r.length ≤ 256 ∧ ∀ x ∈ r, 0 ≤ x ∧ x < (n : Int)) := by show ∀ r ∈ next, _; rw [← hln]; exact hr.row
  have c1 : V.cell? ⟨w.heap.size, 1, none⟩ = some nv := (cell_of hB 1).trans rfl
  have C1 : Hid (∀ W, Kept [] V W → W.cell? ⟨w.heap.size, 1, none⟩ = some nv) := fun W k => cell_kept0 k c1
  have c1u : U.cell? ⟨w.heap.size, 1, none⟩ = some nv := C1.out U kU
  have HLN : Hid (next.length = n) := hln
  have z0 : (0 : Int) ≤ (n : Int) := by omega
  have HKVW : Hid (w.heap.size ≤ w.heap.size) := Nat.le_refl _
  rcases hn.lie with ⟨hnv, he⟩ | ⟨nb, no, nc, hnv, hc1, hc2, hce⟩
  · have := hr.pos
    rw [he] at this
    simp at this
  · subst hnv
    have HCE : Hid (∀ i (h : i < next.length), ∃ u, w.cell? ⟨nb, no + i, none⟩ = some u ∧ Ints w u next[i]) := hce
    clear hce
    rw [hln] at hc1 c1 c1u C1
    clear hn hr hU hV kV kU hB hBq hln
    go_enter Try.func69, Try.ntmps69
    go_upto_region 1 with fail
    rw [HV.out]
    clear HV
    go_wp2_with fail
    clear hmk
    go_loopw [16] (fun v wr => ∃ k : Nat, v = .int .i64 (k : Nat) ∧ k ≤ n ∧ ∃ vs bk, Hid (RowsN wr w.heap.size B n vs bk) ∧ Hid (BkTo next bk k 0) ∧ Hid (Kept [] w wr)) (fun v _ => n - (intOf v).toNat)
    case atStart => exact ⟨0, rfl, Nat.zero_le _, _, _, HR0, HZ, HK0⟩
    case round =>
      obtain ⟨k, rfl, hk, vs, bk, HR, HI, HK⟩ := hrel
      by_cases hlt : k < n
      · have q0 : (k : Int) < (n : Int) := by omega
        have q1 : (0 : Int) ≤ (k : Int) := by omega
        obtain ⟨u, hu, hI⟩ := HCE.out k (by rw [HLN.out]; exact hlt)
        obtain ⟨row, hrow⟩ : ∃ row, next[k]'(by rw [HLN.out]; exact hlt) = row := ⟨_, rfl⟩
        rw [hrow] at hI
        have HRK : Hid (next.getD k [] = row) := by show next.getD k [] = row; rw [List.getD_eq_getElem?_getD, List.getElem?_eq_getElem (by rw [HLN.out]; exact hlt), hrow]; rfl
        obtain ⟨r0, r1, r2⟩ := HRR.out row (by rw [← hrow]; exact List.getElem_mem _)
        obtain ⟨ub, uo, uc, rfl, hu1, hu2, hu3⟩ := hI.there r0
        have HUC : Hid (∀ i (h : i < row.length), w.cell? ⟨ub, uo + i, none⟩ = some (.int .i64 row[i])) := hu3
        have HR2 : Hid (∀ x ∈ row, 0 ≤ x ∧ x < (n : Int)) := r2
        have d0 := cell_kept0 HK.out hu
        clear hI hrow hu hu3 r2
        go_wp2_with fail
        go_loopw [23] (fun v w2 => ∃ j : Nat, v = .int .i64 (j : Nat) ∧ j ≤ row.length ∧ ∃ vs bk, Hid (RowsN w2 w.heap.size B n vs bk) ∧ Hid (BkTo next bk k j) ∧ Hid (Kept [] w w2)) (fun v _ => row.length - (intOf v).toNat)
        case atStart => exact ⟨0, rfl, Nat.zero_le _, _, _, HR, HI, HK⟩
        case round =>
          rename World => w2
          obtain ⟨j, rfl, hj, vs, bk, HR, HI, HK⟩ := hrel
          by_cases hjl : j < row.length
          · have q2 : (j : Int) < (row.length : Int) := by omega
            have q3 : (0 : Int) ≤ (j : Int) := by omega
            obtain ⟨x, hx⟩ : ∃ x, row[j] = x := ⟨_, rfl⟩
            have d1 := cell_kept0 HK.out (HUC.out j hjl)
            rw [hx] at d1
            obtain ⟨x0, x1⟩ := HR2.out x (by rw [← hx]; exact List.getElem_mem _)
            obtain ⟨tg, rfl⟩ : ∃ tg : Nat, x = (tg : Int) := ⟨x.toNat, by omega⟩
            have hxg : (next.getD k [])[j]? = some (tg : Int) := by rw [HRK.out, List.getElem?_eq_getElem hjl, hx]
            have htg : tg < n := by omega
            obtain ⟨v, xs, hv, hxs, hc, hf⟩ := HR.out.at htg
            have hlx : xs.length ≤ k * 256 + j := by have := HI.out.len tg; rw [List.getD_eq_getElem?_getD, hxs] at this; exact this
            obtain ⟨Y, hY⟩ : ∃ Y, w2.alloc (.cells #[.int .i64 (k : Nat)] 3) = Y := ⟨_, rfl⟩
            have kY : Kept [] w2 Y := by rw [← hY]; exact (Kept.refl [] w2).alloc _
            obtain ⟨gr, cap, w3, hrun, e1, e2, hR3, hK3⟩ := (HR.out.kept kY).app (A := w2.heap.size) (x := k) hv hxs (by omega) (by rw [← hY]; exact (cell_of (al0 w2 _) 0).trans rfl)
            have HRUN : Hid (∀ ty, (Builtin.append_ #[83, 83] ty #[v, .slice (some ⟨w2.heap.size, 0, none⟩) 1 1]).run Try.prog (w2.alloc (.cells #[.int .i64 (k : Nat)] 3)) = .ok (.slice (some ⟨gr, 0, none⟩) (xs.length + 1) cap) w3) := by show ∀ ty, _; rw [hY]; exact hrun
            have HR3 : Hid _ := hR3
            have HI3 : Hid (BkTo next (bk.set tg (xs ++ [k])) k (j + 1)) := HI.out.add hxg hxs
            have HK3 : Hid (Kept [] w (w3.setCell ⟨B, tg, none⟩ (.slice (some ⟨gr, 0, none⟩) (xs.length + 1) cap))) := hK3 w (keptB HK.out kY) (Nat.le_refl _)
            have HSAME : Hid (k ∈ xs → BkTo next bk k (j + 1)) := fun hin => HI.out.same hxg (by rw [List.getD_eq_getElem?_getD, hxs]; exact hin)
            have hca : (w2.alloc (.cells #[.int .i64 (k : Nat)] 3)).cell? ⟨B, tg, none⟩ = some v := by rw [hY]; exact cell_kept0 kY hc
            have lies := HR.out.lies hv hxs
            clear hrun hR3 hK3 hv hxs kY hY hx hxg
            obtain ⟨ln, hln2⟩ : ∃ ln, xs.length = ln := ⟨_, rfl⟩
            rw [hln2] at HRUN hlx
            have HLN2 : Hid (xs.length = ln) := hln2
            have HR4 : Hid (RowsN (w3.setCell ⟨B, tg, none⟩ (.slice (some ⟨gr, 0, none⟩) (ln + 1) cap)) w.heap.size B n (vs.set tg (.slice (some ⟨gr, 0, none⟩) (ln + 1) cap)) (bk.set tg (xs ++ [k]))) := by rw [← hln2]; exact HR3
            have HK4 : Hid (Kept [] w (w3.setCell ⟨B, tg, none⟩ (.slice (some ⟨gr, 0, none⟩) (ln + 1) cap))) := by rw [← hln2]; exact HK3
            clear HR3 HK3
            rw [hln2] at lies
            clear hln2
            rcases lies with ⟨rfl, he⟩ | ⟨g, c, rfl, _, hxc, hxm, hxl⟩
            · obtain rfl : ln = 0 := by rw [← HLN2.out, he]; rfl
              clear he
              go_wp2_with (at_builtin; refine Lib.wpList_append_run _ rfl _ _ _ _ rfl _ _ rfl rfl _ _ (HRUN.out _) ?_)
              go_roundw
              case rel => exact ⟨j + 1, by go_num, by omega, _, _, HR4, HI3, HK4⟩
              case measure => simp [intOf]; omega
            · by_cases hx0 : ln = 0
              · subst hx0
                clear hxl
                go_wp2_with (at_builtin; refine Lib.wpList_append_run _ rfl _ _ _ _ rfl _ _ rfl rfl _ _ (HRUN.out _) ?_)
                go_roundw
                case rel => exact ⟨j + 1, by go_num, by omega, _, _, HR4, HI3, HK4⟩
                case measure => simp [intOf]; omega
              · have p0 : ¬ (ln : Int) = 0 := by omega
                have p1 : (0 : Int) ≤ (ln : Int) - 1 := by omega
                have p2 : (ln : Int) - 1 < (ln : Int) := by omega
                have p3 : ((ln : Int) - 1).toNat = ln - 1 := by omega
                obtain ⟨y, hy⟩ : ∃ y, xs.getD (ln - 1) 0 = y := ⟨_, rfl⟩
                have d5 := hxl (ln - 1) (by omega)
                rw [hy] at d5
                have HYI : Hid (y ∈ xs) := by
                  show y ∈ xs
                  have := HLN2.out
                  rw [← hy, List.getD_eq_getElem?_getD, List.getElem?_eq_getElem (by omega)]
                  exact List.getElem_mem _
                clear hy hxl
                by_cases hyk : y = k
                · have HS : Hid (BkTo next bk k (j + 1)) := HSAME.out (by rw [← hyk]; exact HYI.out)
                  subst hyk
                  go_wp2
                  go_roundw
                  case rel => exact ⟨j + 1, by go_num, by omega, _, _, HR, HS, HK⟩
                  case measure => simp [intOf]; omega
                · have hyi : ¬ (y : Int) = (k : Int) := by omega
                  have hne : ((y : Int) != (k : Int)) = true := by simpa using hyi
                  go_wp2_with (at_builtin; refine Lib.wpList_append_run _ rfl _ _ _ _ rfl _ _ rfl rfl _ _ (HRUN.out _) ?_)
                  go_roundw
                  case rel => exact ⟨j + 1, by go_num, by omega, _, _, HR4, HI3, HK4⟩
                  case measure => simp [intOf]; omega
          · obtain rfl : j = row.length := by omega
            have q2 : ¬ ((row.length : Int) < (row.length : Int)) := by omega
            have HNX : Hid (BkTo next bk (k + 1) 0) := HI.out.next (by rw [HRK.out]; exact Nat.le_refl _) r1
            go_wp2
            go_roundw
            case rel => exact ⟨k + 1, by go_num, by omega, _, _, HR, HNX, HK⟩
            case measure => simp [intOf]; omega
      · obtain rfl : k = n := by omega
        have q0 : ¬ ((k : Int) < (k : Int)) := by omega
        go_wp2
        go_ret
        exact ⟨B, by rw [HLN.out]; rfl, vs, bk, by rw [HLN.out]; exact HR, by rw [HLN.out]; exact HI, HK⟩
end Go.Proofs.Ytbbfajbnklgncaa

/- runner.finalOf's closure isOther, and ContainsFunc by it. -/
namespace Go.Proofs.Ytbbfajbnklgncaa
open Go.RowKit Go.Shelf

/-- Where the verdicts of a machine lie. -/
def OutAt (W : World) (ob oo : Nat) (out : List Nat) : Prop := ∀ i, i < out.length → W.cell? ⟨ob, oo + i, none⟩ = some (.int .u8 (out.getD i 0 : Nat))
theorem OutAt.kept {W W' : World} {ob oo : Nat} {out : List Nat} (h : OutAt W ob oo out) (k : Kept [] W W') : OutAt W' ob oo out := fun i hi => cell_kept0 k (h i hi)
def otherB (out : List Nat) (s : Nat) (x : Int) : Bool := decide (out.getD x.toNat 0 ≠ out.getD s 0)
set_option maxHeartbeats 2000000 in
set_option maxRecDepth 10000 in
theorem isOther_any (x : Int) (s M S ob oo oc : Nat) (out : List Nat) (w : World) (hM : w.cell? ⟨M, 2, none⟩ = some (.slice (some ⟨ob, oo, none⟩) out.length oc)) (hS : w.cell? ⟨S, 0, none⟩ = some (.int .i64 (s : Nat))) (ho : OutAt w ob oo out) (hx0 : 0 ≤ x) (hx1 : x < (out.length : Int)) (hs : s < out.length) :
    Calls Try.prog 67 #[.int .i64 x, .pointer (some ⟨M, 0, none⟩), .pointer (some ⟨S, 0, none⟩)] w fun e w' => e = .returned (.bool (otherB out s x)) ∧ Kept [] w w' := by
  obtain ⟨t, rfl⟩ : ∃ t : Nat, x = (t : Int) := ⟨x.toNat, by omega⟩
  have ht : t < out.length := by omega
  have c1 := ho t ht
  have c2 := ho s hs
  have z0 : (0 : Int) ≤ (t : Int) := by omega
  have z1 : (0 : Int) ≤ (s : Int) := by omega
  have z2 : (s : Int) < (out.length : Int) := by omega
  obtain ⟨a, ha⟩ : ∃ a, out.getD t 0 = a := ⟨_, rfl⟩
  obtain ⟨b, hb⟩ : ∃ b, out.getD s 0 = b := ⟨_, rfl⟩
  obtain ⟨N, hN⟩ : ∃ N, out.length = N := ⟨_, rfl⟩
  have hot : otherB out s (t : Int) = decide (a ≠ b) := by
    unfold otherB
    rw [Int.toNat_natCast, ha, hb]
  rw [hot]
  rw [ha] at c1
  rw [hb] at c2
  rw [hN] at hM hx1 z2
  clear ho hs ht hot ha hb hN
  by_cases hab : a = b
  · subst hab
    go_enter Try.func67, Try.ntmps67
    go_wp2_with fail
    go_region_held3 (fun w' => w'.cell? ⟨M, 2, none⟩ = some (.slice (some ⟨ob, oo, none⟩) N oc) ∧ w'.cell? ⟨S, 0, none⟩ = some (.int .i64 (s : Nat)) ∧ w'.cell? ⟨ob, oo + t, none⟩ = some (.int .u8 (a : Nat)) ∧ w'.cell? ⟨ob, oo + s, none⟩ = some (.int .u8 (a : Nat))) (exact ⟨hM, hS, c1, c2⟩) (fail)
    all_goals go_wp2
    all_goals go_ret
    all_goals exact ⟨by simp, (Kept.refl [] w).drew⟩
  · have hne : ((a : Int) != (b : Int)) = true := by simp; omega
    go_enter Try.func67, Try.ntmps67
    go_wp2_with fail
    go_region_held3 (fun w' => w'.cell? ⟨M, 2, none⟩ = some (.slice (some ⟨ob, oo, none⟩) N oc) ∧ w'.cell? ⟨S, 0, none⟩ = some (.int .i64 (s : Nat)) ∧ w'.cell? ⟨ob, oo + t, none⟩ = some (.int .u8 (a : Nat)) ∧ w'.cell? ⟨ob, oo + s, none⟩ = some (.int .u8 (b : Nat))) (exact ⟨hM, hS, c1, c2⟩) (fail)
    all_goals go_wp2
    all_goals go_ret
    all_goals exact ⟨by simp [hab], (Kept.refl [] w).drew⟩
set_option maxHeartbeats 2000000 in
set_option maxRecDepth 10000 in
theorem indexO_any (v : Value) (xs : List Int) (s M S ob oo oc : Nat) (out : List Nat) (w : World) (h : Ints w v xs) (hM : w.cell? ⟨M, 2, none⟩ = some (.slice (some ⟨ob, oo, none⟩) out.length oc)) (hS : w.cell? ⟨S, 0, none⟩ = some (.int .i64 (s : Nat))) (ho : OutAt w ob oo out) (hx : ∀ x ∈ xs, 0 ≤ x ∧ x < (out.length : Int)) (hs : s < out.length) :
    Calls Try.prog 78 #[v, .func (.func 67) #[] #[.pointer (some ⟨M, 0, none⟩), .pointer (some ⟨S, 0, none⟩)]] w fun e w' => ∃ k : Int, e = .returned (.int .i64 k) ∧ Hid (decide (0 ≤ k) = xs.any (otherB out s)) ∧ Hid (Kept [] w w') := by
  have hfew := h.few
  have HO : Hid (∀ W x, Kept [] w W → x ∈ xs → Calls Try.prog 67 #[.int .i64 x, .pointer (some ⟨M, 0, none⟩), .pointer (some ⟨S, 0, none⟩)] W fun e w' => e = .returned (.bool (otherB out s x)) ∧ Kept [] W w') := fun W x k hin => isOther_any x s M S ob oo oc out W (cell_kept0 k hM) (cell_kept0 k hS) (ho.kept k) (hx x hin).1 (hx x hin).2 hs
  have HK0 : Hid (Kept [] w w) := Kept.refl [] w
  rcases h.lie with ⟨⟨ad, c, rfl, _, _⟩, rfl⟩ | ⟨b, o, c, rfl, hc1, hc2, hcell⟩
  · clear h hfew hM hS ho hx
    go_enter Try.func78, Try.ntmps78
    go_wp2_with fail
    refine wp_loop_rounds 1 ?_
    rw [rounds_succ]
    go_wp2
    go_ret
    exact ⟨-1, rfl, rfl, HK0⟩
  · have HCE : Hid (∀ i (h : i < xs.length), w.cell? ⟨b, o + i, none⟩ = some (.int .i64 xs[i])) := hcell
    clear h hcell hM hS ho hx
    go_enter Try.func78, Try.ntmps78
    go_wp2_with fail
    go_loopw [8] (fun i wr => ∃ k : Nat, i = .int .i64 (k : Nat) ∧ k ≤ xs.length ∧ Hid (Kept [] w wr) ∧ Hid (∀ j (h : j < xs.length), j < k → otherB out s xs[j] = false)) (fun i _ => xs.length - (intOf i).toNat)
    case atStart => exact ⟨0, rfl, Nat.zero_le _, HK0, fun j _ h => by omega⟩
    case round =>
      obtain ⟨k, rfl, hk, HWR, HA⟩ := hrel
      by_cases hlt : k < xs.length
      · have z0 : (k : Int) < (xs.length : Int) := by omega
        obtain ⟨y, hy⟩ : ∃ y, xs[k] = y := ⟨_, rfl⟩
        obtain ⟨sb, hsb⟩ : ∃ sb, otherB out s y = sb := ⟨_, rfl⟩
        have HN : Hid (Calls Try.prog 67 #[.int .i64 y, .pointer (some ⟨M, 0, none⟩), .pointer (some ⟨S, 0, none⟩)] wr fun e w' => e = .returned (.bool sb) ∧ Kept [] wr w') := by rw [← hsb]; exact HO.out wr y HWR.out (by rw [← hy]; exact List.getElem_mem _)
        have c0 : wr.cell? ⟨b, o + k, none⟩ = some (.int .i64 y) := by rw [← hy]; exact cell_kept0 HWR.out (HCE.out k hlt)
        have HSB : Hid (otherB out s xs[k] = sb) := by show _ = _; rw [hy]; exact hsb
        clear hy hsb
        cases sb with
        | true =>
          have HY : Hid (xs.any (otherB out s) = true) := any_yes hlt HSB.out
          go_wp2_with (go_at_call 67; refine HN.out.mono ?_; rintro e w1 ⟨rfl, hw1⟩; have HW1 : Hid (Kept [] w w1) := keptB HWR.out hw1; clear hw1)
          go_ret
          exact ⟨k, rfl, by show decide (0 ≤ (k : Int)) = _; rw [HY.out]; simp, HW1⟩
        | false =>
          have HY : Hid (∀ j (h : j < xs.length), j < k + 1 → otherB out s xs[j] = false) := fun j hj h' => by
            rcases Nat.lt_or_ge j k with q | q
            · exact HA.out j hj q
            · obtain rfl : j = k := by omega
              exact HSB.out
          go_wp2_with (go_at_call 67; refine HN.out.mono ?_; rintro e w1 ⟨rfl, hw1⟩; have HW1 : Hid (Kept [] w w1) := keptB HWR.out hw1; clear hw1)
          go_roundw
          case rel => exact ⟨k + 1, by go_num, by omega, HW1, HY.out⟩
          case measure => simp [intOf]; omega
      · obtain rfl : k = xs.length := by omega
        have z0 : ¬ ((xs.length : Int) < (xs.length : Int)) := by omega
        have HY : Hid (xs.any (otherB out s) = false) := any_no (fun i hi => HA.out i hi hi)
        go_wp2
        go_ret
        exact ⟨-1, rfl, by show decide ((0 : Int) ≤ -1) = _; rw [HY.out]; rfl, HWR⟩
theorem containsO_any (v : Value) (xs : List Int) (s M S ob oo oc : Nat) (out : List Nat) (w : World) (h : Ints w v xs) (hM : w.cell? ⟨M, 2, none⟩ = some (.slice (some ⟨ob, oo, none⟩) out.length oc)) (hS : w.cell? ⟨S, 0, none⟩ = some (.int .i64 (s : Nat))) (ho : OutAt w ob oo out) (hx : ∀ x ∈ xs, 0 ≤ x ∧ x < (out.length : Int)) (hs : s < out.length) :
    Calls Try.prog 68 #[v, .func (.func 67) #[] #[.pointer (some ⟨M, 0, none⟩), .pointer (some ⟨S, 0, none⟩)]] w fun e w' => e = .returned (.bool (xs.any (otherB out s))) ∧ Hid (Kept [] w w') := by
  have HI := indexO_any v xs s M S ob oo oc out w h hM hS ho hx hs
  obtain ⟨ad, c, rfl, _, _⟩ := h.form
  clear h hM hS ho hx
  go_enter Try.func68, Try.ntmps68
  go_wp2_with (go_at_call 78; refine Calls.mono HI ?_; rintro e w1 ⟨k, rfl, HD, HW1⟩)
  go_ret
  exact ⟨ret_bool HD.out, HW1⟩
end Go.Proofs.Ytbbfajbnklgncaa

/- runner.finalOf's closure leave: what it leaves in memory. -/
namespace Go.Proofs.Ytbbfajbnklgncaa
open Go.RowKit Go.Shelf

/-- Of each state whether it is final (as far as is known), and those that are not, in a row. -/
structure FinS (W : World) (base FB LB FR n : Nat) (lv : Value) (fin : List Bool) (L : List Nat) : Prop where
  fbox : W.heap[FB]? = some (.cells #[.slice (some ⟨FR, 0, none⟩) n n] 90 (0, 0))
  lbox : W.heap[LB]? = some (.cells #[lv] 83 (0, 0))
  row : W.heap[FR]? = some (.cells (fin.map Value.bool).toArray 4 (0, 0))
  low : base ≤ LB ∧ base ≤ FR
  len : fin.length = n
  own : W.ownsRow base 3 1 lv L.length (numsN L)
  is : ∀ s, s < n → fin.getD s false = decide (s ∉ L)
  lt : ∀ s ∈ L, s < n
  count : fin.countP id + L.length = n
  few : n ≤ 1000000
theorem FinS.kept {W W' : World} {base FB LB FR n : Nat} {lv : Value} {fin : List Bool} {L : List Nat} (h : FinS W base FB LB FR n lv fin L) (k : Kept [] W W') : FinS W' base FB LB FR n lv fin L :=
  ⟨k.at h.fbox (by simp), k.at h.lbox (by simp), k.at h.row (by simp), h.low, h.len, bx_kept h.own k (by simp), h.is, h.lt, h.count, h.few⟩
theorem FinS.cells {W : World} {base FB LB FR n : Nat} {lv : Value} {fin : List Bool} {L : List Nat} (h : FinS W base FB LB FR n lv fin L) : W.cell? ⟨FB, 0, none⟩ = some (.slice (some ⟨FR, 0, none⟩) n n) ∧ W.cell? ⟨LB, 0, none⟩ = some lv ∧ (∀ s, s < n → W.cell? ⟨FR, s, none⟩ = some (.bool (fin.getD s false)) ∧ W.frozen? ⟨FR, s, none⟩ = false) := by
  refine ⟨(cell_of h.fbox 0).trans rfl, (cell_of h.lbox 0).trans rfl, fun s hs => ⟨?_, free_of h.row s⟩⟩
  have hl : s < fin.length := by rw [h.len]; exact hs
  rw [cell_of h.row]
  simp [List.getElem?_eq_getElem hl, List.getD_eq_getElem?_getD]
theorem FinS.off {W : World} {base FB LB FR n g : Nat} {lv : Value} {fin : List Bool} {L : List Nat} (h : FinS W base FB LB FR n lv fin L) (hg : lv.ownBlock = some g) : g ≠ FB ∧ g ≠ LB ∧ g ≠ FR ∧ base ≤ g ∧ g < W.heap.size := by
  rcases h.own.2 with ⟨rfl, _⟩ | ⟨g', cap, cur, rfl, hb, hw, _⟩
  · cases hg
  · cases hg
    refine ⟨?_, ?_, ?_, hb, lt_of hw⟩
    · intro e; subst e; rw [h.fbox] at hw; injection hw with hw; injection hw with _ hw _; exact absurd hw (by decide)
    · intro e; subst e; rw [h.lbox] at hw; injection hw with hw; injection hw with _ hw _; exact absurd hw (by decide)
    · intro e; subst e; rw [h.row] at hw; injection hw with hw; injection hw with _ hw _; exact absurd hw (by decide)
theorem FinS.ne {W : World} {base FB LB FR n : Nat} {lv : Value} {fin : List Bool} {L : List Nat} (h : FinS W base FB LB FR n lv fin L) : FB ≠ LB ∧ FB ≠ FR ∧ LB ≠ FR := by
  refine ⟨?_, ?_, ?_⟩
  · intro e; subst e; have hw := h.fbox; rw [h.lbox] at hw; injection hw with hw; injection hw with _ hw _; exact absurd hw (by decide)
  · intro e; subst e; have hw := h.fbox; rw [h.row] at hw; injection hw with hw; injection hw with _ hw _; exact absurd hw (by decide)
  · intro e; subst e; have hw := h.lbox; rw [h.row] at hw; injection hw with hw; injection hw with _ hw _; exact absurd hw (by decide)
/-- What leave may turn. -/
def FL (LB FR : Nat) (lv : Value) : List Nat := LB :: FR :: lv.ownBlock.toList
theorem FinS.leave {W : World} {base FB LB FR n s : Nat} {lv : Value} {fin : List Bool} {L : List Nat} (h : FinS W base FB LB FR n lv fin L) (hs : s < n) (hL : s ∉ L) :
    ∃ gr cap w2, (∀ ty, (Builtin.append_ #[83, 83] ty #[lv, .slice (some ⟨W.heap.size, 0, none⟩) 1 1]).run Try.prog ((W.setCell ⟨FR, s, none⟩ (.bool false)).alloc (.cells #[.int .i64 (s : Nat)] 3)) = .ok (.slice (some ⟨gr, 0, none⟩) (L.length + 1) cap) w2) ∧ w2.cell? ⟨LB, 0, none⟩ = some lv ∧ w2.frozen? ⟨LB, 0, none⟩ = false ∧
      FinS (w2.setCell ⟨LB, 0, none⟩ (.slice (some ⟨gr, 0, none⟩) (L.length + 1) cap)) base FB LB FR n (.slice (some ⟨gr, 0, none⟩) (L.length + 1) cap) (fin.set s false) (L ++ [s]) ∧
      Kept (FL LB FR lv) W (w2.setCell ⟨LB, 0, none⟩ (.slice (some ⟨gr, 0, none⟩) (L.length + 1) cap)) ∧ (lv.ownBlock = some gr ∨ W.heap.size ≤ gr) := by
  obtain ⟨inf, hi, hz, hss, hb⟩ := info_parts Try.infoInR
  obtain ⟨n1, n2, n3⟩ := h.ne
  obtain ⟨Y, hY⟩ : ∃ Y, (W.setCell ⟨FR, s, none⟩ (.bool false)).alloc (.cells #[.int .i64 (s : Nat)] 3) = Y := ⟨_, rfl⟩
  have hsz : (W.setCell ⟨FR, s, none⟩ (.bool false)).heap.size = W.heap.size := by simp [World.setCell]
  have k1 : Kept [FR] W (W.setCell ⟨FR, s, none⟩ (.bool false)) := (Kept.refl [FR] W).setCell (.inl (by simp)) _
  have kY : Kept [FR] W Y := by rw [← hY]; exact k1.alloc _
  have hA : Y.cell? ⟨W.heap.size, 0, none⟩ = some (.int .i64 (s : Nat)) := by rw [← hY, ← hsz]; exact (cell_of (al0 _ _) 0).trans rfl
  have hcnt := h.count
  have hfew := h.few
  have ho : Y.ownsRow base 3 1 lv L.length (numsN L) := bx_kept h.own kY (fun g hg => by have := (h.off hg).2.2.1; simpa using this)
  have hfr : Y.heap[FR]? = some (.cells (((fin.set s false).map Value.bool)).toArray 4 (0, 0)) := by
    rw [← hY]
    refine alUp ?_ _
    have e9 : (fin.map Value.bool).toArray.setIfInBounds s (.bool false) = ((fin.set s false).map Value.bool).toArray := by
      rw [List.map_set]
      apply Array.ext'
      rw [Array.toList_setIfInBounds]
    rw [bx_set h.row, e9]
  have hbase : base ≤ Y.heap.size := by have := lt_of h.lbox; have := kY.size; have := h.low.1; omega
  obtain ⟨gr, cap, w2, g1, g2, g3, g4, g5⟩ := run_append_lies (P := Try.prog) Y 83 0 base 3 inf (.int .i64 0) 1 8 Try.underlying83 hi hz hss hb rfl (by decide) lv L.length (numsN L) ho ⟨W.heap.size, 0, none⟩ 1 1 [.int .i64 (s : Nat)] rfl (fun j u hj => by
    cases j with
    | zero => cases hj; exact hA
    | succ j => simp at hj) (by intro u hu; simp at hu; subst hu; rfl) (by decide) (by unfold maxLen; omega) (by omega) hbase _ rfl
  have kold : ∀ b o, Y.heap[b]? = some o → (∀ g, lv.ownBlock = some g → g ≠ b) → w2.heap[b]? = some o := fun b o hb' hne => (g3.block _ (lt_of hb') (fun e => hne b e.symm rfl)).trans hb'
  have hfb2 := kold FB _ (kY.at h.fbox (by simpa using n2)) (fun g hg => (h.off hg).1)
  have hlb2 := kold LB _ (kY.at h.lbox (by simpa using n3)) (fun g hg => (h.off hg).2.1)
  have hfr2 := kold FR _ hfr (fun g hg => (h.off hg).2.2.1)
  have hgr : gr ≠ LB := by
    rcases g4 with g4 | g4
    · exact (h.off g4).2.1
    · have := lt_of h.lbox; have := kY.size; omega
  have kset : ∀ u, Kept [LB] w2 (w2.setCell ⟨LB, 0, none⟩ u) := fun u => (Kept.refl [LB] w2).setCell (.inl (by simp)) u
  have hsl : s < fin.length := by rw [h.len]; exact hs
  have hfs : fin[s] = true := by
    have := h.is s hs
    rw [List.getD_eq_getElem?_getD, List.getElem?_eq_getElem hsl] at this
    simpa [hL] using this
  refine ⟨gr, cap, w2, ?_, ?_, free_of hlb2 0, ⟨(kset _).at hfb2 (by simpa using n1), ?_, (kset _).at hfr2 (by simpa using fun e => n3 e.symm), h.low, by simp [h.len], ?_, ?_, ?_, ?_, h.few⟩, ?_, ?_⟩
  · rw [hY]; exact fun ty => g1
  · exact (cell_of hlb2 0).trans rfl
  · rw [bx_set hlb2]; rfl
  · rw [show numsN (L ++ [s]) = numsN L ++ [.int .i64 (s : Nat)] from by simp [numsN], List.length_append]
    exact bx_kept g2 (kset _) (fun g e hg => by cases e; exact hgr (by simpa using hg))
  · intro t ht
    rw [List.getD_eq_getElem?_getD]
    by_cases e : s = t
    · subst e
      rw [List.getElem?_set_self hsl]
      simp
    · rw [List.getElem?_set_ne e, ← List.getD_eq_getElem?_getD, h.is t ht]
      have : t ≠ s := fun q => e q.symm
      simp [this]
  · intro t ht
    rcases List.mem_append.1 ht with q | q
    · exact h.lt t q
    · rw [List.mem_singleton.1 q]; exact hs
  · have h1 := List.countP_set (p := id) (l := fin) (a := false) hsl
    have h2 : 0 < fin.countP id := List.countP_pos_iff.2 ⟨fin[s], List.getElem_mem _, by simp [hfs]⟩
    rw [hfs] at h1
    simp only [id, if_true, List.length_append, List.length_singleton] at h1 ⊢
    simp at h1
    have h3 : (List.countP id (fin.set s false)) = List.countP (fun a => a) (fin.set s false) := rfl
    have h4 : (List.countP id fin) = List.countP (fun a => a) fin := rfl
    omega
  · have k2 : Kept (FL LB FR lv) W Y := kY.mono (by unfold FL; simp)
    exact (k2.grown g3 (fun q e => .inl (by unfold FL; rw [e]; simp))).setCell (.inl (by unfold FL; simp)) _
  · rcases g4 with g4 | g4
    · exact .inl g4
    · exact .inr (by have := kY.size; omega)
/-- What leave leaves. -/
def LeaveEnd (base FB LB FR n s : Nat) (lv : Value) (L : List Nat) (w : World) (e : Ending) (w' : World) : Prop :=
  (∃ v, e = .returned v) ∧ ∃ lv' fin', Hid (FinS w' base FB LB FR n lv' fin' (if s ∈ L then L else L ++ [s])) ∧ Hid (Kept (FL LB FR lv) w w') ∧ Hid (∀ g, lv'.ownBlock = some g → lv.ownBlock = some g ∨ w.heap.size ≤ g)
set_option maxHeartbeats 2000000 in
set_option maxRecDepth 10000 in
theorem leave_any (base FB LB FR n s : Nat) (lv : Value) (fin : List Bool) (L : List Nat) (w : World) (h : FinS w base FB LB FR n lv fin L) (hs : s < n) :
    Calls Try.prog 66 #[.int .i64 (s : Nat), .pointer (some ⟨FB, 0, none⟩), .pointer (some ⟨LB, 0, none⟩)] w (LeaveEnd base FB LB FR n s lv L w) := by
  unfold LeaveEnd
  obtain ⟨c0, c1, c2⟩ := h.cells
  obtain ⟨d0, d1⟩ := c2 s hs
  have z0 : (0 : Int) ≤ (s : Int) := by omega
  have z1 : (s : Int) < (n : Int) := by omega
  by_cases hL : s ∈ L
  · rw [h.is s hs, decide_eq_false (by simp [hL])] at d0
    have HH : Hid (FinS w base FB LB FR n lv fin L) := h
    have HK : Hid (Kept (FL LB FR lv) w w) := Kept.refl _ w
    clear c1 c2 h
    rw [if_pos hL]
    go_enter Try.func66, Try.ntmps66
    go_wp2
    refine bodyPost_end (results_none rfl _ _ _) rfl ?_
    exact ⟨⟨_, rfl⟩, _, _, HH, HK, (fun g hg => .inl hg : ∀ g, lv.ownBlock = some g → lv.ownBlock = some g ∨ w.heap.size ≤ g)⟩
  · obtain ⟨gr, cap, w2, hrun, e0, e1, hF, hK, hg⟩ := h.leave hs hL
    rw [h.is s hs, decide_eq_true hL] at d0
    have hsz : (w.setCell ⟨FR, s, none⟩ (.bool false)).heap.size = w.heap.size := by simp [World.setCell]
    have HRUN : Hid (∀ ty, (Builtin.append_ #[83, 83] ty #[lv, .slice (some ⟨w.heap.size, 0, none⟩) 1 1]).run Try.prog ((w.setCell ⟨FR, s, none⟩ (.bool false)).alloc (.cells #[.int .i64 (s : Nat)] 3)) = .ok (.slice (some ⟨gr, 0, none⟩) (L.length + 1) cap) w2) := hrun
    have HF : Hid _ := hF
    have HK : Hid _ := hK
    have HG : Hid _ := hg
    have kl : Kept [FR] w (w.setCell ⟨FR, s, none⟩ (.bool false)) := (Kept.refl [FR] w).setCell (.inl (by simp)) _
    have c1' : (w.setCell ⟨FR, s, none⟩ (.bool false)).cell? ⟨LB, 0, none⟩ = some lv := (cell_of (kl.at h.lbox (by have := h.ne.2.2; simpa using this)) 0).trans rfl
    clear c1 c2 h kl hrun hF hK hg hsz
    rw [if_neg hL]
    go_enter Try.func66, Try.ntmps66
    go_wp2_with (at_builtin; refine Lib.wpList_append_run _ rfl _ _ _ _ rfl _ _ rfl rfl _ _ (HRUN.out _) ?_)
    refine bodyPost_end (results_none rfl _ _ _) rfl ?_
    exact ⟨⟨_, rfl⟩, _, _, HF, HK, fun g hg => by cases hg; exact HG.out⟩
end Go.Proofs.Ytbbfajbnklgncaa

/- runner.finalOf of any machine: which states are final. -/
namespace Go.Proofs.Ytbbfajbnklgncaa
open Go.RowKit Go.Shelf

/-- A state from which one comes to another verdict. -/
inductive NotFin (next : List (List Int)) (out : List Nat) : Nat → Prop
  | base {s : Nat} : (next.getD s []).any (otherB out s) = true → NotFin next out s
  | step {s t : Nat} : (t : Int) ∈ next.getD s [] → NotFin next out t → NotFin next out s
/-- What finalOf tells. -/
structure FinOf (next : List (List Int)) (out : List Nat) (fin : List Bool) : Prop where
  len : fin.length = next.length
  is : ∀ s, s < next.length → (fin.getD s false = true ↔ ¬ NotFin next out s)
theorem FinS.form {W : World} {base FB LB FR n : Nat} {lv : Value} {fin : List Bool} {L : List Nat} (h : FinS W base FB LB FR n lv fin L) : ∃ ad c, lv = .slice ad L.length c ∧ ∀ j, j < L.length → ∃ g, ad = some ⟨g, 0, none⟩ ∧ W.cell? ⟨g, j, none⟩ = some (.int .i64 (L.getD j 0 : Nat)) := by
  rcases h.own.2 with ⟨e, h0⟩ | ⟨g, cap, cur, e, hb, hw, h3, h4, h5, h6⟩
  · exact ⟨none, 0, by rw [e, h0], fun j hj => by omega⟩
  · refine ⟨_, cap, e, fun j hj => ⟨g, rfl, ?_⟩⟩
    rw [cell_of hw]
    have hx2 := numsN_at hj
    rw [show L[j] = L.getD j 0 from by rw [List.getD_eq_getElem?_getD, List.getElem?_eq_getElem hj]; rfl] at hx2
    rw [← h6, List.getElem?_take] at hx2
    split at hx2
    · rw [← Array.getElem?_toList]; exact hx2
    · cases hx2
theorem FinS.flo {W : World} {base FB LB FR n : Nat} {lv : Value} {fin : List Bool} {L : List Nat} (h : FinS W base FB LB FR n lv fin L) : ∀ x ∈ FL LB FR lv, base ≤ x := by
  intro x hx
  unfold FL at hx
  rcases List.mem_cons.1 hx with rfl | hx
  · exact h.low.1
  · rcases List.mem_cons.1 hx with rfl | hx
    · exact h.low.2
    · exact (h.off (Option.mem_toList.1 hx)).2.2.2.1
theorem FinS.old {W W' w : World} {base FB LB FR n : Nat} {lv : Value} {fin : List Bool} {L : List Nat} (h : FinS W base FB LB FR n lv fin L) (k : Kept [] w W) (k' : Kept (FL LB FR lv) W W') (hb : w.heap.size ≤ base) : Kept [] w W' :=
  k.trans k' (by simp) (fun x hx => .inr (by have := h.flo x hx; omega))
theorem FinS.oldT {W W' : World} {base FB LB FR n M : Nat} {T : TypeId} {a b c : Value} {lv : Value} {fin : List Bool} {L : List Nat} (h : FinS W base FB LB FR n lv fin L) (k' : Kept (FL LB FR lv) W W') (hM : M < base) (t : Thr T W M a b c) : Thr T W' M a b c :=
  t.keptF k' (fun hx => by have := h.flo M hx; omega)
theorem cell_keptN {F : List Nat} {W W' : World} (k : Kept F W W') {b o : Nat} {v : Value} (hb : b ∉ F) (h : W.cell? ⟨b, o, none⟩ = some v) : W'.cell? ⟨b, o, none⟩ = some v :=
  (World.cell?_of_block (w := W) (a := ⟨b, o, none⟩) (k.block b (World.block_lt_of_cell? W _ h) hb)).trans h
theorem grow_at {L : List Nat} {fr i x : Nat} (h : L[i]? = some x) : (if fr ∈ L then L else L ++ [fr])[i]? = some x := by
  split
  · exact h
  · rw [List.getElem?_append_left (List.getElem?_eq_some_iff.1 h).1]; exact h
theorem grow_mem {L : List Nat} {fr y : Nat} (h : y ∈ L) : y ∈ (if fr ∈ L then L else L ++ [fr]) := by
  split
  · exact h
  · exact List.mem_append_left _ h
theorem grow_self {L : List Nat} {fr : Nat} : fr ∈ (if fr ∈ L then L else L ++ [fr]) := by
  split
  · assumption
  · simp
theorem FL.trans {LB FR N : Nat} {lv lv2 : Value} {A B C : World} (h : Kept (FL LB FR lv) A B) (k : Kept (FL LB FR lv2) B C) (hN : A.heap.size = N) (hg : ∀ g, lv2.ownBlock = some g → lv.ownBlock = some g ∨ N ≤ g) : Kept (FL LB FR lv) A C :=
  h.trans k (fun _ q => q) (fun x hx => by
    unfold FL at hx ⊢
    rcases List.mem_cons.1 hx with rfl | hx
    · exact .inl (by simp)
    · rcases List.mem_cons.1 hx with rfl | hx
      · exact .inl (by simp)
      · rcases hg x (Option.mem_toList.1 hx) with q | q
        · exact .inl (by rw [q]; simp)
        · exact .inr (by omega))
/-- A row of what leads back, behind whatever leave did. -/
theorem RowsN.later {Wb : World} {base B n x LB FR : Nat} {vs : List Value} {bk : List (List Nat)} {lv : Value} (h : RowsN Wb base B n vs bk) (hx : x < n) (hF : ∀ y ∈ FL LB FR lv, y < base) :
    ∃ ad c xs, bk.getD x [] = xs ∧ (∀ W, Kept (FL LB FR lv) Wb W → W.cell? ⟨B, x, none⟩ = some (.slice ad xs.length c) ∧ ∀ q, q < xs.length → ∃ g, ad = some ⟨g, 0, none⟩ ∧ W.cell? ⟨g, q, none⟩ = some (.int .i64 (xs.getD q 0 : Nat))) := by
  obtain ⟨v, xs, hv, hxs, hc, _⟩ := h.at hx
  have e : bk.getD x [] = xs := by rw [List.getD_eq_getElem?_getD, hxs]; rfl
  have hBF : B ∉ FL LB FR lv := fun hb => by have := hF B hb; have := h.low; omega
  rcases h.lies hv hxs with ⟨rfl, rfl⟩ | ⟨g, c, rfl, hg, _, _, hl⟩
  · exact ⟨none, 0, [], e, fun W k => ⟨cell_keptN k hBF hc, fun q hq => by simp at hq⟩⟩
  · exact ⟨_, c, xs, e, fun W k => ⟨cell_keptN k hBF hc, fun q hq => ⟨g, rfl, cell_keptN k (fun hb => by have := hF g hb; omega) (hl q hq)⟩⟩⟩
theorem Vds.there {W : World} {v : Value} {xs : List Nat} (h : Vds W v xs) (h0 : 0 < xs.length) : ∃ b o c, v = .slice (some ⟨b, o, none⟩) xs.length c ∧ OutAt W b o xs := by
  rcases h.lie with ⟨_, rfl⟩ | ⟨b, o, c, h1, _, _, h4⟩
  · simp at h0
  · exact ⟨b, o, c, h1, h4⟩
/-- Which states are left, of the first k. -/
def Left1 (next : List (List Int)) (out : List Nat) (k : Nat) (L : List Nat) : Prop := ∀ s, s ∈ L ↔ s < k ∧ (next.getD s []).any (otherB out s) = true
theorem Left1.yes {next : List (List Int)} {out : List Nat} {k : Nat} {L : List Nat} (h : Left1 next out k L) (hk : (next.getD k []).any (otherB out k) = true) : Left1 next out (k + 1) (if k ∈ L then L else L ++ [k]) := by
  have hn : k ∉ L := fun q => by have := ((h k).1 q).1; omega
  rw [if_neg hn]
  intro s
  rw [List.mem_append, h s, List.mem_singleton]
  constructor
  · rintro (⟨q1, q2⟩ | rfl)
    · exact ⟨by omega, q2⟩
    · exact ⟨by omega, hk⟩
  · rintro ⟨q1, q2⟩
    by_cases e : s = k
    · exact .inr e
    · exact .inl ⟨by omega, q2⟩
theorem Left1.no {next : List (List Int)} {out : List Nat} {k : Nat} {L : List Nat} (h : Left1 next out k L) (hk : (next.getD k []).any (otherB out k) = false) : Left1 next out (k + 1) L := by
  intro s
  rw [h s]
  constructor
  · rintro ⟨q1, q2⟩; exact ⟨by omega, q2⟩
  · rintro ⟨q1, q2⟩
    by_cases e : s = k
    · subst e; rw [hk] at q2; cases q2
    · exact ⟨by omega, q2⟩
/-- The states that are left, those before the i-th looked at, and of the i-th's q ones. -/
structure Left2 (next : List (List Int)) (out : List Nat) (bk : List (List Nat)) (i : Nat) (L : List Nat) : Prop where
  not : ∀ s ∈ L, NotFin next out s
  all : ∀ s, s < next.length → (next.getD s []).any (otherB out s) = true → s ∈ L
  shut : ∀ j x, j < i → L[j]? = some x → ∀ fr ∈ bk.getD x [], fr ∈ L
theorem Left2.first {next : List (List Int)} {out : List Nat} {bk : List (List Nat)} {L : List Nat} (h : Left1 next out next.length L) : Left2 next out bk 0 L :=
  ⟨fun s hs => .base ((h s).1 hs).2, fun s hs hb => (h s).2 ⟨hs, hb⟩, fun j x hj => by omega⟩
theorem Left2.leave {next : List (List Int)} {out : List Nat} {bk : List (List Nat)} {i x fr : Nat} {L : List Nat} (h : Left2 next out bk i L) (hB : BkTo next bk next.length 0) (hx : L[i]? = some x) (hxn : x < next.length) (hf : fr ∈ bk.getD x []) : Left2 next out bk i (if fr ∈ L then L else L ++ [fr]) := by
  split
  · exact h
  · have hnf : NotFin next out fr := by
      have h1 := (hB.iff x fr hxn).1 hf
      rcases h1 with ⟨_, q⟩ | ⟨_, q⟩
      · exact .step q (h.not x (List.mem_of_getElem? hx))
      · simp at q
    have hil : i < L.length := (List.getElem?_eq_some_iff.1 hx).1
    refine ⟨fun s hs => ?_, fun s hs hb => List.mem_append_left _ (h.all s hs hb), fun j y hj hy f hf' => ?_⟩
    · rcases List.mem_append.1 hs with q | q
      · exact h.not s q
      · rw [List.mem_singleton.1 q]; exact hnf
    · rw [List.getElem?_append_left (by omega)] at hy
      exact List.mem_append_left _ (h.shut j y hj hy f hf')
theorem Left2.next {next : List (List Int)} {out : List Nat} {bk : List (List Nat)} {i x : Nat} {L : List Nat} (h : Left2 next out bk i L) (hx : L[i]? = some x) (hq : ∀ fr ∈ bk.getD x [], fr ∈ L) : Left2 next out bk (i + 1) L :=
  ⟨h.not, h.all, fun j y hj hy => by
    rcases Nat.lt_or_ge j i with q | q
    · exact h.shut j y q hy
    · obtain rfl : j = i := by omega
      rw [hx] at hy
      cases hy
      exact hq⟩
theorem Left2.done {next : List (List Int)} {out : List Nat} {bk : List (List Nat)} {L : List Nat} (h : Left2 next out bk L.length L) (hB : BkTo next bk next.length 0) (hr : RightR next) : ∀ s, s < next.length → (s ∈ L ↔ NotFin next out s) := by
  intro s hs
  refine ⟨h.not s, fun hn => ?_⟩
  induction hn with
  | base hb => exact h.all _ hs hb
  | @step s t ht _ ih =>
    have hr2 : next.getD s [] ∈ next := by rw [List.getD_eq_getElem?_getD, List.getElem?_eq_getElem hs]; exact List.getElem_mem _
    have h2 := (hr.row _ hr2).2.2 _ ht
    have htl : t < next.length := by omega
    obtain ⟨j, hj, hjt⟩ := List.getElem_of_mem (ih htl)
    exact h.shut j t hj (by rw [List.getElem?_eq_getElem hj, hjt]) s ((hB.iff t s htl).2 (.inl ⟨hs, ht⟩))
end Go.Proofs.Ytbbfajbnklgncaa
