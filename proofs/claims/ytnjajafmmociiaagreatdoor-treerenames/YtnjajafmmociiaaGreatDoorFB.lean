/- augurref00.mark: a text of its own for each list and place. -/
import Derived.Test.YtnjajafmmociiaaGreatDoorOwnFA
import Derived.Deep.RegionHeld3
import Derived.Deep.DrawnRows
import Derived.Lib.AppendZeros
namespace Go.Proofs.YtnjajafmmociiaaGreatDoor
open Go.RowKit Go.Shelf

theorem u8_natF {a : Nat} (h : a < 256) : (UInt8.ofNat a).toNat = a := by
  rw [UInt8.toNat_ofNat']; exact Nat.mod_eq_of_lt h
theorem w64F (k : Nat) (h : k ≤ 4000000000000000000) : IntKind.i64.wrap (k : Int) = (k : Int) := by simp only [IntKind.wrap, IntKind.bits, IntKind.signed]; simp; omega
theorem w64pF (k : Nat) (h : k ≤ 2000) : IntKind.i64.wrap (97 + (k : Int)) = 97 + (k : Int) := by simp only [IntKind.wrap, IntKind.bits, IntKind.signed]; simp; omega
theorem w8pF (k : Nat) (h : k < 26) : IntKind.u8.wrap (97 + (k : Int)) = 97 + (k : Int) := by simp only [IntKind.wrap, IntKind.bits, IntKind.signed]; simp; omega
theorem parts26F (i : Nat) : ∃ qa q1 qb q2 qc : Nat, (qa = i % 26 ∧ qb = i / 26 % 26 ∧ qc = i / 676 % 26) ∧ (qa < 26 ∧ qb < 26 ∧ qc < 26) ∧ ((i : Int).tmod 26 = qa ∧ (i : Int) % 26 = qa) ∧ ((i : Int).tdiv 26 = q1 ∧ (i : Int) / 26 = q1) ∧ ((q1 : Int).tmod 26 = qb ∧ (q1 : Int) % 26 = qb) ∧ ((i : Int).tdiv 676 = q2 ∧ (i : Int) / 676 = q2) ∧ ((q2 : Int).tmod 26 = qc ∧ (q2 : Int) % 26 = qc) ∧ (q1 ≤ i ∧ q2 ≤ i) := by
  refine ⟨i % 26, i / 26, i / 26 % 26, i / 676, i / 676 % 26, ⟨rfl, rfl, rfl⟩, ⟨by omega, by omega, by omega⟩, ⟨?_, by omega⟩, ⟨?_, by omega⟩, ⟨?_, by omega⟩, ⟨?_, by omega⟩, ⟨?_, by omega⟩, by omega, by omega⟩
  · rw [Int.tmod_eq_emod_of_nonneg (by omega)]; omega
  · rw [Int.tdiv_eq_ediv_of_nonneg (by omega)]; omega
  · rw [Int.tmod_eq_emod_of_nonneg (by omega)]; omega
  · rw [Int.tdiv_eq_ediv_of_nonneg (by omega)]; omega
  · rw [Int.tmod_eq_emod_of_nonneg (by omega)]; omega
theorem conv5 (W : World) (a b c d e : Nat) (ha : a < 256) (hb : b < 256) (hc : c < 256) (hd : d < 256) (he : e < 256) : Sem.run Tryz.prog (convert 128 9 (.slice (some ⟨W.heap.size, 0, none⟩) 5 5)) (W.alloc (.cells #[.int .u8 (a : Nat), .int .u8 (b : Nat), .int .u8 (c : Nat), .int .u8 (d : Nat), .int .u8 (e : Nat)] 5)) = .ok (.string ⟨#[UInt8.ofNat a, UInt8.ofNat b, UInt8.ofNat c, UInt8.ofNat d, UInt8.ofNat e]⟩) (W.alloc (.cells #[.int .u8 (a : Nat), .int .u8 (b : Nat), .int .u8 (c : Nat), .int .u8 (d : Nat), .int .u8 (e : Nat)] 5)) := by
  refine run_convert_bytes_back (P := Tryz.prog) _ 128 9 5 ⟨W.heap.size, 0, none⟩ 5 [UInt8.ofNat a, UInt8.ofNat b, UInt8.ofNat c, UInt8.ofNat d, UInt8.ofNat e] (by kernel_rfl) (by kernel_rfl) (by kernel_rfl) (fun j hj => ?_)
  have e1 : (⟨W.heap.size, 0, none⟩ : Addr).add j = ⟨W.heap.size, j, none⟩ := by simp [Addr.add]; exact fun h => h.symm
  rw [e1, cell_of (heap_alloc_new W _)]
  have hj' : j < 5 := hj
  match j, hj' with
  | 0, _ => show some (Value.int .u8 (a : Nat)) = some (Value.int .u8 ((UInt8.ofNat a).toNat : Int)); rw [u8_natF ha]
  | 1, _ => show some (Value.int .u8 (b : Nat)) = some (Value.int .u8 ((UInt8.ofNat b).toNat : Int)); rw [u8_natF hb]
  | 2, _ => show some (Value.int .u8 (c : Nat)) = some (Value.int .u8 ((UInt8.ofNat c).toNat : Int)); rw [u8_natF hc]
  | 3, _ => show some (Value.int .u8 (d : Nat)) = some (Value.int .u8 ((UInt8.ofNat d).toNat : Int)); rw [u8_natF hd]
  | 4, _ => show some (Value.int .u8 (e : Nat)) = some (Value.int .u8 ((UInt8.ofNat e).toNat : Int)); rw [u8_natF he]
set_option maxHeartbeats 2000000 in
set_option maxRecDepth 10000 in
theorem mark_any (a b : Nat) (w : World) (ha : a ≤ 1000000000000) (hb : b ≤ 1000000000000) :
    Calls Tryz.prog 88 #[.int .i64 (a : Nat), .int .i64 (b : Nat)] w fun e w' => e = .returned (.string (markS a b)) ∧ Kept [] w w' := by
  obtain ⟨qa, q1, qb, q2, qc, hq, ⟨la, lb, lc⟩, ⟨ta, ea⟩, ⟨t1, e1⟩, ⟨tb, eb⟩, ⟨t2, e2⟩, ⟨tc, ec⟩, ⟨l1, l2⟩⟩ := parts26F a
  obtain ⟨ra, r1, rb, r2, rc, hr, ⟨ma, mb, mc⟩, ⟨sa, fa⟩, ⟨s1, f1⟩, ⟨sb, fb⟩, ⟨s2, f2⟩, ⟨sc, fc⟩, ⟨n1, n2⟩⟩ := parts26F b
  have wa := w8pF qa la
  have wb := w8pF qb lb
  have wc' := w8pF qc lc
  have va := w8pF ra ma
  have vb := w8pF rb mb
  have xa := w64F qa (by omega)
  have xb := w64F qb (by omega)
  have xc := w64F qc (by omega)
  have x1 := w64F q1 (by omega)
  have x2 := w64F q2 (by omega)
  have za := w64F ra (by omega)
  have zb := w64F rb (by omega)
  have z1 := w64F r1 (by omega)
  have ya := w64pF qa (by omega)
  have yb := w64pF qb (by omega)
  have yc := w64pF qc (by omega)
  have ua := w64pF ra (by omega)
  have ub := w64pF rb (by omega)
  have hcv : Sem.run Tryz.prog (convert 128 9 (.slice (some ⟨w.heap.size, 0, none⟩) 5 5)) (w.alloc (.cells #[.int .u8 (97 + (qa : Int)), .int .u8 (97 + (qb : Int)), .int .u8 (97 + (qc : Int)), .int .u8 (97 + (ra : Int)), .int .u8 (97 + (rb : Int))] 5)) = .ok (.string (markS a b)) (w.alloc (.cells #[.int .u8 (97 + (qa : Int)), .int .u8 (97 + (qb : Int)), .int .u8 (97 + (qc : Int)), .int .u8 (97 + (ra : Int)), .int .u8 (97 + (rb : Int))] 5)) := by
    have h := conv5 w (97 + qa) (97 + qb) (97 + qc) (97 + ra) (97 + rb) (by omega) (by omega) (by omega) (by omega) (by omega)
    rw [show (⟨#[UInt8.ofNat (97 + qa), UInt8.ofNat (97 + qb), UInt8.ofNat (97 + qc), UInt8.ofNat (97 + ra), UInt8.ofNat (97 + rb)]⟩ : ByteArray) = markS a b from by rw [hq.1, hq.2.1, hq.2.2, hr.1, hr.2.1]; rfl] at h
    exact h
  have g0 : ¬ ((a : Int) < 0) := by omega
  obtain ⟨ms, hms⟩ : ∃ ms, markS a b = ms := ⟨_, rfl⟩
  rw [hms] at hcv ⊢
  clear hq hr hms ec sc s2 f2 fc
  go_enter Tryz.func88, Tryz.ntmps88
  go_wp2
  go_ret
  exact ⟨rfl, (Kept.refl [] w).alloc _⟩
set_option maxHeartbeats 1000000 in
theorem markN_any (i b : Nat) (w : World) (ha : i ≤ 100000000000) (hb : b ≤ 1000000000000) :
    Calls Tryz.prog 88 #[.int .i64 (-1 - (i : Int)), .int .i64 (b : Nat)] w fun e w' => e = .returned (.string (markN i b)) ∧ Kept [] w w' := by
  have HM : Hid (∀ W, Calls Tryz.prog 88 #[.int .i64 ((i + 1 : Nat) : Int), .int .i64 (b : Nat)] W fun e w' => e = .returned (.string (markS (i + 1) b)) ∧ Kept [] W w') := fun W => mark_any (i + 1) b W (by omega) hb
  obtain ⟨i1, hi1⟩ : ∃ i1 : Nat, i + 1 = i1 := ⟨_, rfl⟩
  have hneg : IntKind.i64.wrap (-(-1 - (i : Int))) = (i1 : Int) := by rw [IntKind.wrap_i64]; omega
  have hneg2 : -(-1 - (i : Int)) = (i1 : Int) := by omega
  have hw1 : IntKind.i64.wrap (i1 : Int) = (i1 : Int) := by rw [IntKind.wrap_i64]; omega
  have g0 : (-1 - (i : Int)) < 0 := by omega
  unfold markN
  rw [hi1] at HM ⊢
  obtain ⟨ms, hms⟩ : ∃ ms, markS i1 b = ms := ⟨_, rfl⟩
  have h5 : ms.size = 5 := by rw [← hms]; rfl
  rw [hms] at HM ⊢
  clear hms hi1 ha hb
  go_enter Tryz.func88, Tryz.ntmps88
  go_wp2_with (go_at_call 88; refine (HM.out w).mono ?_; rintro e w1 ⟨rfl, k1⟩; have HK1 : Hid (Kept [] w w1) := k1; clear k1)
  go_ret
  exact ⟨rfl, HK1.out⟩
end Go.Proofs.YtnjajafmmociiaaGreatDoor

/- augurref00.ownFormulas. -/
namespace Go.Proofs.YtnjajafmmociiaaGreatDoor
open Go.RowKit Go.Shelf
attribute [local go_sem ↓] Go.wp_at_zero Go.wp_at_succ


theorem row_typeF {W : World} {base s : Nat} {e : TypeId} {v : Value} {n g : Nat} {xs : List Value} (h : W.ownsRow base e s v n xs) (hg : v.ownBlock = some g) : ∃ cur, W.heap[g]? = some (.cells cur e (0, 0)) := by
  rcases h.2 with ⟨rfl, _⟩ | ⟨g', cap, cur, rfl, _, h2, _⟩
  · cases hg
  · cases hg; exact ⟨cur, h2⟩
theorem types_apartF {W : World} {base base' : Nat} {v u : Value} {n m g : Nat} {xs ys : List Value} (h : W.ownsRow base 25 3 v n xs) (h' : W.ownsRow base' 23 1 u m ys) (hg : v.ownBlock = some g) : u.ownBlock ≠ some g := by
  intro hu
  obtain ⟨c1, e1⟩ := row_typeF h hg
  obtain ⟨c2, e2⟩ := row_typeF h' hu
  rw [e1] at e2
  cases e2
/-- The blocks of the rows. -/
def blocksOfF (vs : List Value) : List Nat := vs.filterMap Value.ownBlock
theorem mem_blocksF {vs : List Value} {i g : Nat} {v : Value} (h : vs[i]? = some v) (hg : v.ownBlock = some g) : g ∈ blocksOfF vs := List.mem_filterMap.2 ⟨v, List.mem_of_getElem? h, hg⟩
theorem not_blocksF {W : World} {base base' : Nat} {vs : List Value} {xss : List (List T3)} {u : Value} {m g : Nat} {ys : List Value} (h : OwnAllF W base vs xss) (h' : W.ownsRow base' 23 1 u m ys) (hg : u.ownBlock = some g) : g ∉ blocksOfF vs := by
  intro hm
  obtain ⟨v, hv, hvg⟩ := List.mem_filterMap.1 hm
  obtain ⟨i, hi, rfl⟩ := List.getElem_of_mem hv
  have hix : i < xss.length := by rw [← h.len]; exact hi
  exact types_apartF (h.row i _ _ (List.getElem?_eq_getElem hi) (List.getElem?_eq_getElem hix)) h' hvg hg
theorem owns_cellF {W : World} {base : Nat} {u : Value} {m i : Nat} {ys : List Value} {y : Value} (h : W.ownsRow base 23 1 u m ys) (hy : ys[i]? = some y) : ∃ g c, u = .slice (some ⟨g, 0, none⟩) m c ∧ i < m ∧ W.cell? ⟨g, i, none⟩ = some y := by
  have hl := getElem?_ltF hy
  have h1 : ys.length = m := by have := h.1; omega
  obtain ⟨g, cap, rfl, _, _⟩ := h.form (by omega)
  exact ⟨g, cap, rfl, by omega, by rw [h.cellAt i (by omega), hy]⟩
theorem owns_freeF {W : World} {base s g n c : Nat} {e : TypeId} {xs : List Value} (h : W.ownsRow base e s (.slice (some ⟨g, 0, none⟩) n c) n xs) (k : Nat) : W.frozen? ⟨g, k, none⟩ = false := by
  rcases h.2 with ⟨e1, _⟩ | ⟨g', cap, cur, e1, _, h2, _⟩
  · cases e1
  · cases e1; exact free_of h2 k
theorem Ph1F.row {W : World} {base i k : Nat} {vs : List Value} {xss : List (List T3)} {v : Value} {xs : List T3} (h : Ph1F W base vs xss i k) (hv : vs[i]? = some v) (hx : xss[i]? = some xs) (hk : k ≤ xs.length) : W.ownsRow base 25 3 v xs.length (f3s (m1F i k ++ xs.drop k)) := by
  obtain ⟨cs, h1, h2⟩ := h
  have hc := h2 i xs hx
  rw [if_neg (Nat.lt_irrefl i), if_pos rfl] at hc
  have := h1.row i v _ hv hc
  rw [List.length_append, m1_lenF, List.length_drop, show k + (xs.length - k) = xs.length by omega] at this
  exact this
/-- What Own is handed: lists with rows of their own. -/
structure OwnInF (w : World) (base base' : Nat) (lv : Value) (vs : List Value) (xss : List (List T3)) : Prop where
  rows : OwnAllF w base vs xss
  list : w.ownsRow base' 23 1 lv vs.length vs
  few : vs.length ≤ 100000000
  short : ∀ xs ∈ xss, xs.length ≤ 1000000000
  low : base ≤ w.heap.size
theorem OwnInF.held {w W : World} {base base' : Nat} {lv : Value} {vs : List Value} {xss : List (List T3)} (h : OwnInF w base base' lv vs xss) (k : Kept (blocksOfF vs) w W) : W.ownsRow base' 23 1 lv vs.length vs := by
  refine ⟨h.list.1, h.list.2.imp id ?_⟩
  rintro ⟨g, cap, cur, e1, q1, q2, q3⟩
  exact ⟨g, cap, cur, e1, q1, k.at q2 (not_blocksF h.rows h.list (by rw [e1]; rfl)), q3⟩
theorem Tryz.infoSlF : (Tryz.prog.info? 23).map (fun i => (i.zero, i.size, i.bytes)) = some (some (.slice none 0 0), 1, 24) := by kernel_rfl
/-- What the second loop carries. -/
structure GrF (w wr : World) (base H : Nat) (vs : List Value) (xss : List (List T3)) (i k : Nat) (us : List Value) (lo : Value) : Prop where
  ph : Ph2F wr base H vs xss i k us
  long : wr.ownsRow H 23 1 lo i (us.take i)
  kept : Kept (blocksOfF vs) w wr
  high : H ≤ wr.heap.size
  low : w.heap.size ≤ H
  base_ : base ≤ wr.heap.size
theorem GrF.letter {w wr : World} {base H i k : Nat} {vs us : List Value} {xss : List (List T3)} {lo xv : Value} {xs : List T3} (h : GrF w wr base H vs xss i k us lo) (hx : xss[i]? = some xs) (hu : us[i]? = some xv) (hs : xs.length ≤ 1000000000) (hk : k < 16) :
    ∃ g cap w', (∀ ty, (Builtin.append_ #[23, 23] ty #[xv, .slice (some ⟨wr.heap.size, 0, none⟩) 1 1]).run Tryz.prog (wr.alloc (.cells #[.int .u8 0, .string (markN i k), .slice none 0 0] 25)) = .ok (.slice (some ⟨g, 0, none⟩) (xs.length + (k + 1)) cap) w') ∧ GrF w w' base H vs xss i (k + 1) (us.set i (.slice (some ⟨g, 0, none⟩) (xs.length + (k + 1)) cap)) lo ∧ (us.set i (.slice (some ⟨g, 0, none⟩) (xs.length + (k + 1)) cap))[i]? = some (.slice (some ⟨g, 0, none⟩) (xs.length + (k + 1)) cap) := by
  obtain ⟨inf, hi, hz0, hz1, hz2⟩ := info_parts Tryz.infoFor
  have k1 : Kept [] wr (wr.alloc (.cells #[.int .u8 0, .string (markN i k), .slice none 0 0] 25)) := (Kept.refl [] wr).alloc _
  have hrow := owns_keptFF (h.ph.rowAt hu hx) k1 (by simp)
  have hil := getElem?_ltF hu
  have hiv : i < vs.length := by rw [← h.ph.len]; exact hil
  have run := fun ty => run_append_keepF (P := Tryz.prog) (wr.alloc (.cells #[.int .u8 0, .string (markN i k), .slice none 0 0] 25)) 23 ty base 25 inf _ 3 48 Tryz.underlying23 hi hz0 hz1 hz2 rfl (by decide) xv (xs.length + k) _ hrow ⟨wr.heap.size, 0, none⟩ 1 1 [.int .u8 0, .string (markN i k), .slice none 0 0] rfl (World.news_of_block (cs := #[.int .u8 0, .string (markN i k), .slice none 0 0]) (t := 25) (fr := (0, 0)) (heap_alloc_new wr _)) (by simp [Value.oneCell']) (by decide) (by unfold maxLen; omega) (by omega) (Nat.le_trans h.base_ k1.size)
  obtain ⟨g, cap, w', hr, h2, h3, h4, h5⟩ := run 23
  have hrun : ∀ ty, (Builtin.append_ #[23, 23] ty #[xv, .slice (some ⟨wr.heap.size, 0, none⟩) 1 1]).run Tryz.prog (wr.alloc (.cells #[.int .u8 0, .string (markN i k), .slice none 0 0] 25)) = .ok (.slice (some ⟨g, 0, none⟩) (xs.length + (k + 1)) cap) w' := fun ty => hr
  have e1 : f3s (m1F i xs.length ++ m2F i k) ++ [.int .u8 0, .string (markN i k), .slice none 0 0] = f3s (m1F i xs.length ++ m2F i k ++ [mark2F i k]) := by rw [f3s_app _ [mark2F i k]]; rfl
  rw [e1] at h2
  have hph : Ph2F w' base H vs xss i (k + 1) (us.set i (.slice (some ⟨g, 0, none⟩) (xs.length + (k + 1)) cap)) := h.ph.grow hx hu k1 h.high (by omega) h2 h3 h4
  have hs1 := k1.size
  have hs2 := h3.size
  have hh := h.high
  have hbb := h.base_
  refine ⟨g, cap, w', hrun, ⟨hph, ?_, (h.kept.trans k1 (H := blocksOfF vs) (fun _ h => h) (by simp)).grown h3 (fun b hb => ?_), by omega, h.low, by omega⟩, by rw [List.getElem?_set, if_pos rfl, if_pos hil]⟩
  · rw [List.take_set_of_le (Nat.le_refl i)]
    have hl := owns_keptFF h.long k1 (by simp)
    exact hl.kept h3 (by
      cases hlo : lo.ownBlock with
      | none => exact .inl rfl
      | some b => exact .inr (fun e => types_apartF hrow hl e.symm hlo))
  · have hv := List.getElem?_eq_getElem hiv
    rcases h.ph.from_ i xv _ b hu hv hb with q | q
    · exact .inl (mem_blocksF hv q)
    · exact .inr (by have := h.low; omega)
theorem GrF.list {w wr : World} {base H i : Nat} {vs us : List Value} {xss : List (List T3)} {lo : Value} {xad : Option Addr} {n c : Nat} (h : GrF w wr base H vs xss i 16 us lo) (hu : us[i]? = some (.slice xad n c)) (hf : vs.length ≤ 100000000) :
    ∃ g cap w', (∀ ty, (Builtin.append_ #[45, 45] ty #[lo, .slice (some ⟨wr.heap.size, 0, none⟩) 1 1]).run Tryz.prog (wr.alloc (.cells #[.slice xad n c] 23)) = .ok (.slice (some ⟨g, 0, none⟩) (i + 1) cap) w') ∧ GrF w w' base H vs xss (i + 1) 0 us (.slice (some ⟨g, 0, none⟩) (i + 1) cap) := by
  obtain ⟨inf, hi, hz0, hz1, hz2⟩ := info_parts Tryz.infoSlF
  have k1 : Kept [] wr (wr.alloc (.cells #[.slice xad n c] 23)) := (Kept.refl [] wr).alloc _
  have hl := owns_keptFF h.long k1 (by simp)
  have hil := getElem?_ltF hu
  have hiv : i < vs.length := by rw [← h.ph.len]; exact hil
  have hs1 := k1.size
  have hh := h.high
  obtain ⟨g, cap, w', hr, h2, h3, h4, h5⟩ := run_append_keepF (P := Tryz.prog) (wr.alloc (.cells #[.slice xad n c] 23)) 45 45 H 23 inf _ 1 24 Tryz.underlying45 hi hz0 hz1 hz2 rfl (by decide) lo i _ hl ⟨wr.heap.size, 0, none⟩ 1 1 [.slice xad n c] rfl (World.news_of_block (cs := #[.slice xad n c]) (t := 23) (fr := (0, 0)) (heap_alloc_new wr _)) (by simp [Value.oneCell']) (by decide) (by unfold maxLen; omega) (by omega) (by omega)
  have hs2 := h3.size
  have hbb := h.base_
  have e2 : us.take i ++ [.slice xad n c] = us.take (i + 1) := by rw [List.take_add_one, hu]; rfl
  rw [e2] at h2
  have kG : Kept lo.ownBlock.toList wr w' := (k1.trans (G := []) (H := lo.ownBlock.toList) (Kept.refl [] _) (by simp) (by simp)).grown h3 (fun b hb => .inl (by rw [hb]; simp))
  refine ⟨g, cap, w', fun ty => hr, ⟨(h.ph.keptF kG (fun j u b hj hb hm => ?_) (fun b hm => ?_) h.high).next, h2, (h.kept.trans k1 (H := blocksOfF vs) (fun _ h => h) (by simp)).grown h3 (fun b hb => .inr ?_), by omega, h.low, by omega⟩⟩
  · obtain ⟨cs, q1, _⟩ := h.ph.own
    have hjc : j < cs.length := by rw [← q1.len]; exact getElem?_ltF hj
    exact types_apartF (q1.row j u _ hj (List.getElem?_eq_getElem hjc)) h.long hb (by simpa using hm)
  · exact own_baseF h.long (by simpa using hm)
  · have := own_baseF hl hb
    have := h.low
    omega
theorem nameF (a c : Value) (s : ByteArray) (W : World) : Sem.run Tryz.prog (Instr.field 25 (.agg #[a, .string s, c]) 1) W = .ok (.string s) W := by
  kernel_rfl
theorem GrF.quiet {w wr W : World} {base H i k : Nat} {vs us : List Value} {xss : List (List T3)} {lo : Value} (h : GrF w wr base H vs xss i k us lo) (kk : Kept [] wr W) : GrF w W base H vs xss i k us lo := by
  have hs := kk.size
  have hh := h.high
  have hb := h.base_
  exact ⟨h.ph.keptF kk (by simp) (by simp) h.high, owns_keptFF h.long kk (by simp), h.kept.trans kk (fun _ h => h) (by simp), by omega, h.low, by omega⟩
set_option maxHeartbeats 4000000 in
set_option maxRecDepth 20000 in
theorem ownFormulas_walk (lv : Value) (vs : List Value) (xss : List (List T3)) (base base' : Nat) (w : World) (h : OwnInF w base base' lv vs xss) :
    Calls Tryz.prog 62 #[lv] w fun e w' => e = .returned (.bool true) ∧ Kept (blocksOfF vs) w w' := by
  have HI : Hid (OwnInF w base base' lv vs xss) := h
  have hfew := h.few
  obtain ⟨lad, lc, rfl⟩ := own_formF h.list
  obtain ⟨m, hm⟩ : ∃ m, vs.length = m := ⟨_, rfl⟩
  have HM : Hid (vs.length = m ∧ xss.length = m) := ⟨hm, by rw [← h.rows.len]; exact hm⟩
  have HP : Hid (Ph1F w base vs xss 0 0) := Ph1F.start h.rows
  rw [hm] at hfew ⊢
  clear h hm
  go_enter Tryz.func62, Tryz.ntmps62
  go_wp2_with fail
  go_loopw [3, 4] (fun v3 _ wr => ∃ i : Nat, v3 = .int .i64 (i : Nat) ∧ i ≤ m ∧ Hid (Ph1F wr base vs xss i 0 ∧ Kept (blocksOfF vs) w wr)) (fun v3 _ _ => m - (intOf v3).toNat)
  case atStart => exact ⟨0, rfl, Nat.zero_le _, HP.out, Kept.refl _ w⟩
  case round =>
    obtain ⟨i, rfl, hi, HR⟩ := hrel
    rename World => w2
    by_cases hlt : i < m
    · have hli : (i : Int) < (m : Int) := by omega
      have hz : (0 : Int) ≤ (i : Int) := by omega
      have hiv : i < vs.length := by rw [HM.out.1]; exact hlt
      have hix : i < xss.length := by rw [HM.out.2]; exact hlt
      obtain ⟨v, hv⟩ : ∃ v, vs[i]? = some v := ⟨_, List.getElem?_eq_getElem hiv⟩
      obtain ⟨xs, hxs⟩ : ∃ xs, xss[i]? = some xs := ⟨_, List.getElem?_eq_getElem hix⟩
      have hsh : xs.length ≤ 1000000000 := HI.out.short xs (List.mem_of_getElem? hxs)
      have hrow0 := HR.out.1.row hv hxs (Nat.zero_le _)
      obtain ⟨vad, vc, rfl⟩ := own_formF hrow0
      obtain ⟨L, c, hLc, _, _⟩ := owns_cellF (HI.out.held HR.out.2) hv
      obtain ⟨hlad, hlc⟩ : lad = some ⟨L, 0, none⟩ ∧ lc = c := by simpa using hLc
      subst hlad hlc
      have HC : Hid (∀ W, Kept (blocksOfF vs) w W → W.cell? ⟨L, i, none⟩ = some (.slice vad xs.length vc)) := fun W k => by
        obtain ⟨L', c', e, _, hc⟩ := owns_cellF (HI.out.held k) hv
        cases e
        exact hc
      have HV : Hid (vs[i]? = some (.slice vad xs.length vc) ∧ xss[i]? = some xs) := ⟨hv, hxs⟩
      have c0 := HC.out w2 HR.out.2
      clear hrow0 hLc hv hxs hiv hix
      go_wp2_with fail
      clear c0
      go_loopw [4] (fun v4 wr => ∃ k : Nat, v4 = .int .i64 (k : Nat) ∧ k ≤ xs.length ∧ Hid (Ph1F wr base vs xss i k ∧ Kept (blocksOfF vs) w wr)) (fun v4 _ => xs.length - (intOf v4).toNat)
      case atStart => exact ⟨0, rfl, Nat.zero_le _, HR.out⟩
      case round =>
        obtain ⟨k, rfl, hk, HQ⟩ := hrel
        rename World => w3
        have c0 := HC.out w3 HQ.out.2
        by_cases hkl : k < xs.length
        · have hki : (k : Int) < (xs.length : Int) := by omega
          have hkz : (0 : Int) ≤ (k : Int) := by omega
          have hrow := HQ.out.1.row HV.out.1 HV.out.2 (by omega)
          obtain ⟨g, cap, e, _, _⟩ := hrow.form (by omega)
          obtain ⟨hvad, hvc⟩ : vad = some ⟨g, 0, none⟩ ∧ vc = cap := by simpa using e
          subst hvad hvc
          have f0 := owns_freeF hrow k
          obtain ⟨x0, hx0⟩ : ∃ x0, (m1F i k ++ xs.drop k)[k]? = some x0 := ⟨_, List.getElem?_eq_getElem (by rw [List.length_append, m1_lenF, List.length_drop]; omega)⟩
          have HX0 : Hid (x0 = x0) := rfl
          have HC1 : Hid (∀ W5, Kept [] w3 W5 → (∃ v0 v1 v2, W5.cell? ⟨g, k * 3, none⟩ = some v0 ∧ W5.cell? ⟨g, k * 3 + 1, none⟩ = some v1 ∧ W5.cell? ⟨g, k * 3 + 2, none⟩ = some v2) ∧ ∀ j, W5.frozen? ⟨g, j, none⟩ = false) := fun W5 k5 => by
            have hr5 := owns_keptFF hrow k5 (by simp)
            obtain ⟨y0, y1, y2⟩ := owns_atF hr5 hx0
            exact ⟨⟨_, _, _, y0, y1, y2⟩, fun j => owns_freeF hr5 j⟩
          have HN : Hid (∀ W5, Kept [] w3 W5 → Ph1F (((W5.setCell ⟨g, k * 3, none⟩ (.int .u8 0)).setCell ⟨g, k * 3 + 1, none⟩ (.string (markS i k))).setCell ⟨g, k * 3 + 2, none⟩ (.slice none 0 0)) base vs xss i (k + 1) ∧ Kept (blocksOfF vs) w (((W5.setCell ⟨g, k * 3, none⟩ (.int .u8 0)).setCell ⟨g, k * 3 + 1, none⟩ (.string (markS i k))).setCell ⟨g, k * 3 + 2, none⟩ (.slice none 0 0))) := fun W5 k5 => ⟨(HQ.out.1.kept k5).write HV.out.1 HV.out.2 hkl, set3_kept (HQ.out.2.trans k5 (fun _ h => h) (by simp)) (.inl (mem_blocksF (g := g) HV.out.1 rfl)) k (mark1F i k)⟩
          have HMB : Hid (g ∈ blocksOfF vs) := mem_blocksF (g := g) HV.out.1 rfl
          have HMK : Hid (∀ W, Calls Tryz.prog 88 #[.int .i64 (i : Nat), .int .i64 (k : Nat)] W fun e w' => e = .returned (.string (markS i k)) ∧ Kept [] W w') := fun W => mark_any i k W (by omega) (by omega)
          obtain ⟨ms, hms⟩ : ∃ ms, markS i k = ms := ⟨_, rfl⟩
          rw [hms] at HN HMK
          clear hrow e hx0 hms f0
          go_wp2_with fail
          go_region_held3 (fun w' => w'.cell? ⟨L, i, none⟩ = some (.slice (some ⟨g, 0, none⟩) xs.length vc))
            ((refine HC.out _ ?_; (repeat (first | with_reducible exact HK5.out | with_reducible exact HQ.out.2 | with_reducible refine Kept.drew ?_ | with_reducible refine Kept.setCell ?_ (Or.inl HMB.out) _))))
            ((go_at_call 88; refine (HMK.out _).mono ?_; rintro e W5 ⟨rfl, k5⟩; obtain ⟨⟨v0, v1, v2, d0, d1, d2⟩, df⟩ := HC1.out W5 ((Kept.refl [] w3).drew.trans k5 (by simp) (by simp)); have HN5 : Hid (Kept [] w3 W5) := (Kept.refl [] w3).drew.trans k5 (by simp) (by simp); have HK5 : Hid (Kept (blocksOfF vs) w W5) := HQ.out.2.trans HN5.out (fun _ h => h) (by simp); clear k5))
          all_goals go_wp2
          all_goals go_roundw
          case rel => exact ⟨k + 1, by go_num, by omega, HN.out W5 HN5.out⟩
          case measure => simp [intOf]; omega
        · obtain rfl : k = xs.length := by omega
          have hki : ¬ ((xs.length : Int) < (xs.length : Int)) := by omega
          have HN : Hid (Ph1F w3 base vs xss (i + 1) 0 ∧ Kept (blocksOfF vs) w w3) := ⟨HQ.out.1.next HV.out.2, HQ.out.2⟩
          clear hkl hk
          go_wp2
          go_roundw
          case rel => exact ⟨i + 1, by go_num, by omega, HN.out⟩
          case measure => simp [intOf]; omega
    · obtain rfl : i = m := by omega
      have hli : ¬ ((i : Int) < (i : Int)) := by omega
      obtain ⟨H, hH⟩ : ∃ H, w2.heap.size = H := ⟨_, rfl⟩
      have HG0 : Hid (GrF w w2 base H vs xss 0 0 vs (.slice none 0 0)) := by
        have h1 := HR.out.1
        have h2 := Ph2F.start (by rw [HM.out.2]; exact h1) (HM.out.1.trans HM.out.2.symm)
        have hs := HR.out.2.size
        have hb := HI.out.low
        rw [hH] at h2 hs
        exact ⟨h2, World.ownsRow_nil _ _ _ _, HR.out.2, by omega, hs, by omega⟩
      clear hlt hi hH HP HR
      go_wp2_with fail
      go_loopw [5, 6, 7, 8] (fun v5 v6 _ _ wr => ∃ (p : Nat) (us : List Value) (ad5 : Option Addr) (c5 : Nat), v5 = .slice ad5 p c5 ∧ v6 = .int .i64 (p : Nat) ∧ p ≤ i ∧ Hid (GrF w wr base H vs xss p 0 us (.slice ad5 p c5))) (fun _ v6 _ _ _ => i - (intOf v6).toNat)
      case atStart => exact ⟨0, vs, none, 0, rfl, rfl, Nat.zero_le _, HG0.out⟩
      case round =>
        obtain ⟨p, us, ad5, c5, rfl, rfl, hp, HG⟩ := hrel
        rename World => w4
        by_cases hlt : p < i
        · have hli2 : (p : Int) < (i : Int) := by omega
          have hz : (0 : Int) ≤ (p : Int) := by omega
          have hiv : p < vs.length := by rw [HM.out.1]; exact hlt
          have hix : p < xss.length := by rw [HM.out.2]; exact hlt
          obtain ⟨v, hv⟩ : ∃ v, vs[p]? = some v := ⟨_, List.getElem?_eq_getElem hiv⟩
          obtain ⟨xs, hxs⟩ : ∃ xs, xss[p]? = some xs := ⟨_, List.getElem?_eq_getElem hix⟩
          have hsh : xs.length ≤ 1000000000 := HI.out.short xs (List.mem_of_getElem? hxs)
          have hus : us[p]? = some v := (HG.out.ph.rest p (.inr ⟨rfl, rfl⟩)).trans hv
          obtain ⟨vad, vc, rfl⟩ := own_formF (HG.out.ph.rowAt hus hxs)
          obtain ⟨L, c, hLc, _, c0⟩ := owns_cellF (HI.out.held HG.out.kept) hv
          obtain ⟨hlad, hlc⟩ : lad = some ⟨L, 0, none⟩ ∧ lc = c := by simpa [HM.out.1] using hLc
          subst hlad hlc
          have HX : Hid (xss[p]? = some xs) := hxs
          have HU0 : Hid (us[p]? = some (.slice vad (xs.length + 0) vc)) := hus
          clear hLc hv hxs hiv hix hus
          rw [Nat.add_zero] at c0
          go_wp2_with fail
          clear c0
          go_loopw [7, 8] (fun v7 v8 wr => ∃ (k : Nat) (ts : List Value) (ad7 : Option Addr) (n7 c7 : Nat), v7 = .slice ad7 n7 c7 ∧ v8 = .int .i64 (k : Nat) ∧ k ≤ 16 ∧ Hid (n7 = xs.length + k ∧ GrF w wr base H vs xss p k ts (.slice ad5 p c5) ∧ ts[p]? = some (.slice ad7 n7 c7))) (fun _ v8 _ => 16 - (intOf v8).toNat)
          case atStart => exact ⟨0, us, vad, xs.length, vc, rfl, rfl, by omega, rfl, HG.out, HU0.out⟩
          case round =>
            obtain ⟨k, ts, ad7, n7, c7, rfl, rfl, hk, HQ⟩ := hrel
            rename World => w5
            by_cases hkl : k < 16
            · have hki : (k : Int) < 16 := by omega
              obtain ⟨n8, hn8⟩ : ∃ n8, xs.length + (k + 1) = n8 := ⟨_, rfl⟩
              have HLT : Hid (∀ W5, Kept [] w5 W5 → ∃ g cap w', (∀ ty, (Builtin.append_ #[23, 23] ty #[.slice ad7 n7 c7, .slice (some ⟨W5.heap.size, 0, none⟩) 1 1]).run Tryz.prog (W5.alloc (.cells #[.int .u8 0, .string (markN p k), .slice none 0 0] 25)) = .ok (.slice (some ⟨g, 0, none⟩) n8 cap) w') ∧ n8 = xs.length + (k + 1) ∧ GrF w w' base H vs xss p (k + 1) (ts.set p (.slice (some ⟨g, 0, none⟩) n8 cap)) (.slice ad5 p c5) ∧ (ts.set p (.slice (some ⟨g, 0, none⟩) n8 cap))[p]? = some (.slice (some ⟨g, 0, none⟩) n8 cap)) := fun W5 k5 => by
                obtain ⟨g, cap, w', hrun, hgr, hget⟩ := (HQ.out.2.1.quiet k5).letter HX.out HQ.out.2.2 hsh hkl
                rw [hn8] at hrun hgr hget
                exact ⟨g, cap, w', hrun, hn8.symm, hgr, hget⟩
              have HMK : Hid (∀ W, Calls Tryz.prog 88 #[.int .i64 (-1 - (p : Int)), .int .i64 (k : Nat)] W fun e w' => e = .returned (.string (markN p k)) ∧ Kept [] W w') := fun W => markN_any p k W (by omega) (by omega)
              have w1 : IntKind.i64.wrap (-1 - (p : Int)) = -1 - (p : Int) := by rw [IntKind.wrap_i64]; omega
              obtain ⟨ms, hms⟩ : ∃ ms, markN p k = ms := ⟨_, rfl⟩
              rw [hms] at HLT HMK
              clear hn8 hms
              go_wp2_with (first
                | (go_at_call 88; refine (HMK.out w5).mono ?_; rintro e W5 ⟨rfl, k5⟩; obtain ⟨g, cap, w', hrun, hn9, hgr, hget⟩ := HLT.out W5 k5; have HRUN : Hid (∀ ty, (Builtin.append_ #[23, 23] ty #[.slice ad7 n7 c7, .slice (some ⟨W5.heap.size, 0, none⟩) 1 1]).run Tryz.prog (W5.alloc (.cells #[.int .u8 0, .string ms, .slice none 0 0] 25)) = .ok (.slice (some ⟨g, 0, none⟩) n8 cap) w') := hrun; have HN : Hid (n8 = xs.length + (k + 1) ∧ GrF w w' base H vs xss p (k + 1) (ts.set p (.slice (some ⟨g, 0, none⟩) n8 cap)) (.slice ad5 p c5) ∧ (ts.set p (.slice (some ⟨g, 0, none⟩) n8 cap))[p]? = some (.slice (some ⟨g, 0, none⟩) n8 cap)) := ⟨hn9, hgr, hget⟩; clear k5 hrun hn9 hgr hget)
                | (at_builtin; refine Lib.wpList_append_run _ rfl _ _ _ _ rfl _ _ rfl rfl _ _ (HRUN.out _) ?_))
              go_roundw
              case rel => exact ⟨k + 1, _, _, _, _, rfl, by go_num, by omega, HN.out⟩
              case measure => simp [intOf]; omega
            · obtain rfl : k = 16 := by omega
              obtain ⟨g, cap, w', hrun, hgr⟩ := HQ.out.2.1.list HQ.out.2.2 HI.out.few
              obtain ⟨p1, hp1⟩ : ∃ p1, p + 1 = p1 := ⟨_, rfl⟩
              rw [hp1] at hrun hgr
              have HRUN : Hid (∀ ty, (Builtin.append_ #[45, 45] ty #[.slice ad5 p c5, .slice (some ⟨w5.heap.size, 0, none⟩) 1 1]).run Tryz.prog (w5.alloc (.cells #[.slice ad7 n7 c7] 23)) = .ok (.slice (some ⟨g, 0, none⟩) p1 cap) w') := hrun
              have HN : Hid (GrF w w' base H vs xss p1 0 ts (.slice (some ⟨g, 0, none⟩) p1 cap)) := hgr
              have HP1 : Hid (p + 1 = p1) := hp1
              have hpi : IntKind.i64.wrap ((p : Int) + 1) = (p1 : Int) := by rw [IntKind.wrap_i64]; omega
              clear hrun hgr hp1 hkl hk HQ
              go_wp2_with (at_builtin; refine Lib.wpList_append_run _ rfl _ _ _ _ rfl _ _ rfl rfl _ _ (HRUN.out _) ?_)
              go_roundw
              case rel => exact ⟨p1, ts, _, _, rfl, by have := HP1.out; go_num, by have := HP1.out; omega, HN.out⟩
              case measure => have := HP1.out; simp [intOf]; omega
        · obtain rfl : p = i := by omega
          have hli2 : ¬ ((p : Int) < (p : Int)) := by omega
          clear hlt hp HG0
          go_wp2_with fail
          go_loopw [9, 10, 11, 12] (fun v9 _ _ _ wr => ∃ q : Nat, v9 = .int .i64 (q : Nat) ∧ q ≤ p ∧ Hid (Kept [] w4 wr)) (fun v9 _ _ _ _ => p - (intOf v9).toNat)
          case atStart => exact ⟨0, rfl, Nat.zero_le _, Kept.refl [] w4⟩
          case round =>
            obtain ⟨q, rfl, hq, HK⟩ := hrel
            rename World => w6
            by_cases hlt : q < p
            · have hlq : (q : Int) < (p : Int) := by omega
              have hz : (0 : Int) ≤ (q : Int) := by omega
              have hiv : q < vs.length := by rw [HM.out.1]; exact hlt
              have hix : q < xss.length := by rw [HM.out.2]; exact hlt
              have hiu : q < us.length := by rw [HG.out.ph.len]; exact hiv
              obtain ⟨v, hv⟩ : ∃ v, vs[q]? = some v := ⟨_, List.getElem?_eq_getElem hiv⟩
              obtain ⟨xs, hxs⟩ : ∃ xs, xss[q]? = some xs := ⟨_, List.getElem?_eq_getElem hix⟩
              obtain ⟨u, hu⟩ : ∃ u, us[q]? = some u := ⟨_, List.getElem?_eq_getElem hiu⟩
              have hsh : xs.length ≤ 1000000000 := HI.out.short xs (List.mem_of_getElem? hxs)
              obtain ⟨vad, vc, rfl⟩ := own_formF (HI.out.rows.row q v xs hv hxs)
              obtain ⟨L, c, hLc, _, hl0⟩ := owns_cellF (HI.out.held HG.out.kept) hv
              obtain ⟨hlad, hlc⟩ : lad = some ⟨L, 0, none⟩ ∧ lc = c := by simpa [HM.out.1] using hLc
              subst hlad hlc
              have hwh := HG.out.ph.whole hlt hu hxs
              obtain ⟨hb, hcap, rfl, _, _⟩ := hwh.form (by omega)
              obtain ⟨Lg, cg, hLg, _, hg0⟩ := owns_cellF HG.out.long (show (us.take p)[q]? = _ from (by rw [List.getElem?_take, if_pos hlt]; exact hu))
              obtain ⟨had5, hc5⟩ : ad5 = some ⟨Lg, 0, none⟩ ∧ c5 = cg := by simpa using hLg
              subst had5 hc5
              have HA : Hid (∀ W, Kept [] w4 W → W.cell? ⟨L, q, none⟩ = some (.slice vad xs.length vc) ∧ W.cell? ⟨Lg, q, none⟩ = some (.slice (some ⟨hb, 0, none⟩) (xs.length + 16) hcap)) := fun W k => ⟨cell_kept0 k hl0, cell_kept0 k hg0⟩
              have HF : Hid (∀ W, Kept [] w4 W → ∀ g, vad = some ⟨g, 0, none⟩ → ∀ k, k < xs.length → W.cell? ⟨g, k * 3 + 1, none⟩ = some (.string (markS q k))) := fun W kk g e k hk => cell_kept0 kk (HG.out.ph.first q xs _ g hxs hv (by rw [e]; rfl) k hk)
              have HV : Hid (∀ k, k < xs.length → ∃ g, vad = some ⟨g, 0, none⟩) := fun k hk => by
                obtain ⟨g, cap, e, _, _⟩ := (HI.out.rows.row q _ xs hv hxs).form (by omega)
                exact ⟨g, by simpa using congrArg (fun v => match v with | .slice a _ _ => a | _ => none) e⟩
              have H1 : Hid (∀ W, Kept [] w4 W → ∀ k, k < xs.length → W.cell? ⟨hb, k * 3 + 1, none⟩ = some (.string (markS q k))) := fun W kk k hk => cell_kept0 kk ((owns_atF (l := k) (x := mark1F q k) hwh (by rw [List.getElem?_append_left (by rw [m1_lenF]; exact hk)]; exact m1_atF hk)).2.1)
              have H2 : Hid (∀ W, Kept [] w4 W → ∀ k, k < 16 → W.cell? ⟨hb, (xs.length + k) * 3 + 1, none⟩ = some (.string (markN q k))) := fun W kk k hk => cell_kept0 kk ((owns_atF (l := xs.length + k) (x := mark2F q k) hwh (by rw [List.getElem?_append_right (by rw [m1_lenF]; omega), m1_lenF, show xs.length + k - xs.length = k by omega]; exact m2_atF hk)).2.1)
              obtain ⟨n16, hn16⟩ : ∃ n16, xs.length + 16 = n16 := ⟨_, rfl⟩
              rw [hn16] at HA
              have HN16 : Hid (xs.length + 16 = n16) := hn16
              obtain ⟨c0, d0⟩ := HA.out w6 HK.out
              clear hLc hLg hl0 hg0 hv hxs hu hwh hiv hix hiu hn16
              go_wp2_with fail
              clear c0 d0
              go_loopw [11] (fun v11 wr => ∃ k : Nat, v11 = .int .i64 (k : Nat) ∧ k ≤ xs.length ∧ Hid (Kept [] w4 wr)) (fun v11 _ => xs.length - (intOf v11).toNat)
              case atStart => exact ⟨0, rfl, Nat.zero_le _, HK.out⟩
              case round =>
                obtain ⟨k, rfl, hk, HKk⟩ := hrel
                rename World => w7
                obtain ⟨c0, d0⟩ := HA.out w7 HKk.out
                by_cases hkl : k < xs.length
                · have hki : (k : Int) < (xs.length : Int) := by omega
                  have hkz : (0 : Int) ≤ (k : Int) := by omega
                  have hkn : (k : Int) < (n16 : Int) := by have := HN16.out; omega
                  obtain ⟨g, rfl⟩ := HV.out k hkl
                  have c1 := HF.out w7 HKk.out g rfl k hkl
                  have c2 := H1.out w7 HKk.out k hkl
                  have HMK : Hid (∀ W, Calls Tryz.prog 88 #[.int .i64 (q : Nat), .int .i64 (k : Nat)] W fun e w' => e = .returned (.string (markS q k)) ∧ Kept [] W w') := fun W => mark_any q k W (by omega) (by omega)
                  obtain ⟨x, hx⟩ : ∃ x, markS q k = x := ⟨_, rfl⟩
                  rw [hx] at c1 c2 HMK
                  have HS : Hid (∀ W, Kept [] w7 W → W.cell? ⟨L, q, none⟩ = some (.slice (some ⟨g, 0, none⟩) xs.length vc) ∧ W.cell? ⟨Lg, q, none⟩ = some (.slice (some ⟨hb, 0, none⟩) n16 hcap) ∧ W.cell? ⟨g, k * 3 + 1, none⟩ = some (.string x) ∧ W.cell? ⟨hb, k * 3 + 1, none⟩ = some (.string x)) := fun W kk => ⟨cell_kept0 kk c0, cell_kept0 kk d0, cell_kept0 kk c1, cell_kept0 kk c2⟩
                  have HK7 : Hid (Kept [] w7 w7) := Kept.refl [] w7
                  have heq : (x.toList == x.toList) = true := by simp
                  have hfld := nameF (.int .u8 0) (.slice none 0 0) x
                  clear hx
                  go_wp2_with fail
                  go_region_held3 (fun w' => w'.cell? ⟨L, q, none⟩ = some (.slice (some ⟨g, 0, none⟩) xs.length vc) ∧ w'.cell? ⟨Lg, q, none⟩ = some (.slice (some ⟨hb, 0, none⟩) n16 hcap) ∧ w'.cell? ⟨g, k * 3 + 1, none⟩ = some (.string x) ∧ w'.cell? ⟨hb, k * 3 + 1, none⟩ = some (.string x))
                    ((refine HS.out _ ?_; (repeat (first | with_reducible exact HK7.out | with_reducible refine Kept.drew ?_))))
                    ((go_at_call 88; refine (HMK.out _).mono ?_; rintro e W5 ⟨rfl, k5⟩; have HKn : Hid (Kept [] w7 W5) := (by first | exact HK7.out.drew.trans k5 (by simp) (by simp) | exact HK7.out.trans k5 (by simp) (by simp)); clear HK7 k5; have HK7 : Hid (Kept [] w7 W5) := HKn.out; clear HKn))
                  all_goals go_wp2
                  all_goals go_roundw
                  case rel => exact ⟨k + 1, by go_num, by omega, HKk.out.trans HK7.out (by simp) (by simp)⟩
                  case measure => simp [intOf]; omega
                · obtain rfl : k = xs.length := by omega
                  have hki : ¬ ((xs.length : Int) < (xs.length : Int)) := by omega
                  clear hkl hk c0 d0
                  go_wp2_with fail
                  go_loopw [12] (fun v12 wr => ∃ k : Nat, v12 = .int .i64 (k : Nat) ∧ k ≤ 16 ∧ Hid (Kept [] w4 wr)) (fun v12 _ => 16 - (intOf v12).toNat)
                  case atStart => exact ⟨0, rfl, Nat.zero_le _, HKk.out⟩
                  case round =>
                    obtain ⟨k, rfl, hk, HKj⟩ := hrel
                    rename World => w8
                    obtain ⟨c0, d0⟩ := HA.out w8 HKj.out
                    by_cases hkl : k < 16
                    · have hkj : (k : Int) < 16 := by omega
                      have c2 := H2.out w8 HKj.out k hkl
                      obtain ⟨nk, hnk⟩ : ∃ nk, xs.length + k = nk := ⟨_, rfl⟩
                      rw [hnk] at c2
                      have w0 : IntKind.i64.wrap ((xs.length : Int) + (k : Int)) = (nk : Int) := by rw [IntKind.wrap_i64]; omega
                      have hkz : (0 : Int) ≤ (nk : Int) := by omega
                      have hkn : (nk : Int) < (n16 : Int) := by have := HN16.out; omega
                      have w1 : IntKind.i64.wrap (-1 - (q : Int)) = -1 - (q : Int) := by rw [IntKind.wrap_i64]; omega
                      have HMK : Hid (∀ W, Calls Tryz.prog 88 #[.int .i64 (-1 - (q : Int)), .int .i64 (k : Nat)] W fun e w' => e = .returned (.string (markN q k)) ∧ Kept [] W w') := fun W => markN_any q k W (by omega) (by omega)
                      obtain ⟨x, hx⟩ : ∃ x, markN q k = x := ⟨_, rfl⟩
                      rw [hx] at c2 HMK
                      have HS : Hid (∀ W, Kept [] w8 W → W.cell? ⟨Lg, q, none⟩ = some (.slice (some ⟨hb, 0, none⟩) n16 hcap) ∧ W.cell? ⟨hb, nk * 3 + 1, none⟩ = some (.string x)) := fun W kk => ⟨cell_kept0 kk d0, cell_kept0 kk c2⟩
                      have HK7 : Hid (Kept [] w8 w8) := Kept.refl [] w8
                      have heq : (x.toList == x.toList) = true := by simp
                      have hfld := nameF (.int .u8 0) (.slice none 0 0) x
                      clear hx hnk
                      go_wp2_with fail
                      go_region_held3 (fun w' => w'.cell? ⟨Lg, q, none⟩ = some (.slice (some ⟨hb, 0, none⟩) n16 hcap) ∧ w'.cell? ⟨hb, nk * 3 + 1, none⟩ = some (.string x))
                        ((refine HS.out _ ?_; (repeat (first | with_reducible exact HK7.out | with_reducible refine Kept.drew ?_))))
                        ((go_at_call 88; refine (HMK.out _).mono ?_; rintro e W5 ⟨rfl, k5⟩; have HKn : Hid (Kept [] w8 W5) := (by first | exact HK7.out.drew.trans k5 (by simp) (by simp) | exact HK7.out.trans k5 (by simp) (by simp)); clear HK7 k5; have HK7 : Hid (Kept [] w8 W5) := HKn.out; clear HKn))
                      all_goals go_wp2
                      all_goals go_roundw
                      case rel => exact ⟨k + 1, by go_num, by omega, HKj.out.trans HK7.out (by simp) (by simp)⟩
                      case measure => simp [intOf]; omega
                    · obtain rfl : k = 16 := by omega
                      clear hkl hk
                      go_wp2
                      go_roundw
                      case rel => exact ⟨q + 1, by go_num, by omega, HKj.out⟩
                      case measure => simp [intOf]; omega
            · obtain rfl : q = p := by omega
              have hlq : ¬ ((q : Int) < (q : Int)) := by omega
              clear hlt hq
              go_wp2
              go_ret
              exact ⟨rfl, HG.out.kept.trans HK.out (fun _ h => h) (by simp)⟩
end Go.Proofs.YtnjajafmmociiaaGreatDoor

/- Own of no list at all (but formulas). -/
namespace Go.Proofs.YtnjajafmmociiaaGreatDoor
open Go.RowKit Go.Shelf
attribute [local go_sem ↓] Go.wp_at_zero Go.wp_at_succ

set_option maxHeartbeats 1000000 in
set_option maxRecDepth 10000 in
theorem ownBytes_nilF (w : World) : Calls Tryz.prog 50 #[.slice none 0 0] w fun e w' => e = .returned (.bool true) ∧ Kept [] w w' := by
  go_enter Tryz.func50, Tryz.ntmps50
  go_wp2_with fail
  go_loopw [3] (fun v wr => v = .int .i64 0 ∧ Hid (Kept [] w wr)) (fun _ _ => 0)
  case atStart => exact ⟨rfl, Kept.refl [] w⟩
  case round =>
    obtain ⟨rfl, HK3⟩ := hrel
    rename World => w3
    go_wp2_with fail
    go_loopw [6] (fun v wr => v = .int .i64 0 ∧ Hid (Kept [] w wr)) (fun _ _ => 0)
    case atStart => exact ⟨rfl, HK3.out⟩
    case round =>
      obtain ⟨rfl, HK6⟩ := hrel
      rename World => w6
      go_wp2_with fail
      go_loopw [9] (fun v wr => v = .int .i64 0 ∧ Hid (Kept [] w wr)) (fun _ _ => 0)
      case atStart => exact ⟨rfl, HK6.out⟩
      case round =>
        obtain ⟨rfl, HK9⟩ := hrel
        rename World => w9
        go_wp2
        go_ret
        exact ⟨rfl, HK9.out⟩
set_option maxHeartbeats 1000000 in
set_option maxRecDepth 10000 in
theorem ownTexts_nilF (w : World) : Calls Tryz.prog 51 #[.slice none 0 0] w fun e w' => e = .returned (.bool true) ∧ Kept [] w w' := by
  go_enter Tryz.func51, Tryz.ntmps51
  go_wp2_with fail
  go_loopw [3] (fun v wr => v = .int .i64 0 ∧ Hid (Kept [] w wr)) (fun _ _ => 0)
  case atStart => exact ⟨rfl, Kept.refl [] w⟩
  case round =>
    obtain ⟨rfl, HK3⟩ := hrel
    rename World => w3
    go_wp2_with fail
    go_loopw [6] (fun v wr => v = .int .i64 0 ∧ Hid (Kept [] w wr)) (fun _ _ => 0)
    case atStart => exact ⟨rfl, HK3.out⟩
    case round =>
      obtain ⟨rfl, HK6⟩ := hrel
      rename World => w6
      go_wp2_with fail
      go_loopw [9] (fun v wr => v = .int .i64 0 ∧ Hid (Kept [] w wr)) (fun _ _ => 0)
      case atStart => exact ⟨rfl, HK6.out⟩
      case round =>
        obtain ⟨rfl, HK9⟩ := hrel
        rename World => w9
        go_wp2
        go_ret
        exact ⟨rfl, HK9.out⟩
set_option maxHeartbeats 1000000 in
set_option maxRecDepth 10000 in
theorem ownInts_nilF (w : World) : Calls Tryz.prog 52 #[.slice none 0 0] w fun e w' => e = .returned (.bool true) ∧ Kept [] w w' := by
  go_enter Tryz.func52, Tryz.ntmps52
  go_wp2_with fail
  go_loopw [3] (fun v wr => v = .int .i64 0 ∧ Hid (Kept [] w wr)) (fun _ _ => 0)
  case atStart => exact ⟨rfl, Kept.refl [] w⟩
  case round =>
    obtain ⟨rfl, HK3⟩ := hrel
    rename World => w3
    go_wp2_with fail
    go_loopw [6] (fun v wr => v = .int .i64 0 ∧ Hid (Kept [] w wr)) (fun _ _ => 0)
    case atStart => exact ⟨rfl, HK3.out⟩
    case round =>
      obtain ⟨rfl, HK6⟩ := hrel
      rename World => w6
      go_wp2_with fail
      go_loopw [9] (fun v wr => v = .int .i64 0 ∧ Hid (Kept [] w wr)) (fun _ _ => 0)
      case atStart => exact ⟨rfl, HK6.out⟩
      case round =>
        obtain ⟨rfl, HK9⟩ := hrel
        rename World => w9
        go_wp2
        go_ret
        exact ⟨rfl, HK9.out⟩
set_option maxHeartbeats 1000000 in
set_option maxRecDepth 10000 in
theorem ownEdges_nilF (w : World) : Calls Tryz.prog 55 #[.slice none 0 0] w fun e w' => e = .returned (.bool true) ∧ Kept [] w w' := by
  go_enter Tryz.func55, Tryz.ntmps55
  go_wp2_with fail
  go_loopw [3] (fun v wr => v = .int .i64 0 ∧ Hid (Kept [] w wr)) (fun _ _ => 0)
  case atStart => exact ⟨rfl, Kept.refl [] w⟩
  case round =>
    obtain ⟨rfl, HK3⟩ := hrel
    rename World => w3
    go_wp2_with fail
    go_loopw [6] (fun v wr => v = .int .i64 0 ∧ Hid (Kept [] w wr)) (fun _ _ => 0)
    case atStart => exact ⟨rfl, HK3.out⟩
    case round =>
      obtain ⟨rfl, HK6⟩ := hrel
      rename World => w6
      go_wp2_with fail
      go_loopw [9] (fun v wr => v = .int .i64 0 ∧ Hid (Kept [] w wr)) (fun _ _ => 0)
      case atStart => exact ⟨rfl, HK6.out⟩
      case round =>
        obtain ⟨rfl, HK9⟩ := hrel
        rename World => w9
        go_wp2
        go_ret
        exact ⟨rfl, HK9.out⟩
set_option maxHeartbeats 1000000 in
set_option maxRecDepth 10000 in
theorem ownTokens_nilF (w : World) : Calls Tryz.prog 56 #[.slice none 0 0] w fun e w' => e = .returned (.bool true) ∧ Kept [] w w' := by
  go_enter Tryz.func56, Tryz.ntmps56
  go_wp2_with fail
  go_loopw [3] (fun v wr => v = .int .i64 0 ∧ Hid (Kept [] w wr)) (fun _ _ => 0)
  case atStart => exact ⟨rfl, Kept.refl [] w⟩
  case round =>
    obtain ⟨rfl, HK3⟩ := hrel
    rename World => w3
    go_wp2_with fail
    go_loopw [6] (fun v wr => v = .int .i64 0 ∧ Hid (Kept [] w wr)) (fun _ _ => 0)
    case atStart => exact ⟨rfl, HK3.out⟩
    case round =>
      obtain ⟨rfl, HK6⟩ := hrel
      rename World => w6
      go_wp2_with fail
      go_loopw [9] (fun v wr => v = .int .i64 0 ∧ Hid (Kept [] w wr)) (fun _ _ => 0)
      case atStart => exact ⟨rfl, HK6.out⟩
      case round =>
        obtain ⟨rfl, HK9⟩ := hrel
        rename World => w9
        go_wp2
        go_ret
        exact ⟨rfl, HK9.out⟩
set_option maxHeartbeats 1000000 in
set_option maxRecDepth 10000 in
theorem ownVerdicts_nilF (w : World) : Calls Tryz.prog 57 #[.slice none 0 0] w fun e w' => e = .returned (.bool true) ∧ Kept [] w w' := by
  go_enter Tryz.func57, Tryz.ntmps57
  go_wp2_with fail
  go_loopw [3] (fun v wr => v = .int .i64 0 ∧ Hid (Kept [] w wr)) (fun _ _ => 0)
  case atStart => exact ⟨rfl, Kept.refl [] w⟩
  case round =>
    obtain ⟨rfl, HK3⟩ := hrel
    rename World => w3
    go_wp2_with fail
    go_loopw [6] (fun v wr => v = .int .i64 0 ∧ Hid (Kept [] w wr)) (fun _ _ => 0)
    case atStart => exact ⟨rfl, HK3.out⟩
    case round =>
      obtain ⟨rfl, HK6⟩ := hrel
      rename World => w6
      go_wp2_with fail
      go_loopw [9] (fun v wr => v = .int .i64 0 ∧ Hid (Kept [] w wr)) (fun _ _ => 0)
      case atStart => exact ⟨rfl, HK6.out⟩
      case round =>
        obtain ⟨rfl, HK9⟩ := hrel
        rename World => w9
        go_wp2
        go_ret
        exact ⟨rfl, HK9.out⟩
set_option maxHeartbeats 1000000 in
set_option maxRecDepth 10000 in
theorem ownAlarms_nilF (w : World) : Calls Tryz.prog 58 #[.slice none 0 0] w fun e w' => e = .returned (.bool true) ∧ Kept [] w w' := by
  go_enter Tryz.func58, Tryz.ntmps58
  go_wp2_with fail
  go_loopw [3] (fun v wr => v = .int .i64 0 ∧ Hid (Kept [] w wr)) (fun _ _ => 0)
  case atStart => exact ⟨rfl, Kept.refl [] w⟩
  case round =>
    obtain ⟨rfl, HK3⟩ := hrel
    rename World => w3
    go_wp2_with fail
    go_loopw [6] (fun v wr => v = .int .i64 0 ∧ Hid (Kept [] w wr)) (fun _ _ => 0)
    case atStart => exact ⟨rfl, HK3.out⟩
    case round =>
      obtain ⟨rfl, HK6⟩ := hrel
      rename World => w6
      go_wp2_with fail
      go_loopw [9] (fun v wr => v = .int .i64 0 ∧ Hid (Kept [] w wr)) (fun _ _ => 0)
      case atStart => exact ⟨rfl, HK6.out⟩
      case round =>
        obtain ⟨rfl, HK9⟩ := hrel
        rename World => w9
        go_wp2
        go_ret
        exact ⟨rfl, HK9.out⟩
set_option maxHeartbeats 1000000 in
set_option maxRecDepth 10000 in
theorem ownSlices_nilF (w : World) : Calls Tryz.prog 59 #[.slice none 0 0] w fun e w' => e = .returned (.bool true) ∧ Kept [] w w' := by
  go_enter Tryz.func59, Tryz.ntmps59
  go_wp2_with fail
  go_loopw [3] (fun v wr => v = .int .i64 0 ∧ Hid (Kept [] w wr)) (fun _ _ => 0)
  case atStart => exact ⟨rfl, Kept.refl [] w⟩
  case round =>
    obtain ⟨rfl, HK3⟩ := hrel
    rename World => w3
    go_wp2_with fail
    go_loopw [6] (fun v wr => v = .int .i64 0 ∧ Hid (Kept [] w wr)) (fun _ _ => 0)
    case atStart => exact ⟨rfl, HK3.out⟩
    case round =>
      obtain ⟨rfl, HK6⟩ := hrel
      rename World => w6
      go_wp2_with fail
      go_loopw [9] (fun v wr => v = .int .i64 0 ∧ Hid (Kept [] w wr)) (fun _ _ => 0)
      case atStart => exact ⟨rfl, HK6.out⟩
      case round =>
        obtain ⟨rfl, HK9⟩ := hrel
        rename World => w9
        go_wp2
        go_ret
        exact ⟨rfl, HK9.out⟩
set_option maxHeartbeats 1000000 in
set_option maxRecDepth 10000 in
theorem ownRows_nilF (w : World) : Calls Tryz.prog 60 #[.slice none 0 0] w fun e w' => e = .returned (.bool true) ∧ Kept [] w w' := by
  go_enter Tryz.func60, Tryz.ntmps60
  go_wp2_with fail
  go_loopw [3] (fun v wr => v = .int .i64 0 ∧ Hid (Kept [] w wr)) (fun _ _ => 0)
  case atStart => exact ⟨rfl, Kept.refl [] w⟩
  case round =>
    obtain ⟨rfl, HK3⟩ := hrel
    rename World => w3
    go_wp2_with fail
    go_loopw [6] (fun v wr => v = .int .i64 0 ∧ Hid (Kept [] w wr)) (fun _ _ => 0)
    case atStart => exact ⟨rfl, HK3.out⟩
    case round =>
      obtain ⟨rfl, HK6⟩ := hrel
      rename World => w6
      go_wp2_with fail
      go_loopw [9] (fun v wr => v = .int .i64 0 ∧ Hid (Kept [] w wr)) (fun _ _ => 0)
      case atStart => exact ⟨rfl, HK6.out⟩
      case round =>
        obtain ⟨rfl, HK9⟩ := hrel
        rename World => w9
        go_wp2
        go_ret
        exact ⟨rfl, HK9.out⟩
set_option maxHeartbeats 1000000 in
set_option maxRecDepth 10000 in
theorem ownWords_nilF (w : World) : Calls Tryz.prog 61 #[.slice none 0 0] w fun e w' => e = .returned (.bool true) ∧ Kept [] w w' := by
  go_enter Tryz.func61, Tryz.ntmps61
  go_wp2_with fail
  go_loopw [3] (fun v wr => v = .int .i64 0 ∧ Hid (Kept [] w wr)) (fun _ _ => 0)
  case atStart => exact ⟨rfl, Kept.refl [] w⟩
  case round =>
    obtain ⟨rfl, HK3⟩ := hrel
    rename World => w3
    go_wp2_with fail
    go_loopw [6] (fun v wr => v = .int .i64 0 ∧ Hid (Kept [] w wr)) (fun _ _ => 0)
    case atStart => exact ⟨rfl, HK3.out⟩
    case round =>
      obtain ⟨rfl, HK6⟩ := hrel
      rename World => w6
      go_wp2_with fail
      go_loopw [9] (fun v wr => v = .int .i64 0 ∧ Hid (Kept [] w wr)) (fun _ _ => 0)
      case atStart => exact ⟨rfl, HK6.out⟩
      case round =>
        obtain ⟨rfl, HK9⟩ := hrel
        rename World => w9
        go_wp2
        go_ret
        exact ⟨rfl, HK9.out⟩
set_option maxHeartbeats 1000000 in
set_option maxRecDepth 10000 in
theorem ownBools_nilF (w : World) : Calls Tryz.prog 53 #[.slice none 0 0] w fun e w' => e = .returned (.bool true) ∧ Kept [] w w' := by
  go_enter Tryz.func53, Tryz.ntmps53
  go_wp2_with fail
  go_loopw [3] (fun v wr => (v = .int .i64 0 ∨ v = .int .i64 1) ∧ Hid (Kept [] w wr)) (fun v _ => 1 - (intOf v).toNat)
  case atStart => exact ⟨.inl rfl, Kept.refl [] w⟩
  case round =>
    obtain ⟨rfl | rfl, HK3⟩ := hrel
    · rename World => w3
      go_wp2_with fail
      go_loopw [4] (fun v wr => v = .int .i64 0 ∧ Hid (Kept [] w wr)) (fun _ _ => 0)
      case atStart => exact ⟨rfl, HK3.out⟩
      case round =>
        obtain ⟨rfl, HK4⟩ := hrel
        rename World => w4
        go_wp2_with fail
        go_loopw [7] (fun v wr => v = .int .i64 0 ∧ Hid (Kept [] w wr)) (fun _ _ => 0)
        case atStart => exact ⟨rfl, HK4.out⟩
        case round =>
          obtain ⟨rfl, HK7⟩ := hrel
          rename World => w7
          go_wp2_with fail
          go_loopw [10] (fun v wr => v = .int .i64 0 ∧ Hid (Kept [] w wr)) (fun _ _ => 0)
          case atStart => exact ⟨rfl, HK7.out⟩
          case round =>
            obtain ⟨rfl, HK10⟩ := hrel
            rename World => w10
            go_wp2
            go_roundw
            case rel => exact ⟨.inr rfl, HK10.out⟩
            case measure => simp [intOf]
    · go_wp2
      go_ret
      exact ⟨rfl, HK3.out⟩
set_option maxHeartbeats 1000000 in
set_option maxRecDepth 10000 in
theorem ownLetters_nilF (w : World) : Calls Tryz.prog 54 #[.slice none 0 0] w fun e w' => e = .returned (.bool true) ∧ Kept [] w w' := by
  go_enter Tryz.func54, Tryz.ntmps54
  go_wp2_with fail
  go_loopw [3] (fun v wr => v = .int .i64 0 ∧ Hid (Kept [] w wr)) (fun _ _ => 0)
  case atStart => exact ⟨rfl, Kept.refl [] w⟩
  case round =>
    obtain ⟨rfl, HK3⟩ := hrel
    rename World => w3
    go_wp2_with fail
    go_loopw [6] (fun v wr => v = .int .i64 0 ∧ Hid (Kept [] w wr)) (fun _ _ => 0)
    case atStart => exact ⟨rfl, HK3.out⟩
    case round =>
      obtain ⟨rfl, HK6⟩ := hrel
      rename World => w6
      go_wp2_with fail
      go_loopw [9] (fun v wr => v = .int .i64 0 ∧ Hid (Kept [] w wr)) (fun _ _ => 0)
      case atStart => exact ⟨rfl, HK6.out⟩
      case round =>
        obtain ⟨rfl, HK9⟩ := hrel
        rename World => w9
        go_wp2
        go_ret
        exact ⟨rfl, HK9.out⟩
end Go.Proofs.YtnjajafmmociiaaGreatDoor

/- A book of lists of formulas. -/
namespace Go.Proofs.YtnjajafmmociiaaGreatDoor
open Go.RowKit Go.Shelf
attribute [local go_sem ↓] Go.wp_at_zero Go.wp_at_succ

theorem getElem?_snocF {α : Type} {l : List α} {a b : α} {i : Nat} (h : (l ++ [a])[i]? = some b) : l[i]? = some b ∨ (i = l.length ∧ b = a) := by
  rcases Nat.lt_trichotomy i l.length with q | q | q
  · rw [List.getElem?_append_left q] at h; exact .inl h
  · subst q; rw [List.getElem?_concat_length] at h; exact .inr ⟨rfl, (Option.some.inj h).symm⟩
  · rw [List.getElem?_eq_none (by simp; omega)] at h; cases h
theorem OwnAllF.snoc {W : World} {base : Nat} {vs : List Value} {xss : List (List T3)} {x : Value} {xs : List T3} (h : OwnAllF W base vs xss) (hx : W.ownsRow base 25 3 x xs.length (f3s xs)) (ha : ∀ v ∈ vs, ∀ g, v.ownBlock = some g → x.ownBlock ≠ some g) : OwnAllF W base (vs ++ [x]) (xss ++ [xs]) := by
  refine ⟨by simp [h.len], fun i v ys h1 h2 => ?_, fun i j v u g hij h1 h2 h3 h4 => ?_⟩
  · rcases getElem?_snocF h1 with q | ⟨q, rfl⟩
    · rcases getElem?_snocF h2 with q2 | ⟨q2, rfl⟩
      · exact h.row i v ys q q2
      · exact absurd (getElem?_ltF q) (by rw [h.len]; omega)
    · rcases getElem?_snocF h2 with q2 | ⟨q2, rfl⟩
      · exact absurd (getElem?_ltF q2) (by rw [← h.len]; omega)
      · exact hx
  · rcases getElem?_snocF h1 with q | ⟨q, rfl⟩
    · rcases getElem?_snocF h2 with q2 | ⟨q2, rfl⟩
      · exact h.apart i j v u g hij q q2 h3 h4
      · exact ha v (List.mem_of_getElem? q) g h3 h4
    · rcases getElem?_snocF h2 with q2 | ⟨q2, rfl⟩
      · exact ha u (List.mem_of_getElem? q2) g h4 h3
      · exact hij (q.trans q2.symm)
/-- A book that holds lists of letters only. -/
structure BookF (W : World) (base base' B : Nat) (lv : Value) (vs : List Value) (xss : List (List T3)) : Prop where
  head : W.heap[B]? = some (.cells #[.slice none 0 0, .slice none 0 0, .slice none 0 0, .slice none 0 0, .slice none 0 0, .slice none 0 0, .slice none 0 0, .slice none 0 0, .slice none 0 0, .slice none 0 0, .slice none 0 0, .slice none 0 0, lv] 47 (0, 0))
  inn : OwnInF W base base' lv vs xss
  low' : base' ≤ W.heap.size
theorem BookF.start {W : World} {base base' B : Nat} (h : W.heap[B]? = some (.cells #[.slice none 0 0, .slice none 0 0, .slice none 0 0, .slice none 0 0, .slice none 0 0, .slice none 0 0, .slice none 0 0, .slice none 0 0, .slice none 0 0, .slice none 0 0, .slice none 0 0, .slice none 0 0, .slice none 0 0] 47 (0, 0))) (hb : base ≤ W.heap.size) (hb' : base' ≤ W.heap.size) : BookF W base base' B (.slice none 0 0) [] [] :=
  ⟨h, ⟨⟨rfl, fun i v xs h => by simp at h, fun i j v u g _ h => by simp at h⟩, World.ownsRow_nil _ _ _ _, by simp, by simp, hb⟩, hb'⟩
theorem BookF.apartR {W : World} {base base' B : Nat} {lv : Value} {vs : List Value} {xss : List (List T3)} (h : BookF W base base' B lv vs xss) {b n g : Nat} {x : Value} {ys : List Value} (hx : W.ownsRow b 25 3 x n ys) (hg : x.ownBlock = some g) : g ≠ B := by
  rintro rfl
  obtain ⟨c, e⟩ := row_typeF hx hg
  rw [h.head] at e
  cases e
theorem BookF.apartL {W : World} {base base' B : Nat} {lv : Value} {vs : List Value} {xss : List (List T3)} (h : BookF W base base' B lv vs xss) {b n g : Nat} {x : Value} {ys : List Value} (hx : W.ownsRow b 23 1 x n ys) (hg : x.ownBlock = some g) : g ≠ B := by
  rintro rfl
  obtain ⟨c, e⟩ := row_typeF hx hg
  rw [h.head] at e
  cases e
/-- What a book may write: itself and its list. -/
def bookW (B : Nat) (lv : Value) : List Nat := B :: lv.ownBlock.toList
theorem BookF.free {W : World} {base base' B : Nat} {lv : Value} {vs : List Value} {xss : List (List T3)} (h : BookF W base base' B lv vs xss) {b n g : Nat} {x : Value} {ys : List Value} (hx : W.ownsRow b 25 3 x n ys) (hg : x.ownBlock = some g) : g ∉ bookW B lv := by
  intro hm
  rcases List.mem_cons.1 hm with q | q
  · exact h.apartR hx hg q
  · exact types_apartF hx h.inn.list hg (by simpa using q)
theorem BookF.noBlock {W : World} {base base' B : Nat} {lv : Value} {vs : List Value} {xss : List (List T3)} (h : BookF W base base' B lv vs xss) : B ∉ blocksOfF vs := by
  intro hm
  obtain ⟨v, hv, hvg⟩ := List.mem_filterMap.1 hm
  obtain ⟨i, hi, rfl⟩ := List.getElem_of_mem hv
  have hix : i < xss.length := by rw [← h.inn.rows.len]; exact hi
  exact h.apartR (h.inn.rows.row i _ _ (List.getElem?_eq_getElem hi) (List.getElem?_eq_getElem hix)) hvg rfl
theorem BookF.kept {F : List Nat} {W W' : World} {base base' B : Nat} {lv : Value} {vs : List Value} {xss : List (List T3)} (h : BookF W base base' B lv vs xss) (k : Kept F W W') (hF : ∀ g ∈ bookW B lv ++ blocksOfF vs, g ∉ F) : BookF W' base base' B lv vs xss := by
  refine ⟨k.at h.head (hF B (by simp [bookW])), ⟨h.inn.rows.keptF k (fun i v g hv hg => hF g (List.mem_append_right _ (mem_blocksF hv hg))), owns_keptFF h.inn.list k (fun g hg => hF g (by simp [bookW, hg])), h.inn.few, h.inn.short, Nat.le_trans h.inn.low k.size⟩, Nat.le_trans h.low' k.size⟩
theorem BookF.quiet {W W' : World} {base base' B : Nat} {lv : Value} {vs : List Value} {xss : List (List T3)} (h : BookF W base base' B lv vs xss) (k : Kept [] W W') : BookF W' base base' B lv vs xss := h.kept k (by simp)
/-- One list more. -/
theorem BookF.put {w : World} {base base' B : Nat} {lv : Value} {vs : List Value} {xss : List (List T3)} {xad : Option Addr} {c : Nat} {xs : List T3} (h : BookF w base base' B lv vs xss) (hx : w.ownsRow base 25 3 (.slice xad xs.length c) xs.length (f3s xs)) (ha : ∀ v ∈ vs, ∀ g, v.ownBlock = some g → (Value.slice xad xs.length c).ownBlock ≠ some g) (hf : vs.length < 100000000) (hs : xs.length ≤ 1000000000) :
    ∃ g cap w', (∀ ty, (Builtin.append_ #[45, 45] ty #[lv, .slice (some ⟨w.heap.size, 0, none⟩) 1 1]).run Tryz.prog (w.alloc (.cells #[.slice xad xs.length c] 23)) = .ok (.slice (some ⟨g, 0, none⟩) (vs.length + 1) cap) w') ∧ w'.frozen? ⟨B, 12, none⟩ = false ∧ BookF (w'.setCell ⟨B, 12, none⟩ (.slice (some ⟨g, 0, none⟩) (vs.length + 1) cap)) base base' B (.slice (some ⟨g, 0, none⟩) (vs.length + 1) cap) (vs ++ [.slice xad xs.length c]) (xss ++ [xs]) ∧ Kept (bookW B lv) w (w'.setCell ⟨B, 12, none⟩ (.slice (some ⟨g, 0, none⟩) (vs.length + 1) cap)) ∧ (lv.ownBlock = some g ∨ w.heap.size ≤ g) ∧ w'.cell? ⟨B, 12, none⟩ = some lv := by
  obtain ⟨inf, hi, hz0, hz1, hz2⟩ := info_parts Tryz.infoSlF
  have k1 : Kept [] w (w.alloc (.cells #[.slice xad xs.length c] 23)) := (Kept.refl [] w).alloc _
  have hl := owns_keptFF h.inn.list k1 (by simp)
  have hs1 := k1.size
  have hlow := h.low'
  obtain ⟨g, cap, w', hr, h2, h3, h4, h5⟩ := run_append_keepF (P := Tryz.prog) (w.alloc (.cells #[.slice xad xs.length c] 23)) 45 45 base' 23 inf _ 1 24 Tryz.underlying45 hi hz0 hz1 hz2 rfl (by decide) lv vs.length _ hl ⟨w.heap.size, 0, none⟩ 1 1 [.slice xad xs.length c] rfl (World.news_of_block (cs := #[.slice xad xs.length c]) (t := 23) (fr := (0, 0)) (heap_alloc_new w _)) (by simp [Value.oneCell']) (by decide) (by unfold maxLen; omega) (by omega) (by omega)
  have kG : Kept lv.ownBlock.toList w w' := (k1.trans (G := []) (H := lv.ownBlock.toList) (Kept.refl [] _) (by simp) (by simp)).grown h3 (fun b hb => .inl (by rw [hb]; simp))
  have hBl : B ∉ lv.ownBlock.toList := fun hm => h.apartL h.inn.list (show lv.ownBlock = some B by simpa using hm) rfl
  have hh := kG.at h.head hBl
  have kF : Kept (bookW B lv) w (w'.setCell ⟨B, 12, none⟩ (.slice (some ⟨g, 0, none⟩) (vs.length + 1) cap)) := (kG.trans (G := []) (H := bookW B lv) (Kept.refl [] _) (fun _ h => List.mem_cons_of_mem _ h) (by simp)).setCell (p := ⟨B, 12, none⟩) (.inl (by simp [bookW])) _
  have hgB : g ≠ B := by
    rintro rfl
    obtain ⟨c1, e1⟩ := row_typeF h2 rfl
    rw [hh] at e1
    cases e1
  have h2' : (w'.setCell ⟨B, 12, none⟩ (.slice (some ⟨g, 0, none⟩) (vs.length + 1) cap)).ownsRow base' 23 1 (.slice (some ⟨g, 0, none⟩) (vs.length + 1) cap) (vs.length + 1) (vs ++ [.slice xad xs.length c]) := owns_keptFF h2 ((Kept.refl [B] w').setCell (p := ⟨B, 12, none⟩) (.inl (by simp)) _) (fun b hb => by
    have e : g = b := by simpa [Value.ownBlock] using hb
    subst e
    simpa using hgB)
  have hrows := (h.inn.rows.snoc hx ha).keptF kF (fun i v b hv hb => by
    rcases getElem?_snocF hv with q | ⟨_, rfl⟩
    · have hix : i < xss.length := by rw [← h.inn.rows.len]; exact getElem?_ltF q
      exact h.free (h.inn.rows.row i _ _ q (List.getElem?_eq_getElem hix)) hb
    · exact h.free hx hb)
  have hlw := h.inn.low
  have hks := kF.size
  refine ⟨g, cap, w', fun ty => hr, free_of hh 12, ⟨?_, ⟨hrows, by rw [List.length_append]; exact h2', by simp; omega, fun ys hy => ?_, by omega⟩, by omega⟩, kF, ?_, by rw [cell_of hh]; rfl⟩
  · have := row_set (i := 12) hh (.slice (some ⟨g, 0, none⟩) (vs.length + 1) cap)
    simpa using this
  · rcases List.mem_append.1 hy with q | q
    · exact h.inn.short ys q
    · rw [List.mem_singleton.1 q]; exact hs
  · rcases h4 with q | ⟨q, _⟩
    · exact .inl q
    · right; omega
end Go.Proofs.YtnjajafmmociiaaGreatDoor

/- Own of a book of lists of formulas. -/
namespace Go.Proofs.YtnjajafmmociiaaGreatDoor
open Go.RowKit Go.Shelf
attribute [local go_sem ↓] Go.wp_at_zero Go.wp_at_succ

set_option maxHeartbeats 4000000 in
set_option maxRecDepth 10000 in
theorem bookOwnF_any (B base base' : Nat) (lv : Value) (vs : List Value) (xss : List (List T3)) (w : World) (h : BookF w base base' B lv vs xss) :
    Calls Tryz.prog 14 #[.pointer (some ⟨B, 0, none⟩)] w fun e w' => e = .returned (.bool true) ∧ Kept (blocksOfF vs) w w' := by
  obtain ⟨lad, lc, rfl⟩ := own_formF h.inn.list
  have HH : Hid (BookF w base base' B (.slice lad vs.length lc) vs xss) := h
  have HC : Hid (∀ W, Kept (blocksOfF vs) w W → W.heap[B]? = some (.cells #[.slice none 0 0, .slice none 0 0, .slice none 0 0, .slice none 0 0, .slice none 0 0, .slice none 0 0, .slice none 0 0, .slice none 0 0, .slice none 0 0, .slice none 0 0, .slice none 0 0, .slice none 0 0, .slice lad vs.length lc] 47 (0, 0))) := fun W k => k.at h.head h.noBlock
  have HK0 : Hid (Kept [] w w) := Kept.refl [] w
  have c0 : w.cell? ⟨B, 0, none⟩ = some (.slice none 0 0) := by rw [cell_of h.head]; rfl
  clear h
  go_enter Tryz.func14, Tryz.ntmps14
  go_wp2_with fail
  refine (ownBytes_nilF _).mono ?_
  rintro e w1 ⟨rfl, k1⟩
  have HK1 : Hid (Kept [] w w1) := HK0.out.trans k1 (by simp) (by simp)
  clear c0 k1
  have c1 : w1.cell? ⟨B, 1, none⟩ = some (.slice none 0 0) := by rw [cell_of (HC.out w1 (HK1.out.trans (G := []) (H := blocksOfF vs) (Kept.refl [] _) (by simp) (by simp)))]; rfl
  go_wp2_with fail
  refine (ownTexts_nilF _).mono ?_
  rintro e w2 ⟨rfl, k2⟩
  have HK2 : Hid (Kept [] w w2) := HK1.out.trans k2 (by simp) (by simp)
  clear c1 k2
  have c2 : w2.cell? ⟨B, 2, none⟩ = some (.slice none 0 0) := by rw [cell_of (HC.out w2 (HK2.out.trans (G := []) (H := blocksOfF vs) (Kept.refl [] _) (by simp) (by simp)))]; rfl
  go_wp2_with fail
  refine (ownInts_nilF _).mono ?_
  rintro e w3 ⟨rfl, k3⟩
  have HK3 : Hid (Kept [] w w3) := HK2.out.trans k3 (by simp) (by simp)
  clear c2 k3
  have c3 : w3.cell? ⟨B, 3, none⟩ = some (.slice none 0 0) := by rw [cell_of (HC.out w3 (HK3.out.trans (G := []) (H := blocksOfF vs) (Kept.refl [] _) (by simp) (by simp)))]; rfl
  go_wp2_with fail
  refine (ownBools_nilF _).mono ?_
  rintro e w4 ⟨rfl, k4⟩
  have HK4 : Hid (Kept [] w w4) := HK3.out.trans k4 (by simp) (by simp)
  clear c3 k4
  have c4 : w4.cell? ⟨B, 4, none⟩ = some (.slice none 0 0) := by rw [cell_of (HC.out w4 (HK4.out.trans (G := []) (H := blocksOfF vs) (Kept.refl [] _) (by simp) (by simp)))]; rfl
  go_wp2_with fail
  refine (ownLetters_nilF _).mono ?_
  rintro e w5 ⟨rfl, k5⟩
  have HK5 : Hid (Kept [] w w5) := HK4.out.trans k5 (by simp) (by simp)
  clear c4 k5
  have c5 : w5.cell? ⟨B, 5, none⟩ = some (.slice none 0 0) := by rw [cell_of (HC.out w5 (HK5.out.trans (G := []) (H := blocksOfF vs) (Kept.refl [] _) (by simp) (by simp)))]; rfl
  go_wp2_with fail
  refine (ownEdges_nilF _).mono ?_
  rintro e w6 ⟨rfl, k6⟩
  have HK6 : Hid (Kept [] w w6) := HK5.out.trans k6 (by simp) (by simp)
  clear c5 k6
  have c6 : w6.cell? ⟨B, 6, none⟩ = some (.slice none 0 0) := by rw [cell_of (HC.out w6 (HK6.out.trans (G := []) (H := blocksOfF vs) (Kept.refl [] _) (by simp) (by simp)))]; rfl
  go_wp2_with fail
  refine (ownTokens_nilF _).mono ?_
  rintro e w7 ⟨rfl, k7⟩
  have HK7 : Hid (Kept [] w w7) := HK6.out.trans k7 (by simp) (by simp)
  clear c6 k7
  have c7 : w7.cell? ⟨B, 7, none⟩ = some (.slice none 0 0) := by rw [cell_of (HC.out w7 (HK7.out.trans (G := []) (H := blocksOfF vs) (Kept.refl [] _) (by simp) (by simp)))]; rfl
  go_wp2_with fail
  refine (ownVerdicts_nilF _).mono ?_
  rintro e w8 ⟨rfl, k8⟩
  have HK8 : Hid (Kept [] w w8) := HK7.out.trans k8 (by simp) (by simp)
  clear c7 k8
  have c8 : w8.cell? ⟨B, 8, none⟩ = some (.slice none 0 0) := by rw [cell_of (HC.out w8 (HK8.out.trans (G := []) (H := blocksOfF vs) (Kept.refl [] _) (by simp) (by simp)))]; rfl
  go_wp2_with fail
  refine (ownAlarms_nilF _).mono ?_
  rintro e w9 ⟨rfl, k9⟩
  have HK9 : Hid (Kept [] w w9) := HK8.out.trans k9 (by simp) (by simp)
  clear c8 k9
  have c9 : w9.cell? ⟨B, 9, none⟩ = some (.slice none 0 0) := by rw [cell_of (HC.out w9 (HK9.out.trans (G := []) (H := blocksOfF vs) (Kept.refl [] _) (by simp) (by simp)))]; rfl
  go_wp2_with fail
  refine (ownSlices_nilF _).mono ?_
  rintro e w10 ⟨rfl, k10⟩
  have HK10 : Hid (Kept [] w w10) := HK9.out.trans k10 (by simp) (by simp)
  clear c9 k10
  have c10 : w10.cell? ⟨B, 10, none⟩ = some (.slice none 0 0) := by rw [cell_of (HC.out w10 (HK10.out.trans (G := []) (H := blocksOfF vs) (Kept.refl [] _) (by simp) (by simp)))]; rfl
  go_wp2_with fail
  refine (ownRows_nilF _).mono ?_
  rintro e w11 ⟨rfl, k11⟩
  have HK11 : Hid (Kept [] w w11) := HK10.out.trans k11 (by simp) (by simp)
  clear c10 k11
  have c11 : w11.cell? ⟨B, 11, none⟩ = some (.slice none 0 0) := by rw [cell_of (HC.out w11 (HK11.out.trans (G := []) (H := blocksOfF vs) (Kept.refl [] _) (by simp) (by simp)))]; rfl
  go_wp2_with fail
  refine (ownWords_nilF _).mono ?_
  rintro e w12 ⟨rfl, k12⟩
  have HK12 : Hid (Kept [] w w12) := HK11.out.trans k12 (by simp) (by simp)
  clear c11 k12
  have c12 : w12.cell? ⟨B, 12, none⟩ = some (.slice lad vs.length lc) := by rw [cell_of (HC.out w12 (HK12.out.trans (G := []) (H := blocksOfF vs) (Kept.refl [] _) (by simp) (by simp)))]; rfl
  go_wp2_with fail
  refine (ownFormulas_walk _ vs xss base base' _ (HH.out.quiet HK12.out).inn).mono ?_
  rintro e w13 ⟨rfl, k13⟩
  have HK13 : Hid (Kept (blocksOfF vs) w w13) := HK12.out.trans k13 (by simp) (fun _ h => .inl h)
  clear c12 k13
  go_wp2
  go_ret
  exact ⟨rfl, HK13.out⟩
end Go.Proofs.YtnjajafmmociiaaGreatDoor
