/- augurref00.ownLetters. -/
import Derived.Test.YtbbfajbnklgncaaGreatOwn3
namespace Go.Proofs.YtbbfajbnklgncaaGreat
open Go.RowKit Go.Shelf
attribute [local go_sem ↓] Go.wp_at_zero Go.wp_at_succ

theorem row_type {W : World} {base : Nat} {e : TypeId} {v : Value} {n g : Nat} {xs : List Value} (h : W.ownsRow base e 1 v n xs) (hg : v.ownBlock = some g) : ∃ cur, W.heap[g]? = some (.cells cur e (0, 0)) := by
  rcases h.2 with ⟨rfl, _⟩ | ⟨g', cap, cur, rfl, _, h2, _⟩
  · cases hg
  · cases hg; exact ⟨cur, h2⟩
theorem types_apart {W : World} {base base' : Nat} {v u : Value} {n m g : Nat} {xs ys : List Value} (h : W.ownsRow base 73 1 v n xs) (h' : W.ownsRow base' 105 1 u m ys) (hg : v.ownBlock = some g) : u.ownBlock ≠ some g := by
  intro hu
  obtain ⟨c1, e1⟩ := row_type h hg
  obtain ⟨c2, e2⟩ := row_type h' hu
  rw [e1] at e2
  cases e2
/-- The blocks of the rows. -/
def blocksOf (vs : List Value) : List Nat := vs.filterMap Value.ownBlock
theorem mem_blocks {vs : List Value} {i g : Nat} {v : Value} (h : vs[i]? = some v) (hg : v.ownBlock = some g) : g ∈ blocksOf vs := List.mem_filterMap.2 ⟨v, List.mem_of_getElem? h, hg⟩
theorem not_blocks {W : World} {base base' : Nat} {vs : List Value} {xss : List (List Nat)} {u : Value} {m g : Nat} {ys : List Value} (h : OwnAll W base vs xss) (h' : W.ownsRow base' 105 1 u m ys) (hg : u.ownBlock = some g) : g ∉ blocksOf vs := by
  intro hm
  obtain ⟨v, hv, hvg⟩ := List.mem_filterMap.1 hm
  obtain ⟨i, hi, rfl⟩ := List.getElem_of_mem hv
  have hix : i < xss.length := by rw [← h.len]; exact hi
  exact types_apart (h.row i _ _ (List.getElem?_eq_getElem hi) (List.getElem?_eq_getElem hix)) h' hvg hg
theorem owns_cell {W : World} {base : Nat} {u : Value} {m i : Nat} {ys : List Value} {y : Value} (h : W.ownsRow base 105 1 u m ys) (hy : ys[i]? = some y) : ∃ g c, u = .slice (some ⟨g, 0, none⟩) m c ∧ i < m ∧ W.cell? ⟨g, i, none⟩ = some y := by
  have hl := getElem?_lt hy
  have h1 : ys.length = m := by have := h.1; omega
  obtain ⟨g, cap, rfl, _, _⟩ := h.form (by omega)
  exact ⟨g, cap, rfl, by omega, by rw [h.cellAt i (by omega), hy]⟩
theorem owns_free {W : World} {base g n c : Nat} {e : TypeId} {xs : List Value} (h : W.ownsRow base e 1 (.slice (some ⟨g, 0, none⟩) n c) n xs) (k : Nat) : W.frozen? ⟨g, k, none⟩ = false := by
  rcases h.2 with ⟨e1, _⟩ | ⟨g', cap, cur, e1, _, h2, _⟩
  · cases e1
  · cases e1; exact free_of h2 k
theorem Ph1.row {W : World} {base i k : Nat} {vs : List Value} {xss : List (List Nat)} {v : Value} {xs : List Nat} (h : Ph1 W base vs xss i k) (hv : vs[i]? = some v) (hx : xss[i]? = some xs) (hk : k ≤ xs.length) : W.ownsRow base 73 1 v xs.length (u16s (m1 i k ++ xs.drop k)) := by
  obtain ⟨cs, h1, h2⟩ := h
  have hc := h2 i xs hx
  rw [if_neg (Nat.lt_irrefl i), if_pos rfl] at hc
  have := h1.row i v _ hv hc
  rw [List.length_append, m1_len, List.length_drop, show k + (xs.length - k) = xs.length by omega] at this
  exact this
theorem wrap_mark1 (i k : Nat) : IntKind.u16.wrap ((i : Int) * 1009 + (k : Int) * 31) = (mark1 i k : Int) := by
  have h : IntKind.u16.wrap ((i : Int) * 1009 + (k : Int) * 31) = ((i : Int) * 1009 + (k : Int) * 31) % 65536 := by simp [IntKind.wrap, IntKind.bits, IntKind.signed]
  rw [h]
  unfold mark1
  omega
theorem wrap_mark2 (i k : Nat) : IntKind.u16.wrap ((-1 - (i : Int)) * 1009 + (k : Int) * 31) = (mark2 i k : Int) := by
  have h : IntKind.u16.wrap ((-1 - (i : Int)) * 1009 + (k : Int) * 31) = ((-1 - (i : Int)) * 1009 + (k : Int) * 31) % 65536 := by simp [IntKind.wrap, IntKind.bits, IntKind.signed]
  rw [h]
  unfold mark2
  omega
/-- What Own is handed: lists with rows of their own. -/
structure OwnIn (w : World) (base base' : Nat) (lv : Value) (vs : List Value) (xss : List (List Nat)) : Prop where
  rows : OwnAll w base vs xss
  list : w.ownsRow base' 105 1 lv vs.length vs
  few : vs.length ≤ 100000
  short : ∀ xs ∈ xss, xs.length ≤ 1000000000
  low : base ≤ w.heap.size
theorem OwnIn.held {w W : World} {base base' : Nat} {lv : Value} {vs : List Value} {xss : List (List Nat)} (h : OwnIn w base base' lv vs xss) (k : Kept (blocksOf vs) w W) : W.ownsRow base' 105 1 lv vs.length vs := by
  refine ⟨h.list.1, h.list.2.imp id ?_⟩
  rintro ⟨g, cap, cur, e1, q1, q2, q3⟩
  exact ⟨g, cap, cur, e1, q1, k.at q2 (not_blocks h.rows h.list (by rw [e1]; rfl)), q3⟩
theorem Tryz.infoSl : (Tryz.prog.info? 105).map (fun i => (i.zero, i.size, i.bytes)) = some (some (.slice none 0 0), 1, 24) := by kernel_rfl
/-- What the second loop carries. -/
structure Gr (w wr : World) (base H : Nat) (vs : List Value) (xss : List (List Nat)) (i k : Nat) (us : List Value) (lo : Value) : Prop where
  ph : Ph2 wr base H vs xss i k us
  long : wr.ownsRow H 105 1 lo i (us.take i)
  kept : Kept (blocksOf vs) w wr
  high : H ≤ wr.heap.size
  low : w.heap.size ≤ H
  base_ : base ≤ wr.heap.size
theorem Gr.letter {w wr : World} {base H i k : Nat} {vs us : List Value} {xss : List (List Nat)} {lo xv : Value} {xs : List Nat} (h : Gr w wr base H vs xss i k us lo) (hx : xss[i]? = some xs) (hu : us[i]? = some xv) (hs : xs.length ≤ 1000000000) (hk : k < 16) :
    ∃ g cap w', (∀ ty, (Builtin.append_ #[105, 105] ty #[xv, .slice (some ⟨wr.heap.size, 0, none⟩) 1 1]).run Tryz.prog (wr.alloc (.cells #[.int .u16 (mark2 i k : Nat)] 73)) = .ok (.slice (some ⟨g, 0, none⟩) (xs.length + (k + 1)) cap) w') ∧ Gr w w' base H vs xss i (k + 1) (us.set i (.slice (some ⟨g, 0, none⟩) (xs.length + (k + 1)) cap)) lo ∧ (us.set i (.slice (some ⟨g, 0, none⟩) (xs.length + (k + 1)) cap))[i]? = some (.slice (some ⟨g, 0, none⟩) (xs.length + (k + 1)) cap) := by
  obtain ⟨inf, hi, hz0, hz1, hz2⟩ := info_parts Tryz.infoU16
  have k1 : Kept [] wr (wr.alloc (.cells #[.int .u16 (mark2 i k : Nat)] 73)) := (Kept.refl [] wr).alloc _
  have hrow := owns_keptF (h.ph.rowAt hu hx) k1 (by simp)
  have hil := getElem?_lt hu
  have hiv : i < vs.length := by rw [← h.ph.len]; exact hil
  have run := fun ty => run_append_keep (P := Tryz.prog) (wr.alloc (.cells #[.int .u16 (mark2 i k : Nat)] 73)) 105 ty base 73 inf _ 1 2 Tryz.underlying105 hi hz0 hz1 hz2 rfl (by decide) xv (xs.length + k) _ hrow ⟨wr.heap.size, 0, none⟩ 1 1 [.int .u16 (mark2 i k : Nat)] rfl (World.news_of_block (cs := #[.int .u16 (mark2 i k : Nat)]) (t := 73) (fr := (0, 0)) (heap_alloc_new wr _)) (by simp [Value.oneCell']) (by decide) (by unfold maxLen; omega) (by omega) (Nat.le_trans h.base_ k1.size)
  obtain ⟨g, cap, w', hr, h2, h3, h4, h5⟩ := run 105
  have hrun : ∀ ty, (Builtin.append_ #[105, 105] ty #[xv, .slice (some ⟨wr.heap.size, 0, none⟩) 1 1]).run Tryz.prog (wr.alloc (.cells #[.int .u16 (mark2 i k : Nat)] 73)) = .ok (.slice (some ⟨g, 0, none⟩) (xs.length + (k + 1)) cap) w' := fun ty => hr
  have e1 : u16s (m1 i xs.length ++ m2 i k) ++ [.int .u16 (mark2 i k : Nat)] = u16s (m1 i xs.length ++ m2 i k ++ [mark2 i k]) := by rw [u16s_app _ [mark2 i k]]; rfl
  rw [e1] at h2
  have hph : Ph2 w' base H vs xss i (k + 1) (us.set i (.slice (some ⟨g, 0, none⟩) (xs.length + (k + 1)) cap)) := h.ph.grow hx hu k1 h.high (by omega) h2 h3 h4
  have hs1 := k1.size
  have hs2 := h3.size
  have hh := h.high
  have hbb := h.base_
  refine ⟨g, cap, w', hrun, ⟨hph, ?_, (h.kept.trans k1 (H := blocksOf vs) (fun _ h => h) (by simp)).grown h3 (fun b hb => ?_), by omega, h.low, by omega⟩, by rw [List.getElem?_set, if_pos rfl, if_pos hil]⟩
  · rw [List.take_set_of_le (Nat.le_refl i)]
    have hl := owns_keptF h.long k1 (by simp)
    exact hl.kept h3 (by
      cases hlo : lo.ownBlock with
      | none => exact .inl rfl
      | some b => exact .inr (fun e => types_apart hrow hl e.symm hlo))
  · have hv := List.getElem?_eq_getElem hiv
    rcases h.ph.from_ i xv _ b hu hv hb with q | q
    · exact .inl (mem_blocks hv q)
    · exact .inr (by have := h.low; omega)
theorem Gr.list {w wr : World} {base H i : Nat} {vs us : List Value} {xss : List (List Nat)} {lo : Value} {xad : Option Addr} {n c : Nat} (h : Gr w wr base H vs xss i 16 us lo) (hu : us[i]? = some (.slice xad n c)) (hf : vs.length ≤ 100000) :
    ∃ g cap w', (∀ ty, (Builtin.append_ #[45, 45] ty #[lo, .slice (some ⟨wr.heap.size, 0, none⟩) 1 1]).run Tryz.prog (wr.alloc (.cells #[.slice xad n c] 105)) = .ok (.slice (some ⟨g, 0, none⟩) (i + 1) cap) w') ∧ Gr w w' base H vs xss (i + 1) 0 us (.slice (some ⟨g, 0, none⟩) (i + 1) cap) := by
  obtain ⟨inf, hi, hz0, hz1, hz2⟩ := info_parts Tryz.infoSl
  have k1 : Kept [] wr (wr.alloc (.cells #[.slice xad n c] 105)) := (Kept.refl [] wr).alloc _
  have hl := owns_keptF h.long k1 (by simp)
  have hil := getElem?_lt hu
  have hiv : i < vs.length := by rw [← h.ph.len]; exact hil
  have hs1 := k1.size
  have hh := h.high
  obtain ⟨g, cap, w', hr, h2, h3, h4, h5⟩ := run_append_keep (P := Tryz.prog) (wr.alloc (.cells #[.slice xad n c] 105)) 45 45 H 105 inf _ 1 24 Tryz.underlying45 hi hz0 hz1 hz2 rfl (by decide) lo i _ hl ⟨wr.heap.size, 0, none⟩ 1 1 [.slice xad n c] rfl (World.news_of_block (cs := #[.slice xad n c]) (t := 105) (fr := (0, 0)) (heap_alloc_new wr _)) (by simp [Value.oneCell']) (by decide) (by unfold maxLen; omega) (by omega) (by omega)
  have hs2 := h3.size
  have hbb := h.base_
  have e2 : us.take i ++ [.slice xad n c] = us.take (i + 1) := by rw [List.take_add_one, hu]; rfl
  rw [e2] at h2
  have kG : Kept lo.ownBlock.toList wr w' := (k1.trans (G := []) (H := lo.ownBlock.toList) (Kept.refl [] _) (by simp) (by simp)).grown h3 (fun b hb => .inl (by rw [hb]; simp))
  refine ⟨g, cap, w', fun ty => hr, ⟨(h.ph.keptF kG (fun j u b hj hb hm => ?_) (fun b hm => ?_) h.high).next, h2, (h.kept.trans k1 (H := blocksOf vs) (fun _ h => h) (by simp)).grown h3 (fun b hb => .inr ?_), by omega, h.low, by omega⟩⟩
  · obtain ⟨cs, q1, _⟩ := h.ph.own
    have hjc : j < cs.length := by rw [← q1.len]; exact getElem?_lt hj
    exact types_apart (q1.row j u _ hj (List.getElem?_eq_getElem hjc)) h.long hb (by simpa using hm)
  · exact own_base h.long (by simpa using hm)
  · have := own_base hl hb
    have := h.low
    omega
set_option maxHeartbeats 4000000 in
set_option maxRecDepth 20000 in
theorem ownLetters_walk (lv : Value) (vs : List Value) (xss : List (List Nat)) (base base' : Nat) (w : World) (h : OwnIn w base base' lv vs xss) :
    Calls Tryz.prog 36 #[lv] w fun e w' => e = .returned (.bool true) ∧ Kept (blocksOf vs) w w' := by
  have HI : Hid (OwnIn w base base' lv vs xss) := h
  have hfew := h.few
  obtain ⟨lad, lc, rfl⟩ := own_form h.list
  obtain ⟨m, hm⟩ : ∃ m, vs.length = m := ⟨_, rfl⟩
  have HM : Hid (vs.length = m ∧ xss.length = m) := ⟨hm, by rw [← h.rows.len]; exact hm⟩
  have HP : Hid (Ph1 w base vs xss 0 0) := Ph1.start h.rows
  rw [hm] at hfew ⊢
  clear h hm
  go_enter Tryz.func36, Tryz.ntmps36
  go_wp2_with fail
  go_loopw [3, 4] (fun v3 _ wr => ∃ i : Nat, v3 = .int .i64 (i : Nat) ∧ i ≤ m ∧ Hid (Ph1 wr base vs xss i 0 ∧ Kept (blocksOf vs) w wr)) (fun v3 _ _ => m - (intOf v3).toNat)
  case atStart => exact ⟨0, rfl, Nat.zero_le _, HP.out, Kept.refl _ w⟩
  case round =>
    obtain ⟨i, rfl, hi, HR⟩ := hrel
    rename World => w2
    by_cases hlt : i < m
    · have hli : (i : Int) < (m : Int) := by omega
      have hz : (0 : Int) ≤ (i : Int) := by omega
      have hiv : i < vs.length := by rw [HM.out.1]; exact hlt
      have hix : i < xss.length := by rw [HM.out.2]; exact hlt
      obtain ⟨v, hv⟩ : ∃ v, vs[i]? = some v := ⟨_, List.getElem?_eq_getElem hiv⟩
      obtain ⟨xs, hxs⟩ : ∃ xs, xss[i]? = some xs := ⟨_, List.getElem?_eq_getElem hix⟩
      have hsh : xs.length ≤ 1000000000 := HI.out.short xs (List.mem_of_getElem? hxs)
      have hrow0 := HR.out.1.row hv hxs (Nat.zero_le _)
      obtain ⟨vad, vc, rfl⟩ := own_form hrow0
      obtain ⟨L, c, hLc, _, _⟩ := owns_cell (HI.out.held HR.out.2) hv
      obtain ⟨hlad, hlc⟩ : lad = some ⟨L, 0, none⟩ ∧ lc = c := by simpa using hLc
      subst hlad hlc
      have HC : Hid (∀ W, Kept (blocksOf vs) w W → W.cell? ⟨L, i, none⟩ = some (.slice vad xs.length vc)) := fun W k => by
        obtain ⟨L', c', e, _, hc⟩ := owns_cell (HI.out.held k) hv
        cases e
        exact hc
      have HV : Hid (vs[i]? = some (.slice vad xs.length vc) ∧ xss[i]? = some xs) := ⟨hv, hxs⟩
      have c0 := HC.out w2 HR.out.2
      clear hrow0 hLc hv hxs hiv hix
      go_wp2_with fail
      clear c0
      go_loopw [4] (fun v4 wr => ∃ k : Nat, v4 = .int .i64 (k : Nat) ∧ k ≤ xs.length ∧ Hid (Ph1 wr base vs xss i k ∧ Kept (blocksOf vs) w wr)) (fun v4 _ => xs.length - (intOf v4).toNat)
      case atStart => exact ⟨0, rfl, Nat.zero_le _, HR.out⟩
      case round =>
        obtain ⟨k, rfl, hk, HQ⟩ := hrel
        rename World => w3
        have c0 := HC.out w3 HQ.out.2
        by_cases hkl : k < xs.length
        · have hki : (k : Int) < (xs.length : Int) := by omega
          have hkz : (0 : Int) ≤ (k : Int) := by omega
          have hrow := HQ.out.1.row HV.out.1 HV.out.2 (by omega)
          obtain ⟨g, cap, e, _, _⟩ := hrow.form (by omega)
          obtain ⟨hvad, hvc⟩ : vad = some ⟨g, 0, none⟩ ∧ vc = cap := by simpa using e
          subst hvad hvc
          have f0 := owns_free hrow k
          obtain ⟨x0, hx0⟩ : ∃ x0, (m1 i k ++ xs.drop k)[k]? = some x0 := ⟨_, List.getElem?_eq_getElem (by rw [List.length_append, m1_len, List.length_drop]; omega)⟩
          have c1 : w3.cell? ⟨g, k, none⟩ = some (.int .u16 (x0 : Nat)) := owns_at hrow hx0
          have w1 : IntKind.i64.wrap ((i : Int) * 1009) = (i : Int) * 1009 := by rw [IntKind.wrap_i64]; omega
          have w2' : IntKind.i64.wrap ((k : Int) * 31) = (k : Int) * 31 := by rw [IntKind.wrap_i64]; omega
          have w3' : IntKind.i64.wrap ((i : Int) * 1009 + (k : Int) * 31) = (i : Int) * 1009 + (k : Int) * 31 := by rw [IntKind.wrap_i64]; omega
          have w4 := wrap_mark1 i k
          have HN : Hid (Ph1 (w3.setCell ⟨g, k, none⟩ (.int .u16 (mark1 i k : Nat))) base vs xss i (k + 1) ∧ Kept (blocksOf vs) w (w3.setCell ⟨g, k, none⟩ (.int .u16 (mark1 i k : Nat)))) := ⟨HQ.out.1.write HV.out.1 HV.out.2 hkl, HQ.out.2.setCell (p := ⟨g, k, none⟩) (.inl (mem_blocks (g := g) HV.out.1 rfl)) _⟩
          clear hrow e hx0
          go_wp2
          go_roundw
          case rel => exact ⟨k + 1, by go_num, by omega, HN.out⟩
          case measure => simp [intOf]; omega
        · obtain rfl : k = xs.length := by omega
          have hki : ¬ ((xs.length : Int) < (xs.length : Int)) := by omega
          have HN : Hid (Ph1 w3 base vs xss (i + 1) 0 ∧ Kept (blocksOf vs) w w3) := ⟨HQ.out.1.next HV.out.2, HQ.out.2⟩
          clear hkl hk
          go_wp2
          go_roundw
          case rel => exact ⟨i + 1, by go_num, by omega, HN.out⟩
          case measure => simp [intOf]; omega
    · obtain rfl : i = m := by omega
      have hli : ¬ ((i : Int) < (i : Int)) := by omega
      obtain ⟨H, hH⟩ : ∃ H, w2.heap.size = H := ⟨_, rfl⟩
      have HG0 : Hid (Gr w w2 base H vs xss 0 0 vs (.slice none 0 0)) := by
        have h1 := HR.out.1
        have h2 := Ph2.start (by rw [HM.out.2]; exact h1) (HM.out.1.trans HM.out.2.symm)
        have hs := HR.out.2.size
        have hb := HI.out.low
        rw [hH] at h2 hs
        exact ⟨h2, World.ownsRow_nil _ _ _ _, HR.out.2, by omega, hs, by omega⟩
      clear hlt hi hH HP HR
      go_wp2_with fail
      go_loopw [5, 6, 7, 8] (fun v5 v6 _ _ wr => ∃ (p : Nat) (us : List Value) (ad5 : Option Addr) (c5 : Nat), v5 = .slice ad5 p c5 ∧ v6 = .int .i64 (p : Nat) ∧ p ≤ i ∧ Hid (Gr w wr base H vs xss p 0 us (.slice ad5 p c5))) (fun _ v6 _ _ _ => i - (intOf v6).toNat)
      case atStart => exact ⟨0, vs, none, 0, rfl, rfl, Nat.zero_le _, HG0.out⟩
      case round =>
        obtain ⟨p, us, ad5, c5, rfl, rfl, hp, HG⟩ := hrel
        rename World => w4
        by_cases hlt : p < i
        · have hli2 : (p : Int) < (i : Int) := by omega
          have hz : (0 : Int) ≤ (p : Int) := by omega
          have hiv : p < vs.length := by rw [HM.out.1]; exact hlt
          have hix : p < xss.length := by rw [HM.out.2]; exact hlt
          obtain ⟨v, hv⟩ : ∃ v, vs[p]? = some v := ⟨_, List.getElem?_eq_getElem hiv⟩
          obtain ⟨xs, hxs⟩ : ∃ xs, xss[p]? = some xs := ⟨_, List.getElem?_eq_getElem hix⟩
          have hsh : xs.length ≤ 1000000000 := HI.out.short xs (List.mem_of_getElem? hxs)
          have hus : us[p]? = some v := (HG.out.ph.rest p (.inr ⟨rfl, rfl⟩)).trans hv
          obtain ⟨vad, vc, rfl⟩ := own_form (HG.out.ph.rowAt hus hxs)
          obtain ⟨L, c, hLc, _, c0⟩ := owns_cell (HI.out.held HG.out.kept) hv
          obtain ⟨hlad, hlc⟩ : lad = some ⟨L, 0, none⟩ ∧ lc = c := by simpa [HM.out.1] using hLc
          subst hlad hlc
          have HX : Hid (xss[p]? = some xs) := hxs
          have HU0 : Hid (us[p]? = some (.slice vad (xs.length + 0) vc)) := hus
          clear hLc hv hxs hiv hix hus
          rw [Nat.add_zero] at c0
          go_wp2_with fail
          clear c0
          go_loopw [7, 8] (fun v7 v8 wr => ∃ (k : Nat) (ts : List Value) (ad7 : Option Addr) (n7 c7 : Nat), v7 = .slice ad7 n7 c7 ∧ v8 = .int .i64 (k : Nat) ∧ k ≤ 16 ∧ Hid (n7 = xs.length + k ∧ Gr w wr base H vs xss p k ts (.slice ad5 p c5) ∧ ts[p]? = some (.slice ad7 n7 c7))) (fun _ v8 _ => 16 - (intOf v8).toNat)
          case atStart => exact ⟨0, us, vad, xs.length, vc, rfl, rfl, by omega, rfl, HG.out, HU0.out⟩
          case round =>
            obtain ⟨k, ts, ad7, n7, c7, rfl, rfl, hk, HQ⟩ := hrel
            rename World => w5
            by_cases hkl : k < 16
            · have hki : (k : Int) < 16 := by omega
              obtain ⟨g, cap, w', hrun, hgr, hget⟩ := HQ.out.2.1.letter HX.out HQ.out.2.2 hsh hkl
              obtain ⟨n8, hn8⟩ : ∃ n8, xs.length + (k + 1) = n8 := ⟨_, rfl⟩
              rw [hn8] at hrun hgr hget
              have HRUN : Hid (∀ ty, (Builtin.append_ #[105, 105] ty #[.slice ad7 n7 c7, .slice (some ⟨w5.heap.size, 0, none⟩) 1 1]).run Tryz.prog (w5.alloc (.cells #[.int .u16 (mark2 p k : Nat)] 73)) = .ok (.slice (some ⟨g, 0, none⟩) n8 cap) w') := hrun
              have HN : Hid (n8 = xs.length + (k + 1) ∧ Gr w w' base H vs xss p (k + 1) (ts.set p (.slice (some ⟨g, 0, none⟩) n8 cap)) (.slice ad5 p c5) ∧ (ts.set p (.slice (some ⟨g, 0, none⟩) n8 cap))[p]? = some (.slice (some ⟨g, 0, none⟩) n8 cap)) := ⟨hn8.symm, hgr, hget⟩
              have w1 : IntKind.i64.wrap (-1 - (p : Int)) = -1 - (p : Int) := by rw [IntKind.wrap_i64]; omega
              have w2' : IntKind.i64.wrap ((-1 - (p : Int)) * 1009) = (-1 - (p : Int)) * 1009 := by rw [IntKind.wrap_i64]; omega
              have w3' : IntKind.i64.wrap ((k : Int) * 31) = (k : Int) * 31 := by rw [IntKind.wrap_i64]; omega
              have w4' : IntKind.i64.wrap ((-1 - (p : Int)) * 1009 + (k : Int) * 31) = (-1 - (p : Int)) * 1009 + (k : Int) * 31 := by rw [IntKind.wrap_i64]; omega
              have w5' := wrap_mark2 p k
              clear hrun hgr hget hn8 HQ
              go_wp2_with (at_builtin; refine Lib.wpList_append_run _ rfl _ _ _ _ rfl _ _ rfl rfl _ _ (HRUN.out _) ?_)
              go_roundw
              case rel => exact ⟨k + 1, _, _, _, _, rfl, by go_num, by omega, HN.out⟩
              case measure => simp [intOf]; omega
            · obtain rfl : k = 16 := by omega
              obtain ⟨g, cap, w', hrun, hgr⟩ := HQ.out.2.1.list HQ.out.2.2 HI.out.few
              obtain ⟨p1, hp1⟩ : ∃ p1, p + 1 = p1 := ⟨_, rfl⟩
              rw [hp1] at hrun hgr
              have HRUN : Hid (∀ ty, (Builtin.append_ #[45, 45] ty #[.slice ad5 p c5, .slice (some ⟨w5.heap.size, 0, none⟩) 1 1]).run Tryz.prog (w5.alloc (.cells #[.slice ad7 n7 c7] 105)) = .ok (.slice (some ⟨g, 0, none⟩) p1 cap) w') := hrun
              have HN : Hid (Gr w w' base H vs xss p1 0 ts (.slice (some ⟨g, 0, none⟩) p1 cap)) := hgr
              have HP1 : Hid (p + 1 = p1) := hp1
              have hpi : IntKind.i64.wrap ((p : Int) + 1) = (p1 : Int) := by rw [IntKind.wrap_i64]; omega
              clear hrun hgr hp1 hkl hk HQ
              go_wp2_with (at_builtin; refine Lib.wpList_append_run _ rfl _ _ _ _ rfl _ _ rfl rfl _ _ (HRUN.out _) ?_)
              go_roundw
              case rel => exact ⟨p1, ts, _, _, rfl, by have := HP1.out; go_num, by have := HP1.out; omega, HN.out⟩
              case measure => have := HP1.out; simp [intOf]; omega
        · obtain rfl : p = i := by omega
          have hli2 : ¬ ((p : Int) < (p : Int)) := by omega
          clear hlt hp HG0
          go_wp2_with fail
          go_loopw [9, 10, 11, 12] (fun v9 _ _ _ wr => ∃ q : Nat, v9 = .int .i64 (q : Nat) ∧ q ≤ p ∧ Hid (Kept [] w4 wr)) (fun v9 _ _ _ _ => p - (intOf v9).toNat)
          case atStart => exact ⟨0, rfl, Nat.zero_le _, Kept.refl [] w4⟩
          case round =>
            obtain ⟨q, rfl, hq, HK⟩ := hrel
            rename World => w6
            by_cases hlt : q < p
            · have hlq : (q : Int) < (p : Int) := by omega
              have hz : (0 : Int) ≤ (q : Int) := by omega
              have hiv : q < vs.length := by rw [HM.out.1]; exact hlt
              have hix : q < xss.length := by rw [HM.out.2]; exact hlt
              have hiu : q < us.length := by rw [HG.out.ph.len]; exact hiv
              obtain ⟨v, hv⟩ : ∃ v, vs[q]? = some v := ⟨_, List.getElem?_eq_getElem hiv⟩
              obtain ⟨xs, hxs⟩ : ∃ xs, xss[q]? = some xs := ⟨_, List.getElem?_eq_getElem hix⟩
              obtain ⟨u, hu⟩ : ∃ u, us[q]? = some u := ⟨_, List.getElem?_eq_getElem hiu⟩
              have hsh : xs.length ≤ 1000000000 := HI.out.short xs (List.mem_of_getElem? hxs)
              obtain ⟨vad, vc, rfl⟩ := own_form (HI.out.rows.row q v xs hv hxs)
              obtain ⟨L, c, hLc, _, hl0⟩ := owns_cell (HI.out.held HG.out.kept) hv
              obtain ⟨hlad, hlc⟩ : lad = some ⟨L, 0, none⟩ ∧ lc = c := by simpa [HM.out.1] using hLc
              subst hlad hlc
              have hwh := HG.out.ph.whole hlt hu hxs
              obtain ⟨hb, hcap, rfl, _, _⟩ := hwh.form (by omega)
              obtain ⟨Lg, cg, hLg, _, hg0⟩ := owns_cell HG.out.long (show (us.take p)[q]? = _ from (by rw [List.getElem?_take, if_pos hlt]; exact hu))
              obtain ⟨had5, hc5⟩ : ad5 = some ⟨Lg, 0, none⟩ ∧ c5 = cg := by simpa using hLg
              subst had5 hc5
              have HA : Hid (∀ W, Kept [] w4 W → W.cell? ⟨L, q, none⟩ = some (.slice vad xs.length vc) ∧ W.cell? ⟨Lg, q, none⟩ = some (.slice (some ⟨hb, 0, none⟩) (xs.length + 16) hcap)) := fun W k => ⟨cell_kept0 k hl0, cell_kept0 k hg0⟩
              have HF : Hid (∀ W, Kept [] w4 W → ∀ g, vad = some ⟨g, 0, none⟩ → ∀ k, k < xs.length → W.cell? ⟨g, k, none⟩ = some (.int .u16 (mark1 q k : Nat))) := fun W kk g e k hk => cell_kept0 kk (HG.out.ph.first q xs _ g hxs hv (by rw [e]; rfl) k hk)
              have HV : Hid (∀ k, k < xs.length → ∃ g, vad = some ⟨g, 0, none⟩) := fun k hk => by
                obtain ⟨g, cap, e, _, _⟩ := (HI.out.rows.row q _ xs hv hxs).form (by omega)
                exact ⟨g, by simpa using congrArg (fun v => match v with | .slice a _ _ => a | _ => none) e⟩
              have H1 : Hid (∀ W, Kept [] w4 W → ∀ k, k < xs.length → W.cell? ⟨hb, k, none⟩ = some (.int .u16 (mark1 q k : Nat))) := fun W kk k hk => cell_kept0 kk (owns_at hwh (by rw [List.getElem?_append_left (by rw [m1_len]; exact hk)]; exact m1_at hk))
              have H2 : Hid (∀ W, Kept [] w4 W → ∀ k, k < 16 → W.cell? ⟨hb, xs.length + k, none⟩ = some (.int .u16 (mark2 q k : Nat))) := fun W kk k hk => cell_kept0 kk (owns_at hwh (by rw [List.getElem?_append_right (by rw [m1_len]; omega), m1_len, show xs.length + k - xs.length = k by omega]; exact m2_at hk))
              obtain ⟨n16, hn16⟩ : ∃ n16, xs.length + 16 = n16 := ⟨_, rfl⟩
              rw [hn16] at HA
              have HN16 : Hid (xs.length + 16 = n16) := hn16
              obtain ⟨c0, d0⟩ := HA.out w6 HK.out
              clear hLc hLg hl0 hg0 hv hxs hu hwh hiv hix hiu hn16
              go_wp2_with fail
              clear c0 d0
              go_loopw [11] (fun v11 wr => ∃ k : Nat, v11 = .int .i64 (k : Nat) ∧ k ≤ xs.length ∧ Hid (Kept [] w4 wr)) (fun v11 _ => xs.length - (intOf v11).toNat)
              case atStart => exact ⟨0, rfl, Nat.zero_le _, HK.out⟩
              case round =>
                obtain ⟨k, rfl, hk, HKk⟩ := hrel
                rename World => w7
                obtain ⟨c0, d0⟩ := HA.out w7 HKk.out
                by_cases hkl : k < xs.length
                · have hki : (k : Int) < (xs.length : Int) := by omega
                  have hkz : (0 : Int) ≤ (k : Int) := by omega
                  have hkn : (k : Int) < (n16 : Int) := by have := HN16.out; omega
                  obtain ⟨g, rfl⟩ := HV.out k hkl
                  have c1 := HF.out w7 HKk.out g rfl k hkl
                  have c2 := H1.out w7 HKk.out k hkl
                  have w1 : IntKind.i64.wrap ((q : Int) * 1009) = (q : Int) * 1009 := by rw [IntKind.wrap_i64]; omega
                  have w2' : IntKind.i64.wrap ((k : Int) * 31) = (k : Int) * 31 := by rw [IntKind.wrap_i64]; omega
                  have w3' : IntKind.i64.wrap ((q : Int) * 1009 + (k : Int) * 31) = (q : Int) * 1009 + (k : Int) * 31 := by rw [IntKind.wrap_i64]; omega
                  have w4' := wrap_mark1 q k
                  obtain ⟨x, hx⟩ : ∃ x, mark1 q k = x := ⟨_, rfl⟩
                  rw [hx] at c1 c2 w4'
                  have hne : ((x : Int) != (x : Int)) = false := by simp
                  clear hx
                  go_wp2
                  go_roundw
                  case rel => exact ⟨k + 1, by go_num, by omega, HKk.out⟩
                  case measure => simp [intOf]; omega
                · obtain rfl : k = xs.length := by omega
                  have hki : ¬ ((xs.length : Int) < (xs.length : Int)) := by omega
                  clear hkl hk c0 d0
                  go_wp2_with fail
                  go_loopw [12] (fun v12 wr => ∃ k : Nat, v12 = .int .i64 (k : Nat) ∧ k ≤ 16 ∧ Hid (Kept [] w4 wr)) (fun v12 _ => 16 - (intOf v12).toNat)
                  case atStart => exact ⟨0, rfl, Nat.zero_le _, HKk.out⟩
                  case round =>
                    obtain ⟨k, rfl, hk, HKj⟩ := hrel
                    rename World => w8
                    obtain ⟨c0, d0⟩ := HA.out w8 HKj.out
                    by_cases hkl : k < 16
                    · have hkj : (k : Int) < 16 := by omega
                      have c2 := H2.out w8 HKj.out k hkl
                      obtain ⟨nk, hnk⟩ : ∃ nk, xs.length + k = nk := ⟨_, rfl⟩
                      rw [hnk] at c2
                      have w0 : IntKind.i64.wrap ((xs.length : Int) + (k : Int)) = (nk : Int) := by rw [IntKind.wrap_i64]; omega
                      have hkz : (0 : Int) ≤ (nk : Int) := by omega
                      have hkn : (nk : Int) < (n16 : Int) := by have := HN16.out; omega
                      have w1 : IntKind.i64.wrap (-1 - (q : Int)) = -1 - (q : Int) := by rw [IntKind.wrap_i64]; omega
                      have w2' : IntKind.i64.wrap ((-1 - (q : Int)) * 1009) = (-1 - (q : Int)) * 1009 := by rw [IntKind.wrap_i64]; omega
                      have w3' : IntKind.i64.wrap ((k : Int) * 31) = (k : Int) * 31 := by rw [IntKind.wrap_i64]; omega
                      have w4' : IntKind.i64.wrap ((-1 - (q : Int)) * 1009 + (k : Int) * 31) = (-1 - (q : Int)) * 1009 + (k : Int) * 31 := by rw [IntKind.wrap_i64]; omega
                      have w5' := wrap_mark2 q k
                      obtain ⟨x, hx⟩ : ∃ x, mark2 q k = x := ⟨_, rfl⟩
                      rw [hx] at c2 w5'
                      have hne : ((x : Int) != (x : Int)) = false := by simp
                      clear hx hnk
                      go_wp2
                      go_roundw
                      case rel => exact ⟨k + 1, by go_num, by omega, HKj.out⟩
                      case measure => simp [intOf]; omega
                    · obtain rfl : k = 16 := by omega
                      clear hkl hk
                      go_wp2
                      go_roundw
                      case rel => exact ⟨q + 1, by go_num, by omega, HKj.out⟩
                      case measure => simp [intOf]; omega
            · obtain rfl : q = p := by omega
              have hlq : ¬ ((q : Int) < (q : Int)) := by omega
              clear hlt hq
              go_wp2
              go_ret
              exact ⟨rfl, HG.out.kept.trans HK.out (fun _ h => h) (by simp)⟩
end Go.Proofs.YtbbfajbnklgncaaGreat
