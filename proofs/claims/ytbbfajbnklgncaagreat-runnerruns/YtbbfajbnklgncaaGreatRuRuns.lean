/- The walk of RunnerRuns. -/
import Derived.Test.YtbbfajbnklgncaaGreatRuSpE
import Derived.Test.YtbbfajbnklgncaaGreatHO
import Derived.Test.YtbbfajbnklgncaaGreatRuKnown
import Derived.Test.YtbbfajbnklgncaaGreatOwnBookV
namespace Go.Proofs.YtbbfajbnklgncaaGreat
open Go.RowKit Go.Shelf Go.Maps

/-- One value more behind the lent lists. -/
theorem EvL.tail {W Wx W2 : World} {base : Nat} {rv rv' u : Value} {bs : List Nat} {es : List (List ByteArray)} (h : EvL W base rv bs es []) (k : Kept [] W Wx) (ho : W2.ownsRow base 22 1 rv' (es.length + 1) (lentVs bs es ++ [u])) (hg : Wx.grownBy W2 rv.ownBlock) : EvL W2 base rv' bs es [u] := by
  have hk := h.kept k
  refine ⟨ho, fun j q y h1 h2 => ?_, h.len, fun q hq => ⟨(h.low q hq).1, by have := (hk.low q hq).2; have := hg.size; omega⟩, h.nd⟩
  have hy := hk.each j q y h1 h2
  exact ⟨by rw [hg.block q (lt_of hy.row) (fun e => hk.rowNot h1 h2 e.symm)]; exact hy.row, hy.len, hy.mlen, hy.few⟩
theorem rowss_wfR {W : World} {v : Value} {ss : List (List Int)} (h : Rowss W v ss) : ∀ xs ∈ ss, ∀ x ∈ xs, -9223372036854775808 ≤ x ∧ x ≤ 9223372036854775807 := by
  intro xs hx
  obtain ⟨i, hi, rfl⟩ := List.getElem_of_mem hx
  rcases h.lie with ⟨_, e⟩ | ⟨b, o, c, _, _, _, h4⟩
  · rw [e] at hi; simp at hi
  · obtain ⟨u, _, hI⟩ := h4 i hi
    exact hI.wf
theorem evs_wfR {W : World} {v : Value} {ss : List (List ByteArray)} (h : Evs W v ss) : ∀ x ∈ ss, x.length ≤ 8796093022208 ∧ ∀ y ∈ x, y.size ≤ 140737488351232 := by
  intro x hx
  obtain ⟨i, hi, rfl⟩ := List.getElem_of_mem hx
  rcases h.lie with ⟨_, e⟩ | ⟨b, o, c, _, _, _, h4⟩
  · rw [e] at hi; simp at hi
  · obtain ⟨u, _, hS, h5⟩ := h4 i hi
    exact ⟨hS.few, h5⟩
theorem mooL_vals {W : World} {n b1 b2 b3 m : Nat} {bs : List Nat} {ps : List ByteArray} {next : List (List Int)} {out : List Nat} (h : MooL W n b1 b2 b3 m bs ps next out) (hp : ps.length ≤ 100000) (hps : ∀ x ∈ ps, x.size ≤ maxLen) (hn : next.length ≤ 100000) (hr : ∀ xs ∈ next, xs.length ≤ 100000) (hx : ∀ xs ∈ next, ∀ x ∈ xs, -9223372036854775808 ≤ x ∧ x ≤ 9223372036854775807) (ho : out.length ≤ 100000) (hs : ∀ x ∈ out, x < 256) :
    Strs W (.slice (some ⟨b1, 0, none⟩) ps.length (ps.length + 2)) ps ∧ Rowss W (.slice (some ⟨b2, 0, none⟩) next.length (next.length + 1)) next ∧ Vds W (.slice (some ⟨b3, 0, none⟩) out.length (out.length + 2)) out := by
  obtain ⟨w0, hl⟩ := h.nx
  exact ⟨h.ps.strs (by omega) hps, hl.rowss (by omega) (fun xs q => ⟨by have := hr xs q; omega, hx xs q⟩), h.lv.vds (by omega) hs⟩
def ownersR : ByteArray := ⟨#[116, 104, 101, 32, 111, 119, 110, 101, 114, 39, 115]⟩
theorem take_snocR {es : List (List ByteArray)} {k : Nat} {x : List ByteArray} (h : es[k]? = some x) : es.take (k + 1) = es.take k ++ [x] := by rw [List.take_add_one, h]; rfl
theorem own_lowerR {W : World} {base base' : Nat} {e : TypeId} {size : Nat} {v : Value} {n : Nat} {xs : List Value} (h : W.ownsRow base e size v n xs) (hb : base' ≤ base) : W.ownsRow base' e size v n xs := by
  refine ⟨h.1, ?_⟩
  rcases h.2 with h2 | ⟨g, cap, cur, rfl, q1, q2⟩
  · exact .inl h2
  · exact .inr ⟨g, cap, cur, rfl, Nat.le_trans hb q1, q2⟩
theorem swapV_lt {xs : List Nat} (h : ∀ x ∈ xs, x < 256) : ∀ k, ∀ x ∈ swapV xs k, x < 256
  | 0 => h
  | k + 1 => by
    intro x hx
    unfold swapV at hx
    rcases List.mem_or_eq_of_mem_set hx with q | q
    · exact swapV_lt h k x q
    · rw [q, List.getD_eq_getElem?_getD]
      cases e : (swapV xs k)[xs.length - 1 - k]? with
      | none => simp
      | some y => exact swapV_lt h k y (List.mem_of_getElem? e)
theorem MooL.swapped {W W' : World} {n b1 b2 b3 m : Nat} {bs bt : List Nat} {ps : List ByteArray} {next : List (List Int)} {out so : List Nat} (h : MooL W n b1 b2 b3 m bs ps next out) (hbt : ∀ x ∈ bt, W.heap.size ≤ x) (k : Kept (b3 :: bt) W W') (hr : W'.heap[b3]? = some (.cells (cellsV so ++ marksV).toArray 38 (0, 0))) (hl : so.length = out.length) : MooL W' n b1 b2 b3 m bs ps next so := by
  obtain ⟨u1, u2, u3⟩ := h.up
  obtain ⟨w0, hr0⟩ := h.nx
  have z3 := lt_of h.lv.row
  have hno : ∀ x, x < W.heap.size → x ≠ b3 → x ∉ b3 :: bt := fun x hx hne hm => by
    rcases List.mem_cons.1 hm with e | e
    · exact hne e
    · have := hbt x e; omega
  have hb : ∀ x, x < b3 → x ∉ b3 :: bt := fun x hx => hno x (by omega) (by omega)
  have hm : m ≠ b3 := by
    rintro rfl
    have e1 := h.lv.row
    rw [hr0.mrk] at e1
    have e3 := congrArg (fun o : Option Obj => match o with | some (.cells _ t _) => (t : Nat) | _ => 0) e1
    exact absurd e3 (show (3 : Nat) ≠ 38 by decide)
  exact ⟨h.ps.keptF k (hb _ (by omega)), ⟨w0, k.at hr0.row (hb _ (by omega)), hr0.rs.keptF k (fun x hx => hb x (h.lt x hx)), k.at hr0.mrk (hno _ (lt_of hr0.mrk) hm), hr0.nb, hr0.nd, hr0.lo⟩, ⟨hr, by simp [cellsV], h.lv.mlen, by have := h.lv.few; omega⟩, h.up, h.lt⟩
/-- The book at its first box: two lists put down, and what comes out is its owner's. -/
theorem bookTwo {w Y Z : World} {base : Nat} {v1 v2 : Value} {L : List Nat} (hY : Kept [] w Y) (h1 : Y.ownsRow base 38 1 v1 L.length (vdC L)) (h2 : Y.ownsRow base 38 1 v2 L.length (vdC L)) (hne : ∀ g, v1.ownBlock = some g → v2.ownBlock ≠ some g) (hb : w.heap.size ≤ base) (hb2 : base ≤ Y.heap.size) (hL : L.length ≤ 1000000000) (hZ : Y.alloc (.cells #[.slice none 0 0, .slice none 0 0, .slice none 0 0, .slice none 0 0, .slice none 0 0, .slice none 0 0, .slice none 0 0, .slice none 0 0, .slice none 0 0, .slice none 0 0, .slice none 0 0, .slice none 0 0, .slice none 0 0] 55) = Z) :
    Calls Tryz.prog 15 #[.pointer (some ⟨Y.heap.size, 0, none⟩), v1] Z fun e Z1 => (∃ v, e = .returned v) ∧ Hid (Calls Tryz.prog 15 #[.pointer (some ⟨Y.heap.size, 0, none⟩), v2] Z1 fun e Z2 => (∃ v, e = .returned v) ∧ Hid (Calls Tryz.prog 16 #[.pointer (some ⟨Y.heap.size, 0, none⟩)] Z2 fun e Z3 => e = .returned (.bool true) ∧ Hid (Kept [] w Z3))) := by
  have kZ : Kept [] Y Z := by rw [← hZ]; exact (Kept.refl [] Y).alloc _
  have kw : Kept [] w Z := keptB hY kZ
  have hw := hY.size
  have hz := kZ.size
  have hB0 : BookLV8 Z base Y.heap.size Y.heap.size (.slice none 0 0) [] [] := BookLV8.start (by rw [← hZ]; exact al0 _ _) (by omega) hz
  have r1 := bx_kept h1 kZ (by simp)
  have r2 := bx_kept h2 kZ (by simp)
  refine (bookLetters_anyV8 Y.heap.size base Y.heap.size _ [] [] v1 L Z hB0 r1 (by simp) (by simp) hL).mono ?_
  rintro e Z1 ⟨he, lv1, hb1, hk1, hl1⟩
  refine ⟨he, ?_⟩
  have r2' := bx_kept r2 hk1 (fun g hg => hB0.free r2 hg)
  have kw1 : Kept [] w Z1 := kw.trans hk1 (by simp) (fun x hx => .inr (by
    rcases List.mem_cons.1 hx with q | q
    · omega
    · simp [Value.ownBlock] at q))
  refine (bookLetters_anyV8 Y.heap.size base Y.heap.size lv1 _ _ v2 L Z1 hb1 r2' (fun v hv g hg => ?_) (by simp) hL).mono ?_
  · simp at hv
    subst hv
    exact hne g hg
  rintro e Z2 ⟨he2, lv2, hb2', hk2, hl2⟩
  refine ⟨he2, ?_⟩
  have hsz1 := hk1.size
  have kw2 : Kept [] w Z2 := kw1.trans hk2 (by simp) (fun x hx => .inr (by
    rcases List.mem_cons.1 hx with q | q
    · omega
    · have q' : lv1.ownBlock = some x := by simpa using q
      rcases hl1 x q' with q2 | q2
      · simp [Value.ownBlock] at q2
      · omega))
  refine (bookOwn_anyV8 Y.heap.size base Y.heap.size lv2 _ _ Z2 hb2').mono ?_
  rintro e Z3 ⟨he3, hk3⟩
  refine ⟨he3, kw2.trans hk3 (by simp) (fun x hx => .inr ?_)⟩
  obtain ⟨v, hv, hg⟩ := List.mem_filterMap.1 hx
  simp at hv
  rcases hv with rfl | rfl
  · have := (bx_base h1 hg).1; omega
  · have := (bx_base h2 hg).1; omega
theorem kept_belowS {w w' : World} (h : Below w.heap.size w w') : Kept [] w w' := ⟨h.os, h.tape, h.output, h.size, fun k hk _ => h.block k hk⟩
set_option maxHeartbeats 16000000 in
set_option maxRecDepth 20000 in
theorem runnerRuns_some (pv nv ov ev : Value) (ps : List ByteArray) (next : List (List Int)) (out : List Nat) (es : List (List ByteArray)) (w : World) (hp : Strs w pv ps) (hn : Rowss w nv next) (ho : Vds w ov out) (he : Evs w ev es) (hs : ∀ x ∈ ps, x.size ≤ 140737488351232) :
    Calls Tryz.prog 3 #[.agg #[pv, nv, ov], ev] w fun e w' => e = .returned (.bool true) ∧ Hid (Kept [] w w') := by
  obtain ⟨pa, pc, rfl, _, _⟩ := hp.form
  obtain ⟨na, nc, rfl, _, _⟩ := hn.form13
  obtain ⟨oa, oc, rfl⟩ := ho.form
  obtain ⟨V, hV⟩ : ∃ V, w.alloc (.cells #[.slice pa ps.length pc, .slice na next.length nc, .slice oa out.length oc] 26) = V := ⟨_, rfl⟩
  have kV : Kept [] w V := by rw [← hV]; exact (Kept.refl [] w).alloc _
  have hB : Thr 26 V w.heap.size (.slice pa ps.length pc) (.slice na next.length nc) (.slice oa out.length oc) := by rw [← hV]; exact al0 _ _
  have HV : Hid (_ = V) := hV
  have HKV : Hid (Kept [] w V) := kV
  have HVB : Hid (w.heap.size < V.heap.size) := lt_of hB
  have HC : Hid (∀ W, Kept [] V W → W.cell? ⟨w.heap.size, 0, none⟩ = some (.slice pa ps.length pc) ∧ W.cell? ⟨w.heap.size, 1, none⟩ = some (.slice na next.length nc) ∧ W.cell? ⟨w.heap.size, 2, none⟩ = some (.slice oa out.length oc)) := fun W k => (hB.keptF k (by simp)).cells
  have HOM : Hid (Calls Tryz.prog 4 #[.agg #[.slice pa ps.length pc, .slice na next.length nc, .slice oa out.length oc]] V fun e w' => e = .returned (.int .i64 (moN ps next out : Nat)) ∧ Hid (Kept [] V w')) := ofMoore_any _ _ _ ps next out V (hp.kept kV) (hn.kept kV) (ho.kept kV) hs
  have HMN : Hid (moN ps next out ≤ 400000000000000) := by
    have b1 := ot_le 0 ps (by omega) hs
    have b2 := orw_le 0 next (by omega) (rowss_few hn)
    have b3 := ho.few
    show moN ps next out ≤ _
    unfold moN
    omega
  have HM4 : Hid (∀ W, Kept [] V W → Strs W (.slice pa ps.length pc) ps ∧ Rowss W (.slice na next.length nc) next ∧ Vds W (.slice oa out.length oc) out) := fun W k => ⟨hp.kept (keptB kV k), hn.kept (keptB kV k), ho.kept (keptB kV k)⟩
  have HKN : Hid (∀ W, Calls Tryz.prog 6 #[] W fun e w' => e = .returned (.bool true) ∧ Below W.heap.size W w') := known_walk
  have HEV : Hid (∀ W, Kept [] w W → Evs W ev es) := fun W k => he.kept k
  have hef := he.few
  have HWF : Hid ((∀ xs ∈ next, ∀ x ∈ xs, -9223372036854775808 ≤ x ∧ x ≤ 9223372036854775807) ∧ (∀ x ∈ ps, x.size ≤ maxLen) ∧ (∀ x ∈ out, x < 256) ∧ (∀ x ∈ es, x.length ≤ 8796093022208 ∧ ∀ y ∈ x, y.size ≤ 140737488351232)) := ⟨rowss_wfR hn, hp.small, ho.small, evs_wfR he⟩
  obtain ⟨c0, c1, c2⟩ := HC.out V (Kept.refl [] V)
  obtain ⟨ea, ec, rfl⟩ := he.form
  obtain ⟨mn, hmn⟩ : ∃ mn, moN ps next out = mn := ⟨_, rfl⟩
  have HMF : Hid (mn ≤ 100000 → ps.length ≤ 100000 ∧ next.length ≤ 100000 ∧ (∀ xs ∈ next, xs.length ≤ 100000) ∧ out.length ≤ 100000) := fun h => by
    have hm : moN ps next out ≤ 100000 := by rw [hmn]; exact h
    obtain ⟨q1, q2, q3⟩ := moN_few hm
    refine ⟨q1, q2, (orw_few next 0 ?_).2.2, q3⟩
    unfold moN at hm
    omega
  rw [hmn] at HOM HMN
  have hmn2 : mn ≤ 400000000000000 := HMN.out
  clear hp hn ho he hs hV kV hB hmn HMN
  have z0 : (0 : Int) ≤ (es.length : Int) := by omega
  go_enter Tryz.func3, Tryz.ntmps3
  go_upto_region 1 with fail
  rw [HV.out]
  clear HV
  go_wp2_with (go_at_call 4; refine HOM.out.mono ?_; rintro e W1 ⟨rfl, HK1⟩; clear c0 c1 c2)
  go_loopw [5, 6] (fun a v wr => ∃ n k : Nat, a = .int .i64 (n : Nat) ∧ v = .int .i64 (k : Nat) ∧ k ≤ es.length ∧ mn + k ≤ n ∧ n ≤ 400000000000000 ∧ Hid (Kept [] V wr)) (fun _ v _ => es.length - (intOf v).toNat)
  case atStart => exact ⟨mn, 0, rfl, rfl, Nat.zero_le _, Nat.le_refl _, hmn2, HK1⟩
  case round =>
    obtain ⟨n, k, rfl, rfl, hk, hn1, hn2, HK⟩ := hrel
    by_cases hlt : k < es.length
    · have q0 : (k : Int) < (es.length : Int) := by omega
      have q1 : (0 : Int) ≤ (k : Int) := by omega
      by_cases hnb : n ≤ 100000
      · have q2 : (n : Int) ≤ 100000 := by omega
        have q3 : decide ((k : Int) < (es.length : Int)) = true := decide_eq_true q0
        rcases (HEV.out wr (keptB HKV.out HK.out)).lie with ⟨_, he⟩ | ⟨b, o, c, hpe, _, _, hcell⟩
        · rw [he] at hlt; simp at hlt
        · cases hpe
          obtain ⟨u, hu, hS, hss⟩ := hcell k hlt
          obtain ⟨x, hx⟩ : ∃ x, es[k] = x := ⟨_, rfl⟩
          rw [hx] at hS hss
          have HOT : Hid (Calls Tryz.prog 5 #[u] wr fun e w' => e = .returned (.int .i64 (ot 0 x : Nat)) ∧ w' = wr) := ofTextsE_any u x wr hS hss
          have hot := ot_le 0 x (by omega) hss
          obtain ⟨y, hy⟩ : ∃ y, ot 0 x = y := ⟨_, rfl⟩
          rw [hy] at HOT hot
          clear hcell hS hss hx hy
          go_wp2_with (go_at_call 5; refine HOT.out.mono ?_; rintro e w1 ⟨rfl, hw1⟩; rw [hw1]; clear hw1)
          go_roundw
          case rel => exact ⟨n + 1 + y, k + 1, by go_num, by go_num, by omega, by omega, by omega, HK⟩
          case measure => simp [intOf]; omega
      · have q2 : ¬ ((n : Int) ≤ 100000) := by omega
        have q4 : (100000 : Int) < (n : Int) := by omega
        go_wp2
        go_ret
        exact ⟨rfl, keptB HKV.out HK.out⟩
    · obtain rfl : k = es.length := by omega
      have q0 : ¬ ((es.length : Int) < (es.length : Int)) := by omega
      by_cases hnb : n ≤ 100000
      · have q2 : ¬ ((100000 : Int) < (n : Int)) := by omega
        have hel : es.length ≤ 100000 := by omega
        have HFW : Hid (ps.length ≤ 100000 ∧ next.length ≤ 100000 ∧ (∀ xs ∈ next, xs.length ≤ 100000) ∧ out.length ≤ 100000) := HMF.out (by omega)
        have HLM : Hid (∀ W, Kept [] V W → Calls Tryz.prog 7 #[.agg #[.slice pa ps.length pc, .slice na next.length nc, .slice oa out.length oc]] W (MooEnd W ps next out)) := fun W kw => by
          obtain ⟨m1, m2, m3⟩ := HM4.out W kw
          have hfw := HFW.out
          exact lentMoore_any _ _ _ ps next out W m1 m2 m3 ⟨by omega, by omega, fun xs hx => by have := hfw.2.2.1 xs hx; omega, by omega⟩
        go_upto_region 9 with (go_at_call 6; refine (HKN.out _).mono ?_; rintro e Wk ⟨rfl, hbk⟩; have HKk : Hid (Kept [] V Wk) := keptB HK.out (kept_belowS hbk); clear hbk)
        obtain ⟨c0, c1, c2⟩ := HC.out Wk HKk.out
        go_upto_region 10 with (go_at_call 7; refine Calls.mono (HLM.out Wk HKk.out) ?_; rintro e W2 ⟨b1, b2, b3, m, bs, rfl, hml, hk2⟩; have HML : Hid _ := hml; have HK2 : Hid (Kept [] Wk W2) := hk2; clear hml hk2 c0 c1 c2)
        obtain ⟨W3, hW3⟩ : ∃ W3, W2.alloc (.cells #[.slice (some ⟨b1, 0, none⟩) ps.length (ps.length + 2), .slice (some ⟨b2, 0, none⟩) next.length (next.length + 1), .slice (some ⟨b3, 0, none⟩) out.length (out.length + 2)] 26) = W3 := ⟨_, rfl⟩
        have k3 : Kept [] W2 W3 := by rw [← hW3]; exact (Kept.refl [] W2).alloc _
        have HK3 : Hid (Kept [] V W3) := keptB (keptB HKk.out HK2.out) k3
        have HML3 : Hid (MooL W3 Wk.heap.size b1 b2 b3 m bs ps next out) := HML.out.keptF k3 (by simp) (by simp)
        obtain ⟨I, hI⟩ : ∃ I, W2.heap.size = I := ⟨_, rfl⟩
        have HIB : Hid (Thr 26 W3 I (.slice (some ⟨b1, 0, none⟩) ps.length (ps.length + 2)) (.slice (some ⟨b2, 0, none⟩) next.length (next.length + 1)) (.slice (some ⟨b3, 0, none⟩) out.length (out.length + 2))) := by show Thr _ _ _ _ _ _; rw [← hW3, ← hI]; exact al0 _ _
        have hW3' : W2.alloc (.cells #[.slice (some ⟨b1, 0, none⟩) ps.length (ps.length + 2), .slice (some ⟨b2, 0, none⟩) next.length (next.length + 1), .slice (some ⟨b3, 0, none⟩) out.length (out.length + 2)] 26) = W3 := hW3
        rw [hW3', hI]
        clear hW3 hW3' k3 HML q2 q0
        have HE3 : Hid (EvL W3 W3.heap.size (.slice none 0 0) [] (es.take 0) []) := EvL.start
        go_wp2_with fail
        go_loopw [9, 10] (fun a v wr => ∃ k : Nat, v = .int .i64 (k : Nat) ∧ k ≤ es.length ∧ ∃ bt, Hid (EvL wr W3.heap.size a bt (es.take k) []) ∧ Hid (Kept [] W3 wr)) (fun _ v _ => es.length - (intOf v).toNat)
        case atStart => exact ⟨0, rfl, Nat.zero_le _, [], HE3, Kept.refl [] W3⟩
        case round =>
          obtain ⟨k, rfl, hk, bt, HL, HK5⟩ := hrel
          by_cases hlt : k < es.length
          · have q0 : (k : Int) < (es.length : Int) := by omega
            have q1 : (0 : Int) ≤ (k : Int) := by omega
            rcases (HEV.out wr (keptB HKV.out (keptB HK3.out HK5.out))).lie with ⟨_, he⟩ | ⟨b, o, c, hpe, _, _, hcell⟩
            · rw [he] at hlt; simp at hlt
            · cases hpe
              obtain ⟨u, hu, hS, hss⟩ := hcell k hlt
              have hx? : es[k]? = some es[k] := List.getElem?_eq_getElem hlt
              obtain ⟨x, hx⟩ : ∃ x, es[k] = x := ⟨_, rfl⟩
              rw [hx] at hS hss hx?
              have HLT : Hid (Calls Tryz.prog 8 #[u] wr fun e w' => ∃ b, e = .returned (.slice (some ⟨b, 0, none⟩) x.length (x.length + 2)) ∧ LentG 9 1 w' b x.length (cellsT x) marksT ∧ wr.heap.size ≤ b ∧ Kept [] wr w') := lentTexts_any u x.length _ wr hS.src hS.few
              have HTK : Hid (es.take (k + 1) = es.take k ++ [x]) := take_snocR hx?
              have HLE : Hid ((es.take k).length = k) := by show _ = k; rw [List.length_take]; omega
              clear hcell hS hss hx hx?
              go_wp2_with (first
                | (go_at_call 8; go_loud (refine HLT.out.mono ?_; rintro e w1 ⟨b, rfl, hl1, hb1, k1⟩; obtain ⟨g, c, w5, h5, ho5, hg5⟩ := appendTx_step (u := lentV b x) (HL.out.kept k1).row rfl (by have := HK5.out.size; have := k1.size; omega) (by rw [HLE.out]; simp; omega); rw [show ([] : List Value).length = 0 from rfl, Nat.add_zero] at h5 ho5; rw [List.append_nil] at ho5; have h9 := HL.out.snoc hl1 hb1 HK5.out.size k1 ho5 hg5; rw [HLE.out] at h9; rw [HLE.out] at h5; have HR5 : Hid _ := h5; have HS5 : Hid _ := h9; have HK6 : Hid (Kept [] W3 w5) := ((keptB HK5.out k1).alloc _).grown hg5 (fun q e => .inr (bx_base HL.out.row e).1); clear hl1 hb1 k1 h5 h9 ho5 hg5))
                | (at_builtin; refine Lib.wpList_append_run _ rfl _ _ _ _ rfl _ _ rfl rfl _ _ (HR5.out _) ?_))
              go_roundw
              case rel => exact ⟨k + 1, by go_num, by omega, bt ++ [b], by rw [HTK.out]; exact HS5, HK6⟩
              case measure => simp [intOf]; omega
          · obtain rfl : k = es.length := by omega
            have q0 : ¬ ((es.length : Int) < (es.length : Int)) := by omega
            have hL0 := HL.out
            rw [List.take_length] at hL0
            have HLa : Hid _ := hL0
            clear hL0
            have ka : Kept [] wr (wr.alloc (.cells #[.string ⟨#[116, 104, 101, 32, 111, 119, 110, 101, 114, 39, 115]⟩] 9)) := (Kept.refl [] wr).alloc _
            obtain ⟨g, c, W5, h5, ho5, hg5⟩ := appendTx_step (u := .slice (some ⟨wr.heap.size, 0, none⟩) 1 1) (HLa.out.kept ka).row rfl (by have := HK5.out.size; have := ka.size; omega) (by simp; omega)
            rw [show ([] : List Value).length = 0 from rfl, Nat.add_zero] at h5 ho5
            rw [List.append_nil] at ho5
            have hL5 := HLa.out.tail (ka.trans ((Kept.refl [] _).alloc _) (by simp) (by simp)) ho5 hg5
            have HA5 : Hid (W5.heap[wr.heap.size]? = some (.cells #[.string ⟨#[116, 104, 101, 32, 111, 119, 110, 101, 114, 39, 115]⟩] 9 (0, 0))) := by
              show W5.heap[wr.heap.size]? = _
              rw [hg5.block wr.heap.size (by rw [World.size_alloc, World.size_alloc]; omega) (fun e => by have := (bx_base HLa.out.row e.symm).2; omega)]
              exact ((Kept.refl [] (wr.alloc (.cells #[.string ⟨#[116, 104, 101, 32, 111, 119, 110, 101, 114, 39, 115]⟩] 9))).alloc _).at (al0 wr _) (by simp)
            have HK6 : Hid (Kept [] W3 W5) := ((keptB HK5.out ka).alloc _).grown hg5 (fun q e => .inr (bx_base HLa.out.row e).1)
            have HL5 : Hid _ := hL5
            rw [World.size_alloc] at h5
            have HR5 : Hid _ := h5
            clear hL5 h5 ho5 hg5 ka
            go_upto_region 16 with (at_builtin; refine Lib.wpList_append_run _ rfl _ _ _ _ rfl _ _ rfl rfl _ _ (HR5.out _) ?_)
            clear q0 z0
            have HRU : Hid (∀ W, Kept [] W5 W → Calls Tryz.prog 9 #[.agg #[.slice (some ⟨b1, 0, none⟩) ps.length (ps.length + 2), .slice (some ⟨b2, 0, none⟩) next.length (next.length + 1), .slice (some ⟨b3, 0, none⟩) out.length (out.length + 2)], .slice (some ⟨g, 0, none⟩) es.length c] W (RunsTo W (runL ps next out es) (runC ps next out))) := fun W k => by
              have kw := keptB HK6.out k
              obtain ⟨m1, m2, m3⟩ := mooL_vals (HML3.out.keptF kw (by simp) (by simp)) HFW.out.1 HWF.out.2.1 HFW.out.2.1 HFW.out.2.2.1 HWF.out.1 HFW.out.2.2.2 HWF.out.2.2.1
              exact runU_any _ _ _ _ ps next out es W m1 m2 m3 (EvL.evs (tl := [.slice (some ⟨wr.heap.size, 0, none⟩) 1 1]) (HL5.out.kept k) (by omega) HWF.out.2.2.2) (by have := HFW.out.2.2.2; omega)
            have hcap : es.length ≤ c := by
              rcases own_lie HL5.out.row with ⟨e, _⟩ | ⟨_, _, e, e2, _⟩
              · cases e
              · cases e; simp at e2; omega
            have z0 : (0 : Int) ≤ (es.length : Int) := by omega
            have z1 : (es.length : Int) ≤ (c : Int) := by omega
            have HBX : Hid (∀ W, Kept [] W5 W → W.cell? ⟨I, 0, none⟩ = some (.slice (some ⟨b1, 0, none⟩) ps.length (ps.length + 2)) ∧ W.cell? ⟨I, 1, none⟩ = some (.slice (some ⟨b2, 0, none⟩) next.length (next.length + 1)) ∧ W.cell? ⟨I, 2, none⟩ = some (.slice (some ⟨b3, 0, none⟩) out.length (out.length + 2))) := fun W k => (HIB.out.keptF (keptB HK6.out k) (by simp)).cells
            obtain ⟨L, hL⟩ : ∃ L, runL ps next out es = L := ⟨_, rfl⟩
            obtain ⟨C, hC⟩ : ∃ C, runC ps next out = C := ⟨_, rfl⟩
            have HLE : Hid (L.length ≤ es.length ∧ runL ps next out es = L ∧ runC ps next out = C) := ⟨by rw [← hL]; exact runL_len, hL, hC⟩
            rw [hL, hC] at HRU
            clear hL hC hcap
            obtain ⟨d0, d1, d2⟩ := HBX.out W5.drew (Kept.refl [] W5).drew
            have HKc : Hid (Kept [] W5 W5.drew) := (Kept.refl [] W5).drew
            go_region_held3 (fun Y => Y.cell? ⟨I, 0, none⟩ = some (.slice (some ⟨b1, 0, none⟩) ps.length (ps.length + 2)) ∧ Y.cell? ⟨I, 1, none⟩ = some (.slice (some ⟨b2, 0, none⟩) next.length (next.length + 1)) ∧ Y.cell? ⟨I, 2, none⟩ = some (.slice (some ⟨b3, 0, none⟩) out.length (out.length + 2))) (exact HBX.out _ HKc.out)
              (first | (go_at_call 9; refine Calls.mono (HRU.out _ HKc.out) ?_; rintro e W6 ⟨v1, rfl, HV1, HK7⟩; have HKn : Hid (Kept [] W5 W6) := keptB HKc.out HK7.out; clear HKc; have HKc : Hid (Kept [] W5 W6) := HKn.out; clear HKn))
            go_upto_region 17 with fail
            have HK6a : Hid (Kept [] W5 W6) := HKc.out
            clear HKc d0 d1 d2
            obtain ⟨d0, d1, d2⟩ := HBX.out W6.drew HK6a.out.drew
            have HKc : Hid (Kept [] W5 W6.drew) := HK6a.out.drew
            go_region_held3 (fun Y => Y.cell? ⟨I, 0, none⟩ = some (.slice (some ⟨b1, 0, none⟩) ps.length (ps.length + 2)) ∧ Y.cell? ⟨I, 1, none⟩ = some (.slice (some ⟨b2, 0, none⟩) next.length (next.length + 1)) ∧ Y.cell? ⟨I, 2, none⟩ = some (.slice (some ⟨b3, 0, none⟩) out.length (out.length + 2))) (exact HBX.out _ HKc.out)
              (first | (go_at_call 9; refine Calls.mono (HRU.out _ HKc.out) ?_; rintro e W7 ⟨v2, rfl, HV2, HK8⟩; have HKn : Hid (Kept [] W5 W7) := keptB HKc.out HK8.out; clear HKc; have HKc : Hid (Kept [] W5 W7) := HKn.out; clear HKn))
            go_upto_region 18 with fail
            have HK7a : Hid (Kept [] W5 W7) := HKc.out
            clear HKc d0 d1 d2 HRU
            have HV1b : Hid (W7.ownsRow W5.heap.size 38 1 v1 L.length (vdC L)) := bx_kept HV1.out.drew HK8.out (by simp)
            have HV2b : Hid (W7.ownsRow W5.heap.size 38 1 v2 L.length (vdC L)) := own_lowerR HV2.out HK6a.out.size
            have HNE : Hid (∀ g, v1.ownBlock = some g → v2.ownBlock ≠ some g) := fun g h1 h2 => by
              have e1 := (bx_base HV1.out h1).2
              have e2 := (bx_base HV2.out h2).1
              exact absurd e1 (Nat.not_lt.2 e2)
            have HLB : Hid (∀ b ∈ bt, W3.heap.size ≤ b ∧ b < W5.heap.size) := fun b hb => HL5.out.low b hb
            have HVF : Hid (∀ g, v1.ownBlock = some g ∨ v2.ownBlock = some g → g ∉ b3 :: bt) := fun g hg hm => by
              have e1 : W5.heap.size ≤ g := by
                rcases hg with q | q
                · exact (bx_base HV1b.out q).1
                · exact (bx_base HV2b.out q).1
              have e2 := HK6.out.size
              rcases List.mem_cons.1 hm with q | q
              · have := lt_of HML3.out.lv.row; omega
              · have := (HLB.out g q).2; omega
            have HK5s : Hid (W3.heap.size ≤ W5.heap.size ∧ W5.heap.size ≤ W7.heap.size) := ⟨HK6.out.size, HK7a.out.size⟩
            have HK6n : Hid (Kept [] W3 W7) := keptB HK6.out HK7a.out
            have HL5n : Hid _ := HL5.out.kept HK7a.out
            have HA5n : Hid _ := HK7a.out.at HA5.out (by simp)
            have HBXn : Hid (∀ W, Kept [] W7 W → W.cell? ⟨I, 0, none⟩ = some (.slice (some ⟨b1, 0, none⟩) ps.length (ps.length + 2)) ∧ W.cell? ⟨I, 1, none⟩ = some (.slice (some ⟨b2, 0, none⟩) next.length (next.length + 1)) ∧ W.cell? ⟨I, 2, none⟩ = some (.slice (some ⟨b3, 0, none⟩) out.length (out.length + 2))) := fun W k => (HIB.out.keptF (keptB HK6n.out k) (by simp)).cells
            clear HK6 HL5 HA5 HBX HK7a HV1 HV2 HK7 HK8 HK6a
            have HK6 : Hid (Kept [] W3 W7) := HK6n.out
            have HL5 : Hid _ := HL5n.out
            have HA5 : Hid _ := HA5n.out
            have HBX : Hid (∀ W, Kept [] W7 W → W.cell? ⟨I, 0, none⟩ = some (.slice (some ⟨b1, 0, none⟩) ps.length (ps.length + 2)) ∧ W.cell? ⟨I, 1, none⟩ = some (.slice (some ⟨b2, 0, none⟩) next.length (next.length + 1)) ∧ W.cell? ⟨I, 2, none⟩ = some (.slice (some ⟨b3, 0, none⟩) out.length (out.length + 2))) := HBXn.out
            have HK7a : Hid (Kept [] W7 W7) := Kept.refl [] W7
            clear HK6n HL5n HA5n HBXn
            have HWM : Hid (∀ W, Kept [] W7 W → Calls Tryz.prog 10 #[.agg #[.slice (some ⟨b1, 0, none⟩) ps.length (ps.length + 2), .slice (some ⟨b2, 0, none⟩) next.length (next.length + 1), .slice (some ⟨b3, 0, none⟩) out.length (out.length + 2)], .agg #[.slice pa ps.length pc, .slice na next.length nc, .slice oa out.length oc]] W fun e w' => e = .returned (.bool true) ∧ Kept [] W w') := fun W k => by
              have kw := keptB HK6.out k
              obtain ⟨m1, m2, m3⟩ := HM4.out W (keptB HK3.out kw)
              exact wholeMoore_any b1 b2 b3 m bs _ _ _ ps next out _ W (HML3.out.keptF kw (by simp) (by simp)) m1 m2 m3 (by have := HFW.out.2.1; omega)
            have HRW : Hid (∀ W, Kept [] W7 W → W.cell? ⟨g, es.length, none⟩ = some (.slice (some ⟨wr.heap.size, 0, none⟩) 1 1) ∧ W.cell? ⟨wr.heap.size, 0, none⟩ = some (.string ⟨#[116, 104, 101, 32, 111, 119, 110, 101, 114, 39, 115]⟩)) := fun W k => by
              refine ⟨?_, (cell_of (k.at HA5.out (by simp)) 0).trans rfl⟩
              rcases own_lie (HL5.out.kept k).row with ⟨e, _⟩ | ⟨_, _, e, _, _, e4⟩
              · cases e
              · cases e
                have q := e4 es.length (.slice (some ⟨wr.heap.size, 0, none⟩) 1 1) (by rw [List.getElem?_append_right (by rw [lentVs_len HL5.out.len]; exact Nat.le_refl _), lentVs_len HL5.out.len, Nat.sub_self]; rfl)
                rwa [Nat.zero_add] at q
            obtain ⟨d0, d1, d2⟩ := HBX.out W7 HK7a.out
            obtain ⟨c0, c1, c2⟩ := HC.out W7 (keptB HK3.out (keptB HK6.out HK7a.out))
            have z2 : (es.length : Int) < (es.length : Int) + 1 := by omega
            go_upto_region 19 with (go_at_call 10; refine (HWM.out W7 HK7a.out).mono ?_; rintro e W8 ⟨rfl, k8⟩; have HK9 : Hid (Kept [] W7 W8) := keptB HK7a.out k8; clear k8 d0 d1 d2 c0 c1 c2; obtain ⟨g0, g1⟩ := HRW.out W8 HK9.out)
            clear g0 g1 z2
            have HEL : Hid (∀ W, Kept [] W7 W → ∀ k b x, bt[k]? = some b → es[k]? = some x → W.cell? ⟨g, k, none⟩ = some (.slice (some ⟨b, 0, none⟩) x.length (x.length + 2)) ∧ LentG 9 1 W b x.length (cellsT x) marksT) := fun W k j b x hb hx => by
              refine ⟨?_, (HL5.out.kept k).each j b x hb hx⟩
              rcases own_lie (HL5.out.kept k).row with ⟨e, _⟩ | ⟨_, _, e, _, _, e4⟩
              · cases e
              · cases e
                have hj : j < (lentVs bt es).length := by rw [lentVs_len HL5.out.len]; exact (List.getElem?_eq_some_iff.1 hx).1
                have q := e4 j (lentV b x) (by rw [List.getElem?_append_left hj]; exact lentVs_at hb hx)
                rwa [Nat.zero_add] at q
            go_wp2_with fail
            rename World => Wx
            go_loopw [15, 16] (fun t v wy => ∃ k : Nat, t = .bool true ∧ v = .int .i64 (k : Nat) ∧ k ≤ es.length ∧ Hid (Kept [] W7 wy)) (fun _ v _ => es.length - (intOf v).toNat)
            case atStart => exact ⟨0, rfl, rfl, Nat.zero_le _, HK9⟩
            case round =>
              rename World => wy
              obtain ⟨k, rfl, rfl, hk, HKy⟩ := hrel
              by_cases hlt : k < es.length
              · have q0 : (k : Int) < (es.length : Int) := by omega
                have q1 : (0 : Int) ≤ (k : Int) := by omega
                have q2 : (k : Int) < (es.length : Int) + 1 := by omega
                rcases (HEV.out w (Kept.refl [] w)).lie with ⟨_, he⟩ | ⟨b, o, c', hpe, _, _, hcell⟩
                · rw [he] at hlt; simp at hlt
                · cases hpe
                  obtain ⟨u, hu, hS, hss⟩ := hcell k hlt
                  have hx? : es[k]? = some es[k] := List.getElem?_eq_getElem hlt
                  obtain ⟨x, hx⟩ : ∃ x, es[k] = x := ⟨_, rfl⟩
                  rw [hx] at hS hss hx?
                  have hb? : bt[k]? = some (bt[k]'(by rw [HL5.out.len]; exact hlt)) := List.getElem?_eq_getElem _
                  obtain ⟨bk, hbk⟩ : ∃ bk, bt[k]'(by rw [HL5.out.len]; exact hlt) = bk := ⟨_, rfl⟩
                  rw [hbk] at hb?
                  have HWT : Hid (∀ W, Kept [] W7 W → Calls Tryz.prog 11 #[.slice (some ⟨bk, 0, none⟩) x.length (x.length + 2), u] W fun e w' => e = .returned (.bool true) ∧ Kept [] W w') := fun W kk => wholeTexts_any bk u x W (HEL.out W kk k bk x hb? hx?).2 (hS.src.kept (keptB HKV.out (keptB HK3.out (keptB HK6.out kk))))
                  have HCX : Hid (∀ W, Kept [] W7 W → W.cell? ⟨g, k, none⟩ = some (.slice (some ⟨bk, 0, none⟩) x.length (x.length + 2)) ∧ W.cell? ⟨b, o + k, none⟩ = some u) := fun W kk => ⟨(HEL.out W kk k bk x hb? hx?).1, cell_kept0 (keptB HKV.out (keptB HK3.out (keptB HK6.out kk))) hu⟩
                  clear hcell hS hss hx hx? hb? hbk hu
                  go_upto_region 22 with fail
                  obtain ⟨g0, g1⟩ := HCX.out wy.drew HKy.out.drew
                  have HKc : Hid (Kept [] W7 wy.drew) := HKy.out.drew
                  go_region_held3 (fun Y => Y.cell? ⟨g, k, none⟩ = some (.slice (some ⟨bk, 0, none⟩) x.length (x.length + 2)) ∧ Y.cell? ⟨b, o + k, none⟩ = some u) (exact HCX.out _ HKc.out)
                    (first | (go_at_call 11; refine (HWT.out _ HKc.out).mono ?_; rintro e Wz ⟨rfl, kz⟩; have HKn : Hid (Kept [] W7 Wz) := keptB HKc.out kz; clear HKc kz; have HKc : Hid (Kept [] W7 Wz) := HKn.out; clear HKn))
                  all_goals go_wp2
                  go_roundw
                  case rel => exact ⟨k + 1, rfl, by go_num, by omega, HKc⟩
                  case measure => simp [intOf]; omega
              · obtain rfl : k = es.length := by omega
                have q0 : ¬ ((es.length : Int) < (es.length : Int)) := by omega
                have hIb : I ≠ b3 := by
                  rintro rfl
                  have e1 := HML3.out.lv.row
                  have e2 : W3.heap[I]? = _ := HIB.out
                  rw [e2] at e1
                  have e3 := congrArg (fun o : Option Obj => match o with | some (.cells _ t _) => (t : Nat) | _ => 0) e1
                  exact absurd e3 (show (26 : Nat) ≠ 38 by decide)
                have HBY : Hid (∀ W, Kept [b3] W7 W → W.cell? ⟨I, 2, none⟩ = some (.slice (some ⟨b3, 0, none⟩) out.length (out.length + 2))) := fun W kk => ((HIB.out.keptF HK6.out (by simp)).keptF kk (by simpa using hIb)).cells.2.2
                have HSW0 : Hid (wy.heap[b3]? = some (.cells (cellsV (swapV out 0) ++ marksV).toArray 38 (0, 0))) := (HML3.out.keptF (keptB HK6.out HKy.out) (by simp) (by simp)).lv.row
                have HKY0 : Hid (Kept [b3] W7 wy) := HKy.out.mono (by simp)
                obtain ⟨on, hon⟩ : ∃ on, out.length = on := ⟨_, rfl⟩
                have HON : Hid (out.length = on) := hon
                have hof : on ≤ 100000 := by have := HFW.out.2.2.2; omega
                rw [hon] at HBY
                clear hIb hon
                have f0 := HBY.out wy HKY0.out
                go_wp2_with fail
                go_loopw [17] (fun v wz => ∃ k : Nat, v = .int .i64 (k : Nat) ∧ k ≤ on ∧ Hid (wz.heap[b3]? = some (.cells (cellsV (swapV out k) ++ marksV).toArray 38 (0, 0))) ∧ Hid (Kept [b3] W7 wz)) (fun v _ => on - (intOf v).toNat)
                case atStart => exact ⟨0, rfl, Nat.zero_le _, HSW0, HKY0⟩
                case round =>
                  rename World => wz
                  obtain ⟨k, rfl, hk, HSW, HKz⟩ := hrel
                  have f1 := HBY.out wz HKz.out
                  by_cases hlt : k < on
                  · have q1 : (0 : Int) ≤ (k : Int) := by omega
                    have q2 : (k : Int) < (on : Int) := by omega
                    have q3 : IntKind.i64.wrap ((on : Int) - 1) = ((on - 1 : Nat) : Int) := by rw [IntKind.wrap_i64]; omega
                    have q4 : IntKind.i64.wrap (((on - 1 : Nat) : Int) - (k : Int)) = ((on - 1 - k : Nat) : Int) := by rw [IntKind.wrap_i64]; omega
                    obtain ⟨j, hj⟩ : ∃ j, on - 1 - k = j := ⟨_, rfl⟩
                    have hjl : j < on := by omega
                    have q5 : (0 : Int) ≤ (j : Int) := by omega
                    have q6 : (j : Int) < (on : Int) := by omega
                    rw [hj] at q4
                    obtain ⟨v, hv⟩ : ∃ v, (swapV out k).getD j 0 = v := ⟨_, rfl⟩
                    have hsl : (swapV out k).length = on := by rw [swapV_len]; exact HON.out
                    have HNX : Hid (swapV out (k + 1) = (swapV out k).set k v) := by
                      show swapV out (k + 1) = _
                      rw [show swapV out (k + 1) = (swapV out k).set k ((swapV out k).getD (out.length - 1 - k) 0) from rfl, HON.out, hj, hv]
                    have hcl : (cellsV (swapV out k)).length = on := by simp [cellsV, hsl]
                    have f2 : wz.drew.cell? ⟨b3, j, none⟩ = some (.int .u8 (v : Nat)) := by
                      rw [cell_of (show wz.drew.heap[b3]? = _ from HSW.out)]
                      rw [List.getElem?_toArray, List.getElem?_append_left (by rw [hcl]; exact hjl), cellsV_at (by rw [hsl]; exact hjl), ← hv, List.getD_eq_getElem?_getD, List.getElem?_eq_getElem (by rw [hsl]; exact hjl)]
                      rfl
                    obtain ⟨old, hold⟩ : ∃ old, wz.drew.cell? ⟨b3, k, none⟩ = some old := by
                      rw [cell_of (show wz.drew.heap[b3]? = _ from HSW.out)]
                      rw [List.getElem?_toArray, List.getElem?_append_left (by rw [hcl]; exact hlt), cellsV_at (by rw [hsl]; exact hlt)]
                      exact ⟨_, rfl⟩
                    have f4 : wz.drew.frozen? ⟨b3, k, none⟩ = false := free_of (show wz.drew.heap[b3]? = _ from HSW.out) k
                    have f5 := HBY.out wz.drew HKz.out.drew
                    have HKs : Hid (Kept [b3] W7 (wz.drew.setCell ⟨b3, k, none⟩ (.int .u8 (v : Nat)))) := HKz.out.drew.setCell (.inl (by simp)) _
                    have f6 := HBY.out _ HKs.out
                    have HSW2 : Hid ((wz.drew.setCell ⟨b3, k, none⟩ (.int .u8 (v : Nat))).heap[b3]? = some (.cells (cellsV (swapV out (k + 1)) ++ marksV).toArray 38 (0, 0))) := by
                      show (World.setCell _ _ _).heap[b3]? = _
                      rw [bx_set (show wz.drew.heap[b3]? = _ from HSW.out), HNX.out]
                      congr 2
                      apply Array.ext'
                      rw [Array.toList_setIfInBounds]
                      show (cellsV (swapV out k) ++ marksV).set k _ = cellsV ((swapV out k).set k v) ++ marksV
                      rw [List.set_append_left _ _ (by rw [hcl]; exact hlt)]
                      simp [cellsV, List.map_set]
                    have f7 : (wz.drew.setCell ⟨b3, k, none⟩ (.int .u8 (v : Nat))).cell? ⟨b3, j, none⟩ = some (.int .u8 (v : Nat)) := by
                      have hvj : (swapV out k)[j]? = some v := by rw [← hv, List.getD_eq_getElem?_getD, List.getElem?_eq_getElem (by rw [hsl]; exact hjl)]; rfl
                      have hj2 : (swapV out (k + 1))[j]? = some v := by
                        rw [HNX.out, List.getElem?_set]
                        split
                        · rw [if_pos (by rw [hsl]; exact hlt)]
                        · exact hvj
                      have hc2 : (cellsV (swapV out (k + 1))).length = on := by rw [HNX.out]; simp [cellsV, hsl]
                      rw [cell_of (show (World.setCell _ _ _).heap[b3]? = _ from HSW2.out), List.getElem?_toArray, List.getElem?_append_left (by rw [hc2]; exact hjl)]
                      simp [cellsV, hj2]
                    clear hj hjl hv hsl hcl
                    go_upto_region 26 with fail
                    go_region_held3 (fun Y => Y.cell? ⟨I, 2, none⟩ = some (.slice (some ⟨b3, 0, none⟩) on (on + 2)) ∧ Y.cell? ⟨b3, j, none⟩ = some (.int .u8 (v : Nat))) (first | exact ⟨f5, f2⟩ | exact ⟨f6, f7⟩) (fail)
                    all_goals go_wp2
                    go_roundw
                    case rel => exact ⟨k + 1, by go_num, by omega, HSW2, HKs⟩
                    case measure => simp [intOf]; omega
                  · obtain rfl : k = on := by omega
                    have q0 : ¬ ((k : Int) < (k : Int)) := by omega
                    have hb3 : b3 < W3.heap.size := lt_of HML3.out.lv.row
                    have HLz : Hid _ := HL5.out.keptF HKz.out (fun x hx => by rw [List.mem_singleton.1 hx]; exact hb3)
                    have HSP0 : Hid (SpL wz bt es 0) := SpL.start HLz.out
                    have HRZ0 : Hid (wz.ownsRow W3.heap.size 22 1 (.slice (some ⟨g, 0, none⟩) (es.length + 1) c) (es.length + 1) (lentVs bt es ++ [.slice (some ⟨wr.heap.size, 0, none⟩) 1 1])) := HLz.out.row
                    have HKZ0 : Hid (Kept (b3 :: bt) W7 wz) := HKz.out.mono (fun x hx => by rw [List.mem_singleton.1 hx]; simp)
                    have HB3 : Hid (b3 < W3.heap.size) := hb3
                    clear hb3 f0
                    go_wp2_with fail
                    go_loopw [18] (fun v wu => ∃ k : Nat, v = .int .i64 (k : Nat) ∧ k ≤ es.length ∧ Hid (SpL wu bt es k) ∧ Hid (wu.ownsRow W3.heap.size 22 1 (.slice (some ⟨g, 0, none⟩) (es.length + 1) c) (es.length + 1) (lentVs bt es ++ [.slice (some ⟨wr.heap.size, 0, none⟩) 1 1])) ∧ Hid (wu.heap[b3]? = some (.cells (cellsV (swapV out out.length) ++ marksV).toArray 38 (0, 0))) ∧ Hid (Kept (b3 :: bt) W7 wu)) (fun v _ => es.length - (intOf v).toNat)
                    case atStart => exact ⟨0, rfl, Nat.zero_le _, HSP0, HRZ0, by rw [HON.out]; exact HSW, HKZ0⟩
                    case round =>
                      rename World => wu
                      obtain ⟨k, rfl, hk, HSP, HRZ, HSV, HKu⟩ := hrel
                      by_cases hlt : k < es.length
                      · have q1 : (0 : Int) ≤ (k : Int) := by omega
                        have q2 : (k : Int) < (es.length : Int) := by omega
                        have q3 : (k : Int) < (es.length : Int) + 1 := by omega
                        have hx? : es[k]? = some es[k] := List.getElem?_eq_getElem hlt
                        obtain ⟨x, hx⟩ : ∃ x, es[k] = x := ⟨_, rfl⟩
                        rw [hx] at hx?
                        have hb? : bt[k]? = some (bt[k]'(by rw [HL5.out.len]; exact hlt)) := List.getElem?_eq_getElem _
                        obtain ⟨bk, hbk⟩ : ∃ bk, bt[k]'(by rw [HL5.out.len]; exact hlt) = bk := ⟨_, rfl⟩
                        rw [hbk] at hb?
                        have hlg := HSP.out.left k bk x (Nat.le_refl _) hb? hx?
                        have f2 : wu.cell? ⟨g, k, none⟩ = some (.slice (some ⟨bk, 0, none⟩) x.length (x.length + 2)) := by
                          rcases own_lie HRZ.out with ⟨e, _⟩ | ⟨_, _, e, _, _, e4⟩
                          · cases e
                          · cases e
                            have hj : k < (lentVs bt es).length := by rw [lentVs_len HL5.out.len]; exact hlt
                            have q := e4 k (lentV bk x) (by rw [List.getElem?_append_left hj]; exact lentVs_at hb? hx?)
                            rwa [Nat.zero_add] at q
                        have HST : Hid (Calls Tryz.prog 12 #[.slice (some ⟨bk, 0, none⟩) x.length (x.length + 2)] wu fun e w' => (∃ v, e = .returned v) ∧ Kept [bk] wu w' ∧ w'.heap[bk]? = some (.cells (List.replicate (x.length + 2) spoilT).toArray 9 (0, 0))) := spoilTexts_any bk x.length (cellsT x) wu hlg
                        have HNE : Hid (∀ W', Kept [bk] wu W' → W'.heap[bk]? = some (.cells (List.replicate (x.length + 2) spoilT).toArray 9 (0, 0)) → SpL W' bt es (k + 1) ∧ W'.ownsRow W3.heap.size 22 1 (.slice (some ⟨g, 0, none⟩) (es.length + 1) c) (es.length + 1) (lentVs bt es ++ [.slice (some ⟨wr.heap.size, 0, none⟩) 1 1]) ∧ W'.heap[b3]? = some (.cells (cellsV (swapV out out.length) ++ marksV).toArray 38 (0, 0)) ∧ Kept (b3 :: bt) W7 W') := fun W' kk hs => by
                          have hmem := List.mem_of_getElem? hb?
                          refine ⟨HSP.out.step HL5.out.nd hb? hx? kk hs, bx_kept HRZ.out kk (fun q e hq => ?_), kk.at HSV.out (fun hm => ?_), HKu.out.trans kk (fun _ h => h) (fun q hq => .inl (by rw [List.mem_singleton.1 hq]; exact List.mem_cons_of_mem _ hmem))⟩
                          · rw [List.mem_singleton.1 hq] at e
                            exact own_kind HRZ.out hlg.row (show (22 : Nat) ≠ 9 by decide) e
                          · have h1 := (HL5.out.low bk hmem).1
                            have h2 := HB3.out
                            rw [List.mem_singleton.1 hm] at h2
                            omega
                        clear hx? hx hb? hbk hlg
                        go_wp2_with (go_at_call 12; refine HST.out.mono ?_; rintro e Wz ⟨⟨v, rfl⟩, kz, hz⟩; have HZ : Hid _ := HNE.out Wz kz hz; clear kz hz)
                        go_roundw
                        case rel => exact ⟨k + 1, by go_num, by omega, HZ.out.1, HZ.out.2.1, HZ.out.2.2.1, HZ.out.2.2.2⟩
                        case measure => simp [intOf]; omega
                      · obtain rfl : k = es.length := by omega
                        have q0 : ¬ ((es.length : Int) < (es.length : Int)) := by omega
                        have hlb : ∀ x ∈ bt, W3.heap.size ≤ x := fun x hx => (HLB.out x hx).1
                        have hk3u : Kept (b3 :: bt) W3 wu := HK6.out.trans HKu.out (by simp) (fun q hq => .inl hq)
                        obtain ⟨so, hso⟩ : ∃ so, swapV out out.length = so := ⟨_, rfl⟩
                        have hsl : so.length = out.length := by rw [← hso, swapV_len]
                        have hs256 : ∀ x ∈ so, x < 256 := by rw [← hso]; exact swapV_lt HWF.out.2.2.1 _
                        rw [hso] at HSV
                        have HMS : Hid (MooL wu Wk.heap.size b1 b2 b3 m bs ps next so) := HML3.out.swapped hlb hk3u HSV.out hsl
                        have hIw : I < W3.heap.size := lt_of (show W3.heap[I]? = _ from HIB.out)
                        have hI3 : I ∉ b3 :: bt := fun hm => by
                          rcases List.mem_cons.1 hm with rfl | hm
                          · have e1 := HML3.out.lv.row
                            have e2 : W3.heap[I]? = _ := HIB.out
                            rw [e2] at e1
                            have e3 := congrArg (fun o : Option Obj => match o with | some (.cells _ t _) => (t : Nat) | _ => 0) e1
                            exact absurd e3 (show (26 : Nat) ≠ 38 by decide)
                          · have := hlb I hm; omega
                        have HBU : Hid (∀ W, Kept [] wu W → W.cell? ⟨I, 0, none⟩ = some (.slice (some ⟨b1, 0, none⟩) ps.length (ps.length + 2)) ∧ W.cell? ⟨I, 1, none⟩ = some (.slice (some ⟨b2, 0, none⟩) next.length (next.length + 1)) ∧ W.cell? ⟨I, 2, none⟩ = some (.slice (some ⟨b3, 0, none⟩) so.length (so.length + 2))) := fun W k => by
                          rw [hsl]
                          exact ((HIB.out.keptF hk3u hI3).keptF k (by simp)).cells
                        have HIN : Hid (∀ W, Kept [] wu W → Strs W (.slice (some ⟨b1, 0, none⟩) ps.length (ps.length + 2)) ps ∧ Rowss W (.slice (some ⟨b2, 0, none⟩) next.length (next.length + 1)) next ∧ Vds W (.slice (some ⟨b3, 0, none⟩) so.length (so.length + 2)) so ∧ Evs W (.slice (some ⟨g, 0, none⟩) es.length c) (es.map spoiltN)) := fun W k => by
                          have hfw := HFW.out
                          obtain ⟨m1, m2, m3⟩ := mooL_vals (HMS.out.keptF k (by simp) (by simp)) hfw.1 HWF.out.2.1 hfw.2.1 hfw.2.2.1 HWF.out.1 (by rw [hsl]; exact hfw.2.2.2) hs256
                          exact ⟨m1, m2, m3, (HSP.out.kept k).evs (tl := [.slice (some ⟨wr.heap.size, 0, none⟩) 1 1]) (bx_kept HRZ.out k (by simp)) HL5.out.len (by omega) (fun x hx => (HWF.out.2.2.2 x hx).1)⟩
                        have hsf : so.length ≤ 1000000 := by have := HFW.out.2.2.2; omega
                        have HRU2 : Hid (∀ W, Kept [] wu W → Calls Tryz.prog 9 #[.agg #[.slice (some ⟨b1, 0, none⟩) ps.length (ps.length + 2), .slice (some ⟨b2, 0, none⟩) next.length (next.length + 1), .slice (some ⟨b3, 0, none⟩) so.length (so.length + 2)], .slice (some ⟨g, 0, none⟩) es.length c] W (RunsTo W (runL ps next so (es.map spoiltN)) (runC ps next so))) := fun W k => by
                          obtain ⟨m1, m2, m3, m4⟩ := HIN.out W k
                          exact runU_any _ _ _ _ ps next so (es.map spoiltN) W m1 m2 m3 m4 hsf
                        have HRU3 : Hid (∀ W, Kept [] wu W → Calls Tryz.prog 13 #[.agg #[.slice (some ⟨b1, 0, none⟩) ps.length (ps.length + 2), .slice (some ⟨b2, 0, none⟩) next.length (next.length + 1), .slice (some ⟨b3, 0, none⟩) so.length (so.length + 2)], .slice (some ⟨g, 0, none⟩) es.length c] W (RunsTo W (runL ps next so (es.map spoiltN)) (runC ps next so))) := fun W k => by
                          obtain ⟨m1, m2, m3, m4⟩ := HIN.out W k
                          exact refRunU_any _ _ _ _ ps next so (es.map spoiltN) W m1 m2 m3 m4 hsf (by rw [List.length_map]; omega)
                        obtain ⟨L2, hL2⟩ : ∃ L2, runL ps next so (es.map spoiltN) = L2 := ⟨_, rfl⟩
                        obtain ⟨C2, hC2⟩ : ∃ C2, runC ps next so = C2 := ⟨_, rfl⟩
                        have HL2 : Hid (L2.length ≤ es.length) := by
                          have := runL_len (ps := ps) (next := next) (out := so) (es := es.map spoiltN)
                          rw [hL2, List.length_map] at this
                          exact this
                        rw [hL2, hC2] at HRU2 HRU3
                        obtain ⟨sn, hsn⟩ : ∃ sn, so.length = sn := ⟨_, rfl⟩
                        rw [hsn] at HRU2 HRU3 HBU
                        clear hL2 hC2 hsn hsf hs256 hsl hso HSV HSP HRZ HIN HMS hI3 hIw hk3u hlb q0
                        obtain ⟨d0, d1, d2⟩ := HBU.out wu.drew (Kept.refl [] wu).drew
                        have HKc : Hid (Kept [] wu wu.drew) := (Kept.refl [] wu).drew
                        go_upto_region 31 with fail
                        go_region_held3 (fun Y => Y.cell? ⟨I, 0, none⟩ = some (.slice (some ⟨b1, 0, none⟩) ps.length (ps.length + 2)) ∧ Y.cell? ⟨I, 1, none⟩ = some (.slice (some ⟨b2, 0, none⟩) next.length (next.length + 1)) ∧ Y.cell? ⟨I, 2, none⟩ = some (.slice (some ⟨b3, 0, none⟩) sn (sn + 2))) (exact HBU.out _ HKc.out)
                          (first | (go_at_call 9; refine Calls.mono (HRU2.out _ HKc.out) ?_; rintro e Y3 ⟨v3, rfl, HV3, HK9a⟩; have HKn : Hid (Kept [] wu Y3) := keptB HKc.out HK9a.out; clear HKc; have HKc : Hid (Kept [] wu Y3) := HKn.out; clear HKn))
                        go_upto_region 32 with fail
                        have HKu3 : Hid (Kept [] wu Y3) := HKc.out
                        clear HKc d0 d1 d2 HRU2
                        obtain ⟨d0, d1, d2⟩ := HBU.out Y3.drew HKu3.out.drew
                        have HKc : Hid (Kept [] Y3 Y3.drew) := (Kept.refl [] Y3).drew
                        go_region_held3 (fun Y => Y.cell? ⟨I, 0, none⟩ = some (.slice (some ⟨b1, 0, none⟩) ps.length (ps.length + 2)) ∧ Y.cell? ⟨I, 1, none⟩ = some (.slice (some ⟨b2, 0, none⟩) next.length (next.length + 1)) ∧ Y.cell? ⟨I, 2, none⟩ = some (.slice (some ⟨b3, 0, none⟩) sn (sn + 2))) (exact HBU.out _ (keptB HKu3.out HKc.out))
                          (first | (go_at_call 13; refine Calls.mono (HRU3.out _ (keptB HKu3.out HKc.out)) ?_; rintro e Y4 ⟨v4, rfl, HV4, HK9b⟩; have HKn : Hid (Kept [] Y3 Y4) := keptB HKc.out HK9b.out; clear HKc; have HKc : Hid (Kept [] Y3 Y4) := HKn.out; clear HKn))
                        go_upto_region 33 with fail
                        have HKu4 : Hid (Kept [] Y3 Y4) := HKc.out
                        clear HKc d0 d1 d2 HRU3
                        have HSM : Hid (Calls Tryz.prog 14 #[v3, v4] Y4 fun e w' => e = .returned (.bool true) ∧ Kept [] Y4 w') := sameVerdicts_eq v3 v4 L2 Y4 (own_srcV (bx_kept HV3.out HKu4.out (by simp))) (own_srcV HV4.out) (by have := HL2.out; omega)
                        have hc1 : ((C2 : Int) != C2) = false := by simp
                        go_upto_region 34 with (go_at_call 14; refine HSM.out.mono ?_; rintro e Y5 ⟨rfl, k5⟩; have HK5y : Hid (Kept [] Y4 Y5) := k5; clear k5)
                        have HKwY5 : Hid (Kept [] wu Y5) := keptB HKu3.out (keptB HKu4.out HK5y.out)
                        have HKVu : Hid (Kept [] V wu) := (keptB HK3.out HK6.out).trans HKu.out (by simp) (fun x hx => .inr (by
                          have h1 := HKk.out.size
                          have h2 := HML3.out.up
                          have h3 := HK3.out.size
                          rcases List.mem_cons.1 hx with q | q
                          · omega
                          · have := (HLB.out x q).1; omega))
                        have HKVY : Hid (Kept [] V Y5) := keptB HKVu.out HKwY5.out
                        obtain ⟨c0, c1, c2⟩ := HC.out Y5 HKVY.out
                        have HRW2 : Hid (Calls Tryz.prog 13 #[.agg #[.slice pa ps.length pc, .slice na next.length nc, .slice oa out.length oc], .slice ea es.length ec] Y5 (RunsTo Y5 L C)) := by
                          obtain ⟨m1, m2, m3⟩ := HM4.out Y5 HKVY.out
                          have q := refRunU_any _ _ _ _ ps next out es Y5 m1 m2 m3 (HEV.out Y5 (keptB HKV.out HKVY.out)) (by have := HFW.out.2.2.2; omega) (by omega)
                          rw [HLE.out.2.1, HLE.out.2.2] at q
                          exact q
                        go_upto_region 37 with (go_at_call 13; refine Calls.mono HRW2.out ?_; rintro e Y6 ⟨v5, rfl, HV5, HK6y⟩; clear c0 c1 c2)
                        have HKw6 : Hid (Kept [] wu Y6) := keptB HKwY5.out HK6y.out
                        have HV1z : Hid (Y6.ownsRow W5.heap.size 38 1 v1 L.length (vdC L)) := bx_kept (bx_kept HV1b.out HKu.out (fun g e => HVF.out g (.inl e))) HKw6.out (by simp)
                        have HV2z : Hid (Y6.ownsRow W5.heap.size 38 1 v2 L.length (vdC L)) := bx_kept (bx_kept HV2b.out HKu.out (fun g e => HVF.out g (.inr e))) HKw6.out (by simp)
                        have hLf : L.length ≤ 100000 := by have := HLE.out.1; omega
                        have HS1 : Hid (Calls Tryz.prog 14 #[v1, v5] Y6 fun e w' => e = .returned (.bool true) ∧ Kept [] Y6 w') := sameVerdicts_eq v1 v5 L Y6 (own_srcV HV1z.out) (own_srcV HV5.out) (by omega)
                        go_upto_region 38 with (go_at_call 14; refine HS1.out.mono ?_; rintro e Y7 ⟨rfl, k7⟩; have HK7y : Hid (Kept [] Y6 Y7) := k7; clear k7)
                        have HS2 : Hid (Calls Tryz.prog 14 #[v2, v5] Y7 fun e w' => e = .returned (.bool true) ∧ Kept [] Y7 w') := sameVerdicts_eq v2 v5 L Y7 (own_srcV (bx_kept HV2z.out HK7y.out (by simp))) (own_srcV (bx_kept HV5.out HK7y.out (by simp))) (by omega)
                        go_upto_region 39 with (go_at_call 14; refine HS2.out.mono ?_; rintro e Y8 ⟨rfl, k8⟩; have HK8y : Hid (Kept [] Y7 Y8) := k8; clear k8)
                        have HK68 : Hid (Kept [] Y6 Y8) := keptB HK7y.out HK8y.out
                        obtain ⟨Z, hZ⟩ : ∃ Z, Y8.alloc (.cells #[.slice none 0 0, .slice none 0 0, .slice none 0 0, .slice none 0 0, .slice none 0 0, .slice none 0 0, .slice none 0 0, .slice none 0 0, .slice none 0 0, .slice none 0 0, .slice none 0 0, .slice none 0 0, .slice none 0 0] 55) = Z := ⟨_, rfl⟩
                        have HZ : Hid (Y8.alloc (.cells #[.slice none 0 0, .slice none 0 0, .slice none 0 0, .slice none 0 0, .slice none 0 0, .slice none 0 0, .slice none 0 0, .slice none 0 0, .slice none 0 0, .slice none 0 0, .slice none 0 0, .slice none 0 0, .slice none 0 0] 55) = Z) := hZ
                        have HBK : Hid _ := bookTwo (w := w) (keptB HKV.out (keptB HKVY.out (keptB HK6y.out HK68.out))) (bx_kept HV1z.out HK68.out (by simp)) (bx_kept HV2z.out HK68.out (by simp)) HNE.out (by
                          have h1 := HKV.out.size
                          have h2 := HK3.out.size
                          have h3 := HK5s.out.1
                          omega) (by
                          have h1 := HK5s.out.2
                          have h2 := HKu.out.size
                          have h3 := HKw6.out.size
                          have h4 := HK68.out.size
                          omega) (by omega) hZ
                        obtain ⟨B0, hB0⟩ : ∃ B0, Y8.heap.size = B0 := ⟨_, rfl⟩
                        rw [hB0] at HBK
                        have HB0 : Hid (Y8.heap.size = B0) := hB0
                        have hcc : (C == C) = true := by simp
                        clear hZ hB0 hc1
                        go_upto_region 40 with fail
                        rw [HZ.out, HB0.out]
                        go_upto_region 41 with (go_at_call 15; refine Calls.mono HBK.out ?_; rintro e Z1 ⟨⟨vz, rfl⟩, HB1⟩)
                        go_upto_region 42 with (go_at_call 15; refine Calls.mono HB1.out ?_; rintro e Z2 ⟨⟨vz2, rfl⟩, HB2⟩)
                        go_wp2_with (go_at_call 16; refine Calls.mono HB2.out ?_; rintro e Z3 ⟨rfl, HKf⟩)
                        go_ret
                        exact ⟨rfl, HKf.out⟩
      · have q4 : (100000 : Int) < (n : Int) := by omega
        go_wp2
        go_ret
        exact ⟨rfl, keptB HKV.out HK.out⟩
end Go.Proofs.YtbbfajbnklgncaaGreat
