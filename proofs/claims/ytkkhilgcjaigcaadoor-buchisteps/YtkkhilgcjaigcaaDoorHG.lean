/- The document's Goes. -/
import Derived.Test.YtkkhilgcjaigcaaDoorBuCheck
import Derived.Test.YtkkhilgcjaigcaaDoorBuLentG
import Derived.Test.YtkkhilgcjaigcaaDoorLenK
import Derived.Deep.RegionHeld3
import Derived.Test.YtkkhilgcjaigcaaDoorHS
import Derived.Test.YtkkhilgcjaigcaaDoorHR
namespace Go.Proofs.YtkkhilgcjaigcaaDoor
open Go.RowKit Go.Shelf

set_option maxHeartbeats 1000000 in
theorem refGoesS_any (e : Edg) (c : Nat) (w : World) (he : e.mu < 65536 ∧ e.no < 65536) (hc : c < 65536) :
    Calls Tryd.prog 34 #[edgV e, .int .u16 (c : Nat)] w fun e' w' => e' = .returned (.bool (goesB e c)) ∧ Kept [] w w' := by
  obtain ⟨e1, e2, e3, e4⟩ := e
  obtain ⟨h3, h4⟩ := he
  unfold edgV goesB
  dsimp only at h3 h4 ⊢
  obtain ⟨x, hx⟩ : ∃ x : Nat, c &&& e3 = x := ⟨_, rfl⟩
  obtain ⟨y, hy⟩ : ∃ y : Nat, c &&& e4 = y := ⟨_, rfl⟩
  have b1 : bits .and .u16 (c : Int) (e3 : Int) = (x : Int) := by rw [u16_and_nat c e3 hc h3, hx]
  have b2 : bits .and .u16 (c : Int) (e4 : Int) = (y : Int) := by rw [u16_and_nat c e4 hc h4, hy]
  rw [hx, hy]
  clear hx hy
  by_cases h1 : x = e3
  · subst h1
    by_cases h2 : y = 0
    · subst h2
      rw [decide_eq_true rfl]
      go_enter Tryd.func34, Tryd.ntmps34
      go_wp2
      go_ret
      exact ⟨by simp, (Kept.refl [] w).alloc _⟩
    · have z : ((y : Int) == 0) = false := by rw [beq_eq_false_iff_ne]; omega
      rw [decide_eq_true rfl, decide_eq_false h2]
      go_enter Tryd.func34, Tryd.ntmps34
      go_wp2
      go_ret
      exact ⟨by simp, (Kept.refl [] w).alloc _⟩
  · have z : ((x : Int) == (e3 : Int)) = false := by rw [beq_eq_false_iff_ne]; omega
    rw [decide_eq_false h1, Bool.false_and]
    go_enter Tryd.func34, Tryd.ntmps34
    go_wp2
    go_ret
    exact ⟨by simp, (Kept.refl [] w).alloc _⟩
end Go.Proofs.YtkkhilgcjaigcaaDoor

/- The document's Step. -/
namespace Go.Proofs.YtkkhilgcjaigcaaDoor
open Go.RowKit Go.Shelf

theorem Tryd.infoBL : (Tryd.prog.info? 4).map (fun i => (i.zero, i.size, i.bytes)) = some (some (.bool false), 1, 1) := by kernel_rfl
theorem make_bools (w : World) (k : Nat) (hk : k ≤ 1000000) : Sem.run Tryd.prog (Instr.makeSlice 45 (.int .i64 (k : Nat)) (.int .i64 (k : Nat))) w = .ok (.slice (some ⟨w.heap.size, 0, none⟩) k k) (w.alloc (.cells ((List.replicate k false).map Value.bool).toArray 4)) := by
  obtain ⟨i, hi, hz, hs, hb⟩ := info_parts Tryd.infoBL
  have h := run_make (P := Tryd.prog) w 45 4 i _ Tryd.underlying45 hi hz .i64 .i64 (k : Int) (k : Int) (by omega) (by omega) (by rw [hb]; omega) (by omega)
  have e : madeCells (Value.cells (.bool false)) (k * 1) = ((List.replicate k false).map Value.bool).toArray := by
    rw [Nat.mul_one]
    apply Array.ext'
    simp only [madeCells, Value.cells, List.size_toArray, List.length_cons, List.length_nil, Array.toList_map, Array.toList_range]
    apply List.ext_getElem
    · simp
    · intro i h1 h2
      simp [Nat.mod_one]
  rw [h, hs, Int.toNat_natCast, e]
/-- Does one of these edges lead to x, from one of these states, by the letter. -/
def wantB (l : List Edg) (ys : List Bool) (cl x : Nat) : Bool := l.any fun e => ys.getD e.fr.toNat false && goesB e cl && decide (e.to = (x : Int))
theorem wantB_snoc (l : List Edg) (ys : List Bool) (e : Edg) (cl x : Nat) : wantB (l ++ [e]) ys cl x = (wantB l ys cl x || (ys.getD e.fr.toNat false && goesB e cl && decide (e.to = (x : Int)))) := by simp [wantB]
structure OutA (w W : World) (OB st cl : Nat) (bs ys : List Bool) (l : List Edg) : Prop where
  row : W.heap[OB]? = some (.cells (bs.map Value.bool).toArray 4 (0, 0))
  len : bs.length = st
  is : ∀ x, x < st → bs.getD x false = wantB l ys cl x
  kept : Kept [] w W
  new : w.heap.size ≤ OB
theorem OutA.cellAt {w W : World} {OB st cl : Nat} {bs ys : List Bool} {l : List Edg} (h : OutA w W OB st cl bs ys l) {x : Nat} (hx : x < st) : W.cell? ⟨OB, x, none⟩ = some (.bool (wantB l ys cl x)) := by
  rw [cell_of h.row, ← h.is x hx]
  have hl := h.len
  simp [List.getD_eq_getElem?_getD, List.getElem?_eq_getElem (show x < bs.length by omega)]
theorem OutA.free {w W : World} {OB st cl : Nat} {bs ys : List Bool} {l : List Edg} (h : OutA w W OB st cl bs ys l) (x : Nat) : W.frozen? ⟨OB, x, none⟩ = false := free_of h.row x
theorem OutA.moved {w W W' : World} {OB st cl : Nat} {bs ys : List Bool} {l : List Edg} (h : OutA w W OB st cl bs ys l) (k : Kept [] W W') : OutA w W' OB st cl bs ys l := ⟨k.at h.row (by simp), h.len, h.is, keptB h.kept k, h.new⟩
theorem OutA.skip {w W : World} {OB st cl : Nat} {bs ys : List Bool} {l : List Edg} (h : OutA w W OB st cl bs ys l) {e : Edg} (he : (ys.getD e.fr.toNat false && goesB e cl) = false) : OutA w W OB st cl bs ys (l ++ [e]) :=
  ⟨h.row, h.len, fun x hx => by rw [h.is x hx, wantB_snoc, he]; simp, h.kept, h.new⟩
theorem OutA.put {w W : World} {OB st cl : Nat} {bs ys : List Bool} {l : List Edg} (h : OutA w W OB st cl bs ys l) {e : Edg} {t : Nat} (he : (ys.getD e.fr.toNat false && goesB e cl) = true) (ht : e.to = (t : Int)) (hts : t < st) : OutA w (W.setCell ⟨OB, t, none⟩ (.bool true)) OB st cl (bs.set t true) ys (l ++ [e]) := by
  have hl := h.len
  refine ⟨?_, by rw [List.length_set]; exact h.len, fun x hx => ?_, h.kept.setCell (.inr h.new) _, h.new⟩
  · rw [row_set h.row]
    congr 2
    apply Array.ext'
    simp [Array.setIfInBounds, h.len, hts, List.map_set]
  · rw [wantB_snoc, he, ht, ← h.is x hx, Bool.true_and]
    by_cases hxt : x = t
    · subst hxt
      simp [List.getD_eq_getElem?_getD, List.getElem?_set_self (show x < bs.length by omega)]
    · rw [List.getD_eq_getElem?_getD, List.getElem?_set_ne (fun e => hxt e.symm), decide_eq_false (by omega), Bool.or_false, List.getD_eq_getElem?_getD]
def OutEnds (w : World) (st cl : Nat) (ys : List Bool) (es : List Edg) (e : Ending) (w' : World) : Prop := ∃ OB bs, e = .returned (.slice (some ⟨OB, 0, none⟩) st st) ∧ OutA w w' OB st cl bs ys es
theorem take_snocR {l : List Edg} {k : Nat} (h : k < l.length) : l.take (k + 1) = l.take k ++ [l[k]] := by rw [List.take_succ_eq_append_getElem h]
set_option maxHeartbeats 2000000 in
set_option maxRecDepth 10000 in
theorem refStep_any (pv iv ev fv : Value) (g : Gen) (fin : List Int) (YB yc st cl : Nat) (ys : List Bool) (w : World) (h : IsB w pv iv ev fv g fin) (hs : st ≤ 65536) (hy : ∀ i, i < st → w.cell? ⟨YB, i, none⟩ = some (.bool (ys.getD i false))) (he : ∀ e ∈ g.es, (0 ≤ e.fr ∧ e.fr < (st : Int)) ∧ 0 ≤ e.to ∧ e.to < (st : Int)) (hcl : cl < 65536) :
    Calls Tryd.prog 14 #[.agg #[pv, .int .i64 (st : Nat), iv, ev, fv], .slice (some ⟨YB, 0, none⟩) st yc, .int .u16 (cl : Nat)] w (OutEnds w st cl ys g.es) := by
  obtain ⟨pad, pc, rfl, _, _⟩ := h.ps.form
  obtain ⟨iad, ic, rfl, _, _⟩ := h.ini.form
  obtain ⟨fad, fc, rfl, _, _⟩ := h.fin.form
  have hE := h.es
  obtain ⟨ead, ec, rfl, hec1, hec2⟩ := h.es.form
  obtain ⟨V, hV⟩ : ∃ V, w.alloc (.cells #[.slice pad g.ps.length pc, .int .i64 (st : Nat), .slice iad g.ini.length ic, .slice ead g.es.length ec, .slice fad fin.length fc] 26) = V := ⟨_, rfl⟩
  have kV : Kept [] w V := by rw [← hV]; exact (Kept.refl [] w).alloc _
  have a0 : Five 26 V w.heap.size (.slice pad g.ps.length pc) (.int .i64 (st : Nat)) (.slice iad g.ini.length ic) (.slice ead g.es.length ec) (.slice fad fin.length fc) := by rw [← hV]; exact al0 _ _
  have hmk := make_bools V st (by omega)
  obtain ⟨U, hU⟩ : ∃ U, V.alloc (.cells ((List.replicate st false).map Value.bool).toArray 4) = U := ⟨_, rfl⟩
  rw [hU] at hmk
  have HO : Hid (OutA w U V.heap.size st cl (List.replicate st false) ys (g.es.take 0)) := by
    show OutA _ _ _ _ _ _ _ _
    rw [← hU]
    refine ⟨al0 _ _, List.length_replicate, fun x hx => ?_, kV.alloc _, kV.size⟩
    rw [List.take_zero]
    simp [wantB, List.getD_eq_getElem?_getD, hx]
  have HA0 : Hid (∀ W, Kept [V.heap.size] V W → W.cell? ⟨w.heap.size, 1, none⟩ = some (.int .i64 (st : Nat)) ∧ W.cell? ⟨w.heap.size, 3, none⟩ = some (.slice ead g.es.length ec)) := fun W k => by
    have z := lt_of a0
    obtain ⟨_, f1, _, f3, _⟩ := (a0.keptF k (by simp; omega)).cells
    exact ⟨f1, f3⟩
  have HKU : Hid (Kept [V.heap.size] V U) := by
    show Kept _ _ _
    rw [← hU]
    exact (Kept.refl [V.heap.size] V).alloc _
  have f1 := (HA0.out V (Kept.refl _ V)).1
  have HVV : Hid (_ = V) := hV
  have HY : Hid (∀ i, i < st → w.cell? ⟨YB, i, none⟩ = some (.bool (ys.getD i false))) := hy
  have HED : Hid (∀ e ∈ g.es, (0 ≤ e.fr ∧ e.fr < (st : Int)) ∧ 0 ≤ e.to ∧ e.to < (st : Int)) := he
  have HE : Hid (Edgs w (.slice ead g.es.length ec) g.es) := hE
  have hfew := hE.few
  have HVZ : Hid (w.heap.size < V.heap.size) := lt_of a0
  clear h hE hy he kV a0 hV hU
  go_enter Tryd.func14, Tryd.ntmps14
  go_upto_region 1 with fail
  rw [HVV.out]
  clear HVV
  go_wp2_with fail
  go_loopw [8] (fun i wr => ∃ k : Nat, i = .int .i64 (k : Nat) ∧ k ≤ g.es.length ∧ Hid (∃ bs, OutA w wr V.heap.size st cl bs ys (g.es.take k)) ∧ Hid (Kept [V.heap.size] V wr)) (fun i _ => g.es.length - (intOf i).toNat)
  case atStart => exact ⟨0, rfl, Nat.zero_le _, ⟨_, HO.out⟩, HKU.out⟩
  case round =>
    obtain ⟨k, rfl, hk, HOK, HKW⟩ := hrel
    clear f1
    obtain ⟨f1, f3⟩ := HA0.out wr HKW.out
    obtain ⟨bs, hS⟩ := HOK.out
    have HSS : Hid (OutA w wr V.heap.size st cl bs ys (g.es.take k)) := hS
    by_cases hlt : k < g.es.length
    · have z0 : (k : Int) < (g.es.length : Int) := by omega
      have z1 : (0 : Int) ≤ (k : Int) := by omega
      rcases HE.out.lie with ⟨_, e2⟩ | ⟨eb, eo, ec', e1, _, _, hc⟩
      · exfalso; rw [e2] at hlt; simp at hlt
      cases e1
      obtain ⟨q0, q1, q2, q3⟩ := hc k hlt
      have HTE := HED.out g.es[k] (List.getElem_mem hlt)
      have hok := HE.out.wf g.es[k] (List.getElem_mem hlt)
      have HTK : Hid (g.es.take (k + 1) = g.es.take k ++ [g.es[k]]) := take_snocR hlt
      obtain ⟨e, he⟩ : ∃ e, g.es[k] = e := ⟨_, rfl⟩
      rw [he] at q0 q1 q2 q3 HTE hok HTK
      obtain ⟨t, ht⟩ : ∃ t : Nat, e.to = (t : Int) := ⟨e.to.toNat, by omega⟩
      obtain ⟨f, hf⟩ : ∃ f : Nat, e.fr = (f : Int) := ⟨e.fr.toNat, by omega⟩
      have hts : t < st := by omega
      have hfs : f < st := by omega
      have ti0 : (0 : Int) ≤ (t : Int) := by omega
      have ti1 : (t : Int) < (st : Int) := by omega
      have fi0 : (0 : Int) ≤ (f : Int) := by omega
      have fi1 : (f : Int) < (st : Int) := by omega
      have HT2 : Hid (e.to = (t : Int) ∧ t < st) := ⟨ht, hts⟩
      have HFT : Hid (e.fr.toNat = f) := by show _ = _; rw [hf]; rfl
      have r0 := cell_kept0 hS.kept q0
      have r1 := cell_kept0 hS.kept q1
      have r2 := cell_kept0 hS.kept q2
      have r3 := cell_kept0 hS.kept q3
      have ry := cell_kept0 hS.kept (HY.out f hfs)
      rw [ht] at r1
      rw [hf] at r0
      obtain ⟨W1, hW1⟩ : ∃ W1, wr.alloc (.cells #[.int .i64 (f : Nat), .int .i64 (t : Nat), .int .u16 (e.mu : Nat), .int .u16 (e.no : Nat)] 52) = W1 := ⟨_, rfl⟩
      have k1 : Kept [] wr W1 := by rw [← hW1]; exact (Kept.refl [] wr).alloc _
      have b1 : W1.heap[wr.heap.size]? = some (.cells #[.int .i64 (f : Nat), .int .i64 (t : Nat), .int .u16 (e.mu : Nat), .int .u16 (e.no : Nat)] 52 (0, 0)) := by rw [← hW1]; exact al0 _ _
      have HW1 : Hid (wr.alloc (.cells #[.int .i64 (f : Nat), .int .i64 (t : Nat), .int .u16 (e.mu : Nat), .int .u16 (e.no : Nat)] 52) = W1) := hW1
      have HK1 : Hid (Kept [] wr W1) := k1
      have g0 : W1.cell? ⟨wr.heap.size, 0, none⟩ = some (.int .i64 (f : Nat)) := (cell_of b1 0).trans rfl
      have g1 : W1.cell? ⟨wr.heap.size, 1, none⟩ = some (.int .i64 (t : Nat)) := (cell_of b1 1).trans rfl
      have g2 : W1.cell? ⟨wr.heap.size, 2, none⟩ = some (.int .u16 (e.mu : Nat)) := (cell_of b1 2).trans rfl
      have g3 : W1.cell? ⟨wr.heap.size, 3, none⟩ = some (.int .u16 (e.no : Nat)) := (cell_of b1 3).trans rfl
      have gy := cell_kept0 k1 ry
      have HG1 : Hid (W1.cell? ⟨wr.heap.size, 1, none⟩ = some (.int .i64 (t : Nat))) := g1
      obtain ⟨yb, hyb⟩ : ∃ yb, ys.getD f false = yb := ⟨_, rfl⟩
      rw [hyb] at gy
      have HYB : Hid (ys.getD e.fr.toNat false = yb) := by show _ = _; rw [HFT.out]; exact hyb
      obtain ⟨gb, hgb⟩ : ∃ gb, goesB e cl = gb := ⟨_, rfl⟩
      have HGB : Hid (goesB e cl = gb) := hgb
      have HGO : Hid (Calls Tryd.prog 34 #[.agg #[.int .i64 (f : Nat), .int .i64 (t : Nat), .int .u16 (e.mu : Nat), .int .u16 (e.no : Nat)], .int .u16 (cl : Nat)] W1 fun e' w' => e' = .returned (.bool gb) ∧ Kept [] W1 w') := by
        have q := refGoesS_any e cl W1 ⟨hok.2.2.1, hok.2.2.2⟩ hcl
        unfold edgV at q
        rw [ht, hf, hgb] at q
        exact q
      clear hS k1 b1 hW1 hgb q0 q1 q2 q3 he hc HTE hok ht hts hf hfs hyb ry
      go_upto_region 6 with fail
      rw [HW1.out]
      clear r0 r1 r2 r3
      cases yb with
      | false =>
        go_wp2
        go_roundw
        case rel =>
          refine ⟨k + 1, by go_num, by omega, ⟨bs, ?_⟩, ?_⟩
          · rw [HTK.out]
            exact (HSS.out.moved HK1.out).skip (by rw [HYB.out]; rfl)
          · exact HKW.out.trans HK1.out (fun _ h => h) (by simp)
        case measure => simp [intOf]; omega
      | true =>
        cases gb with
        | false =>
          go_wp2_with (first
            | (go_at_call 34; refine HGO.out.mono ?_; rintro e W2 ⟨rfl, hk2⟩; have HK2 : Hid (Kept [] W1 W2) := hk2; clear hk2))
          go_roundw
          case rel =>
            refine ⟨k + 1, by go_num, by omega, ⟨bs, ?_⟩, ?_⟩
            · rw [HTK.out]
              exact (HSS.out.moved (keptB HK1.out HK2.out)).skip (by rw [HYB.out, HGB.out]; rfl)
            · exact HKW.out.trans (keptB HK1.out HK2.out) (fun _ h => h) (by simp)
          case measure => simp [intOf]; omega
        | true =>
          go_wp2_with (first
            | (go_at_call 34; refine HGO.out.mono ?_; rintro e W2 ⟨rfl, hk2⟩; have HK2 : Hid (Kept [] W1 W2) := hk2; clear g0 g1 g2 g3 gy; have g1 := cell_kept0 hk2 HG1.out; have ho := (HSS.out.moved (keptB HK1.out hk2)).cellAt HT2.out.2; have hfz := (HSS.out.moved (keptB HK1.out hk2)).free t; clear hk2))
          go_roundw
          case rel =>
            refine ⟨k + 1, by go_num, by omega, ⟨bs.set t true, ?_⟩, ?_⟩
            · rw [HTK.out]
              exact (HSS.out.moved (keptB HK1.out HK2.out)).put (by rw [HYB.out, HGB.out]; rfl) HT2.out.1 HT2.out.2
            · exact (HKW.out.trans (keptB HK1.out HK2.out) (fun _ h => h) (by simp)).setCell (.inl (by simp)) _
          case measure => simp [intOf]; omega
    · obtain rfl : k = g.es.length := by omega
      have z0 : ¬ ((g.es.length : Int) < (g.es.length : Int)) := by omega
      clear hS
      go_wp2
      go_ret
      have hS := HSS.out
      rw [List.take_length] at hS
      exact ⟨_, bs, rfl, hS⟩
end Go.Proofs.YtkkhilgcjaigcaaDoor

/- slices.Equal at []uint64; Set.Same. (As Cmp, over Keeps.) -/
namespace Go.Proofs.YtkkhilgcjaigcaaDoor
open Go.RowKit

theorem quietK_more (w : World) (q n : Nat) : QuietK w ((w.drewN q).drewN n) := ⟨q + n, by simp [World.drewN, Nat.add_assoc]⟩

theorem extU_words {ws ws2 : List Nat} (hl : ws.length = ws2.length) (h : ∀ j, j < ws.length → ws.getD j 0 = ws2.getD j 0) : ws = ws2 := by
  apply List.ext_getElem hl
  intro j h1 h2
  rw [getD_get h1, getD_get h2]; exact h j h1

set_option maxHeartbeats 1600000 in
theorem equalU_any (b g c n b2 g2 c2 n2 : Nat) (ws ws2 : List Nat) (w : World) (hs : IsSet w b g c n ws) (hG : Good n ws) (hs2 : IsSet w b2 g2 c2 n2 ws2) :
    Calls Tryd.prog 30 #[.slice (some ⟨g, 0, none⟩) ws.length c, .slice (some ⟨g2, 0, none⟩) ws2.length c2] w fun e w' => e = .returned (.bool (decide (ws = ws2))) ∧ QuietK w w' := by
  have hl : ws.length ≤ 1024 := by have := hG.len; have := hG.top; omega
  by_cases hlen : ws.length = ws2.length
  · have hnl : ((ws.length : Int) != (ws2.length : Int)) = false := by simp; omega
    have HC : Hid (∀ j, j < ws.length → w.cell? ⟨g, j, none⟩ = some (.int .u64 (ws.getD j 0 : Nat))) := fun j hj => by rw [hs.cw j hj, getD_get hj]
    have HC2 : Hid (∀ j, j < ws.length → w.cell? ⟨g2, j, none⟩ = some (.int .u64 (ws2.getD j 0 : Nat))) := fun j hj => by rw [hs2.cw j (by omega), getD_get (by omega)]
    have HL : Hid (ws.length = ws2.length) := hlen
    clear hs hs2 hG hlen
    go_enter Tryd.func30, Tryd.ntmps30
    go_wp2_with fail
    go_loopw [13] (fun i wr => ∃ k : Nat, k ≤ ws.length ∧ i = .int .i64 k ∧ (∀ j, j < k → ws.getD j 0 = ws2.getD j 0) ∧ QuietK w wr) (fun i _ => ws.length - (intOf i).toNat)
    case atStart => exact ⟨0, Nat.zero_le _, rfl, fun j hj => by omega, QuietK.refl _⟩
    case round =>
      obtain ⟨k, hk, rfl, hd, q, rfl⟩ := hrel
      have HD : Hid (∀ j, j < k → ws.getD j 0 = ws2.getD j 0) := hd
      clear hd
      by_cases hlt : k < ws.length
      · have hlt' : (k : Int) < (ws.length : Int) := by omega
        have hlt2 : (k : Int) < (ws2.length : Int) := by have := HL.out; omega
        have d1 := HC.out k hlt
        have d2 := HC2.out k hlt
        have b0 : (0 : Int) ≤ (k : Int) := by omega
        by_cases he : ws.getD k 0 = ws2.getD k 0
        · have HD2 : Hid (∀ j, j < k + 1 → ws.getD j 0 = ws2.getD j 0) := fun j hj => by
            rcases Nat.lt_or_ge j k with h | h
            · exact HD.out j h
            · obtain rfl : j = k := by omega
              exact he
          rw [← he] at d2
          generalize ws.getD k 0 = x at d1 d2
          have hne : ((x : Int) != (x : Int)) = false := by simp
          clear he
          go_wp2_with fail
          go_quiet (fail)
          go_wp2
          go_roundw
          case rel => exact ⟨k + 1, by omega, by go_num, HD2.out, _, rfl⟩
          case measure => simp [intOf]; omega
        · have HF : Hid (decide (ws = ws2) = false) := by
            show decide (ws = ws2) = false
            simp; intro e; exact he (by rw [e])
          generalize ws.getD k 0 = x at d1 he
          generalize ws2.getD k 0 = y at d2 he
          have hne : ((x : Int) != (y : Int)) = true := by simp; omega
          clear he
          go_wp2_with fail
          go_quiet (fail)
          go_wp2
          go_ret
          exact ⟨ret_bool HF.out.symm, quietK_more _ _ _⟩
      · have hlt' : ¬ (k : Int) < (ws.length : Int) := by omega
        have HF : Hid (decide (ws = ws2) = true) := by
          show decide (ws = ws2) = true
          simp; exact extU_words HL.out (fun j hj => HD.out j (by omega))
        go_wp2
        go_ret
        exact ⟨ret_bool HF.out.symm, _, rfl⟩
  · have hnl : ((ws.length : Int) != (ws2.length : Int)) = true := by simp; omega
    have HF : Hid (decide (ws = ws2) = false) := by
      show decide (ws = ws2) = false
      simp; intro e; exact hlen (by rw [e])
    rw [HF.out]
    clear hs hs2 hG hlen HF
    go_enter Tryd.func30, Tryd.ntmps30
    go_wp2
    go_ret
    exact ⟨rfl, QuietK.refl _⟩

set_option maxHeartbeats 1600000 in
theorem sameS_any (b g c n b2 g2 c2 n2 : Nat) (ws ws2 : List Nat) (w : World) (hs : IsSet w b g c n ws) (hG : Good n ws) (hs2 : IsSet w b2 g2 c2 n2 ws2) :
    Calls Tryd.prog 11 #[.pointer (some ⟨b, 0, none⟩), .pointer (some ⟨b2, 0, none⟩)] w fun e w' => e = .returned (.bool (decide (n = n2) && decide (ws = ws2))) ∧ QuietK w w' := by
  have h0 := hs.c0
  have h1 := hs.c1
  have k0 := hs2.c0
  have k1 := hs2.c1
  by_cases hn : n = n2
  · subst hn
    have hb : ((n : Int) == (n : Int)) = true := by simp
    have e : (decide (n = n) && decide (ws = ws2)) = decide (ws = ws2) := by simp
    rw [e]
    clear e
    go_enter Tryd.func11, Tryd.ntmps11
    go_wp2_with fail
    go_region_held3 (fun w' => w'.cell? ⟨b, 0, none⟩ = some (.int .i64 n) ∧ w'.cell? ⟨b, 1, none⟩ = some (.slice (some ⟨g, 0, none⟩) ws.length c) ∧ w'.cell? ⟨b2, 0, none⟩ = some (.int .i64 n) ∧ w'.cell? ⟨b2, 1, none⟩ = some (.slice (some ⟨g2, 0, none⟩) ws2.length c2)) (go_keep)
      (first | (go_at_call 30; refine (equalU_any b g c n b2 g2 c2 n ws ws2 _ hs.drew hG hs2.drew).mono ?_; rintro e w1 ⟨rfl, q, rfl⟩))
    go_wp2
    go_ret
    exact ⟨rfl, 1 + q, by simp [World.drewN]⟩
  · have hb : ((n : Int) == (n2 : Int)) = false := by simp; omega
    have e : (decide (n = n2) && decide (ws = ws2)) = false := by simp [hn]
    rw [e]
    clear e hn
    go_enter Tryd.func11, Tryd.ntmps11
    go_wp2_with fail
    go_quiet (fail)
    go_wp2
    go_ret
    exact ⟨rfl, nq, rfl⟩

end Go.Proofs.YtkkhilgcjaigcaaDoor

/- The small things of the law BuchiSteps: few, set; what the document's Step and the program's have in common. -/
namespace Go.Proofs.YtkkhilgcjaigcaaDoor
open Go.RowKit Go.Shelf

set_option maxHeartbeats 1000000 in
theorem few_any (pad iad ead sad : Option Addr) (pn pc n ic en ec sc : Nat) (st : Int) (w : World) :
    Calls Tryd.prog 4 #[.agg #[.slice pad pn pc, .int .i64 st, .slice iad n ic, .slice ead en ec, .slice sad 1 sc], .agg #[.slice none 0 0, .slice none 0 0]] w fun e w' => e = .returned (.bool (decide (st ≤ 60) && decide (en ≤ 300))) ∧ Kept [] w w' := by
  by_cases h1 : st ≤ 60
  · by_cases h2 : en ≤ 300
    · have h2i : (en : Int) ≤ 300 := by omega
      rw [decide_eq_true h1, decide_eq_true h2]
      clear h2
      go_enter Tryd.func4, Tryd.ntmps4
      go_wp2
      go_ret
      exact ⟨rfl, ((Kept.refl [] w).alloc _).alloc _⟩
    · have h2i : ¬ (en : Int) ≤ 300 := by omega
      rw [decide_eq_true h1, decide_eq_false h2]
      clear h2
      go_enter Tryd.func4, Tryd.ntmps4
      go_wp2
      go_ret
      exact ⟨rfl, ((Kept.refl [] w).alloc _).alloc _⟩
  · rw [decide_eq_false h1]
    go_enter Tryd.func4, Tryd.ntmps4
    go_wp2
    go_ret
    exact ⟨rfl, ((Kept.refl [] w).alloc _).alloc _⟩
theorem Ints.isSl {W : World} {v : Value} {xs : List Int} (h : Ints W v xs) : IsSl W v xs := by
  rcases h.lie with ⟨⟨ad, c, rfl, _, _⟩, rfl⟩ | ⟨b, o, c, rfl, _, _, h4⟩
  · exact ⟨ad, c, rfl, .inl rfl⟩
  · refine ⟨_, c, rfl, ?_⟩
    rcases Nat.eq_zero_or_pos xs.length with h0 | h0
    · exact .inl (List.length_eq_zero_iff.1 h0)
    · exact .inr ⟨b, o, rfl, World.block_lt_of_cell? W _ (h4 0 h0), h4⟩
theorem set_any (n : Nat) (v : Value) (xs : List Int) (w : World) (hn : n ≤ 65536) (h : Ints w v xs) :
    Calls Tryd.prog 7 #[.int .i64 (n : Nat), v] w (Makes w n (ofW n xs)) := by
  have hf := h.few
  have HO : Hid (Calls Tryd.prog 20 #[.int .i64 (n : Nat), v] w (Makes w n (ofW n xs))) := of_sl n v xs w hn (by unfold maxLen; omega) h.isSl
  obtain ⟨ad, c, rfl, _, _⟩ := h.form
  clear h hf
  go_enter Tryd.func7, Tryd.ntmps7
  go_wp2_with (first
    | (go_at_call 20; refine HO.out.mono ?_; rintro e w1 ⟨b, g, cc, rfl, hm⟩; have HM : Hid (_ ∧ _) := hm; clear hm))
  go_ret
  exact ⟨b, g, cc, rfl, HM.out⟩
theorem mem_elems {n : Nat} {ws : List Nat} : ∀ (d s : Nat), s + d = n → ∀ x, x ∈ elemsW n ws s ↔ (s ≤ x ∧ x < n ∧ mem ws x = true)
  | 0, s, hd, x => by
    unfold elemsW
    rw [show n - s = 0 from by omega, elemsF]
    simp
    omega
  | d + 1, s, hd, x => by
    have ih := mem_elems (n := n) (ws := ws) d (s + 1) (by omega) x
    unfold elemsW at ih ⊢
    rw [show n - s = (n - (s + 1)) + 1 from by omega, elemsF]
    split
    · next h =>
      rw [List.mem_cons, ih]
      constructor
      · rintro (rfl | h2)
        · exact ⟨Nat.le_refl _, by omega, h⟩
        · exact ⟨by omega, h2.2⟩
      · rintro ⟨h1, h2⟩
        rcases Nat.lt_or_ge s x with q | q
        · exact .inr ⟨by omega, h2⟩
        · exact .inl (by omega)
    · next h =>
      rw [ih]
      constructor
      · rintro ⟨h1, h2⟩
        exact ⟨by omega, h2⟩
      · rintro ⟨h1, h2, h3⟩
        refine ⟨?_, h2, h3⟩
        rcases Nat.lt_or_ge s x with q | q
        · omega
        · exfalso
          obtain rfl : x = s := by omega
          exact h h3
/-- What the program's Step has is what the document's has. -/
theorem hit_want {n cl x : Nat} {ws : List Nat} {ys : List Bool} {es : List Edg} (hy : ∀ i, i < n → ys.getD i false = mem ws i) (he : ∀ e ∈ es, 0 ≤ e.fr ∧ e.fr < (n : Int)) : hitB ((elemsW n ws 0).flatMap (rowL es)) cl x = wantB es ys cl x := by
  rw [Bool.eq_iff_iff]
  unfold hitB wantB
  rw [List.any_eq_true, List.any_eq_true]
  constructor
  · rintro ⟨e, hm, hg⟩
    obtain ⟨s, hs, hr⟩ := List.mem_flatMap.1 hm
    obtain ⟨_, hsn, hsm⟩ := (mem_elems n 0 (by omega) s).1 hs
    obtain ⟨hme, hfr⟩ := List.mem_filter.1 hr
    have hfr' : e.fr = (s : Int) := of_decide_eq_true hfr
    refine ⟨e, hme, ?_⟩
    rw [hfr', Int.toNat_natCast, hy s hsn, hsm, Bool.true_and]
    exact hg
  · rintro ⟨e, hme, hg⟩
    have hb := he e hme
    rw [Bool.and_assoc, Bool.and_eq_true] at hg
    refine ⟨e, List.mem_flatMap.2 ⟨e.fr.toNat, (mem_elems n 0 (by omega) _).2 ⟨Nat.zero_le _, by omega, ?_⟩, List.mem_filter.2 ⟨hme, decide_eq_true (by omega)⟩⟩, hg.2⟩
    rw [← hy _ (by omega)]
    exact hg.1
/-- A set without members has none. -/
theorem ones_zero : ones 0 = 0 := by decide
theorem len_zero {n : Nat} {ws : List Nat} (h : Good n ws) (hm : ∀ x, x < n → mem ws x = false) : lenW ws = 0 := by
  have hz : ∀ x ∈ ws, x = 0 := fun x hx => by
    obtain ⟨k, hk, rfl⟩ := List.getElem_of_mem hx
    apply Nat.eq_of_testBit_eq
    intro j
    rw [Nat.zero_testBit]
    have hw := h.word k
    rw [← getD_get hk] at hw
    rcases Nat.lt_or_ge j 64 with hj | hj
    · have q : mem ws (64 * k + j) = false := by
        rcases Nat.lt_or_ge (64 * k + j) n with r | r
        · exact hm _ r
        · exact h.trim _ r
      rw [mem_at ws k j hj, ← getD_get hk] at q
      exact q
    · exact Nat.testBit_lt_two_pow (Nat.lt_of_lt_of_le hw (Nat.pow_le_pow_right (n := 2) (by decide) hj))
  unfold lenW
  have : ws.map ones = ws.map fun _ => 0 := List.map_congr_left fun x hx => by rw [hz x hx, ones_zero]
  rw [this]
  clear this hz hm h
  induction ws with
  | nil => rfl
  | cons a r ih => simpa using ih
end Go.Proofs.YtkkhilgcjaigcaaDoor
