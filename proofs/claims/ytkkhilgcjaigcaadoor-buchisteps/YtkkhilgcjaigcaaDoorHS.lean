/- package buchi: rowsOf of any edges that rise. -/
import Derived.Test.YtkkhilgcjaigcaaDoorBuCheck
import Derived.Test.YtkkhilgcjaigcaaDoorHI
import Derived.BigQuiet
import Derived.Test.YtkkhilgcjaigcaaDoorAllG
import Derived.Test.YtkkhilgcjaigcaaDoorOfK
import Derived.Test.YtkkhilgcjaigcaaDoorBuLentG
import Derived.Deep.QuietTactic
namespace Go.Proofs.YtkkhilgcjaigcaaDoor
open Go.RowKit Go.Shelf

theorem Tryd.infoRE : (Tryd.prog.info? 24).map (fun i => (i.zero, i.size, i.bytes)) = some (some (.slice none 0 0), 1, 24) := by kernel_rfl
theorem make_rowsE (w : World) (k : Nat) (hk : k ≤ 1000000) : Sem.run Tryd.prog (Instr.makeSlice 61 (.int .i64 (k : Nat)) (.int .i64 (k : Nat))) w = .ok (.slice (some ⟨w.heap.size, 0, none⟩) k k) (w.alloc (.cells (List.replicate k (.slice none 0 0)).toArray 24)) := by
  obtain ⟨i, hi, hz, hs, hb⟩ := info_parts Tryd.infoRE
  have h := run_make (P := Tryd.prog) w 61 24 i _ Tryd.underlying61 hi hz .i64 .i64 (k : Int) (k : Int) (by omega) (by omega) (by rw [hb]; omega) (by omega)
  have e : madeCells (Value.cells (.slice none 0 0)) (k * 1) = (List.replicate k (Value.slice none 0 0)).toArray := by
    rw [Nat.mul_one]
    apply Array.ext'
    simp only [madeCells, Value.cells, List.size_toArray, List.length_cons, List.length_nil, Array.toList_map, Array.toList_range]
    apply List.ext_getElem
    · simp
    · intro i h1 h2
      simp [Nat.mod_one]
  rw [h, hs, Int.toNat_natCast, e]
/-- The edges from a state. -/
def rowL (es : List Edg) (s : Nat) : List Edg := es.filter fun e => decide (e.fr = (s : Int))
/-- The rows of the first k edges lie in block B. -/
structure RowsW (w W : World) (B st : Nat) (vs : List Value) (es : List Edg) : Prop where
  row : W.heap[B]? = some (.cells vs.toArray 24 (0, 0))
  len : vs.length = st
  each : ∀ s v, vs[s]? = some v → Edgs w v (rowL es s)
  kept : Kept [] w W
  new : w.heap.size ≤ B
theorem RowsW.moved {w W W' : World} {B st : Nat} {vs : List Value} {es : List Edg} (h : RowsW w W B st vs es) (k : Kept [] W W') : RowsW w W' B st vs es := ⟨k.at h.row (by simp), h.len, h.each, keptB h.kept k, h.new⟩
theorem RowsW.cellAt {w W : World} {B st : Nat} {vs : List Value} {es : List Edg} (h : RowsW w W B st vs es) {s : Nat} (hs : s < st) : ∃ v, vs[s]? = some v ∧ W.cell? ⟨B, s, none⟩ = some v := by
  obtain ⟨v, hv⟩ : ∃ v, vs[s]? = some v := ⟨vs[s]'(by rw [h.len]; exact hs), List.getElem?_eq_getElem _⟩
  refine ⟨v, hv, ?_⟩
  rw [cell_of h.row]
  simpa using hv
theorem RowsW.free {w W : World} {B st : Nat} {vs : List Value} {es : List Edg} (h : RowsW w W B st vs es) (s : Nat) : W.frozen? ⟨B, s, none⟩ = false := free_of h.row s
theorem Edgs.piece {w : World} {b o c : Nat} {es : List Edg} (h : Edgs w (.slice (some ⟨b, o, none⟩) es.length c) es) (k m : Nat) (hkm : k ≤ m) (hm : m ≤ es.length) : Edgs w (.slice (some ⟨b, o + k * 4, none⟩) (m - k) (c - k)) ((es.drop k).take (m - k)) := by
  have hl : ((es.drop k).take (m - k)).length = m - k := by rw [List.length_take, List.length_drop]; omega
  have hf := h.few
  rcases h.lie with ⟨e, _⟩ | ⟨b', o', c', e, h2, h3, h4⟩
  · cases e
  · cases e
    refine ⟨by omega, fun e he => h.wf e (List.mem_of_mem_drop (List.mem_of_mem_take he)), .inr ⟨b, o + k * 4, c - k, by rw [hl], by omega, by omega, fun i hi => ?_⟩⟩
    rw [hl] at hi
    have q := h4 (k + i) (by omega)
    have e1 : ((es.drop k).take (m - k))[i]'(by rw [hl]; exact hi) = es[k + i]'(by omega) := by rw [List.getElem_take, List.getElem_drop]
    rw [e1, show o + k * 4 + i * 4 = o + (k + i) * 4 from by omega]
    exact q
/-- What one more group of edges does. -/
theorem rowL_none {l : List Edg} {s : Nat} (h : ∀ e ∈ l, e.fr ≠ (s : Int)) : rowL l s = [] := by
  unfold rowL
  rw [List.filter_eq_nil_iff]
  intro e he
  simpa using h e he
theorem rowL_all {l : List Edg} {s : Nat} (h : ∀ e ∈ l, e.fr = (s : Int)) : rowL l s = l := by
  unfold rowL
  rw [List.filter_eq_self]
  intro e he
  simpa using h e he
theorem take_split (es : List Edg) (k m : Nat) (h : k ≤ m) : es.take m = es.take k ++ (es.drop k).take (m - k) := by
  rw [← List.take_append_drop k (es.take m), List.take_take, Nat.min_eq_left h, List.drop_take]
theorem mem_piece {es : List Edg} {k m : Nat} {e : Edg} (hm : m ≤ es.length) (h : e ∈ (es.drop k).take (m - k)) : ∃ j, ∃ hj : j < es.length, k ≤ j ∧ j < m ∧ es[j] = e := by
  obtain ⟨i, hi, rfl⟩ := List.getElem_of_mem h
  rw [List.length_take, List.length_drop] at hi
  exact ⟨k + i, by omega, by omega, by omega, by rw [List.getElem_take, List.getElem_drop]⟩
theorem RowsW.group {w W : World} {b o c B st f k m : Nat} {vs : List Value} {es : List Edg} (h : RowsW w W B st vs (es.take k)) (hE : Edgs w (.slice (some ⟨b, o, none⟩) es.length c) es) (hkm : k ≤ m) (hm : m ≤ es.length) (hf : f < st) (hg : ∀ j (hj : j < es.length), k ≤ j → j < m → es[j].fr = (f : Int)) (hb : ∀ i (hi : i < es.length), i < k → es[i].fr ≠ (f : Int)) :
    RowsW w (W.setCell ⟨B, f, none⟩ (.slice (some ⟨b, o + k * 4, none⟩) (m - k) (c - k))) B st (vs.set f (.slice (some ⟨b, o + k * 4, none⟩) (m - k) (c - k))) (es.take m) := by
  have hp : ∀ e ∈ (es.drop k).take (m - k), e.fr = (f : Int) := fun e he => by
    obtain ⟨j, hj, h1, h2, rfl⟩ := mem_piece hm he
    exact hg j hj h1 h2
  refine ⟨?_, by rw [List.length_set]; exact h.len, fun s v hv => ?_, h.kept.setCell (.inr h.new) _, h.new⟩
  · rw [row_set h.row]
    congr 2
    apply Array.ext'
    simp [Array.setIfInBounds, h.len, hf]
  · rw [take_split es k m hkm]
    unfold rowL
    rw [List.filter_append]
    by_cases hs : s = f
    · subst hs
      rw [List.getElem?_set_self (by rw [h.len]; exact hf)] at hv
      cases hv
      have e1 : rowL (es.take k) s = [] := rowL_none fun e he => by
        obtain ⟨i, hi, rfl⟩ := List.getElem_of_mem he
        rw [List.length_take] at hi
        rw [List.getElem_take]
        exact hb i (by omega) (by omega)
      have e2 : rowL ((es.drop k).take (m - k)) s = (es.drop k).take (m - k) := rowL_all hp
      unfold rowL at e1 e2
      rw [e1, e2, List.nil_append]
      exact hE.piece k m hkm hm
    · rw [List.getElem?_set_ne (fun e => hs e.symm)] at hv
      have e2 : rowL ((es.drop k).take (m - k)) s = [] := rowL_none fun e he => by rw [hp e he]; intro q; exact hs (by omega)
      unfold rowL at e2
      rw [e2, List.append_nil]
      exact h.each s v hv
def RwEnds (w : World) (st : Nat) (es : List Edg) (e : Ending) (w' : World) : Prop := ∃ B vs, e = .returned (.slice (some ⟨B, 0, none⟩) st st) ∧ RowsW w w' B st vs es
set_option maxHeartbeats 2000000 in
set_option maxRecDepth 10000 in
theorem rowsOf_any (v : Value) (es : List Edg) (st : Nat) (w : World) (h : Edgs w v es) (hst : st ≤ 1000000) (hr : ∀ e ∈ es, 0 ≤ e.fr ∧ e.fr < (st : Int)) (ha : ∀ i j (hi : i < es.length) (hj : j < es.length), i ≤ j → es[i].fr ≤ es[j].fr) :
    Calls Tryd.prog 26 #[.int .i64 (st : Nat), v] w (RwEnds w st es) := by
  have hmk := make_rowsE w st hst
  obtain ⟨V, hV⟩ : ∃ V, w.alloc (.cells (List.replicate st (.slice none 0 0)).toArray 24) = V := ⟨_, rfl⟩
  have HR0 : Hid (RowsW w V w.heap.size st (List.replicate st (.slice none 0 0)) (es.take 0)) := by
    show RowsW _ _ _ _ _ _
    rw [← hV]
    refine ⟨al0 _ _, List.length_replicate, fun s v hv => ?_, (Kept.refl [] w).alloc _, Nat.le_refl _⟩
    obtain ⟨_, e⟩ := List.getElem?_eq_some_iff.1 hv
    rw [List.getElem_replicate] at e
    subst e
    exact ⟨by simp [rowL], by simp [rowL], .inl ⟨rfl, by simp [rowL]⟩⟩
  rw [hV] at hmk
  have hfew := h.few
  clear hV
  rcases h.lie with ⟨rfl, rfl⟩ | ⟨b, o, c, rfl, hc1, hc2, hcell⟩
  · clear h hr ha
    go_enter Tryd.func26, Tryd.ntmps26
    go_wp2_with fail
    refine wp_loop_rounds 1 ?_
    rw [rounds_succ]
    go_wp2
    go_ret
    exact ⟨_, _, rfl, HR0.out⟩
  · have HE : Hid (Edgs w (.slice (some ⟨b, o, none⟩) es.length c) es) := h
    have HCE : Hid (∀ i (h : i < es.length), w.cell? ⟨b, o + i * 4, none⟩ = some (.int .i64 es[i].fr)) := fun i hi => (hcell i hi).1
    have HRG : Hid (∀ e ∈ es, 0 ≤ e.fr ∧ e.fr < (st : Int)) := hr
    have HAS : Hid (∀ i j (hi : i < es.length) (hj : j < es.length), i ≤ j → es[i].fr ≤ es[j].fr) := ha
    have hcm : c ≤ 9223372036854775807 := by unfold maxLen at hc2; exact hc2
    clear h hcell hr ha
    go_enter Tryd.func26, Tryd.ntmps26
    go_wp2_with fail
    go_loopw [6] (fun i wr => ∃ k : Nat, i = .int .i64 (k : Nat) ∧ k ≤ es.length ∧ Hid (∃ vs, RowsW w wr w.heap.size st vs (es.take k)) ∧ Hid (∀ i j (hi : i < es.length) (hj : j < es.length), i < k → k ≤ j → es[i].fr < es[j].fr)) (fun i _ => es.length - (intOf i).toNat)
    case atStart => exact ⟨0, rfl, Nat.zero_le _, ⟨_, HR0.out⟩, fun i j _ _ h => by omega⟩
    case round =>
      obtain ⟨k, rfl, hk, HRW, HBD⟩ := hrel
      by_cases hlt : k < es.length
      · have z0 : (k : Int) < (es.length : Int) := by omega
        have z00 : (0 : Int) ≤ (k : Int) := by omega
        obtain ⟨f, hf⟩ : ∃ f : Nat, es[k].fr = (f : Int) := ⟨es[k].fr.toNat, by have := (HRG.out _ (List.getElem_mem hlt)).1; omega⟩
        have hfs : f < st := by have := (HRG.out _ (List.getElem_mem hlt)).2; omega
        have hfi : (f : Int) < (st : Int) := by omega
        have hf0 : (0 : Int) ≤ (f : Int) := by omega
        have HF : Hid (es[k].fr = (f : Int)) := hf
        have HC0 : Hid (w.cell? ⟨b, o + k * 4, none⟩ = some (.int .i64 (f : Nat))) := by show _ = _; rw [HCE.out k hlt, HF.out]
        clear hf
        obtain ⟨m0, hm0⟩ : ∃ m0 : Nat, (k : Int) + 1 = (m0 : Int) := ⟨k + 1, by omega⟩
        have HM0 : Hid (m0 = k + 1) := by show _ = _; omega
        go_wp2_with fail
        go_loopw [7] (fun i w2 => ∃ m : Nat, i = .int .i64 (m : Nat) ∧ k < m ∧ m ≤ es.length ∧ Hid (∃ vs, RowsW w w2 w.heap.size st vs (es.take k)) ∧ Hid (∀ j (hj : j < es.length), k ≤ j → j < m → es[j].fr = (f : Int))) (fun i _ => es.length - (intOf i).toNat)
        case atStart =>
          have hq := HM0.out
          refine ⟨m0, rfl, by omega, by omega, HRW.out, fun j hj h1 h2 => ?_⟩
          obtain rfl : j = k := by omega
          exact HF.out
        case round =>
          rename World => w5
          obtain ⟨m, rfl, hkm, hml, HRM, HGR⟩ := hrel
          obtain ⟨vs, hRM⟩ := HRM.out
          have c0 : w5.cell? ⟨b, o + k * 4, none⟩ = some (.int .i64 (f : Nat)) := cell_kept0 hRM.kept HC0.out
          by_cases hme : m < es.length
          · have y0 : (m : Int) < (es.length : Int) := by omega
            have y2 : (0 : Int) ≤ (m : Int) := by omega
            obtain ⟨x, hx⟩ : ∃ x, es[m].fr = x := ⟨_, rfl⟩
            have c1 : w5.cell? ⟨b, o + m * 4, none⟩ = some (.int .i64 x) := by rw [← hx]; exact cell_kept0 hRM.kept (HCE.out m hme)
            have HX : Hid (es[m].fr = x) := hx
            clear hx
            by_cases hxf : x = (f : Int)
            · subst hxf
              have HRX : Hid (RowsW w w5 w.heap.size st vs (es.take k)) := hRM
              clear hRM
              have d1 : (((f : Int)) == (f : Int)) = true := by simp
              go_wp2_with fail
              go_quiet (fail)
              go_wp2
              go_roundw
              case rel =>
                refine ⟨m + 1, by go_num, by omega, by omega, ⟨vs, HRX.out.moved ((Kept.refl [] w5).drewN _)⟩, fun j hj h1 h2 => ?_⟩
                rcases Nat.lt_or_ge j m with q | q
                · exact HGR.out j hj h1 q
                · obtain rfl : j = m := by omega
                  exact HX.out
              case measure => simp [intOf]; omega
            · have d1 : (x == (f : Int)) = false := by rw [beq_eq_false_iff_ne]; exact hxf
              have HNX : Hid (x ≠ (f : Int)) := hxf
              clear hxf
              have HRX : Hid (RowsW w w5 w.heap.size st vs (es.take k)) := hRM
              obtain ⟨v0, _, hz⟩ := hRM.cellAt hfs
              have hfz := hRM.free f
              clear hRM
              have y3 : (k : Int) ≤ (m : Int) := by omega
              have y4 : (m : Int) ≤ (c : Int) := by omega
              have y5 : ¬ (c = k) := by omega
              have y6 : (m : Int) ≤ (es.length : Int) := by omega
              go_wp2_with fail
              go_quiet (fail)
              go_wp2_with fail
              go_region
              go_wp2
              go_roundw
              case rel =>
                have hlo : ∀ i (hi : i < es.length), i < k → es[i].fr ≠ (f : Int) := fun i hi h => by
                  have := HBD.out i k hi hlt h (Nat.le_refl _)
                  rw [HF.out] at this
                  omega
                refine ⟨m, rfl, hml, ⟨_, (HRX.out.moved ((Kept.refl [] w5).drewN _)).group HE.out (by omega) hml hfs HGR.out hlo⟩, fun i j hi hj h1 h2 => ?_⟩
                have q1 := HAS.out m j hme hj h2
                have q2 := HAS.out i m hi hme (by omega)
                have q3 : es[m].fr ≠ (f : Int) := by rw [HX.out]; exact HNX.out
                have q4 : es[i].fr ≤ (f : Int) := by
                  rcases Nat.lt_or_ge i k with h | h
                  · have := HAS.out i k hi hlt (by omega)
                    rw [HF.out] at this
                    exact this
                  · rw [HGR.out i hi h h1]; exact Int.le_refl _
                have q5 := HAS.out k m hlt hme (by omega)
                rw [HF.out] at q5
                omega
              case measure => simp [intOf]; omega
          · have y0 : ¬ (m : Int) < (es.length : Int) := by omega
            have HRX : Hid (RowsW w w5 w.heap.size st vs (es.take k)) := hRM
            obtain ⟨v0, _, hz⟩ := hRM.cellAt hfs
            have hfz := hRM.free f
            clear hRM
            have y3 : (k : Int) ≤ (m : Int) := by omega
            have y4 : (m : Int) ≤ (c : Int) := by omega
            have y5 : ¬ (c = k) := by omega
            have y6 : (m : Int) ≤ (es.length : Int) := by omega
            go_wp2_with fail
            go_quiet (fail)
            go_wp2_with fail
            go_region
            go_wp2
            go_roundw
            case rel =>
              have hlo : ∀ i (hi : i < es.length), i < k → es[i].fr ≠ (f : Int) := fun i hi h => by
                have := HBD.out i k hi hlt h (Nat.le_refl _)
                rw [HF.out] at this
                omega
              refine ⟨m, rfl, hml, ⟨_, (HRX.out.moved ((Kept.refl [] w5).drewN _)).group HE.out (by omega) hml hfs HGR.out hlo⟩, fun i j hi hj h1 h2 => ?_⟩
              omega
            case measure => simp [intOf]; omega
      · obtain rfl : k = es.length := by omega
        have z0 : ¬ ((es.length : Int) < (es.length : Int)) := by omega
        go_wp2
        go_ret
        obtain ⟨vs, q⟩ := HRW.out
        rw [List.take_length] at q
        exact ⟨_, vs, rfl, q⟩
end Go.Proofs.YtkkhilgcjaigcaaDoor

/- package buchi: step over any rows. -/
namespace Go.Proofs.YtkkhilgcjaigcaaDoor
open Go.RowKit Go.Shelf
attribute [local go_sem] Oper.semAt_some

theorem width_anyA (b g c n : Nat) (ws : List Nat) (w : World) (hs : IsSet w b g c n ws) : Calls Tryd.prog 15 #[.pointer (some ⟨b, 0, none⟩)] w fun e w' => e = .returned (.int .i64 n) ∧ w' = w := by
  have c0 := hs.c0
  go_enter Tryd.func15, Tryd.ntmps15
  go_wp2_with fail
  go_ret
  exact ⟨rfl, rfl⟩
/-- Does one of these edges lead to x by the letter. -/
def hitB (l : List Edg) (cl x : Nat) : Bool := l.any fun e => goesB e cl && decide (e.to = (x : Int))
theorem hitB_snoc (l : List Edg) (e : Edg) (cl x : Nat) : hitB (l ++ [e]) cl x = (hitB l cl x || (goesB e cl && decide (e.to = (x : Int)))) := by simp [hitB]
/-- The set that is made, and the boxes of step. -/
structure StA (w W : World) (Br Bl Bt tb tg tc RB st cl : Nat) (ws : List Nat) (l : List Edg) (X : Nat → Prop) : Prop where
  kept : Kept [] w W
  set : IsSet W tb tg tc st ws
  good : Good st ws
  is : ∀ x, x < st → mem ws x = hitB l cl x
  br : Boxed W Br 61 (.slice (some ⟨RB, 0, none⟩) st st)
  bl : Boxed W Bl 27 (.int .u16 (cl : Nat))
  bt : Boxed W Bt 37 (.pointer (some ⟨tb, 0, none⟩))
  x1 : ¬ X Br
  x2 : ¬ X Bl
  x3 : ¬ X Bt
  x4 : ¬ X tb
  x5 : ¬ X tg
  lo : ∀ k, X k → w.heap.size ≤ k
theorem StA.more {w W : World} {Br Bl Bt tb tg tc RB st cl : Nat} {ws : List Nat} {l : List Edg} {X X' : Nat → Prop} (h : StA w W Br Bl Bt tb tg tc RB st cl ws l X) (hX : ∀ k, X' k → X k ∨ W.heap.size ≤ k) : StA w W Br Bl Bt tb tg tc RB st cl ws l X' := by
  have l1 := h.br.lt
  have l2 := h.bl.lt
  have l3 := h.bt.lt
  have l4 := h.set.ltb
  have l5 := h.set.ltg
  exact ⟨h.kept, h.set, h.good, h.is, h.br, h.bl, h.bt, fun q => (hX _ q).elim h.x1 (by omega), fun q => (hX _ q).elim h.x2 (by omega), fun q => (hX _ q).elim h.x3 (by omega), fun q => (hX _ q).elim h.x4 (by omega), fun q => (hX _ q).elim h.x5 (by omega), fun k q => (hX k q).elim (h.lo k) (fun p => Nat.le_trans h.kept.size p)⟩
theorem StA.turn {w W W' : World} {Br Bl Bt tb tg tc RB st cl : Nat} {ws : List Nat} {l : List Edg} {X : Nat → Prop} {row : Option Nat} (h : StA w W Br Bl Bt tb tg tc RB st cl ws l X) (hg : W.grownBy W' row) (hr : ∀ r, row = some r → X r) : StA w W' Br Bl Bt tb tg tc RB st cl ws l X := by
  have hne : ∀ k, ¬ X k → row ≠ some k := fun k hk e => hk (hr k e)
  obtain ⟨s1, ⟨cur, s2, s3⟩, s4, s5, s6⟩ := h.set
  exact ⟨h.kept.grown hg (fun k e => .inr (h.lo k (hr k e))), ⟨(hg.block _ (lt_of s1) (fun e => hne _ h.x4 e.symm)).trans s1, ⟨cur, (hg.block _ (lt_of s2) (fun e => hne _ h.x5 e.symm)).trans s2, s3⟩, s4, s5, s6⟩, h.good, h.is, h.br.kept hg (fun e => hne _ h.x1 e.symm), h.bl.kept hg (fun e => hne _ h.x2 e.symm), h.bt.kept hg (fun e => hne _ h.x3 e.symm), h.x1, h.x2, h.x3, h.x4, h.x5, h.lo⟩
theorem StA.moved {w W W' : World} {Br Bl Bt tb tg tc RB st cl : Nat} {ws : List Nat} {l : List Edg} {X : Nat → Prop} (h : StA w W Br Bl Bt tb tg tc RB st cl ws l X) (k : Kept [] W W') : StA w W' Br Bl Bt tb tg tc RB st cl ws l X :=
  ⟨keptB h.kept k, h.set.kept k (by simp) (by simp), h.good, h.is, k.at h.br (by simp), k.at h.bl (by simp), k.at h.bt (by simp), h.x1, h.x2, h.x3, h.x4, h.x5, h.lo⟩
/-- One more edge that does not go. -/
theorem StA.skip {w W : World} {Br Bl Bt tb tg tc RB st cl : Nat} {ws : List Nat} {l : List Edg} {X : Nat → Prop} (h : StA w W Br Bl Bt tb tg tc RB st cl ws l X) {e : Edg} (he : goesB e cl = false) : StA w W Br Bl Bt tb tg tc RB st cl ws (l ++ [e]) X :=
  ⟨h.kept, h.set, h.good, fun x hx => by rw [h.is x hx, hitB_snoc, he]; simp, h.br, h.bl, h.bt, h.x1, h.x2, h.x3, h.x4, h.x5, h.lo⟩
/-- One that goes. -/
theorem StA.put {w W W' : World} {Br Bl Bt tb tg tc RB st cl : Nat} {ws : List Nat} {l : List Edg} {X : Nat → Prop} (h : StA w W Br Bl Bt tb tg tc RB st cl ws l X) {e : Edg} {t : Nat} (he : goesB e cl = true) (ht : e.to = (t : Int)) (hts : t < st) (hs : IsSet W' tb tg tc st (putW ws t)) (k : Kept [tg] W W') (hlo : w.heap.size ≤ tg) (n1 : Br ≠ tg) (n2 : Bl ≠ tg) (n3 : Bt ≠ tg) : StA w W' Br Bl Bt tb tg tc RB st cl (putW ws t) (l ++ [e]) X := by
  refine ⟨h.kept.trans k (by simp) (by simp; omega), hs, h.good.putW hts, fun x hx => ?_, k.at h.br (by simpa using n1), k.at h.bl (by simpa using n2), k.at h.bt (by simpa using n3), h.x1, h.x2, h.x3, h.x4, h.x5, h.lo⟩
  have hw := h.good.len
  rw [mem_putW ws t x (by rw [hw]; omega), h.is x hx, hitB_snoc, he, ht, Bool.or_comm]
  congr 1
  rw [Bool.true_and]
  exact decide_eq_decide.2 (by omega)
def StJ (w : World) (Br Bl Bt tb tg tc RB st cl : Nat) (es : List Edg) (X : Nat → Prop) (pre : List Nat) (W : World) : Prop := ∃ ws, StA w W Br Bl Bt tb tg tc RB st cl ws (pre.flatMap (rowL es)) X
theorem stJ_abide (w : World) (Br Bl Bt tb tg tc RB st cl : Nat) (es : List Edg) : Abide (StJ w Br Bl Bt tb tg tc RB st cl es) :=
  ⟨fun ⟨ws, h⟩ hX => ⟨ws, h.more hX⟩, fun ⟨ws, h⟩ hg hr => ⟨ws, h.turn hg hr⟩⟩
/-- What step leaves. -/
def StepEnds (w : World) (st cl : Nat) (ws : List Nat) (es : List Edg) (e : Ending) (w' : World) : Prop := ∃ b' g' c' vs, e = .returned (.pointer (some ⟨b', 0, none⟩)) ∧ IsSet w' b' g' c' st vs ∧ Good st vs ∧ (∀ x, x < st → mem vs x = hitB ((elemsW st ws 0).flatMap (rowL es)) cl x) ∧ Kept [] w w' ∧ w.heap.size ≤ b' ∧ w.heap.size ≤ g'
theorem take_snoc {l : List Edg} {k : Nat} (h : k < l.length) : l.take (k + 1) = l.take k ++ [l[k]] := by rw [List.take_succ_eq_append_getElem h]
set_option maxHeartbeats 4000000 in
set_option maxRecDepth 20000 in
theorem step_any (RB st b g c cl : Nat) (vs : List Value) (es : List Edg) (ws : List Nat) (w0 w : World) (hR : RowsW w0 w RB st vs es) (hst : st ≤ 65536) (hto : ∀ e ∈ es, 0 ≤ e.to ∧ e.to < (st : Int)) (hcl : cl < 65536)
    (hs : IsSet w b g c st ws) (hG : Good st ws) (hT : Tab w) :
    Calls Tryd.prog 25 #[.slice (some ⟨RB, 0, none⟩) st st, .pointer (some ⟨b, 0, none⟩), .int .u16 (cl : Nat)] w (StepEnds w st cl ws es) := by
  have HS : Hid (∀ W, Kept [] w W → IsSet W b g c st ws) := fun W k => hs.kept k (by simp) (by simp)
  have HT : Hid (∀ W, Kept [] w W → Tab W) := fun W k => hT.kept k (by simp)
  have HGD : Hid (Good st ws) := hG
  have HRW : Hid (∀ s, s < st → ∃ v, w.cell? ⟨RB, s, none⟩ = some v ∧ Edgs w v (rowL es s)) := fun s hs => by
    obtain ⟨v, h1, h2⟩ := hR.cellAt hs
    exact ⟨v, h2, (hR.each s v h1).kept hR.kept⟩
  have HTO : Hid (∀ s, ∀ e ∈ rowL es s, 0 ≤ e.to ∧ e.to < (st : Int)) := fun s e he => hto e (List.mem_filter.1 he).1
  have H0 : Hid (0 < w.heap.size) := hT.1
  obtain ⟨V, hV⟩ : ∃ V, (w.alloc (.cells #[.slice (some ⟨RB, 0, none⟩) st st] 61)).alloc (.cells #[.int .u16 (cl : Nat)] 27) = V := ⟨_, rfl⟩
  have HKV : Hid (Kept [] w V) := by show Kept [] w V; rw [← hV]; exact ((Kept.refl [] w).alloc _).alloc _
  have HBR : Hid (Boxed V w.heap.size 61 (.slice (some ⟨RB, 0, none⟩) st st)) := by show Boxed _ _ _ _; rw [← hV]; exact alUp (al0 _ _) _
  have HBL : Hid (Boxed V (w.heap.size + 1) 27 (.int .u16 (cl : Nat))) := by show Boxed _ _ _ _; rw [← hV]; exact al1 _ _ _
  have HV : Hid (_ = V) := hV
  have HZV : Hid (V.heap.size = w.heap.size + 2) := by show _ = _; rw [← hV]; simp
  have HNEW : Hid (Calls Tryd.prog 39 #[.int .i64 (st : Nat)] V (Makes V st (List.replicate ((st + 63) / 64) 0))) := new_in st V hst
  have HG0 : Hid (Good st (List.replicate ((st + 63) / 64) 0)) := Good.zero hst
  clear hs hT hR hV hto hG
  refine (callsIn_wide (n := 9)).1 ?_
  refine callsIn_of_wp_marks Tryd.func25 rfl trivial ?_ rfl
  simp only [Tryd.ntmps25, List.size_toArray, List.length_cons, List.length_nil, Nat.reduceAdd, Nat.reduceSub, Array.replicate_succ, Array.replicate_zero, List.push_toArray, List.append_toArray, List.nil_append, List.cons_append]
  gi_wp2_with (first
    | (refine ⟨trivial, ?_⟩; gi_at_call 15; rw [HV.out]; refine (callsIn_wide.2 (width_anyA b g c st ws _ (HS.out _ HKV.out))).mono ?_; rintro e V0 ⟨rfl, hv0⟩; rw [hv0]; clear hv0)
    | (refine ⟨trivial, ?_⟩; gi_at_call 39; refine (callsIn_wide.2 HNEW.out).mono ?_; rintro e U ⟨tb, tg, tc, rfl, hst', htb, htg, hkU⟩; have HST : Hid (IsSet U tb tg tc st (List.replicate ((st + 63) / 64) 0)) := hst'; have HKU : Hid (Kept [] V U) := hkU; clear hst' hkU)
    | (refine ⟨trivial, ?_⟩; gi_at_call 41; refine (callsIn_wide.2 (all_any b g c st ws _ (HS.out _ ((keptB HKV.out HKU.out).alloc _)) HGD.out (HT.out _ ((keptB HKV.out HKU.out).alloc _)))).mono ?_; rintro e V1 ⟨Bn, b', g', c', rfl, hA, hBn, hb', hg', hk1⟩))
  obtain ⟨P1, hP1⟩ : ∃ P1, U.alloc (.cells #[.pointer (some ⟨tb, 0, none⟩)] 37) = P1 := ⟨_, rfl⟩
  have kP : Kept [] U P1 := by rw [← hP1]; exact (Kept.refl [] U).alloc _
  have bP : Boxed P1 U.heap.size 37 (.pointer (some ⟨tb, 0, none⟩)) := by rw [← hP1]; exact al0 _ _
  have zP : P1.heap.size = U.heap.size + 1 := by rw [← hP1]; simp
  rw [hP1] at hBn hb' hg' hk1
  have kUV : Kept [] U V1 := keptB kP hk1
  have kVV : Kept [] V V1 := keptB HKU.out kUV
  have hG0 : StJ w w.heap.size (w.heap.size + 1) U.heap.size tb tg tc RB st cl es (fun _ => False) [] V1 :=
    ⟨_, keptB HKV.out kVV, HST.out.kept kUV (by simp) (by simp), HG0.out, fun x _ => by rw [mem_zero]; rfl, kVV.at HBR.out (by simp), kVV.at HBL.out (by simp), hk1.at bP (by simp), id, id, id, id, id, fun _ h => h.elim⟩
  have HLB : Hid (w.heap.size + 2 ≤ U.heap.size ∧ U.heap.size < Bn ∧ U.heap.size < b' ∧ U.heap.size < g' ∧ tb < U.heap.size ∧ tg < U.heap.size ∧ w.heap.size + 2 ≤ tb ∧ w.heap.size + 2 ≤ tg) := by
    have z1 := HZV.out
    have z2 := HKU.out.size
    have z3 := HST.out.ltb
    have z4 := HST.out.ltg
    exact ⟨by omega, by omega, by omega, by omega, by omega, by omega, by omega, by omega⟩
  clear hP1 kP bP zP kUV kVV hBn hb' hg' hk1 htb htg
  refine rangeAt1 rfl (by omega) (gf := 54) (lb := #[.pointer (some ⟨Bn, 0, none⟩)]) rfl trivial (enters_of Tryd.func54 (by kernel_rfl) rfl)
    (all_goes (9 - 1) (by omega) (allB Bn b' g') Bn b' g' c' st ws HGD.out V1 hA.lt hA.allT) (memAt_kept st ws) hA.lt (fun k h => h.elim) (fun _ => rfl)
    (StJ w w.heap.size (w.heap.size + 1) U.heap.size tb tg tc RB st cl es) (fun _ _ _ _ => False) (stJ_abide _ _ _ _ _ _ _ _ _ _ _) (fun _ => ⟨fun h _ => h, fun h _ _ => h⟩) hG0 ?a1 ?assign ?body ?done ?stop
  case assign =>
    intro l x W K hK
    gi_wp2
    exact hK
  case body =>
    rintro l X pre x W _ _ hXb ⟨vs, hG⟩ hat hlt
    obtain ⟨hxs, _⟩ := hat
    have hxi : (x : Int) < (st : Int) := by omega
    have hx0 : (0 : Int) ≤ (x : Int) := by omega
    have cr := hG.br.cell
    obtain ⟨rv, hrw, hrE⟩ := HRW.out x hxs
    obtain ⟨rad, rc, rfl, hrc1, hrc2⟩ := hrE.form
    have hrv := cell_kept0 hG.kept hrw
    have hrf := hrE.few
    have HTX := HTO.out x
    have HG : Hid (StA w W w.heap.size (w.heap.size + 1) U.heap.size tb tg tc RB st cl vs (pre.flatMap (rowL es)) X) := hG
    have HPE : Hid ((pre ++ [x]).flatMap (rowL es) = pre.flatMap (rowL es) ++ rowL es x) := by show _ = _; simp
    obtain ⟨L, hL⟩ : ∃ L, rowL es x = L := ⟨_, rfl⟩
    rw [hL] at hrE hrc1 hrf HTX HPE hrv
    have HRE : Hid (Edgs w (.slice rad L.length rc) L) := hrE
    have HTL : Hid (∀ e ∈ L, 0 ≤ e.to ∧ e.to < (st : Int)) := HTX
    clear hG hG0 hlt hrE HTX hL hrw
    gi_wp2_with fail
    gi_loopw [22] (fun i wr => ∃ k : Nat, i = .int .i64 (k : Nat) ∧ k ≤ L.length ∧ Hid (∃ vs, StA w wr w.heap.size (w.heap.size + 1) U.heap.size tb tg tc RB st cl vs (pre.flatMap (rowL es) ++ L.take k) X) ∧ Hid (Kept [tg] W wr)) (fun i _ => L.length - (intOf i).toNat)
    case atStart => exact ⟨0, rfl, Nat.zero_le _, ⟨vs, by rw [List.take_zero, List.append_nil]; exact HG.out⟩, Kept.refl [tg] W⟩
    case round =>
      obtain ⟨k, rfl, hk, HSK, HKW⟩ := hrel
      obtain ⟨us, hS⟩ := HSK.out
      have HSS : Hid (StA w wr w.heap.size (w.heap.size + 1) U.heap.size tb tg tc RB st cl us (pre.flatMap (rowL es) ++ L.take k) X) := hS
      by_cases hlt : k < L.length
      · have z0 : (k : Int) < (L.length : Int) := by omega
        have z1 : (0 : Int) ≤ (k : Int) := by omega
        rcases HRE.out.lie with ⟨_, e2⟩ | ⟨eb, eo, ec, e1, _, _, hc⟩
        · exfalso; rw [e2] at hlt; simp at hlt
        cases e1
        obtain ⟨q0, q1, q2, q3⟩ := hc k hlt
        have HTE := HTL.out L[k] (List.getElem_mem hlt)
        have hok := HRE.out.wf L[k] (List.getElem_mem hlt)
        have HTK : Hid (L.take (k + 1) = L.take k ++ [L[k]]) := take_snoc hlt
        obtain ⟨e, he⟩ : ∃ e, L[k] = e := ⟨_, rfl⟩
        rw [he] at q0 q1 q2 q3 HTE hok HTK
        obtain ⟨t, ht⟩ : ∃ t : Nat, e.to = (t : Int) := ⟨e.to.toNat, by omega⟩
        have hts : t < st := by omega
        have HT2 : Hid (e.to = (t : Int) ∧ t < st) := ⟨ht, hts⟩
        have r0 := cell_kept0 hS.kept q0
        have r1 := cell_kept0 hS.kept q1
        have r2 := cell_kept0 hS.kept q2
        have r3 := cell_kept0 hS.kept q3
        rw [ht] at r1
        obtain ⟨W1, hW1⟩ : ∃ W1, wr.alloc (.cells #[.int .i64 e.fr, .int .i64 (t : Nat), .int .u16 (e.mu : Nat), .int .u16 (e.no : Nat)] 52) = W1 := ⟨_, rfl⟩
        have k1 : Kept [] wr W1 := by rw [← hW1]; exact (Kept.refl [] wr).alloc _
        have b1 : W1.heap[wr.heap.size]? = some (.cells #[.int .i64 e.fr, .int .i64 (t : Nat), .int .u16 (e.mu : Nat), .int .u16 (e.no : Nat)] 52 (0, 0)) := by rw [← hW1]; exact al0 _ _
        have HW1 : Hid (wr.alloc (.cells #[.int .i64 e.fr, .int .i64 (t : Nat), .int .u16 (e.mu : Nat), .int .u16 (e.no : Nat)] 52) = W1) := hW1
        have HK1 : Hid (Kept [] wr W1) := k1
        have f0 : W1.cell? ⟨wr.heap.size, 0, none⟩ = some (.int .i64 e.fr) := (cell_of b1 0).trans rfl
        have f1 : W1.cell? ⟨wr.heap.size, 1, none⟩ = some (.int .i64 (t : Nat)) := (cell_of b1 1).trans rfl
        have f2 : W1.cell? ⟨wr.heap.size, 2, none⟩ = some (.int .u16 (e.mu : Nat)) := (cell_of b1 2).trans rfl
        have f3 : W1.cell? ⟨wr.heap.size, 3, none⟩ = some (.int .u16 (e.no : Nat)) := (cell_of b1 3).trans rfl
        have cl1 := fun o => cell_kept0 ((Kept.refl [] wr).alloc o) hS.bl.cell
        have HCT : Hid (W1.cell? ⟨U.heap.size, 0, none⟩ = some (.pointer (some ⟨tb, 0, none⟩)) ∧ W1.cell? ⟨wr.heap.size, 1, none⟩ = some (.int .i64 (t : Nat))) := ⟨cell_kept0 k1 hS.bt.cell, f1⟩
        obtain ⟨gb, hgb⟩ : ∃ gb, goesB e cl = gb := ⟨_, rfl⟩
        have HGB : Hid (goesB e cl = gb) := hgb
        have HGO : Hid (Calls Tryd.prog 42 #[.agg #[.int .i64 e.fr, .int .i64 (t : Nat), .int .u16 (e.mu : Nat), .int .u16 (e.no : Nat)], .int .u16 (cl : Nat)] W1 fun e' w' => e' = .returned (.bool gb) ∧ Kept [] W1 w') := by
          have q := goes_any e cl W1 ⟨hok.2.2.1, hok.2.2.2⟩ hcl
          unfold edgV at q
          rw [ht, hgb] at q
          exact q
        clear hS k1 b1 hW1 hgb q0 q1 q2 q3 he hc HTE hok ht hts
        cases gb with
        | false =>
          gi_wp2_with (first
            | (refine ⟨trivial, ?_⟩; gi_at_call 42; rw [HW1.out]; refine (CallsIn.inRound l (callsIn_wide.2 HGO.out)).mono ?_; rintro e W2 ⟨rfl, hk2⟩; have HK2 : Hid (Kept [] W1 W2) := hk2; clear hk2))
          go_roundw
          case rel =>
            refine ⟨k + 1, by go_num, by omega, ⟨us, ?_⟩, ?_⟩
            · rw [HTK.out, ← List.append_assoc]
              exact (HSS.out.moved (keptB HK1.out HK2.out)).skip HGB.out
            · exact HKW.out.trans (keptB HK1.out HK2.out) (fun _ h => h) (by simp)
          case measure => simp [intOf]; omega
        | true =>
          gi_wp2_with (first
            | (refine ⟨trivial, ?_⟩; gi_at_call 42; rw [HW1.out]; refine (CallsIn.inRound l (callsIn_wide.2 HGO.out)).mono ?_; rintro e W2 ⟨rfl, hk2⟩; have HK2 : Hid (Kept [] W1 W2) := hk2; have g1 := cell_kept0 hk2 HCT.out.1; have g2 := cell_kept0 hk2 HCT.out.2; clear hk2)
            | (refine ⟨trivial, ?_⟩; gi_at_call 40; refine (CallsIn.inRound l (callsIn_wide.2 (put_in tb tg tc st us t W2 (HSS.out.set.kept (keptB HK1.out HK2.out) (by simp) (by simp)) HSS.out.good HT2.out.2))).mono ?_; rintro e W3 ⟨rfl, hs3, hk3⟩; have HS3 : Hid (IsSet W3 tb tg tc st (putW us t)) := hs3; have HK3 : Hid (Kept [tg] W2 W3) := hk3; clear hs3 hk3))
          go_roundw
          case rel =>
            have z := HLB.out
            refine ⟨k + 1, by go_num, by omega, ⟨putW us t, ?_⟩, ?_⟩
            · rw [HTK.out, ← List.append_assoc]
              exact (HSS.out.moved (keptB HK1.out HK2.out)).put HGB.out HT2.out.1 HT2.out.2 HS3.out HK3.out (by omega) (by omega) (by omega) (by omega)
            · exact (HKW.out.trans (keptB HK1.out HK2.out) (fun _ h => h) (by simp)).trans HK3.out (fun _ h => h) (fun _ h => .inl h)
          case measure => simp [intOf]; omega
      · obtain rfl : k = L.length := by omega
        have z0 : ¬ ((L.length : Int) < (L.length : Int)) := by omega
        clear hS
        gi_wp2_with fail
        have hq := HLB.out
        have hS := HSS.out
        rw [List.take_length, ← HPE.out] at hS
        refine ⟨KpX.of_keptF HKW.out (fun x hx => ?_), us, hS⟩
        simp at hx
        subst hx
        rintro (h | h | h | h | h)
        · exact HG.out.x5 h
        · omega
        · omega
        · omega
        · omega
  case done =>
    rintro D X xs W1 hD hXD hS ⟨vs, hG⟩ hK
    have ct := hG.bt.cell
    have HG : Hid (StA w W1 w.heap.size (w.heap.size + 1) U.heap.size tb tg tc RB st cl vs (xs.flatMap (rowL es)) X) := hG
    have HKD : Hid (W1.heap[D]? = some (.deferred (some []))) := hK
    have HXS : Hid (xs = elemsW st ws 0) := hS
    clear hG hK hS
    gi_wp2
    have hG' := HG.out.turn (W' := W1.putObj D (.deferred none)) (grownBy_putObj' _ _ _) (fun r e => by cases e; exact hXD)
    have z := HLB.out
    exact ⟨by simp, .inl ⟨_, _, rfl, run_takeDeferred HKD.out, ⟨_, results_tmp rfl _ _ _, tb, tg, tc, vs, rfl, hG'.set, hG'.good, fun x hx => by rw [hG'.is x hx, HXS.out], hG'.kept, by omega, by omega⟩⟩⟩
  case stop =>
    rintro D X c pre W _ _ _ h _
    exact h.elim
end Go.Proofs.YtkkhilgcjaigcaaDoor

/- package buchi: Step of any automaton, set and letter. -/
namespace Go.Proofs.YtkkhilgcjaigcaaDoor
open Go.RowKit Go.Shelf

/-- What a right automaton's edges keep to. -/
theorem right_edges {g : Gen} (h : rightG g = true) : (∀ e ∈ g.es, (0 ≤ e.fr ∧ e.fr < g.st) ∧ 0 ≤ e.to ∧ e.to < g.st) ∧ ∀ i (hi : i < g.es.length) (hj : i + 1 < g.es.length), g.es[i].fr ≤ g.es[i + 1].fr := by
  unfold rightG at h
  simp only [Bool.and_eq_true] at h
  have he := h.1.2
  unfold edgesB at he
  rw [List.all_eq_true] at he
  have each : ∀ i (hi : i < g.es.length), edB g i g.es[i] = true := fun i hi => by
    have q := he i (List.mem_range.2 hi)
    rw [List.getD_eq_getElem?_getD, List.getElem?_eq_getElem hi] at q
    exact q
  refine ⟨fun e hm => ?_, fun i hi hj => ?_⟩
  · obtain ⟨i, hi, rfl⟩ := List.getElem_of_mem hm
    have q := each i hi
    unfold edB edOk stateB at q
    simp only [Bool.and_eq_true, decide_eq_true_eq] at q
    exact ⟨q.1.1.1.1, q.1.1.1.2⟩
  · have q := each (i + 1) hj
    unfold edB at q
    rw [Bool.and_eq_true, Bool.or_eq_true] at q
    have q2 : cmpEd g.es[i] g.es[i + 1] < 0 := by
      rcases q.2 with r | r
      · exact absurd (of_decide_eq_true r) (by omega)
      · have r' := of_decide_eq_true r
        rw [Nat.add_sub_cancel, List.getD_eq_getElem?_getD, List.getElem?_eq_getElem hi] at r'
        exact r'
    unfold cmpEd at q2
    split at q2
    · next hne =>
      unfold cmpI at q2
      split at q2
      · omega
      · split at q2 <;> omega
    · next hne => simp at hne; omega
theorem right_asc {g : Gen} (h : rightG g = true) : ∀ i j (hi : i < g.es.length) (hj : j < g.es.length), i ≤ j → g.es[i].fr ≤ g.es[j].fr := by
  obtain ⟨_, h2⟩ := right_edges h
  intro i j hi hj hij
  obtain ⟨d, rfl⟩ : ∃ d, j = i + d := ⟨j - i, by omega⟩
  induction d with
  | zero => exact Int.le_refl _
  | succ d ih => exact Int.le_trans (ih (by omega) (by omega)) (h2 (i + d) (by omega) hj)
theorem right_st {g : Gen} (h : rightG g = true) : 0 ≤ g.st ∧ g.st ≤ 65536 := by
  unfold rightG at h
  simp only [Bool.and_eq_true, decide_eq_true_eq] at h
  exact ⟨h.1.1.1.1.2, h.1.1.1.2⟩
def stepOk (g : Gen) (fin : List Int) (n cl : Nat) : Bool := rightG (g.with fin) && decide (g.st = (n : Int)) && letterB cl g.ps.length
def StepAll (w : World) (g : Gen) (fin : List Int) (n cl : Nat) (ws : List Nat) (e : Ending) (w' : World) : Prop :=
  (stepOk g fin n cl = true ∧ StepEnds w n cl ws g.es e w') ∨ (stepOk g fin n cl = false ∧ e = .returned (.pointer none) ∧ Kept [] w w')
theorem StepEnds.more {w V : World} {n cl : Nat} {ws : List Nat} {es : List Edg} {e : Ending} {w' : World} (h : StepEnds V n cl ws es e w') (k : Kept [] w V) : StepEnds w n cl ws es e w' := by
  obtain ⟨b', g', c', vs, h1, h2, h3, h4, h5, h6, h7⟩ := h
  have := k.size
  exact ⟨b', g', c', vs, h1, h2, h3, h4, keptB k h5, by omega, by omega⟩
set_option maxHeartbeats 4000000 in
set_option maxRecDepth 20000 in
theorem stepB_any (pv iv ev fv : Value) (g : Gen) (fin : List Int) (b sg c n cl : Nat) (ws : List Nat) (w : World) (h : IsB w pv iv ev fv g fin) (hs : IsSet w b sg c n ws) (hG : Good n ws) (hT : Tab w) (hcl : cl < 65536) :
    Calls Tryd.prog 9 #[.agg #[pv, .int .i64 g.st, iv, ev, fv], .pointer (some ⟨b, 0, none⟩), .int .u16 (cl : Nat)] w (StepAll w g fin n cl ws) := by
  obtain ⟨pad, pc, rfl, _, _⟩ := h.ps.form
  obtain ⟨iad, ic, rfl, _, _⟩ := h.ini.form
  obtain ⟨ead, ec, rfl, _, _⟩ := h.es.form
  obtain ⟨fad, fc, rfl, _, _⟩ := h.fin.form
  obtain ⟨V, hV⟩ : ∃ V, w.alloc (.cells #[.slice pad g.ps.length pc, .int .i64 g.st, .slice iad g.ini.length ic, .slice ead g.es.length ec, .slice fad fin.length fc] 26) = V := ⟨_, rfl⟩
  have kV : Kept [] w V := by rw [← hV]; exact (Kept.refl [] w).alloc _
  have a0 : Five 26 V w.heap.size (.slice pad g.ps.length pc) (.int .i64 g.st) (.slice iad g.ini.length ic) (.slice ead g.es.length ec) (.slice fad fin.length fc) := by rw [← hV]; exact al0 _ _
  have HS : Hid (∀ W, Kept [] V W → W.cell? ⟨w.heap.size, 0, none⟩ = some (.slice pad g.ps.length pc) ∧ W.cell? ⟨w.heap.size, 1, none⟩ = some (.int .i64 g.st) ∧ W.cell? ⟨w.heap.size, 2, none⟩ = some (.slice iad g.ini.length ic) ∧ W.cell? ⟨w.heap.size, 3, none⟩ = some (.slice ead g.es.length ec) ∧ W.cell? ⟨w.heap.size, 4, none⟩ = some (.slice fad fin.length fc)) := fun W k => (a0.keptF k (by simp)).cells
  have HVV : Hid (_ = V) := hV
  have HKV : Hid (Kept [] w V) := kV
  have hcB := fun W k => check_anyB _ _ _ _ g fin W ((h.kept kV).kept (W' := W) k)
  obtain ⟨en, hen⟩ : ∃ en, errG (g.with fin) = en := ⟨_, rfl⟩
  rw [hen] at hcB
  have HCK : Hid (∀ W, Kept [] V W → Calls Tryd.prog 19 #[.agg #[.slice pad g.ps.length pc, .int .i64 g.st, .slice iad g.ini.length ic, .slice ead g.es.length ec, .slice fad fin.length fc]] W fun e w' => e = .returned (.int .i64 (en : Nat)) ∧ Kept [] W w') := hcB
  have HWD : Hid (∀ W, Kept [] V W → Calls Tryd.prog 15 #[.pointer (some ⟨b, 0, none⟩)] W fun e w' => e = .returned (.int .i64 n) ∧ Kept [] W w') := fun W k => (width_anyA b sg c n ws W ((hs.kept kV (by simp) (by simp)).kept k (by simp) (by simp))).mono fun e w' ⟨h1, h2⟩ => ⟨h1, by rw [h2]; exact Kept.refl [] W⟩
  obtain ⟨lb, hlb⟩ : ∃ lb, letterB cl g.ps.length = lb := ⟨_, rfl⟩
  have HLT : Hid (∀ W, Calls Tryd.prog 24 #[.int .u16 (cl : Nat), .slice pad g.ps.length pc] W fun e w' => e = .returned (.bool lb) ∧ Kept [] W w') := fun W => by
    rw [← hlb]
    exact (isLetter_any cl pad _ pc W).mono fun e w' ⟨h1, h2⟩ => ⟨h1, by rw [h2]; exact Kept.refl [] W⟩
  have hst := h.st
  by_cases hr : rightG (g.with fin) = true
  rotate_left
  · have hr' : rightG (g.with fin) = false := by simpa using hr
    obtain rfl : 100 = en := by rw [← hen]; unfold errG; rw [hr']; rfl
    have HOK : Hid (stepOk g fin n cl = false) := by show stepOk _ _ _ _ = _; unfold stepOk; rw [hr']; rfl
    have HCK2 : Hid (∀ W, Kept [] V W → Calls Tryd.prog 19 #[.agg #[.slice pad g.ps.length pc, .int .i64 g.st, .slice iad g.ini.length ic, .slice ead g.es.length ec, .slice fad fin.length fc]] W fun e w' => e = .returned (.int .i64 100) ∧ Kept [] W w') := HCK
    clear h hs hG hT a0 kV hV hcB hen hr hr' hlb
    go_enter Tryd.func9, Tryd.ntmps9
    go_upto_region 1 with fail
    rw [HVV.out]
    clear HVV
    refine wp_region_quiet (C := fun w' => Kept [] V w') (by kernel_rfl) (by kernel_rfl) ((Kept.refl [] V).drew) ?_
    simp only []
    go_big_quiet_want
    refine ⟨.agg #[.slice pad g.ps.length pc, .int .i64 g.st, .slice iad g.ini.length ic, .slice ead g.es.length ec, .slice fad fin.length fc], fun w' hw => ?_, ?_⟩
    · obtain ⟨f0, f1, f2, f3, f4⟩ := HS.out w' hw
      go_simp
    go_big_quiet_on
    simp only [Act.put, Array.setIfInBounds, List.size_toArray, List.length_cons, List.length_nil, Nat.reduceAdd, Nat.reduceLT, ↓reduceDIte, List.set_toArray, List.set_cons_succ, List.set_cons_zero]
    go_big_quiet_want
    refine ⟨.int .i64 100, fun w' hw => ?_, ?_⟩
    · go_simp
      exact (HCK2.out w' hw).mono fun e w'' ⟨h1, h2⟩ => ⟨h1, hw.trans h2 (by simp) (by simp)⟩
    go_big_quiet_on
    simp only [Act.put, Array.setIfInBounds, List.size_toArray, List.length_cons, List.length_nil, Nat.reduceAdd, Nat.reduceLT, ↓reduceDIte, List.set_toArray, List.set_cons_succ, List.set_cons_zero]
    go_big_quiet_want
    refine ⟨.bool true, fun w' hw => (by go_simp), ?_⟩
    go_big_quiet_on
    simp only [Act.put, Array.setIfInBounds, List.size_toArray, List.length_cons, List.length_nil, Nat.reduceAdd, Nat.reduceLT, ↓reduceDIte, List.set_toArray, List.set_cons_succ, List.set_cons_zero]
    go_big_quiet_want
    refine ⟨.bool true, fun w' hw => (by go_simp), ?_⟩
    go_big_quiet_on
    simp only [Act.put, Array.setIfInBounds, List.size_toArray, List.length_cons, List.length_nil, Nat.reduceAdd, Nat.reduceLT, ↓reduceDIte, List.set_toArray, List.set_cons_succ, List.set_cons_zero]
    go_big_quiet_skip
    go_big_quiet_skip
    go_big_quiet_want
    refine ⟨.bool true, fun w' hw => (by go_simp), ?_⟩
    go_big_quiet_on
    simp only [Act.put, Array.setIfInBounds, List.size_toArray, List.length_cons, List.length_nil, Nat.reduceAdd, Nat.reduceLT, ↓reduceDIte, List.set_toArray, List.set_cons_succ, List.set_cons_zero]
    go_big_quiet_want
    refine ⟨.bool true, fun w' hw => (by go_simp), ?_⟩
    go_big_quiet_on
    simp only [Act.put, Array.setIfInBounds, List.size_toArray, List.length_cons, List.length_nil, Nat.reduceAdd, Nat.reduceLT, ↓reduceDIte, List.set_toArray, List.set_cons_succ, List.set_cons_zero]
    go_big_quiet_skip
    go_big_quiet_skip
    go_big_quiet_skip
    go_big_quiet_skip
    go_big_quiet_skip
    go_big_quiet_want
    refine ⟨.bool true, fun w' hw => (by go_simp), ?_⟩
    go_big_quiet_on
    simp only [Act.put, Array.setIfInBounds, List.size_toArray, List.length_cons, List.length_nil, Nat.reduceAdd, Nat.reduceLT, ↓reduceDIte, List.set_toArray, List.set_cons_succ, List.set_cons_zero]
    go_big_quiet_want
    refine ⟨.bool true, fun w' hw => (by go_simp), ?_⟩
    go_big_quiet_on
    simp only [Act.put, Array.setIfInBounds, List.size_toArray, List.length_cons, List.length_nil, Nat.reduceAdd, Nat.reduceLT, ↓reduceDIte, List.set_toArray, List.set_cons_succ, List.set_cons_zero]
    go_big_quiet_skip
    go_big_quiet_skip
    go_big_quiet_skip
    go_big_quiet_skip
    go_big_quiet_skip
    go_big_quiet_want
    refine ⟨.bool true, fun w' hw => (by go_simp), ?_⟩
    go_big_quiet_on
    simp only [Act.put, Array.setIfInBounds, List.size_toArray, List.length_cons, List.length_nil, Nat.reduceAdd, Nat.reduceLT, ↓reduceDIte, List.set_toArray, List.set_cons_succ, List.set_cons_zero]
    refine wpQuiet_nil ?_
    intro W1 hk1
    go_wp2
    go_ret
    exact .inr ⟨HOK.out, rfl, keptB HKV.out hk1⟩
  obtain rfl : 0 = en := by rw [← hen]; unfold errG; rw [if_pos hr]
  have HCK2 : Hid (∀ W, Kept [] V W → Calls Tryd.prog 19 #[.agg #[.slice pad g.ps.length pc, .int .i64 g.st, .slice iad g.ini.length ic, .slice ead g.es.length ec, .slice fad fin.length fc]] W fun e w' => e = .returned (.int .i64 0) ∧ Kept [] W w') := HCK
  obtain ⟨r1, r2⟩ := right_st hr
  have r1' : 0 ≤ g.st := r1
  by_cases hn : g.st = (n : Int)
  rotate_left
  · have HOK : Hid (stepOk g fin n cl = false) := by show stepOk _ _ _ _ = _; unfold stepOk; rw [decide_eq_false hn, Bool.and_false]; rfl
    have hneq : ((n : Int) != g.st) = true := by simp; omega
    clear h hs hG hT a0 kV hV hcB hen hr hlb hn r1 r2 r1'
    go_enter Tryd.func9, Tryd.ntmps9
    go_upto_region 1 with fail
    rw [HVV.out]
    clear HVV
    refine wp_region_quiet (C := fun w' => Kept [] V w') (by kernel_rfl) (by kernel_rfl) ((Kept.refl [] V).drew) ?_
    simp only []
    go_big_quiet_want
    refine ⟨.agg #[.slice pad g.ps.length pc, .int .i64 g.st, .slice iad g.ini.length ic, .slice ead g.es.length ec, .slice fad fin.length fc], fun w' hw => ?_, ?_⟩
    · obtain ⟨f0, f1, f2, f3, f4⟩ := HS.out w' hw
      go_simp
    go_big_quiet_on
    simp only [Act.put, Array.setIfInBounds, List.size_toArray, List.length_cons, List.length_nil, Nat.reduceAdd, Nat.reduceLT, ↓reduceDIte, List.set_toArray, List.set_cons_succ, List.set_cons_zero]
    go_big_quiet_want
    refine ⟨.int .i64 0, fun w' hw => ?_, ?_⟩
    · go_simp
      exact (HCK2.out w' hw).mono fun e w'' ⟨h1, h2⟩ => ⟨h1, hw.trans h2 (by simp) (by simp)⟩
    go_big_quiet_on
    simp only [Act.put, Array.setIfInBounds, List.size_toArray, List.length_cons, List.length_nil, Nat.reduceAdd, Nat.reduceLT, ↓reduceDIte, List.set_toArray, List.set_cons_succ, List.set_cons_zero]
    go_big_quiet_want
    refine ⟨.bool false, fun w' hw => (by go_simp), ?_⟩
    go_big_quiet_on
    simp only [Act.put, Array.setIfInBounds, List.size_toArray, List.length_cons, List.length_nil, Nat.reduceAdd, Nat.reduceLT, ↓reduceDIte, List.set_toArray, List.set_cons_succ, List.set_cons_zero]
    go_big_quiet_want
    refine ⟨.bool false, fun w' hw => (by go_simp), ?_⟩
    go_big_quiet_on
    simp only [Act.put, Array.setIfInBounds, List.size_toArray, List.length_cons, List.length_nil, Nat.reduceAdd, Nat.reduceLT, ↓reduceDIte, List.set_toArray, List.set_cons_succ, List.set_cons_zero]
    go_big_quiet_want
    refine ⟨.pointer (some ⟨b, 0, none⟩), fun w' hw => (by go_simp), ?_⟩
    go_big_quiet_on
    simp only [Act.put, Array.setIfInBounds, List.size_toArray, List.length_cons, List.length_nil, Nat.reduceAdd, Nat.reduceLT, ↓reduceDIte, List.set_toArray, List.set_cons_succ, List.set_cons_zero]
    go_big_quiet_want
    refine ⟨.bool false, fun w' hw => (by go_simp), ?_⟩
    go_big_quiet_on
    simp only [Act.put, Array.setIfInBounds, List.size_toArray, List.length_cons, List.length_nil, Nat.reduceAdd, Nat.reduceLT, ↓reduceDIte, List.set_toArray, List.set_cons_succ, List.set_cons_zero]
    go_big_quiet_want
    refine ⟨.bool false, fun w' hw => (by go_simp), ?_⟩
    go_big_quiet_on
    simp only [Act.put, Array.setIfInBounds, List.size_toArray, List.length_cons, List.length_nil, Nat.reduceAdd, Nat.reduceLT, ↓reduceDIte, List.set_toArray, List.set_cons_succ, List.set_cons_zero]
    go_big_quiet_want
    refine ⟨.bool false, fun w' hw => (by go_simp), ?_⟩
    go_big_quiet_on
    simp only [Act.put, Array.setIfInBounds, List.size_toArray, List.length_cons, List.length_nil, Nat.reduceAdd, Nat.reduceLT, ↓reduceDIte, List.set_toArray, List.set_cons_succ, List.set_cons_zero]
    go_big_quiet_want
    refine ⟨.pointer (some ⟨b, 0, none⟩), fun w' hw => (by go_simp), ?_⟩
    go_big_quiet_on
    simp only [Act.put, Array.setIfInBounds, List.size_toArray, List.length_cons, List.length_nil, Nat.reduceAdd, Nat.reduceLT, ↓reduceDIte, List.set_toArray, List.set_cons_succ, List.set_cons_zero]
    go_big_quiet_want
    refine ⟨.int .i64 (n : Nat), fun w' hw => ?_, ?_⟩
    · go_simp
      exact (HWD.out w' hw).mono fun e w'' ⟨h1, h2⟩ => ⟨h1, hw.trans h2 (by simp) (by simp)⟩
    go_big_quiet_on
    simp only [Act.put, Array.setIfInBounds, List.size_toArray, List.length_cons, List.length_nil, Nat.reduceAdd, Nat.reduceLT, ↓reduceDIte, List.set_toArray, List.set_cons_succ, List.set_cons_zero]
    go_big_quiet_want
    refine ⟨.pointer (some ⟨w.heap.size, 1, none⟩), fun w' hw => (by go_simp), ?_⟩
    go_big_quiet_on
    simp only [Act.put, Array.setIfInBounds, List.size_toArray, List.length_cons, List.length_nil, Nat.reduceAdd, Nat.reduceLT, ↓reduceDIte, List.set_toArray, List.set_cons_succ, List.set_cons_zero]
    go_big_quiet_want
    refine ⟨.int .i64 g.st, fun w' hw => ?_, ?_⟩
    · obtain ⟨f0, f1, f2, f3, f4⟩ := HS.out w' hw
      go_simp
    go_big_quiet_on
    simp only [Act.put, Array.setIfInBounds, List.size_toArray, List.length_cons, List.length_nil, Nat.reduceAdd, Nat.reduceLT, ↓reduceDIte, List.set_toArray, List.set_cons_succ, List.set_cons_zero]
    go_big_quiet_want
    refine ⟨.bool true, fun w' hw => (by go_simp), ?_⟩
    go_big_quiet_on
    simp only [Act.put, Array.setIfInBounds, List.size_toArray, List.length_cons, List.length_nil, Nat.reduceAdd, Nat.reduceLT, ↓reduceDIte, List.set_toArray, List.set_cons_succ, List.set_cons_zero]
    go_big_quiet_want
    refine ⟨.bool true, fun w' hw => (by go_simp), ?_⟩
    go_big_quiet_on
    simp only [Act.put, Array.setIfInBounds, List.size_toArray, List.length_cons, List.length_nil, Nat.reduceAdd, Nat.reduceLT, ↓reduceDIte, List.set_toArray, List.set_cons_succ, List.set_cons_zero]
    go_big_quiet_want
    refine ⟨.bool true, fun w' hw => (by go_simp), ?_⟩
    go_big_quiet_on
    simp only [Act.put, Array.setIfInBounds, List.size_toArray, List.length_cons, List.length_nil, Nat.reduceAdd, Nat.reduceLT, ↓reduceDIte, List.set_toArray, List.set_cons_succ, List.set_cons_zero]
    go_big_quiet_skip
    go_big_quiet_skip
    go_big_quiet_skip
    go_big_quiet_skip
    go_big_quiet_skip
    go_big_quiet_want
    refine ⟨.bool true, fun w' hw => (by go_simp), ?_⟩
    go_big_quiet_on
    simp only [Act.put, Array.setIfInBounds, List.size_toArray, List.length_cons, List.length_nil, Nat.reduceAdd, Nat.reduceLT, ↓reduceDIte, List.set_toArray, List.set_cons_succ, List.set_cons_zero]
    refine wpQuiet_nil ?_
    intro W1 hk1
    go_wp2
    go_ret
    exact .inr ⟨HOK.out, rfl, keptB HKV.out hk1⟩
  have hneq : ((n : Int) != g.st) = false := by simp [hn]
  cases lb with
  | false =>
    have HOK : Hid (stepOk g fin n cl = false) := by show stepOk _ _ _ _ = _; unfold stepOk; rw [hlb, Bool.and_false]
    clear h hs hG hT a0 kV hV hcB hen hr hlb hn r1 r2 r1'
    go_enter Tryd.func9, Tryd.ntmps9
    go_upto_region 1 with fail
    rw [HVV.out]
    clear HVV
    refine wp_region_quiet (C := fun w' => Kept [] V w') (by kernel_rfl) (by kernel_rfl) ((Kept.refl [] V).drew) ?_
    simp only []
    go_big_quiet_want
    refine ⟨.agg #[.slice pad g.ps.length pc, .int .i64 g.st, .slice iad g.ini.length ic, .slice ead g.es.length ec, .slice fad fin.length fc], fun w' hw => ?_, ?_⟩
    · obtain ⟨f0, f1, f2, f3, f4⟩ := HS.out w' hw
      go_simp
    go_big_quiet_on
    simp only [Act.put, Array.setIfInBounds, List.size_toArray, List.length_cons, List.length_nil, Nat.reduceAdd, Nat.reduceLT, ↓reduceDIte, List.set_toArray, List.set_cons_succ, List.set_cons_zero]
    go_big_quiet_want
    refine ⟨.int .i64 0, fun w' hw => ?_, ?_⟩
    · go_simp
      exact (HCK2.out w' hw).mono fun e w'' ⟨h1, h2⟩ => ⟨h1, hw.trans h2 (by simp) (by simp)⟩
    go_big_quiet_on
    simp only [Act.put, Array.setIfInBounds, List.size_toArray, List.length_cons, List.length_nil, Nat.reduceAdd, Nat.reduceLT, ↓reduceDIte, List.set_toArray, List.set_cons_succ, List.set_cons_zero]
    go_big_quiet_want
    refine ⟨.bool false, fun w' hw => (by go_simp), ?_⟩
    go_big_quiet_on
    simp only [Act.put, Array.setIfInBounds, List.size_toArray, List.length_cons, List.length_nil, Nat.reduceAdd, Nat.reduceLT, ↓reduceDIte, List.set_toArray, List.set_cons_succ, List.set_cons_zero]
    go_big_quiet_want
    refine ⟨.bool false, fun w' hw => (by go_simp), ?_⟩
    go_big_quiet_on
    simp only [Act.put, Array.setIfInBounds, List.size_toArray, List.length_cons, List.length_nil, Nat.reduceAdd, Nat.reduceLT, ↓reduceDIte, List.set_toArray, List.set_cons_succ, List.set_cons_zero]
    go_big_quiet_want
    refine ⟨.pointer (some ⟨b, 0, none⟩), fun w' hw => (by go_simp), ?_⟩
    go_big_quiet_on
    simp only [Act.put, Array.setIfInBounds, List.size_toArray, List.length_cons, List.length_nil, Nat.reduceAdd, Nat.reduceLT, ↓reduceDIte, List.set_toArray, List.set_cons_succ, List.set_cons_zero]
    go_big_quiet_want
    refine ⟨.bool false, fun w' hw => (by go_simp), ?_⟩
    go_big_quiet_on
    simp only [Act.put, Array.setIfInBounds, List.size_toArray, List.length_cons, List.length_nil, Nat.reduceAdd, Nat.reduceLT, ↓reduceDIte, List.set_toArray, List.set_cons_succ, List.set_cons_zero]
    go_big_quiet_want
    refine ⟨.bool false, fun w' hw => (by go_simp), ?_⟩
    go_big_quiet_on
    simp only [Act.put, Array.setIfInBounds, List.size_toArray, List.length_cons, List.length_nil, Nat.reduceAdd, Nat.reduceLT, ↓reduceDIte, List.set_toArray, List.set_cons_succ, List.set_cons_zero]
    go_big_quiet_want
    refine ⟨.bool false, fun w' hw => (by go_simp), ?_⟩
    go_big_quiet_on
    simp only [Act.put, Array.setIfInBounds, List.size_toArray, List.length_cons, List.length_nil, Nat.reduceAdd, Nat.reduceLT, ↓reduceDIte, List.set_toArray, List.set_cons_succ, List.set_cons_zero]
    go_big_quiet_want
    refine ⟨.pointer (some ⟨b, 0, none⟩), fun w' hw => (by go_simp), ?_⟩
    go_big_quiet_on
    simp only [Act.put, Array.setIfInBounds, List.size_toArray, List.length_cons, List.length_nil, Nat.reduceAdd, Nat.reduceLT, ↓reduceDIte, List.set_toArray, List.set_cons_succ, List.set_cons_zero]
    go_big_quiet_want
    refine ⟨.int .i64 (n : Nat), fun w' hw => ?_, ?_⟩
    · go_simp
      exact (HWD.out w' hw).mono fun e w'' ⟨h1, h2⟩ => ⟨h1, hw.trans h2 (by simp) (by simp)⟩
    go_big_quiet_on
    simp only [Act.put, Array.setIfInBounds, List.size_toArray, List.length_cons, List.length_nil, Nat.reduceAdd, Nat.reduceLT, ↓reduceDIte, List.set_toArray, List.set_cons_succ, List.set_cons_zero]
    go_big_quiet_want
    refine ⟨.pointer (some ⟨w.heap.size, 1, none⟩), fun w' hw => (by go_simp), ?_⟩
    go_big_quiet_on
    simp only [Act.put, Array.setIfInBounds, List.size_toArray, List.length_cons, List.length_nil, Nat.reduceAdd, Nat.reduceLT, ↓reduceDIte, List.set_toArray, List.set_cons_succ, List.set_cons_zero]
    go_big_quiet_want
    refine ⟨.int .i64 g.st, fun w' hw => ?_, ?_⟩
    · obtain ⟨f0, f1, f2, f3, f4⟩ := HS.out w' hw
      go_simp
    go_big_quiet_on
    simp only [Act.put, Array.setIfInBounds, List.size_toArray, List.length_cons, List.length_nil, Nat.reduceAdd, Nat.reduceLT, ↓reduceDIte, List.set_toArray, List.set_cons_succ, List.set_cons_zero]
    go_big_quiet_want
    refine ⟨.bool false, fun w' hw => (by go_simp), ?_⟩
    go_big_quiet_on
    simp only [Act.put, Array.setIfInBounds, List.size_toArray, List.length_cons, List.length_nil, Nat.reduceAdd, Nat.reduceLT, ↓reduceDIte, List.set_toArray, List.set_cons_succ, List.set_cons_zero]
    go_big_quiet_want
    refine ⟨.bool false, fun w' hw => (by go_simp), ?_⟩
    go_big_quiet_on
    simp only [Act.put, Array.setIfInBounds, List.size_toArray, List.length_cons, List.length_nil, Nat.reduceAdd, Nat.reduceLT, ↓reduceDIte, List.set_toArray, List.set_cons_succ, List.set_cons_zero]
    go_big_quiet_want
    refine ⟨.bool false, fun w' hw => (by go_simp), ?_⟩
    go_big_quiet_on
    simp only [Act.put, Array.setIfInBounds, List.size_toArray, List.length_cons, List.length_nil, Nat.reduceAdd, Nat.reduceLT, ↓reduceDIte, List.set_toArray, List.set_cons_succ, List.set_cons_zero]
    go_big_quiet_want
    refine ⟨.int .u16 (cl : Nat), fun w' hw => (by go_simp), ?_⟩
    go_big_quiet_on
    simp only [Act.put, Array.setIfInBounds, List.size_toArray, List.length_cons, List.length_nil, Nat.reduceAdd, Nat.reduceLT, ↓reduceDIte, List.set_toArray, List.set_cons_succ, List.set_cons_zero]
    go_big_quiet_want
    refine ⟨.pointer (some ⟨w.heap.size, 0, none⟩), fun w' hw => (by go_simp), ?_⟩
    go_big_quiet_on
    simp only [Act.put, Array.setIfInBounds, List.size_toArray, List.length_cons, List.length_nil, Nat.reduceAdd, Nat.reduceLT, ↓reduceDIte, List.set_toArray, List.set_cons_succ, List.set_cons_zero]
    go_big_quiet_want
    refine ⟨.slice pad g.ps.length pc, fun w' hw => ?_, ?_⟩
    · obtain ⟨f0, f1, f2, f3, f4⟩ := HS.out w' hw
      go_simp
    go_big_quiet_on
    simp only [Act.put, Array.setIfInBounds, List.size_toArray, List.length_cons, List.length_nil, Nat.reduceAdd, Nat.reduceLT, ↓reduceDIte, List.set_toArray, List.set_cons_succ, List.set_cons_zero]
    go_big_quiet_want
    refine ⟨.bool false, fun w' hw => ?_, ?_⟩
    · go_simp
      exact (HLT.out w').mono fun e w'' ⟨h1, h2⟩ => ⟨h1, hw.trans h2 (by simp) (by simp)⟩
    go_big_quiet_on
    simp only [Act.put, Array.setIfInBounds, List.size_toArray, List.length_cons, List.length_nil, Nat.reduceAdd, Nat.reduceLT, ↓reduceDIte, List.set_toArray, List.set_cons_succ, List.set_cons_zero]
    go_big_quiet_want
    refine ⟨.bool true, fun w' hw => (by go_simp), ?_⟩
    go_big_quiet_on
    simp only [Act.put, Array.setIfInBounds, List.size_toArray, List.length_cons, List.length_nil, Nat.reduceAdd, Nat.reduceLT, ↓reduceDIte, List.set_toArray, List.set_cons_succ, List.set_cons_zero]
    go_big_quiet_want
    refine ⟨.bool true, fun w' hw => (by go_simp), ?_⟩
    go_big_quiet_on
    simp only [Act.put, Array.setIfInBounds, List.size_toArray, List.length_cons, List.length_nil, Nat.reduceAdd, Nat.reduceLT, ↓reduceDIte, List.set_toArray, List.set_cons_succ, List.set_cons_zero]
    refine wpQuiet_nil ?_
    intro W1 hk1
    go_wp2
    go_ret
    exact .inr ⟨HOK.out, rfl, keptB HKV.out hk1⟩
  | true =>
    have HOK : Hid (stepOk g fin n cl = true) := by show stepOk _ _ _ _ = _; unfold stepOk; rw [hlb, hr, decide_eq_true hn]; rfl
    have hed := right_edges hr
    have hasc := right_asc hr
    have hn' : n ≤ 65536 := by have : (g.with fin).st = g.st := rfl; omega
    have HRO : Hid (∀ W, Kept [] V W → Calls Tryd.prog 26 #[.int .i64 g.st, .slice ead g.es.length ec] W (RwEnds W n g.es)) := fun W k => by
      rw [hn]
      exact rowsOf_any _ g.es n W ((h.es.kept kV).kept k) (by omega) (fun e he => by have := (hed.1 e he).1; have e2 : (g.with fin).st = g.st := rfl; rw [e2, hn] at this; exact this) hasc
    have HST : Hid (∀ W0 W B vs, Kept [] V W → RowsW W0 W B n vs g.es → Calls Tryd.prog 25 #[.slice (some ⟨B, 0, none⟩) n n, .pointer (some ⟨b, 0, none⟩), .int .u16 (cl : Nat)] W (StepEnds W n cl ws g.es)) := fun W0 W B vs k hR =>
      step_any B n b sg c cl vs g.es ws W0 W hR hn' (fun e he => by have := (hed.1 e he).2; have e2 : (g.with fin).st = g.st := rfl; rw [e2, hn] at this; exact this) hcl ((hs.kept kV (by simp) (by simp)).kept k (by simp) (by simp)) hG ((hT.kept kV (by simp)).kept k (by simp))
    clear h hs hG hT a0 kV hV hcB hen hr hlb hn r1 r2 r1' hed hasc hn'
    go_enter Tryd.func9, Tryd.ntmps9
    go_upto_region 1 with fail
    rw [HVV.out]
    clear HVV
    refine wp_region_quiet (C := fun w' => Kept [] V w') (by kernel_rfl) (by kernel_rfl) ((Kept.refl [] V).drew) ?_
    simp only []
    go_big_quiet_want
    refine ⟨.agg #[.slice pad g.ps.length pc, .int .i64 g.st, .slice iad g.ini.length ic, .slice ead g.es.length ec, .slice fad fin.length fc], fun w' hw => ?_, ?_⟩
    · obtain ⟨f0, f1, f2, f3, f4⟩ := HS.out w' hw
      go_simp
    go_big_quiet_on
    simp only [Act.put, Array.setIfInBounds, List.size_toArray, List.length_cons, List.length_nil, Nat.reduceAdd, Nat.reduceLT, ↓reduceDIte, List.set_toArray, List.set_cons_succ, List.set_cons_zero]
    go_big_quiet_want
    refine ⟨.int .i64 0, fun w' hw => ?_, ?_⟩
    · go_simp
      exact (HCK2.out w' hw).mono fun e w'' ⟨h1, h2⟩ => ⟨h1, hw.trans h2 (by simp) (by simp)⟩
    go_big_quiet_on
    simp only [Act.put, Array.setIfInBounds, List.size_toArray, List.length_cons, List.length_nil, Nat.reduceAdd, Nat.reduceLT, ↓reduceDIte, List.set_toArray, List.set_cons_succ, List.set_cons_zero]
    go_big_quiet_want
    refine ⟨.bool false, fun w' hw => (by go_simp), ?_⟩
    go_big_quiet_on
    simp only [Act.put, Array.setIfInBounds, List.size_toArray, List.length_cons, List.length_nil, Nat.reduceAdd, Nat.reduceLT, ↓reduceDIte, List.set_toArray, List.set_cons_succ, List.set_cons_zero]
    go_big_quiet_want
    refine ⟨.bool false, fun w' hw => (by go_simp), ?_⟩
    go_big_quiet_on
    simp only [Act.put, Array.setIfInBounds, List.size_toArray, List.length_cons, List.length_nil, Nat.reduceAdd, Nat.reduceLT, ↓reduceDIte, List.set_toArray, List.set_cons_succ, List.set_cons_zero]
    go_big_quiet_want
    refine ⟨.pointer (some ⟨b, 0, none⟩), fun w' hw => (by go_simp), ?_⟩
    go_big_quiet_on
    simp only [Act.put, Array.setIfInBounds, List.size_toArray, List.length_cons, List.length_nil, Nat.reduceAdd, Nat.reduceLT, ↓reduceDIte, List.set_toArray, List.set_cons_succ, List.set_cons_zero]
    go_big_quiet_want
    refine ⟨.bool false, fun w' hw => (by go_simp), ?_⟩
    go_big_quiet_on
    simp only [Act.put, Array.setIfInBounds, List.size_toArray, List.length_cons, List.length_nil, Nat.reduceAdd, Nat.reduceLT, ↓reduceDIte, List.set_toArray, List.set_cons_succ, List.set_cons_zero]
    go_big_quiet_want
    refine ⟨.bool false, fun w' hw => (by go_simp), ?_⟩
    go_big_quiet_on
    simp only [Act.put, Array.setIfInBounds, List.size_toArray, List.length_cons, List.length_nil, Nat.reduceAdd, Nat.reduceLT, ↓reduceDIte, List.set_toArray, List.set_cons_succ, List.set_cons_zero]
    go_big_quiet_want
    refine ⟨.bool false, fun w' hw => (by go_simp), ?_⟩
    go_big_quiet_on
    simp only [Act.put, Array.setIfInBounds, List.size_toArray, List.length_cons, List.length_nil, Nat.reduceAdd, Nat.reduceLT, ↓reduceDIte, List.set_toArray, List.set_cons_succ, List.set_cons_zero]
    go_big_quiet_want
    refine ⟨.pointer (some ⟨b, 0, none⟩), fun w' hw => (by go_simp), ?_⟩
    go_big_quiet_on
    simp only [Act.put, Array.setIfInBounds, List.size_toArray, List.length_cons, List.length_nil, Nat.reduceAdd, Nat.reduceLT, ↓reduceDIte, List.set_toArray, List.set_cons_succ, List.set_cons_zero]
    go_big_quiet_want
    refine ⟨.int .i64 (n : Nat), fun w' hw => ?_, ?_⟩
    · go_simp
      exact (HWD.out w' hw).mono fun e w'' ⟨h1, h2⟩ => ⟨h1, hw.trans h2 (by simp) (by simp)⟩
    go_big_quiet_on
    simp only [Act.put, Array.setIfInBounds, List.size_toArray, List.length_cons, List.length_nil, Nat.reduceAdd, Nat.reduceLT, ↓reduceDIte, List.set_toArray, List.set_cons_succ, List.set_cons_zero]
    go_big_quiet_want
    refine ⟨.pointer (some ⟨w.heap.size, 1, none⟩), fun w' hw => (by go_simp), ?_⟩
    go_big_quiet_on
    simp only [Act.put, Array.setIfInBounds, List.size_toArray, List.length_cons, List.length_nil, Nat.reduceAdd, Nat.reduceLT, ↓reduceDIte, List.set_toArray, List.set_cons_succ, List.set_cons_zero]
    go_big_quiet_want
    refine ⟨.int .i64 g.st, fun w' hw => ?_, ?_⟩
    · obtain ⟨f0, f1, f2, f3, f4⟩ := HS.out w' hw
      go_simp
    go_big_quiet_on
    simp only [Act.put, Array.setIfInBounds, List.size_toArray, List.length_cons, List.length_nil, Nat.reduceAdd, Nat.reduceLT, ↓reduceDIte, List.set_toArray, List.set_cons_succ, List.set_cons_zero]
    go_big_quiet_want
    refine ⟨.bool false, fun w' hw => (by go_simp), ?_⟩
    go_big_quiet_on
    simp only [Act.put, Array.setIfInBounds, List.size_toArray, List.length_cons, List.length_nil, Nat.reduceAdd, Nat.reduceLT, ↓reduceDIte, List.set_toArray, List.set_cons_succ, List.set_cons_zero]
    go_big_quiet_want
    refine ⟨.bool false, fun w' hw => (by go_simp), ?_⟩
    go_big_quiet_on
    simp only [Act.put, Array.setIfInBounds, List.size_toArray, List.length_cons, List.length_nil, Nat.reduceAdd, Nat.reduceLT, ↓reduceDIte, List.set_toArray, List.set_cons_succ, List.set_cons_zero]
    go_big_quiet_want
    refine ⟨.bool false, fun w' hw => (by go_simp), ?_⟩
    go_big_quiet_on
    simp only [Act.put, Array.setIfInBounds, List.size_toArray, List.length_cons, List.length_nil, Nat.reduceAdd, Nat.reduceLT, ↓reduceDIte, List.set_toArray, List.set_cons_succ, List.set_cons_zero]
    go_big_quiet_want
    refine ⟨.int .u16 (cl : Nat), fun w' hw => (by go_simp), ?_⟩
    go_big_quiet_on
    simp only [Act.put, Array.setIfInBounds, List.size_toArray, List.length_cons, List.length_nil, Nat.reduceAdd, Nat.reduceLT, ↓reduceDIte, List.set_toArray, List.set_cons_succ, List.set_cons_zero]
    go_big_quiet_want
    refine ⟨.pointer (some ⟨w.heap.size, 0, none⟩), fun w' hw => (by go_simp), ?_⟩
    go_big_quiet_on
    simp only [Act.put, Array.setIfInBounds, List.size_toArray, List.length_cons, List.length_nil, Nat.reduceAdd, Nat.reduceLT, ↓reduceDIte, List.set_toArray, List.set_cons_succ, List.set_cons_zero]
    go_big_quiet_want
    refine ⟨.slice pad g.ps.length pc, fun w' hw => ?_, ?_⟩
    · obtain ⟨f0, f1, f2, f3, f4⟩ := HS.out w' hw
      go_simp
    go_big_quiet_on
    simp only [Act.put, Array.setIfInBounds, List.size_toArray, List.length_cons, List.length_nil, Nat.reduceAdd, Nat.reduceLT, ↓reduceDIte, List.set_toArray, List.set_cons_succ, List.set_cons_zero]
    go_big_quiet_want
    refine ⟨.bool true, fun w' hw => ?_, ?_⟩
    · go_simp
      exact (HLT.out w').mono fun e w'' ⟨h1, h2⟩ => ⟨h1, hw.trans h2 (by simp) (by simp)⟩
    go_big_quiet_on
    simp only [Act.put, Array.setIfInBounds, List.size_toArray, List.length_cons, List.length_nil, Nat.reduceAdd, Nat.reduceLT, ↓reduceDIte, List.set_toArray, List.set_cons_succ, List.set_cons_zero]
    go_big_quiet_want
    refine ⟨.bool false, fun w' hw => (by go_simp), ?_⟩
    go_big_quiet_on
    simp only [Act.put, Array.setIfInBounds, List.size_toArray, List.length_cons, List.length_nil, Nat.reduceAdd, Nat.reduceLT, ↓reduceDIte, List.set_toArray, List.set_cons_succ, List.set_cons_zero]
    go_big_quiet_want
    refine ⟨.bool false, fun w' hw => (by go_simp), ?_⟩
    go_big_quiet_on
    simp only [Act.put, Array.setIfInBounds, List.size_toArray, List.length_cons, List.length_nil, Nat.reduceAdd, Nat.reduceLT, ↓reduceDIte, List.set_toArray, List.set_cons_succ, List.set_cons_zero]
    refine wpQuiet_nil ?_
    intro W1 hk1
    have HK1 : Hid (Kept [] V W1) := hk1
    clear hk1
    obtain ⟨f0, f1, f2, f3, f4⟩ := HS.out W1 HK1.out
    go_wp2_with (first
      | (go_at_call 26; refine (HRO.out W1 HK1.out).mono ?_; rintro e W2 ⟨B, vs, rfl, hR⟩; have HR2 : Hid (RowsW W1 W2 B n vs g.es) := hR; have HK2 : Hid (Kept [] V W2) := keptB HK1.out hR.kept; clear hR)
      | (go_at_call 25; refine (HST.out W1 W2 B vs HK2.out HR2.out).mono ?_; rintro e W3 ⟨b', g', c', us, rfl, q⟩; have HE : Hid (StepEnds W2 n cl ws g.es (.returned (.pointer (some ⟨b', 0, none⟩))) W3) := ⟨b', g', c', us, rfl, q⟩; clear q))
    go_ret
    exact .inl ⟨HOK.out, HE.out.more (keptB HKV.out HK2.out)⟩
end Go.Proofs.YtkkhilgcjaigcaaDoor
