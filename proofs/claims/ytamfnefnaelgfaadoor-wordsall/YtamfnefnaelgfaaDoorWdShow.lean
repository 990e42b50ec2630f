/- words.Show. -/
import Derived.Test.YtamfnefnaelgfaaDoorWdRead
import Derived.Test.YtamfnefnaelgfaaDoorShelf
import Derived.Lib.SmallJoins
import Derived.Laws.IdiomStrings
namespace Go.Proofs.YtamfnefnaelgfaaDoor
open Go.RowKit Go.Shelf
attribute [local go_sem ↓] Go.wp_at_zero Go.wp_at_succ

/-- The table that numerals are written by. -/
def PowTab (w : World) : Prop := Lib.TabIs Tryd.prog w "internal/strconv.uint64pow10" .u64 Lib.pow10Tab
theorem Tryd.globPow : Tryd.prog.globalNamed "internal/strconv.uint64pow10" = some 0 := by kernel_rfl
theorem PowTab.kept {w w' : World} (h : PowTab w) (k : Kept [] w w') : PowTab w' := Go.Joins.tab_stays Tryd.globPow h k.below (Nat.le_refl _)
theorem Tryd.infoU8 : (Tryd.prog.info? 5).map (fun i => (i.zero, i.size, i.bytes)) = some (some (.int .u8 0), 1, 1) := by kernel_rfl
/-- A text that is being written. -/
structure Txt (w1 W : World) (v : Value) (l : List UInt8) : Prop where
  own : W.ownsRow w1.heap.size 5 1 v l.length (Lib.byteCells l)
  kept : Kept [] w1 W
theorem txt_nil (w : World) : Txt w w (.slice none 0 0) [] := ⟨⟨rfl, .inl ⟨rfl, rfl⟩⟩, Kept.refl [] w⟩
theorem kept_below {w1 W W' : World} (h : Kept [] w1 W) (b : Below w1.heap.size W W') : Kept [] w1 W' :=
  ⟨b.os.trans h.os, b.tape.trans h.tape, b.output.trans h.output, Nat.le_trans h.size b.size, fun k hk _ => (b.block k hk).trans (h.block k hk (by simp))⟩
theorem byteCells_app (a b : List UInt8) : Lib.byteCells (a ++ b) = Lib.byteCells a ++ Lib.byteCells b := by simp [Lib.byteCells]
set_option maxHeartbeats 400000 in
theorem uint_any (v : Value) (l : List UInt8) (x : Nat) (w1 W : World) (h : Txt w1 W v l) (hx : x < 65536) (ht : PowTab w1) (hl : l.length ≤ 100000000) :
    Calls Tryd.prog 45 #[v, .int .u64 (x : Nat), .int .i64 10] W fun e w' => ∃ v', e = .returned v' ∧ Hid (Txt w1 w' v' (l ++ Lib.decDigits x)) := by
  have HI : Hid (Calls Tryd.prog 59 #[v, .int .u64 (x : Nat), .int .i64 10] W fun e w' => ∃ v', e = .returned v' ∧ Hid (Txt w1 w' v' (l ++ Lib.decDigits x))) := by
    by_cases hs : x < 100
    · refine (Any.internal_strconv_AppendUint_10_small Tryd.laysM288 w1.heap.size l.length x hs v (Lib.byteCells l) W h.own h.kept.size (by omega)).mono ?_
      rintro e w' ⟨v', rfl, h1, h2, _⟩
      refine ⟨v', rfl, ⟨?_, kept_below h.kept h2⟩⟩
      rw [List.length_append, byteCells_app]
      exact h1
    · refine (Any.internal_strconv_AppendUint_10_big Tryd.laysM288 w1.heap.size l.length x (by omega) (by omega) v (Lib.byteCells l) W h.own h.kept.size (by omega) (ht.kept h.kept)).mono ?_
      rintro e w' ⟨v', rfl, h1, h2, _⟩
      refine ⟨v', rfl, ⟨?_, kept_below h.kept h2⟩⟩
      rw [List.length_append, byteCells_app]
      exact h1
  clear h ht
  go_enter Tryd.func45, Tryd.ntmps45
  go_wp2_with (go_at_call 59; refine HI.out.mono ?_; rintro e w2 ⟨v', rfl, HT⟩)
  go_ret
  exact ⟨v', rfl, HT⟩
theorem byte_more {w1 W : World} {v : Value} {l : List UInt8} (h : Txt w1 W v l) (c : UInt8) (hl : l.length ≤ 100000000) :
    ∃ v' w', (∀ ty, (Builtin.append_ #[86, 86] ty #[v, .slice (some ⟨W.heap.size, 0, none⟩) 1 1]).run Tryd.prog (W.alloc (.cells #[.int .u8 (c.toNat : Nat)] 5)) = .ok v' w') ∧ Txt w1 w' v' (l ++ [c]) ∧ ∃ g cap, v' = .slice (some ⟨g, 0, none⟩) (l ++ [c]).length cap := by
  obtain ⟨i0, hi, hz0, hz1, hz2⟩ := info_parts Tryd.infoU8
  have hz := h.kept.size
  have ho : (W.alloc (.cells #[.int .u8 (c.toNat : Nat)] 5)).ownsRow w1.heap.size 5 1 v l.length (Lib.byteCells l) := owns_keptF h.own ((Kept.refl [] W).alloc _) (by simp)
  obtain ⟨v', w', h5, h6, h7, h8, _⟩ := run_append_own_at (P := Tryd.prog) _ w1.heap.size 86 0 5 i0 _ 1 1 Tryd.underlying86 hi hz0 hz1 hz2 rfl (by decide) v _ _ ho ⟨W.heap.size, 0, none⟩ 1 1 [.int .u8 (c.toNat : Nat)] rfl (World.news_of_block (cs := #[.int .u8 (c.toNat : Nat)]) (t := 5) (fr := (0, 0)) (heap_alloc_new W _)) (by simp [Value.oneCell']) (by unfold maxLen; omega) (by omega) (by rw [World.size_alloc]; omega)
  have h6' : w'.ownsRow w1.heap.size 5 1 v' (l ++ [c]).length (Lib.byteCells (l ++ [c])) := by rw [List.length_append, byteCells_app]; exact h6
  refine ⟨v', w', fun _ => h5, ⟨h6', (h.kept.alloc _).grown h7 (fun k e => .inr (own_base ho e))⟩, ?_⟩
  rcases h6'.2 with ⟨e, h0⟩ | ⟨g, cap, cur, e, _⟩
  · rw [List.length_append, List.length_singleton] at h0; omega
  · exact ⟨g, cap, e⟩
theorem txt_string {w1 W : World} {g cap : Nat} {l : List UInt8} (h : Txt w1 W (.slice (some ⟨g, 0, none⟩) l.length cap) l) : (convert 86 9 (.slice (some ⟨g, 0, none⟩) l.length cap)).run Tryd.prog W = .ok (.string ⟨l.toArray⟩) W := by
  refine run_convert_bytes_back (P := Tryd.prog) W 86 9 5 ⟨g, 0, none⟩ cap l Tryd.underlying86 Tryd.underlying5 Tryd.underlying9 (fun j hj => ?_)
  rw [addr_add, Nat.zero_add, h.own.cellAt j (by omega)]
  simp [Lib.byteCells, hj]
set_option maxHeartbeats 400000 in
theorem show_none (sv : Value) (ad : Option Addr) (c : Nat) (st : List Nat) (w : World) (hs : Lets w sv st) :
    Calls Tryd.prog 12 #[.agg #[sv, .slice ad 0 c]] w fun e w' => e = .returned (.string ⟨#[]⟩) ∧ Kept [] w w' := by
  obtain ⟨ads, cs, rfl, _, _⟩ := hs.form
  clear hs
  go_enter Tryd.func12, Tryd.ntmps12
  go_wp2_with (go_at_call 41; refine (endless_any _ _ _ _ _).mono ?_; rintro e w1 ⟨rfl, hk⟩; have HK : Hid (Kept [] w w1) := Kept.trans (F := []) (G := []) (H := []) ((Kept.refl [] w).alloc _) hk (by simp) (by simp); clear hk)
  go_ret
  exact ⟨rfl, HK.out⟩

set_option maxHeartbeats 4000000 in
set_option maxRecDepth 10000 in
theorem show_some (ads : Option Addr) (cs bl ol cl : Nat) (st lp : List Nat) (w : World) (hs : Lets w (.slice ads st.length cs) st) (hl : Lets w (.slice (some ⟨bl, ol, none⟩) lp.length cl) lp) (h0 : 0 < lp.length) (hf : st.length + lp.length ≤ 4194304) (ht : PowTab w) :
    Calls Tryd.prog 12 #[.agg #[.slice ads st.length cs, .slice (some ⟨bl, ol, none⟩) lp.length cl]] w fun e w' => e = .returned (.string ⟨(showB ⟨st, lp⟩).toArray⟩) ∧ Kept [] w w' := by
  have HS : Hid (Lets w (.slice ads st.length cs) st) := hs
  have HL : Hid (Lets w (.slice (some ⟨bl, ol, none⟩) lp.length cl) lp) := hl
  have HT : Hid (PowTab w) := ht
  have HN : Hid (Wd2 (w.alloc (.cells #[.slice ads st.length cs, .slice (some ⟨bl, ol, none⟩) lp.length cl] 47)) w.heap.size (.slice ads st.length cs) (.slice (some ⟨bl, ol, none⟩) lp.length cl)) := heap_alloc_new w _
  have b4 : decide (0 < lp.length) = true := by simpa using h0
  have HSB : Hid (∀ k, (stemB (st.take k)).length ≤ 6 * st.length) := fun k => by
    have := stemB_len (st.take k) (fun x hx => hs.small x (List.mem_of_mem_take hx))
    rw [List.length_take] at this
    omega
  have HLB : Hid (∀ k, (loopB lp k).length ≤ 6 * k) := fun k => loopB_len lp hl.small k
  clear hs hl ht
  go_enter Tryd.func12, Tryd.ntmps12
  go_wp2_with (go_at_call 41; refine (endless_any _ _ _ _ _).mono ?_; rintro e w1 ⟨rfl, hk⟩; rw [b4]; have hw := HN.out.kept hk; obtain ⟨c0, c1, _, _⟩ := hw.cells; have HW : Hid (Wd2 w1 w.heap.size (.slice ads st.length cs) (.slice (some ⟨bl, ol, none⟩) lp.length cl)) := hw; have HK : Hid (Kept [] w w1) := Kept.trans (F := []) (G := []) (H := []) ((Kept.refl [] w).alloc _) hk (by simp) (by simp); clear hk hw)
  have HT1 : Hid (PowTab w1) := HT.out.kept HK.out
  go_loopw [3, 5, 14] (fun v _ i wr => ∃ k : Nat, i = .int .i64 (k : Nat) ∧ k ≤ st.length ∧ Hid (Txt w1 wr v (stemB (st.take k)))) (fun _ _ i _ => st.length - (intOf i).toNat)
  case atStart => exact ⟨0, rfl, Nat.zero_le _, txt_nil w1⟩
  case round =>
    obtain ⟨k, rfl, hk, HX⟩ := hrel
    clear c0 c1
    by_cases hlt : k < st.length
    · obtain ⟨bs, os, cs', e, _, _, hcells⟩ := HS.out.there (by omega)
      simp only [Value.slice.injEq] at e
      obtain ⟨e1, _, e2⟩ := e
      subst e1 e2
      obtain ⟨x, hx⟩ : ∃ x, st.getD k 0 = x := ⟨_, rfl⟩
      have y1 : wr.cell? ⟨bs, os + k, none⟩ = some (.int .u16 (x : Nat)) := by rw [← hx]; exact cell_kept0 (HK.out.trans HX.out.kept (by simp) (by simp)) (hcells k hlt)
      have hxs : x < 65536 := by rw [← hx]; exact getD_small HS.out.small k
      have hlen := HSB.out k
      have z1 : (0 : Int) ≤ (k : Int) := by omega
      have z2 : (k : Int) < (st.length : Int) := by omega
      have z3 : IntKind.u64.wrap (x : Int) = (x : Int) := by simp only [IntKind.wrap, IntKind.bits, IntKind.signed]; simp; omega
      have HST : Hid (stemB (st.take (k + 1)) = stemB (st.take k) ++ Lib.decDigits x ++ [32]) := by show _ = _; rw [stemB_take st k hlt, hx, List.append_assoc]
      have HU : Hid (Calls Tryd.prog 45 #[u3, .int .u64 (x : Nat), .int .i64 10] wr fun e w' => ∃ v', e = .returned v' ∧ Hid (Txt w1 w' v' (stemB (st.take k) ++ Lib.decDigits x))) := uint_any u3 _ x w1 wr HX.out hxs HT1.out (by omega)
      have hdl := nDigits_le hxs
      have HB : Hid (∀ v W, Txt w1 W v (stemB (st.take k) ++ Lib.decDigits x) → ∃ v' w', (∀ ty, (Builtin.append_ #[86, 86] ty #[v, .slice (some ⟨W.heap.size, 0, none⟩) 1 1]).run Tryd.prog (W.alloc (.cells #[.int .u8 32] 5)) = .ok v' w') ∧ Txt w1 w' v' (stemB (st.take k) ++ Lib.decDigits x ++ [32])) := fun v W h => by
        obtain ⟨v', w', h1, h2, _⟩ := byte_more h 32 (by rw [List.length_append]; omega)
        exact ⟨v', w', h1, h2⟩
      clear hcells hx hlen hdl
      go_wp2_with (first | (go_at_call 45; refine HU.out.mono ?_; rintro e w2 ⟨v2, rfl, HX2⟩) | (at_builtin; obtain ⟨v3, w3, hr, hx3⟩ := HB.out v2 _ HX2.out; have HX3 : Hid (Txt w1 w3 v3 (stemB (st.take k) ++ Lib.decDigits x ++ [32])) := hx3; refine Lib.wpList_append_run _ rfl _ _ _ _ rfl _ _ rfl rfl _ _ (hr _) ?_; clear hr hx3))
      go_roundw
      case rel => exact ⟨k + 1, by go_num, by omega, by rw [HST.out]; exact HX3.out⟩
      case measure => simp [intOf]; omega
    · obtain rfl : k = st.length := by omega
      have z2 : ¬ ((st.length : Int) < (st.length : Int)) := by omega
      rw [List.take_length] at HX
      have hlen := HSB.out st.length
      rw [List.take_length] at hlen
      have HB : Hid (∃ v' w', (∀ ty, (Builtin.append_ #[86, 86] ty #[u3, .slice (some ⟨wr.heap.size, 0, none⟩) 1 1]).run Tryd.prog (wr.alloc (.cells #[.int .u8 40] 5)) = .ok v' w') ∧ Txt w1 w' v' (stemB st ++ [40])) := by
        obtain ⟨v', w', h1, h2, _⟩ := byte_more HX.out 40 (by omega)
        exact ⟨v', w', h1, h2⟩
      obtain ⟨v4, w4, hr4, hx4⟩ := HB.out
      have HR4 : Hid (∀ ty, (Builtin.append_ #[86, 86] ty #[u3, .slice (some ⟨wr.heap.size, 0, none⟩) 1 1]).run Tryd.prog (wr.alloc (.cells #[.int .u8 40] 5)) = .ok v4 w4) := hr4
      have HX4 : Hid (Txt w1 w4 v4 (stemB st ++ [40])) := hx4
      obtain ⟨c0, c1, _, _⟩ := (HW.out.kept hx4.kept).cells
      have HSL : Hid ((stemB st).length ≤ 6 * st.length) := hlen
      clear hr4 hx4 HB HX hlen
      go_wp2_with (at_builtin; refine Lib.wpList_append_run _ rfl _ _ _ _ rfl _ _ rfl rfl _ _ (HR4.out _) ?_)
      clear HR4
      go_loopw [3, 6, 7, 31] (fun v _ _ i w5 => ∃ k : Nat, i = .int .i64 (k : Nat) ∧ k ≤ lp.length ∧ Hid (Txt w1 w5 v (stemB st ++ [40] ++ loopB lp k))) (fun _ _ _ i _ => lp.length - (intOf i).toNat)
      case atStart => exact ⟨0, rfl, Nat.zero_le _, by rw [show loopB lp 0 = [] from rfl, List.append_nil]; exact HX4.out⟩
      case round =>
        obtain ⟨k, rfl, hk2, HX⟩ := hrel
        clear c0 c1 HX4
        by_cases hlt : k < lp.length
        · obtain ⟨_, _, _, e, _, _, hcells⟩ := HL.out.there h0
          cases e
          obtain ⟨x, hx⟩ : ∃ x, lp.getD k 0 = x := ⟨_, rfl⟩
          have y1 : wr.cell? ⟨bl, ol + k, none⟩ = some (.int .u16 (x : Nat)) := by rw [← hx]; exact cell_kept0 (HK.out.trans HX.out.kept (by simp) (by simp)) (hcells k hlt)
          have hxs : x < 65536 := by rw [← hx]; exact getD_small HL.out.small k
          have z1 : (0 : Int) ≤ (k : Int) := by omega
          have z2 : (k : Int) < (lp.length : Int) := by omega
          have z3 : IntKind.u64.wrap (x : Int) = (x : Int) := by simp only [IntKind.wrap, IntKind.bits, IntKind.signed]; simp; omega
          have hlen : (stemB st ++ [40] ++ loopB lp k).length ≤ 30000000 := by
            have q1 := HSL.out
            have q2 := HLB.out k
            rw [List.length_append, List.length_append, List.length_singleton]
            omega
          have HST : Hid (stemB st ++ [40] ++ loopB lp (k + 1) = stemB st ++ [40] ++ loopB lp k ++ (if k = 0 then [] else [32]) ++ Lib.decDigits x) := by show _ = _; rw [loopB_succ, hx]; unfold sepB; simp only [List.append_assoc]
          clear hcells hx
          by_cases hk0 : k = 0
          · subst hk0
            rw [Nat.add_zero] at y1
            have HU : Hid (Calls Tryd.prog 45 #[u3, .int .u64 (x : Nat), .int .i64 10] wr fun e w' => ∃ v', e = .returned v' ∧ Hid (Txt w1 w' v' (stemB st ++ [40] ++ loopB lp 0 ++ Lib.decDigits x))) := uint_any u3 _ x w1 wr HX.out hxs HT1.out (by omega)
            go_wp2_with (first | (go_at_call 45; refine HU.out.mono ?_; rintro e w2 ⟨v2, rfl, HX2⟩))
            go_roundw
            case rel => exact ⟨1, rfl, by omega, by rw [HST.out, if_true, List.append_nil]; exact HX2.out⟩
            case measure => simp [intOf]; omega
          · have z5 : (0 : Int) < (k : Int) := by omega
            have HB : Hid (∃ v' w', (∀ ty, (Builtin.append_ #[86, 86] ty #[u3, .slice (some ⟨wr.heap.size, 0, none⟩) 1 1]).run Tryd.prog (wr.alloc (.cells #[.int .u8 32] 5)) = .ok v' w') ∧ Txt w1 w' v' (stemB st ++ [40] ++ loopB lp k ++ [32])) := by
              obtain ⟨v', w', h1, h2, _⟩ := byte_more HX.out 32 (by omega)
              exact ⟨v', w', h1, h2⟩
            obtain ⟨v6, w6, hr6, hx6⟩ := HB.out
            have HR6 : Hid (∀ ty, (Builtin.append_ #[86, 86] ty #[u3, .slice (some ⟨wr.heap.size, 0, none⟩) 1 1]).run Tryd.prog (wr.alloc (.cells #[.int .u8 32] 5)) = .ok v6 w6) := hr6
            have HU : Hid (Calls Tryd.prog 45 #[v6, .int .u64 (x : Nat), .int .i64 10] w6 fun e w' => ∃ v', e = .returned v' ∧ Hid (Txt w1 w' v' (stemB st ++ [40] ++ loopB lp k ++ [32] ++ Lib.decDigits x))) := uint_any v6 _ x w1 w6 hx6 hxs HT1.out (by rw [List.length_append, List.length_singleton]; omega)
            have HST2 : Hid (stemB st ++ [40] ++ loopB lp (k + 1) = stemB st ++ [40] ++ loopB lp k ++ [32] ++ Lib.decDigits x) := by show _ = _; rw [HST.out, if_neg hk0]
            clear hr6 hx6 HB hk0 hlen
            go_wp2_with (first | (go_at_call 45; refine HU.out.mono ?_; rintro e w2 ⟨v2, rfl, HX2⟩) | (at_builtin; refine Lib.wpList_append_run _ rfl _ _ _ _ rfl _ _ rfl rfl _ _ (HR6.out _) ?_))
            go_roundw
            case rel => exact ⟨k + 1, by go_num, by omega, by rw [HST2.out]; exact HX2.out⟩
            case measure => simp [intOf]; omega
        · obtain rfl : k = lp.length := by omega
          have z2 : ¬ ((lp.length : Int) < (lp.length : Int)) := by omega
          have hlen : (stemB st ++ [40] ++ loopB lp lp.length).length ≤ 30000000 := by
            have q1 := HSL.out
            have q2 := HLB.out lp.length
            rw [List.length_append, List.length_append, List.length_singleton]
            omega
          obtain ⟨v6, w6, hr6, hx6, g6, cap6, hv6⟩ := byte_more HX.out 41 (by omega)
          subst hv6
          have HR6 : Hid (∀ ty, (Builtin.append_ #[86, 86] ty #[u3, .slice (some ⟨wr.heap.size, 0, none⟩) 1 1]).run Tryd.prog (wr.alloc (.cells #[.int .u8 41] 5)) = .ok (.slice (some ⟨g6, 0, none⟩) (stemB st ++ [40] ++ loopB lp lp.length ++ [41]).length cap6) w6) := hr6
          have HX6 : Hid (Txt w1 w6 (.slice (some ⟨g6, 0, none⟩) (stemB st ++ [40] ++ loopB lp lp.length ++ [41]).length cap6) (stemB st ++ [40] ++ loopB lp lp.length ++ [41])) := hx6
          have HSH : Hid (stemB st ++ [40] ++ loopB lp lp.length ++ [41] = showB ⟨st, lp⟩) := by show _ = _; unfold showB; rw [if_neg (by show ¬ lp.length = 0; omega)]
          rw [HSH.out] at HR6 HX6
          have hcv := txt_string HX6.out
          obtain ⟨L6, hL6⟩ : ∃ L, (showB ⟨st, lp⟩).length = L := ⟨_, rfl⟩
          rw [hL6] at HR6 hcv
          clear hr6 hx6 hlen hL6
          go_wp2_with (at_builtin; refine Lib.wpList_append_run _ rfl _ _ _ _ rfl _ _ rfl rfl _ _ (HR6.out _) ?_)
          go_ret
          exact ⟨rfl, HK.out.trans HX6.out.kept (by simp) (by simp)⟩
/-- words.Show, of whatever word within the bound. -/
theorem show_any (sv lv : Value) (q : Wd) (w : World) (h : IsW w sv lv q) (hf : q.stem.length + q.loop.length ≤ 4194304) (ht : PowTab w) :
    Calls Tryd.prog 12 #[.agg #[sv, lv]] w fun e w' => e = .returned (.string ⟨(showB q).toArray⟩) ∧ Kept [] w w' := by
  obtain ⟨st, lp⟩ := q
  by_cases h0 : 0 < lp.length
  · obtain ⟨b, o, c, rfl, _⟩ := h.lp.there h0
    obtain ⟨ad, cs, rfl, _⟩ := h.st.form
    exact show_some ad cs b o c st lp w h.st h.lp h0 hf ht
  · obtain rfl : lp = [] := List.length_eq_zero_iff.1 (by omega)
    obtain ⟨ad, c, rfl, _⟩ := h.lp.form
    exact show_none sv ad c st w h.st
end Go.Proofs.YtamfnefnaelgfaaDoor
