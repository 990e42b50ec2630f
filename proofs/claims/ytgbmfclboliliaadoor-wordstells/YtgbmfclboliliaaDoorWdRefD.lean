/- The document's Digits and Show. -/
import Derived.Test.YtgbmfclboliliaaDoorWdShow
import Derived.Lib.AppendStr
namespace Go.Proofs.YtgbmfclboliliaaDoor
open Go.RowKit Go.Shelf Go.Lib
attribute [local go_sem ↓] Go.wp_at_zero Go.wp_at_succ

theorem byte_string (W : World) (c : UInt8) : (convert 78 9 (.slice (some ⟨W.heap.size, 0, none⟩) 1 1)).run Tryd.prog (W.alloc (.cells #[.int .u8 (c.toNat : Nat)] 5)) = .ok (.string ⟨#[c]⟩) (W.alloc (.cells #[.int .u8 (c.toNat : Nat)] 5)) := by
  refine run_convert_bytes_back (P := Tryd.prog) _ 78 9 5 ⟨W.heap.size, 0, none⟩ 1 [c] Tryd.underlying78 Tryd.underlying5 Tryd.underlying9 (fun j hj => ?_)
  obtain rfl : j = 0 := by simpa using hj
  rw [addr_add]
  exact (cell_of (heap_alloc_new W _) 0).trans rfl
theorem dec_big {n : Nat} (h : 9 < n) : decDigits n = decDigits (n / 10) ++ [UInt8.ofNat (48 + n % 10)] := by
  rw [decDigits, dif_neg (by omega)]
theorem dig_byte {d : Nat} (h : d < 10) : (UInt8.ofNat (48 + d)).toNat = 48 + d := by
  rw [UInt8.toNat_ofNat']; omega
set_option maxHeartbeats 1600000 in
set_option maxRecDepth 10000 in
theorem digits_any (x : Nat) (w : World) (hx : x < 65536) :
    Calls Tryd.prog 53 #[.int .i64 (x : Nat)] w fun e w' => e = .returned (.string ⟨(decDigits x).toArray⟩) ∧ Kept [] w w' := by
  go_enter Tryd.func53, Tryd.ntmps53
  go_wp2_with fail
  go_loopw [0, 3] (fun v0 v3 wr => ∃ (n : Nat) (sb : ByteArray), v0 = .int .i64 (n : Nat) ∧ v3 = .string sb ∧ n ≤ 65535 ∧ sb.size ≤ 65535 - n ∧ Hid (decDigits n ++ sb.data.toList = decDigits x) ∧ Hid (Kept [] w wr)) (fun v0 _ _ => (Go.RowKit.intOf v0).toNat)
  case atStart => exact ⟨x, ⟨#[]⟩, rfl, rfl, by omega, by show 0 ≤ _; omega, List.append_nil _, Kept.refl [] w⟩
  case round =>
    obtain ⟨n, sb, rfl, rfl, hn, hsz, HD, HK⟩ := hrel
    by_cases hlt : 9 < n
    · have z1 : (9 : Int) < (n : Int) := by omega
      obtain ⟨d, hd⟩ : ∃ d, n % 10 = d := ⟨_, rfl⟩
      obtain ⟨m, hm⟩ : ∃ m, n / 10 = m := ⟨_, rfl⟩
      have hd9 : d < 10 := by omega
      have y1 : (n : Int).tmod 10 = (d : Int) := by rw [Int.tmod_eq_emod_of_nonneg (by omega)]; omega
      have y2 : (n : Int) % 10 = (d : Int) := by omega
      have y3 : (n : Int).tdiv 10 = (m : Int) := by rw [Int.tdiv_eq_ediv_of_nonneg (by omega)]; omega
      have y4 : (n : Int) / 10 = (m : Int) := by omega
      obtain ⟨c, hc⟩ : ∃ c, UInt8.ofNat (48 + d) = c := ⟨_, rfl⟩
      have hct : c.toNat = 48 + d := by rw [← hc]; exact dig_byte hd9
      obtain ⟨cn, hcn⟩ : ∃ cn, c.toNat = cn := ⟨_, rfl⟩
      have y5 : IntKind.i64.wrap (48 + (d : Int)) = (cn : Int) := by rw [IntKind.wrap_i64]; omega
      have y6 : IntKind.u8.wrap (cn : Int) = (cn : Int) := by simp only [IntKind.wrap, IntKind.bits, IntKind.signed]; simp; omega
      have y7 : 48 + (d : Int) = (cn : Int) := by omega
      have y8 : IntKind.u8.wrap (48 + (d : Int)) = (cn : Int) := by rw [y7]; exact y6
      have hcv := byte_string wr c
      rw [hcn] at hcv
      have hsum : (⟨#[c]⟩ : ByteArray).size + sb.size ≤ 9223372036854775807 := by show 1 + sb.size ≤ _; omega
      obtain ⟨sc, hsc⟩ : ∃ sc : ByteArray, (⟨#[c]⟩ : ByteArray) = sc := ⟨_, rfl⟩
      rw [hsc] at hcv hsum
      have HD2 : Hid (decDigits m ++ (sc ++ sb).data.toList = decDigits x) := by
        show _ = _
        rw [← HD.out, dec_big hlt, hd, hm, hc, ← hsc]
        simp [ByteArray.data_append]
      have hs2 : (sc ++ sb).size ≤ 65535 - m := by
        rw [ByteArray.size_append, ← hsc]
        show 1 + sb.size ≤ _
        omega
      have hm2 : m ≤ 65535 ∧ m < n := by omega
      clear hc hct hcn hsc hd hm y7
      go_wp2
      go_roundw
      case rel => exact ⟨m, sc ++ sb, by go_num, rfl, hm2.1, hs2, HD2.out, HK.out.alloc _⟩
      case measure => simp [Go.RowKit.intOf]; omega
    · have z1 : ¬ ((9 : Int) < (n : Int)) := by omega
      obtain ⟨c, hc⟩ : ∃ c, UInt8.ofNat (48 + n) = c := ⟨_, rfl⟩
      have hct : c.toNat = 48 + n := by rw [← hc]; exact dig_byte (by omega)
      obtain ⟨cn, hcn⟩ : ∃ cn, c.toNat = cn := ⟨_, rfl⟩
      have y7 : 48 + (n : Int) = (cn : Int) := by omega
      have y5 : IntKind.i64.wrap (48 + (n : Int)) = (cn : Int) := by rw [IntKind.wrap_i64]; omega
      have y6 : IntKind.u8.wrap (cn : Int) = (cn : Int) := by simp only [IntKind.wrap, IntKind.bits, IntKind.signed]; simp; omega
      have y8 : IntKind.u8.wrap (48 + (n : Int)) = (cn : Int) := by rw [y7]; exact y6
      have hcv := byte_string wr c
      rw [hcn] at hcv
      have hsum : (⟨#[c]⟩ : ByteArray).size + sb.size ≤ 9223372036854775807 := by show 1 + sb.size ≤ _; omega
      obtain ⟨sc, hsc⟩ : ∃ sc : ByteArray, (⟨#[c]⟩ : ByteArray) = sc := ⟨_, rfl⟩
      rw [hsc] at hcv hsum
      have HE : Hid (sc ++ sb = ⟨(decDigits x).toArray⟩) := by
        show sc ++ sb = _
        rw [← HD.out, decDigits_one (by omega), hc, ← hsc]
        apply ByteArray.ext
        simp [ByteArray.data_append]
      clear hc hct hcn hsc y7 hlt
      go_wp2
      go_ret
      exact ⟨by rw [← HE.out]; rfl, HK.out.alloc _⟩
theorem strCells_eq (l : List UInt8) : Lib.strCells ⟨l.toArray⟩ = Lib.byteCells l := by simp [Lib.strCells, Lib.byteCells]
theorem str_more {w1 W : World} {v : Value} {l : List UInt8} (h : Txt w1 W v l) (s : List UInt8) (hl : l.length + s.length ≤ 100000000) :
    ∃ a n c w', (∀ ty, (Builtin.append_ #[78, 9] ty #[v, .string ⟨s.toArray⟩]).run Tryd.prog W = .ok (.slice a n c) w') ∧ Txt w1 w' (.slice a n c) (l ++ s) := by
  obtain ⟨i0, hi, hz0, hz1, hz2⟩ := info_parts Tryd.infoU8
  have hz := h.kept.size
  have e0 : (⟨s.toArray⟩ : ByteArray).size = s.length := rfl
  obtain ⟨v', w', h5, h6, h7, _⟩ := Lib.run_append_own_string (P := Tryd.prog) W w1.heap.size 78 9 0 5 i0 Tryd.underlying78 Tryd.underlying9 hi hz0 hz1 hz2 v _ _ h.own ⟨s.toArray⟩ (by unfold maxLen; rw [e0]; omega) (by rw [e0]; omega) hz
  have h6' : w'.ownsRow w1.heap.size 5 1 v' (l ++ s).length (Lib.byteCells (l ++ s)) := by rw [List.length_append, byteCells_app, ← strCells_eq s]; exact h6
  obtain ⟨a, c, rfl⟩ := own_form h6'
  exact ⟨a, _, c, w', fun _ => h5, ⟨h6', h.kept.grown h7 (fun k e => .inr (own_base h.own e))⟩⟩
set_option maxHeartbeats 400000 in
theorem refShow_none (sv : Value) (ad : Option Addr) (c : Nat) (st : List Nat) (w : World) (hs : Lets w sv st) :
    Calls Tryd.prog 29 #[.agg #[sv, .slice ad 0 c]] w fun e w' => e = .returned (.string ⟨#[]⟩) ∧ Kept [] w w' := by
  obtain ⟨ads, cs, rfl, _, _⟩ := hs.form
  clear hs
  go_enter Tryd.func29, Tryd.ntmps29
  go_wp2
  go_ret
  exact ⟨rfl, (Kept.refl [] w).alloc _⟩
set_option maxHeartbeats 4000000 in
set_option maxRecDepth 10000 in
theorem refShow_some (ads : Option Addr) (cs bl ol cl : Nat) (st lp : List Nat) (w : World) (hs : Lets w (.slice ads st.length cs) st) (hl : Lets w (.slice (some ⟨bl, ol, none⟩) lp.length cl) lp) (h0 : 0 < lp.length) (hf : st.length + lp.length ≤ 4194304) :
    Calls Tryd.prog 29 #[.agg #[.slice ads st.length cs, .slice (some ⟨bl, ol, none⟩) lp.length cl]] w fun e w' => e = .returned (.string ⟨(showB ⟨st, lp⟩).toArray⟩) ∧ Kept [] w w' := by
  obtain ⟨w1, hV⟩ : ∃ w1, w.alloc (.cells #[.slice ads st.length cs, .slice (some ⟨bl, ol, none⟩) lp.length cl] 24) = w1 := ⟨_, rfl⟩
  have kV : Kept [] w w1 := by rw [← hV]; exact (Kept.refl [] w).alloc _
  have HW : Hid (Wd2 w1 w.heap.size (.slice ads st.length cs) (.slice (some ⟨bl, ol, none⟩) lp.length cl)) := by show Wd2 _ _ _ _; rw [← hV]; exact heap_alloc_new w _
  have HS : Hid (Lets w1 (.slice ads st.length cs) st) := hs.kept kV
  have HL : Hid (Lets w1 (.slice (some ⟨bl, ol, none⟩) lp.length cl) lp) := hl.kept kV
  have HK : Hid (Kept [] w w1) := kV
  have HV : Hid (_ = w1) := hV
  have b4 : ((lp.length : Int) == 0) = false := by rw [beq_eq_false_iff_ne]; omega
  have HSB : Hid (∀ k, (stemB (st.take k)).length ≤ 6 * st.length) := fun k => by
    have := stemB_len (st.take k) (fun x hx => hs.small x (List.mem_of_mem_take hx))
    rw [List.length_take] at this
    omega
  have HLB : Hid (∀ k, (loopB lp k).length ≤ 6 * k) := fun k => loopB_len lp hl.small k
  obtain ⟨c0, c1, _, _⟩ := HW.out.cells
  clear hs hl hV kV
  go_enter Tryd.func29, Tryd.ntmps29
  go_wp2_with fail
  rw [HV.out]
  clear HV
  go_loopw [3, 4] (fun v i wr => ∃ (k : Nat) (a3 : Option Addr) (n3 c3 : Nat), v = .slice a3 n3 c3 ∧ i = .int .i64 (k : Nat) ∧ k ≤ st.length ∧ Hid (Txt w1 wr (.slice a3 n3 c3) (stemB (st.take k)))) (fun _ i _ => st.length - (Go.RowKit.intOf i).toNat)
  case atStart => exact ⟨0, none, 0, 0, rfl, rfl, Nat.zero_le _, txt_nil w1⟩
  case round =>
    obtain ⟨k, a3, n3, c3, rfl, rfl, hk, HX⟩ := hrel
    clear c0 c1
    obtain ⟨c0, c1, _, _⟩ := (HW.out.kept HX.out.kept).cells
    by_cases hlt : k < st.length
    · obtain ⟨bs, os, cs', e, _, _, hcells⟩ := HS.out.there (by omega)
      simp only [Value.slice.injEq] at e
      obtain ⟨e1, _, e2⟩ := e
      subst e1 e2
      obtain ⟨x, hx⟩ : ∃ x, st.getD k 0 = x := ⟨_, rfl⟩
      have y1 : wr.cell? ⟨bs, os + k, none⟩ = some (.int .u16 (x : Nat)) := by rw [← hx]; exact cell_kept0 HX.out.kept (hcells k hlt)
      have hxs : x < 65536 := by rw [← hx]; exact getD_small HS.out.small k
      have hlen := HSB.out k
      have z1 : (0 : Int) ≤ (k : Int) := by omega
      have z2 : (k : Int) < (st.length : Int) := by omega
      have z3 : IntKind.i64.wrap (x : Int) = (x : Int) := by rw [IntKind.wrap_i64]; omega
      have HST : Hid (stemB (st.take (k + 1)) = stemB (st.take k) ++ Lib.decDigits x ++ [32]) := by show _ = _; rw [stemB_take st k hlt, hx, List.append_assoc]
      have hdl := nDigits_le hxs
      have HU : Hid (Calls Tryd.prog 53 #[.int .i64 (x : Nat)] wr fun e w' => e = .returned (.string ⟨(Lib.decDigits x).toArray⟩) ∧ Hid (Kept [] wr w')) := digits_any x wr hxs
      have HA : Hid (∀ W, Kept [] wr W → ∃ a n c w', (∀ ty, (Builtin.append_ #[78, 9] ty #[.slice a3 n3 c3, .string ⟨(Lib.decDigits x).toArray⟩]).run Tryd.prog W = .ok (.slice a n c) w') ∧ Txt w1 w' (.slice a n c) (stemB (st.take k) ++ Lib.decDigits x)) := fun W kW => str_more ⟨owns_keptF HX.out.own kW (by simp), HX.out.kept.trans kW (by simp) (by simp)⟩ _ (by omega)
      have HB : Hid (∀ v W, Txt w1 W v (stemB (st.take k) ++ Lib.decDigits x) → ∃ a n c w', (∀ ty, (Builtin.append_ #[78, 78] ty #[v, .slice (some ⟨W.heap.size, 0, none⟩) 1 1]).run Tryd.prog (W.alloc (.cells #[.int .u8 32] 5)) = .ok (.slice a n c) w') ∧ Txt w1 w' (.slice a n c) (stemB (st.take k) ++ Lib.decDigits x ++ [32])) := fun v W h => by
        obtain ⟨v', w', h1, h2, _⟩ := byte_more h 32 (by rw [List.length_append]; omega)
        obtain ⟨a, c, rfl⟩ := own_form h2.own
        exact ⟨a, _, c, w', h1, h2⟩
      obtain ⟨ds, hds⟩ : ∃ ds : ByteArray, (⟨(Lib.decDigits x).toArray⟩ : ByteArray) = ds := ⟨_, rfl⟩
      rw [hds] at HU HA
      clear hcells hx hlen hdl hds
      go_wp2_with (first
        | (go_at_call 53; refine HU.out.mono ?_; rintro e w2 ⟨rfl, HK2⟩; have T1 : Hid True := trivial)
        | (clear T1; at_builtin; obtain ⟨a5, n5, c5, w3, hr, hx3⟩ := HA.out w2 HK2.out; have HX3 : Hid (Txt w1 w3 (.slice a5 n5 c5) (stemB (st.take k) ++ Lib.decDigits x)) := hx3; refine Lib.wpList_append_run _ rfl _ _ _ _ rfl _ _ rfl rfl _ _ (hr _) ?_; clear hr hx3)
        | (at_builtin; obtain ⟨a6, n6, c6, w4, hr, hx4⟩ := HB.out _ _ HX3.out; have HX4 : Hid (Txt w1 w4 (.slice a6 n6 c6) (stemB (st.take k) ++ Lib.decDigits x ++ [32])) := hx4; refine Lib.wpList_append_run _ rfl _ _ _ _ rfl _ _ rfl rfl _ _ (hr _) ?_; clear hr hx4))
      go_roundw
      case rel => exact ⟨k + 1, a6, n6, c6, rfl, by go_num, by omega, by rw [HST.out]; exact HX4.out⟩
      case measure => simp [Go.RowKit.intOf]; omega
    · obtain rfl : k = st.length := by omega
      have z2 : ¬ ((st.length : Int) < (st.length : Int)) := by omega
      rw [List.take_length] at HX
      have hlen := HSB.out st.length
      rw [List.take_length] at hlen
      obtain ⟨v4, w4, hr4, hx4, _⟩ := byte_more HX.out 40 (by omega)
      obtain ⟨a4, c4, hv4⟩ := own_form hx4.own
      obtain ⟨n4, hn4⟩ : ∃ n4, (stemB st ++ [(40 : UInt8)]).length = n4 := ⟨_, rfl⟩
      rw [hn4] at hv4
      subst hv4
      have HR4 : Hid (∀ ty, (Builtin.append_ #[78, 78] ty #[.slice a3 n3 c3, .slice (some ⟨wr.heap.size, 0, none⟩) 1 1]).run Tryd.prog (wr.alloc (.cells #[.int .u8 40] 5)) = .ok (.slice a4 n4 c4) w4) := hr4
      have HX4 : Hid (Txt w1 w4 (.slice a4 n4 c4) (stemB st ++ [40])) := hx4
      clear c0 c1
      obtain ⟨c0, c1, _, _⟩ := (HW.out.kept HX.out.kept).cells
      have HSL : Hid ((stemB st).length ≤ 6 * st.length) := hlen
      clear hr4 hx4 hn4 HX hlen
      go_wp2_with (at_builtin; refine Lib.wpList_append_run _ rfl _ _ _ _ rfl _ _ rfl rfl _ _ (HR4.out _) ?_)
      clear HR4 c0 c1
      go_loopw [3, 5] (fun v i w5 => ∃ (k : Nat) (a3 : Option Addr) (n3 c3 : Nat), v = .slice a3 n3 c3 ∧ i = .int .i64 (k : Nat) ∧ k ≤ lp.length ∧ Hid (Txt w1 w5 (.slice a3 n3 c3) (stemB st ++ [40] ++ loopB lp k))) (fun _ i _ => lp.length - (Go.RowKit.intOf i).toNat)
      case atStart => exact ⟨0, a4, n4, c4, rfl, rfl, Nat.zero_le _, by rw [show loopB lp 0 = [] from rfl, List.append_nil]; exact HX4.out⟩
      case round =>
        rename World => w5
        obtain ⟨k, a3, n3, c3, rfl, rfl, hk2, HX⟩ := hrel
        clear HX4
        obtain ⟨c0, c1, _, _⟩ := (HW.out.kept HX.out.kept).cells
        by_cases hlt : k < lp.length
        · obtain ⟨_, _, _, e, _, _, hcells⟩ := HL.out.there h0
          cases e
          obtain ⟨x, hx⟩ : ∃ x, lp.getD k 0 = x := ⟨_, rfl⟩
          have hxs : x < 65536 := by rw [← hx]; exact getD_small HL.out.small k
          have HY : Hid (∀ W, Kept [] w1 W → W.cell? ⟨bl, ol + k, none⟩ = some (.int .u16 (x : Nat))) := fun W kW => by rw [← hx]; exact cell_kept0 kW (hcells k hlt)
          have y1 := HY.out w5 HX.out.kept
          have z1 : (0 : Int) ≤ (k : Int) := by omega
          have z5 : (k : Int) < (lp.length : Int) := by omega
          have z3 : IntKind.i64.wrap (x : Int) = (x : Int) := by rw [IntKind.wrap_i64]; omega
          have hlen : (stemB st ++ [40] ++ loopB lp k).length ≤ 30000000 := by
            have q1 := HSL.out
            have q2 := HLB.out k
            rw [List.length_append, List.length_append, List.length_singleton]
            omega
          have HST : Hid (stemB st ++ [40] ++ loopB lp (k + 1) = stemB st ++ [40] ++ loopB lp k ++ (if k = 0 then [] else [32]) ++ Lib.decDigits x) := by show _ = _; rw [loopB_succ, hx]; unfold sepB; simp only [List.append_assoc]
          have hdl := nDigits_le hxs
          have HU : Hid (∀ W, Calls Tryd.prog 53 #[.int .i64 (x : Nat)] W fun e w' => e = .returned (.string ⟨(Lib.decDigits x).toArray⟩) ∧ Hid (Kept [] W w')) := fun W => digits_any x W hxs
          have HA : Hid (∀ W v l, Txt w1 W v l → l.length ≤ 30000001 → ∃ a n c w', (∀ ty, (Builtin.append_ #[78, 9] ty #[v, .string ⟨(Lib.decDigits x).toArray⟩]).run Tryd.prog W = .ok (.slice a n c) w') ∧ Txt w1 w' (.slice a n c) (l ++ Lib.decDigits x)) := fun W v l h hl => str_more h _ (by omega)
          obtain ⟨ds, hds⟩ : ∃ ds : ByteArray, (⟨(Lib.decDigits x).toArray⟩ : ByteArray) = ds := ⟨_, rfl⟩
          rw [hds] at HU HA
          have HLEN : Hid ((stemB st ++ [40] ++ loopB lp k).length ≤ 30000000) := hlen
          by_cases hk0 : k = 0
          · subst hk0
            rw [Nat.add_zero] at y1
            clear hcells hx hdl hds hlen
            go_wp2_with (first
              | (go_at_call 53; refine (HU.out _).mono ?_; rintro e w6 ⟨rfl, HK6⟩)
              | (at_builtin; obtain ⟨a7, n7, c7, w7, hr, hx7⟩ := HA.out w6 _ _ (⟨owns_keptF HX.out.own HK6.out (by simp), HX.out.kept.trans HK6.out (by simp) (by simp)⟩ : Txt w1 w6 (.slice a3 n3 c3) _) (by have := HLEN.out; omega); have HX7 : Hid (Txt w1 w7 (.slice a7 n7 c7) (stemB st ++ [40] ++ loopB lp 0 ++ Lib.decDigits x)) := hx7; refine Lib.wpList_append_run _ rfl _ _ _ _ rfl _ _ rfl rfl _ _ (hr _) ?_; clear hr hx7))
            go_roundw
            case rel => exact ⟨1, _, _, _, rfl, rfl, by omega, by rw [HST.out, if_true, List.append_nil]; exact HX7.out⟩
            case measure => simp [Go.RowKit.intOf]; omega
          · have z6 : (0 : Int) < (k : Int) := by omega
            obtain ⟨v6, w6, hr6, hx6, _⟩ := byte_more HX.out 32 (by omega)
            obtain ⟨a6, c6, hv6⟩ := own_form hx6.own
            obtain ⟨n6, hn6⟩ : ∃ n6, (stemB st ++ [40] ++ loopB lp k ++ [(32 : UInt8)]).length = n6 := ⟨_, rfl⟩
            rw [hn6] at hv6
            subst hv6
            have HR6 : Hid (∀ ty, (Builtin.append_ #[78, 78] ty #[.slice a3 n3 c3, .slice (some ⟨w5.heap.size, 0, none⟩) 1 1]).run Tryd.prog (w5.alloc (.cells #[.int .u8 32] 5)) = .ok (.slice a6 n6 c6) w6) := hr6
            have HX6 : Hid (Txt w1 w6 (.slice a6 n6 c6) (stemB st ++ [40] ++ loopB lp k ++ [32])) := hx6
            have HST2 : Hid (stemB st ++ [40] ++ loopB lp (k + 1) = stemB st ++ [40] ++ loopB lp k ++ [32] ++ Lib.decDigits x) := by show _ = _; rw [HST.out, if_neg hk0]
            have y2 := HY.out w6 hx6.kept
            have m0 := (HW.out.kept hx6.kept).cells.1
            have m1 := (HW.out.kept hx6.kept).cells.2.1
            have T1 : Hid True := trivial
            clear hr6 hx6 hk0 hn6 hcells hx hdl hds hlen y1
            go_wp2_with (first
              | (clear T1; at_builtin; refine Lib.wpList_append_run _ rfl _ _ _ _ rfl _ _ rfl rfl _ _ (HR6.out _) ?_)
              | (go_at_call 53; refine (HU.out _).mono ?_; rintro e w7 ⟨rfl, HK7⟩)
              | (at_builtin; obtain ⟨a8, n8, c8, w8, hr, hx8⟩ := HA.out w7 _ _ (⟨owns_keptF HX6.out.own HK7.out (by simp), HX6.out.kept.trans HK7.out (by simp) (by simp)⟩ : Txt w1 w7 (.slice a6 n6 c6) _) (by have := HLEN.out; rw [List.length_append, List.length_singleton]; omega); have HX8 : Hid (Txt w1 w8 (.slice a8 n8 c8) (stemB st ++ [40] ++ loopB lp k ++ [32] ++ Lib.decDigits x)) := hx8; refine Lib.wpList_append_run _ rfl _ _ _ _ rfl _ _ rfl rfl _ _ (hr _) ?_; clear hr hx8))
            go_roundw
            case rel => exact ⟨k + 1, _, _, _, rfl, by go_num, by omega, by rw [HST2.out]; exact HX8.out⟩
            case measure => simp [Go.RowKit.intOf]; omega
        · obtain rfl : k = lp.length := by omega
          have z5 : ¬ ((lp.length : Int) < (lp.length : Int)) := by omega
          have hlen : (stemB st ++ [40] ++ loopB lp lp.length).length ≤ 30000000 := by
            have q1 := HSL.out
            have q2 := HLB.out lp.length
            rw [List.length_append, List.length_append, List.length_singleton]
            omega
          obtain ⟨v6, w6, hr6, hx6, g6, cap6, hv6⟩ := byte_more HX.out 41 (by omega)
          subst hv6
          have HR6 : Hid (∀ ty, (Builtin.append_ #[78, 78] ty #[.slice a3 n3 c3, .slice (some ⟨w5.heap.size, 0, none⟩) 1 1]).run Tryd.prog (w5.alloc (.cells #[.int .u8 41] 5)) = .ok (.slice (some ⟨g6, 0, none⟩) (stemB st ++ [40] ++ loopB lp lp.length ++ [41]).length cap6) w6) := hr6
          have HX6 : Hid (Txt w1 w6 (.slice (some ⟨g6, 0, none⟩) (stemB st ++ [40] ++ loopB lp lp.length ++ [41]).length cap6) (stemB st ++ [40] ++ loopB lp lp.length ++ [41])) := hx6
          have HSH : Hid (stemB st ++ [40] ++ loopB lp lp.length ++ [41] = showB ⟨st, lp⟩) := by show _ = _; unfold showB; rw [if_neg (by show ¬ lp.length = 0; omega)]
          rw [HSH.out] at HR6 HX6
          have hcv := txt_string HX6.out
          obtain ⟨L6, hL6⟩ : ∃ L, (showB ⟨st, lp⟩).length = L := ⟨_, rfl⟩
          rw [hL6] at HR6 hcv
          clear hr6 hx6 hlen hL6
          go_wp2_with (at_builtin; refine Lib.wpList_append_run _ rfl _ _ _ _ rfl _ _ rfl rfl _ _ (HR6.out _) ?_)
          go_ret
          exact ⟨rfl, HK.out.trans HX6.out.kept (by simp) (by simp)⟩
/-- The document's Show, of whatever word within the bound. -/
theorem refShow_any (sv lv : Value) (q : Wd) (w : World) (h : IsW w sv lv q) (hf : q.stem.length + q.loop.length ≤ 4194304) :
    Calls Tryd.prog 29 #[.agg #[sv, lv]] w fun e w' => e = .returned (.string ⟨(showB q).toArray⟩) ∧ Kept [] w w' := by
  obtain ⟨st, lp⟩ := q
  by_cases h0 : 0 < lp.length
  · obtain ⟨b, o, c, rfl, _⟩ := h.lp.there h0
    obtain ⟨ad, cs, rfl, _⟩ := h.st.form
    exact refShow_some ad cs b o c st lp w h.st h.lp h0 hf
  · obtain rfl : lp = [] := List.length_eq_zero_iff.1 (by omega)
    obtain ⟨ad, c, rfl, _⟩ := h.lp.form
    exact refShow_none sv ad c st w h.st
end Go.Proofs.YtgbmfclboliliaaDoor
