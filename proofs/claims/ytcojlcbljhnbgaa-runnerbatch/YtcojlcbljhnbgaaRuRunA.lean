/- runner.Run of any machine and events. -/
import Derived.Test.YtcojlcbljhnbgaaRuCalls
import Derived.Test.YtcojlcbljhnbgaaMoOpen
namespace Go.Proofs.Ytcojlcbljhnbgaa
open Go.RowKit Go.Shelf Go.Maps

/-- The state behind events. -/
def goN (ps : List ByteArray) (next : List (List Int)) (es : List (List ByteArray)) : Nat := es.foldl (fun s e => stepN ps next s (letterN ps e)) 0
theorem goN_take {ps : List ByteArray} {next : List (List Int)} {es : List (List ByteArray)} {k : Nat} {x : List ByteArray} (h : es[k]? = some x) : goN ps next (es.take (k + 1)) = stepN ps next (goN ps next (es.take k)) (letterN ps x) := by
  unfold goN
  rw [List.take_add_one, h]
  simp
/-- The verdicts behind each of the first k events; noughts behind them. -/
def runV (ps : List ByteArray) (next : List (List Int)) (out : List Nat) (es : List (List ByteArray)) (k : Nat) : List Nat := (List.range es.length).map fun i => if i < k then out.getD (goN ps next (es.take (i + 1))) 0 else 0
theorem runV_len {ps : List ByteArray} {next : List (List Int)} {out : List Nat} {es : List (List ByteArray)} {k : Nat} : (runV ps next out es k).length = es.length := by simp [runV]
theorem runV_zero {ps : List ByteArray} {next : List (List Int)} {out : List Nat} {es : List (List ByteArray)} : runV ps next out es 0 = List.replicate es.length 0 := by
  apply List.ext_getElem
  · simp [runV]
  · intro i h1 h2; simp [runV]
theorem runV_set {ps : List ByteArray} {next : List (List Int)} {out : List Nat} {es : List (List ByteArray)} {k : Nat} : (runV ps next out es k).set k (out.getD (goN ps next (es.take (k + 1))) 0) = runV ps next out es (k + 1) := by
  apply List.ext_getElem
  · simp [runV]
  · intro i h1 h2
    have hi : i < es.length := by simpa [runV] using h2
    rw [List.getElem_set]
    by_cases e : k = i
    · subst e
      simp [runV]
    · rw [if_neg e]
      simp only [runV, List.getElem_map, List.getElem_range]
      by_cases h3 : i < k
      · rw [if_pos h3, if_pos (by omega)]
      · rw [if_neg h3, if_neg (by omega)]
theorem runV_at {ps : List ByteArray} {next : List (List Int)} {out : List Nat} {es : List (List ByteArray)} {k : Nat} (hk : k < es.length) : (runV ps next out es es.length)[k]? = some (out.getD (goN ps next (es.take (k + 1))) 0) := by
  simp [runV, hk]
theorem make_vdsR (w : World) (k : Nat) (hk : k ≤ 10000000000000) : Sem.run Try.prog (Instr.makeSlice 25 (.int .i64 (k : Nat)) (.int .i64 (k : Nat))) w = .ok (.slice (some ⟨w.heap.size, 0, none⟩) k k) (w.alloc (.cells (vdC (List.replicate k 0)).toArray 37)) := by
  have hinf : (Try.prog.info? 37).map (fun i => (i.zero, i.size, i.bytes)) = some (some (.int .u8 0), 1, 1) := by kernel_rfl
  obtain ⟨i, hi, hz, hs, hb⟩ := info_parts hinf
  have h := run_make (P := Try.prog) w 25 37 i _ Try.underlying25 hi hz .i64 .i64 (k : Int) (k : Int) (by omega) (by omega) (by rw [hb]; omega) (by omega)
  have e : madeCells (Value.cells (.int .u8 0)) (k * 1) = (vdC (List.replicate k 0)).toArray := by
    rw [Nat.mul_one]
    apply Array.ext'
    simp only [madeCells, Value.cells, List.size_toArray, List.length_cons, List.length_nil, Array.toList_map, Array.toList_range, vdC]
    apply List.ext_getElem
    · simp
    · intro i h1 h2
      simp [Nat.mod_one]
  rw [h, hs, Int.toNat_natCast, e]
theorem vdC_set (xs : List Nat) (k x : Nat) : (vdC xs).set k (.int .u8 (x : Nat)) = vdC (xs.set k x) := by simp [vdC, List.map_set]
/-- Event's names may be none, at whatever place. -/
theorem letterE_any (lo N R : Nat) (ps : List ByteArray) (next : List (List Int)) (out : List Nat) (fin : List Bool) (s : Nat) (uv : Value) (us : List ByteArray) (w : World) (h : RunS w lo N R ps next out fin s) (h8 : ps.length ≤ 8) (hu : StrsE w uv us) :
    Calls Try.prog 13 #[.pointer (some ⟨R, 0, none⟩), uv] w fun e w' => e = .returned (.int .u16 (letterN ps us : Nat)) ∧ w' = w := by
  rcases hu.cases with ⟨rfl, ad, c, rfl⟩ | hu
  · clear h h8 hu
    go_enter Try.func13, Try.ntmps13
    go_wp2_with fail
    refine wp_loop_rounds 1 ?_
    rw [rounds_succ]
    go_wp2
    go_ret
    exact ⟨rfl, rfl⟩
  · exact letter_any lo N R ps next out fin s uv us w h h8 hu
theorem StrsE.form {W : World} {v : Value} {xs : List ByteArray} (h : StrsE W v xs) : ∃ ad c, v = .slice ad xs.length c := by
  rcases h.lie with ⟨⟨ad, c, rfl⟩, rfl⟩ | ⟨b, o, c, rfl, _⟩
  · exact ⟨ad, c, rfl⟩
  · exact ⟨_, c, rfl⟩
set_option maxHeartbeats 2000000 in
set_option maxRecDepth 10000 in
theorem eventE_any (lo N R : Nat) (ps : List ByteArray) (next : List (List Int)) (out : List Nat) (fin : List Bool) (s : Nat) (uv : Value) (us : List ByteArray) (w : World) (h : RunS w lo N R ps next out fin s) (hm : MachR ps next out) (hu : StrsE w uv us) :
    Calls Try.prog 11 #[.pointer (some ⟨R, 0, none⟩), uv] w fun e w' => e = .returned (.int .u8 (out.getD (stepN ps next s (letterN ps us)) 0 : Nat)) ∧ Hid (RunS w' lo N R ps next out fin (stepN ps next s (letterN ps us))) ∧ Hid (Kept [R] w w') := by
  obtain ⟨y, hy⟩ : ∃ y, letterN ps us = y := ⟨_, rfl⟩
  have HL : Hid (Calls Try.prog 13 #[.pointer (some ⟨R, 0, none⟩), uv] w fun e w' => e = .returned (.int .u16 (y : Nat)) ∧ w' = w) := by rw [← hy]; exact letterE_any lo N R ps next out fin s uv us w h hm.few hu
  have HS : Hid (Calls Try.prog 12 #[.pointer (some ⟨R, 0, none⟩), .int .u16 (y : Nat)] w fun e w' => e = .returned (.int .u8 (out.getD (stepN ps next s y) 0 : Nat)) ∧ Hid (RunS w' lo N R ps next out fin (stepN ps next s y)) ∧ Hid (Kept [R] w w')) := step_any lo N R ps next out fin s y w h hm (by have := letterN_lt hm.few us; omega)
  obtain ⟨ad, c, rfl⟩ := hu.form
  rw [hy]
  obtain ⟨s', hs'⟩ : ∃ s', stepN ps next s y = s' := ⟨_, rfl⟩
  rw [hs'] at HS ⊢
  clear h hm hu hy hs'
  go_enter Try.func11, Try.ntmps11
  go_wp2_with (first
    | (go_at_call 13; refine HL.out.mono ?_; rintro e w1 ⟨rfl, hw1⟩; rw [hw1]; clear hw1)
    | (go_at_call 12; refine HS.out.mono ?_; rintro e w2 ⟨rfl, HR2, HK2⟩))
  go_ret
  exact ⟨rfl, HR2, HK2⟩
/-- What Run leaves. -/
def RunEnd (ps : List ByteArray) (next : List (List Int)) (out : List Nat) (es : List (List ByteArray)) (b : Bool) (w : World) (e : Ending) (w' : World) : Prop :=
  Hid (Kept [] w w') ∧ (b = true → ∃ B, e = .returned (.tuple #[.slice (some ⟨B, 0, none⟩) es.length es.length, .int .i64 0]) ∧ Hid (w'.heap[B]? = some (.cells (vdC (runV ps next out es es.length)).toArray 37 (0, 0))) ∧ Hid (w.heap.size ≤ B)) ∧ (b = false → e = .returned (.tuple #[.slice none 0 0, .int .i64 170]))
set_option maxHeartbeats 4000000 in
set_option maxRecDepth 10000 in
theorem runR_any (pv nv ov ev : Value) (ps : List ByteArray) (next : List (List Int)) (out : List Nat) (es : List (List ByteArray)) (w : World) (hp : Strs w pv ps) (hn : Rowss w nv next) (ho : Vds w ov out) (he : Evs w ev es) (hf : out.length ≤ 1000000) (b : Bool) (hb : rightM ps next out = b) :
    Calls Try.prog 9 #[.agg #[pv, nv, ov], ev] w (RunEnd ps next out es b w) := by
  unfold RunEnd
  obtain ⟨pa, pc, rfl, _, _⟩ := hp.form
  obtain ⟨na, nc, rfl, _, _⟩ := hn.form13
  obtain ⟨oa, oc, rfl⟩ := ho.form
  obtain ⟨V, hV⟩ : ∃ V, w.alloc (.cells #[.slice pa ps.length pc, .slice na next.length nc, .slice oa out.length oc] 27) = V := ⟨_, rfl⟩
  have kV : Kept [] w V := by rw [← hV]; exact (Kept.refl [] w).alloc _
  have hB : Thr 27 V w.heap.size (.slice pa ps.length pc) (.slice na next.length nc) (.slice oa out.length oc) := by rw [← hV]; exact al0 _ _
  have HV : Hid (_ = V) := hV
  have HKV : Hid (Kept [] w V) := kV
  have HNW : Hid (Calls Try.prog 10 #[.agg #[.slice pa ps.length pc, .slice na next.length nc, .slice oa out.length oc]] V (NewEnd ps next out b V)) := new_any _ _ _ ps next out V (hp.kept kV) (hn.kept kV) (ho.kept kV) hf b hb
  obtain ⟨c0, c1, c2⟩ := hB.cells
  have HEV : Hid (∀ W, Kept [] w W → Evs W ev es) := fun W k => he.kept k
  have hef := he.few
  obtain ⟨ea, ec, rfl⟩ := he.form
  cases b with
  | false =>
    clear hp hn ho he hV kV hB hb hf
    go_enter Try.func9, Try.ntmps9
    go_upto_region 1 with fail
    rw [HV.out]
    clear HV
    go_wp2_with (go_at_call 10; refine Calls.mono HNW.out ?_; rintro e W1 ⟨HK1, _, hfa⟩; have e9 := hfa rfl; subst e9; clear hfa c0 c1 c2)
    go_ret2
    exact ⟨keptB HKV.out HK1.out, (fun h => by cases h), fun _ => rfl⟩
  | true =>
    have HM : Hid (MachR ps next out) := machR_of hb hf
    clear hp hn ho he hV kV hB hb hf
    go_enter Try.func9, Try.ntmps9
    go_upto_region 1 with fail
    rw [HV.out]
    clear HV
    go_upto_region 4 with (go_at_call 10; refine Calls.mono HNW.out ?_; rintro e W1 ⟨HK1, htr, _⟩; obtain ⟨R, lo, N, fin, rfl, HR, HLO⟩ := htr rfl; clear htr c0 c1 c2)
    have hmk := make_vdsR W1 es.length (by omega)
    obtain ⟨U, hU⟩ : ∃ U, W1.alloc (.cells (vdC (List.replicate es.length 0)).toArray 37) = U := ⟨_, rfl⟩
    have kU : Kept [] W1 U := by rw [← hU]; exact (Kept.refl [] W1).alloc _
    have HB0 : Hid (U.heap[W1.heap.size]? = some (.cells (vdC (runV ps next out es 0)).toArray 37 (0, 0))) := by show U.heap[_]? = _; rw [← hU, runV_zero]; exact al0 W1 _
    have HKU : Hid (Kept [] w U) := keptB (keptB HKV.out HK1.out) kU
    have HRU : Hid (RunS U lo N R ps next out fin (goN ps next (es.take 0))) := HR.out.kept kU
    rw [hU] at hmk
    obtain ⟨B, hBq⟩ : ∃ B, W1.heap.size = B := ⟨_, rfl⟩
    have HBB : Hid (w.heap.size ≤ B ∧ R ≠ B ∧ N ≤ B ∧ w.heap.size ≤ R ∧ lo ≤ R) := by
      have h1 := HLO.out
      have h2 := HKV.out.size
      have h3 := HK1.out.size
      have h4 := HR.out.high
      obtain ⟨T, MB, FR, nxv, outv, D, fl, _, h5, _⟩ := HR.out.ex
      have h6 := h5.low
      have h7 := h5.high
      refine ⟨by omega, by omega, by omega, by omega, by omega⟩
    rw [hBq] at hmk HB0
    clear hU kU HR HLO hBq HNW HKV HK1
    have z0 : (0 : Int) ≤ (es.length : Int) := by omega
    go_wp2_with fail
    clear hmk
    go_loopw [24] (fun v wr => ∃ k : Nat, v = .int .i64 (k : Nat) ∧ k ≤ es.length ∧ Hid (RunS wr lo N R ps next out fin (goN ps next (es.take k))) ∧ Hid (wr.heap[B]? = some (.cells (vdC (runV ps next out es k)).toArray 37 (0, 0))) ∧ Hid (Kept [] w wr)) (fun v _ => es.length - (intOf v).toNat)
    case atStart => exact ⟨0, rfl, Nat.zero_le _, HRU, HB0, HKU⟩
    case round =>
      obtain ⟨k, rfl, hk, HR, HB, HK⟩ := hrel
      by_cases hlt : k < es.length
      · have q0 : (k : Int) < (es.length : Int) := by omega
        have q1 : (0 : Int) ≤ (k : Int) := by omega
        rcases (HEV.out wr HK.out).lie with ⟨_, he⟩ | ⟨b, o, c, hpe, _, _, hcell⟩
        · rw [he] at hlt; simp at hlt
        · cases hpe
          obtain ⟨u, hu, hS, _⟩ := hcell k hlt
          have hx? : es[k]? = some es[k] := List.getElem?_eq_getElem hlt
          obtain ⟨x, hx⟩ : ∃ x, es[k] = x := ⟨_, rfl⟩
          rw [hx] at hS hx?
          have HE : Hid (Calls Try.prog 11 #[.pointer (some ⟨R, 0, none⟩), u] wr fun e w' => e = .returned (.int .u8 (out.getD (goN ps next (es.take (k + 1))) 0 : Nat)) ∧ Hid (RunS w' lo N R ps next out fin (goN ps next (es.take (k + 1)))) ∧ Hid (Kept [R] wr w')) := by
            rw [goN_take hx?]
            exact eventE_any lo N R ps next out fin _ u x wr HR.out HM.out hS
          obtain ⟨v, hv⟩ : ∃ v, out.getD (goN ps next (es.take (k + 1))) 0 = v := ⟨_, rfl⟩
          rw [hv] at HE
          have HNV : Hid ((runV ps next out es k).set k v = runV ps next out es (k + 1)) := by rw [← hv]; exact runV_set
          clear hcell hS hx hx? hv
          go_wp2_with (go_at_call 11; refine HE.out.mono ?_; rintro e W5 ⟨rfl, HR5, HK5⟩; have HB5 : Hid (W5.heap[B]? = some (.cells (vdC (runV ps next out es k)).toArray 37 (0, 0))) := HK5.out.at HB.out (by have := HBB.out.2.1; simpa using fun e => this e.symm); have y0 : W5.cell? ⟨B, k, none⟩ = some (.int .u8 0) := (by rw [cell_of HB5.out]; simp [vdC, runV, hlt]); have y1 : W5.frozen? ⟨B, k, none⟩ = false := free_of HB5.out k)
          go_roundw
          case rel =>
            have ks : Kept [B] W5 (W5.setCell ⟨B, k, none⟩ (.int .u8 (v : Nat))) := (Kept.refl [B] W5).setCell (.inl (by simp)) _
            refine ⟨k + 1, by go_num, by omega, HR5.out.keptF ks (by have := HBB.out.2.1; simpa using this) (fun x hx => by have := HBB.out.2.2.1; simp at hx; omega), ?_, (HK.out.trans HK5.out (by simp) (fun x hx => .inr (by have := HBB.out.2.2.2.1; simp at hx; omega))).setCell (.inr HBB.out.1) _⟩
            have h9 := bx_set (i := k) HB5.out (.int .u8 (v : Nat))
            have e9 : (vdC (runV ps next out es k)).toArray.setIfInBounds k (.int .u8 (v : Nat)) = (vdC (runV ps next out es (k + 1))).toArray := by
              apply Array.ext'
              rw [Array.toList_setIfInBounds, vdC_set, HNV.out]
            rw [e9] at h9
            exact h9
          case measure => simp [intOf]; omega
      · obtain rfl : k = es.length := by omega
        have q0 : ¬ ((es.length : Int) < (es.length : Int)) := by omega
        go_wp2
        go_ret2
        exact ⟨HK, B, rfl, HB, HBB.out.1⟩
end Go.Proofs.Ytcojlcbljhnbgaa
