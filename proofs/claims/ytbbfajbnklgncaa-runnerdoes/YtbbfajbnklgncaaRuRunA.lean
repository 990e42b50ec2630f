/- runner.Run of any machine and events. -/
import Derived.Test.YtbbfajbnklgncaaRuCalls
import Derived.Test.YtbbfajbnklgncaaMoOpen
namespace Go.Proofs.Ytbbfajbnklgncaa
open Go.RowKit Go.Shelf Go.Maps

/-- The state behind events. -/
def goN (ps : List ByteArray) (next : List (List Int)) (es : List (List ByteArray)) : Nat := es.foldl (fun s e => stepN ps next s (letterN ps e)) 0
theorem goN_take {ps : List ByteArray} {next : List (List Int)} {es : List (List ByteArray)} {k : Nat} {x : List ByteArray} (h : es[k]? = some x) : goN ps next (es.take (k + 1)) = stepN ps next (goN ps next (es.take k)) (letterN ps x) := by
  unfold goN
  rw [List.take_add_one, h]
  simp
/-- The verdicts behind each of the first k events; noughts behind them. -/
def runV (ps : List ByteArray) (next : List (List Int)) (out : List Nat) (es : List (List ByteArray)) (k : Nat) : List Nat := (List.range es.length).map fun i => if i < k then out.getD (goN ps next (es.take (i + 1))) 0 else 0
theorem runV_len {ps : List ByteArray} {next : List (List Int)} {out : List Nat} {es : List (List ByteArray)} {k : Nat} : (runV ps next out es k).length = es.length := by simp [runV]
theorem runV_zero {ps : List ByteArray} {next : List (List Int)} {out : List Nat} {es : List (List ByteArray)} : runV ps next out es 0 = List.replicate es.length 0 := by
  apply List.ext_getElem
  · simp [runV]
  · intro i h1 h2; simp [runV]
theorem runV_set {ps : List ByteArray} {next : List (List Int)} {out : List Nat} {es : List (List ByteArray)} {k : Nat} : (runV ps next out es k).set k (out.getD (goN ps next (es.take (k + 1))) 0) = runV ps next out es (k + 1) := by
  apply List.ext_getElem
  · simp [runV]
  · intro i h1 h2
    have hi : i < es.length := by simpa [runV] using h2
    rw [List.getElem_set]
    by_cases e : k = i
    · subst e
      simp [runV]
    · rw [if_neg e]
      simp only [runV, List.getElem_map, List.getElem_range]
      by_cases h3 : i < k
      · rw [if_pos h3, if_pos (by omega)]
      · rw [if_neg h3, if_neg (by omega)]
theorem runV_at {ps : List ByteArray} {next : List (List Int)} {out : List Nat} {es : List (List ByteArray)} {k : Nat} (hk : k < es.length) : (runV ps next out es es.length)[k]? = some (out.getD (goN ps next (es.take (k + 1))) 0) := by
  simp [runV, hk]
theorem make_vdsR (w : World) (k : Nat) (hk : k ≤ 10000000000000) : Sem.run Try.prog (Instr.makeSlice 24 (.int .i64 (k : Nat)) (.int .i64 (k : Nat))) w = .ok (.slice (some ⟨w.heap.size, 0, none⟩) k k) (w.alloc (.cells (vdC (List.replicate k 0)).toArray 60)) := by
  have hinf : (Try.prog.info? 60).map (fun i => (i.zero, i.size, i.bytes)) = some (some (.int .u8 0), 1, 1) := by kernel_rfl
  obtain ⟨i, hi, hz, hs, hb⟩ := info_parts hinf
  have h := run_make (P := Try.prog) w 24 60 i _ Try.underlying24 hi hz .i64 .i64 (k : Int) (k : Int) (by omega) (by omega) (by rw [hb]; omega) (by omega)
  have e : madeCells (Value.cells (.int .u8 0)) (k * 1) = (vdC (List.replicate k 0)).toArray := by
    rw [Nat.mul_one]
    apply Array.ext'
    simp only [madeCells, Value.cells, List.size_toArray, List.length_cons, List.length_nil, Array.toList_map, Array.toList_range, vdC]
    apply List.ext_getElem
    · simp
    · intro i h1 h2
      simp [Nat.mod_one]
  rw [h, hs, Int.toNat_natCast, e]
theorem vdC_set (xs : List Nat) (k x : Nat) : (vdC xs).set k (.int .u8 (x : Nat)) = vdC (xs.set k x) := by simp [vdC, List.map_set]
/-- Event's names may be none, at whatever place. -/
theorem letterE_any (lo N R : Nat) (ps : List ByteArray) (next : List (List Int)) (out : List Nat) (fin : List Bool) (s : Nat) (uv : Value) (us : List ByteArray) (w : World) (h : RunS w lo N R ps next out fin s) (h8 : ps.length ≤ 8) (hu : StrsE w uv us) :
    Calls Try.prog 39 #[.pointer (some ⟨R, 0, none⟩), uv] w fun e w' => e = .returned (.int .u16 (letterN ps us : Nat)) ∧ w' = w := by
  rcases hu.cases with ⟨rfl, ad, c, rfl⟩ | hu
  · clear h h8 hu
    go_enter Try.func39, Try.ntmps39
    go_wp2_with fail
    refine wp_loop_rounds 1 ?_
    rw [rounds_succ]
    go_wp2
    go_ret
    exact ⟨rfl, rfl⟩
  · exact letter_any lo N R ps next out fin s uv us w h h8 hu
theorem StrsE.form {W : World} {v : Value} {xs : List ByteArray} (h : StrsE W v xs) : ∃ ad c, v = .slice ad xs.length c := by
  rcases h.lie with ⟨⟨ad, c, rfl⟩, rfl⟩ | ⟨b, o, c, rfl, _⟩
  · exact ⟨ad, c, rfl⟩
  · exact ⟨_, c, rfl⟩
set_option maxHeartbeats 2000000 in
set_option maxRecDepth 10000 in
theorem eventE_any (lo N R : Nat) (ps : List ByteArray) (next : List (List Int)) (out : List Nat) (fin : List Bool) (s : Nat) (uv : Value) (us : List ByteArray) (w : World) (h : RunS w lo N R ps next out fin s) (hm : MachR ps next out) (hu : StrsE w uv us) :
    Calls Try.prog 22 #[.pointer (some ⟨R, 0, none⟩), uv] w fun e w' => e = .returned (.int .u8 (out.getD (stepN ps next s (letterN ps us)) 0 : Nat)) ∧ Hid (RunS w' lo N R ps next out fin (stepN ps next s (letterN ps us))) ∧ Hid (Kept [R] w w') := by
  obtain ⟨y, hy⟩ : ∃ y, letterN ps us = y := ⟨_, rfl⟩
  have HL : Hid (Calls Try.prog 39 #[.pointer (some ⟨R, 0, none⟩), uv] w fun e w' => e = .returned (.int .u16 (y : Nat)) ∧ w' = w) := by rw [← hy]; exact letterE_any lo N R ps next out fin s uv us w h hm.few hu
  have HS : Hid (Calls Try.prog 37 #[.pointer (some ⟨R, 0, none⟩), .int .u16 (y : Nat)] w fun e w' => e = .returned (.int .u8 (out.getD (stepN ps next s y) 0 : Nat)) ∧ Hid (RunS w' lo N R ps next out fin (stepN ps next s y)) ∧ Hid (Kept [R] w w')) := step_any lo N R ps next out fin s y w h hm (by have := letterN_lt hm.few us; omega)
  obtain ⟨ad, c, rfl⟩ := hu.form
  rw [hy]
  obtain ⟨s', hs'⟩ : ∃ s', stepN ps next s y = s' := ⟨_, rfl⟩
  rw [hs'] at HS ⊢
  clear h hm hu hy hs'
  go_enter Try.func22, Try.ntmps22
  go_wp2_with (first
    | (go_at_call 39; refine HL.out.mono ?_; rintro e w1 ⟨rfl, hw1⟩; rw [hw1]; clear hw1)
    | (go_at_call 37; refine HS.out.mono ?_; rintro e w2 ⟨rfl, HR2, HK2⟩))
  go_ret
  exact ⟨rfl, HR2, HK2⟩
/-- What Run leaves. -/
def RunEnd (ps : List ByteArray) (next : List (List Int)) (out : List Nat) (es : List (List ByteArray)) (b : Bool) (w : World) (e : Ending) (w' : World) : Prop :=
  Hid (Kept [] w w') ∧ (b = true → ∃ B, e = .returned (.tuple #[.slice (some ⟨B, 0, none⟩) es.length es.length, .int .i64 0]) ∧ Hid (w'.heap[B]? = some (.cells (vdC (runV ps next out es es.length)).toArray 60 (0, 0))) ∧ Hid (w.heap.size ≤ B)) ∧ (b = false → e = .returned (.tuple #[.slice none 0 0, .int .i64 170]))
end Go.Proofs.Ytbbfajbnklgncaa
