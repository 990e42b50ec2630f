/- runner.Run and the document's Run, in one form whatever the machine. -/
import Derived.Test.YtbbfajbnklgncaaGreatRuEvL
import Derived.Test.YtbbfajbnklgncaaGreatOwnBookV
import Derived.Test.YtbbfajbnklgncaaGreatHG
namespace Go.Proofs.YtbbfajbnklgncaaGreat
open Go.RowKit Go.Shelf Go.Maps

/-- What Run answers. -/
def runL (ps : List ByteArray) (next : List (List Int)) (out : List Nat) (es : List (List ByteArray)) : List Nat := if rightM ps next out then runV ps next out es es.length else []
def runC (ps : List ByteArray) (next : List (List Int)) (out : List Nat) : Int := if rightM ps next out then 0 else 170
theorem runL_len {ps : List ByteArray} {next : List (List Int)} {out : List Nat} {es : List (List ByteArray)} : (runL ps next out es).length ≤ es.length := by
  unfold runL
  split
  · rw [runV_len]; exact Nat.le_refl _
  · simp
def RunsTo (w : World) (l : List Nat) (c : Int) (e : Ending) (w' : World) : Prop := ∃ v, e = .returned (.tuple #[v, .int .i64 c]) ∧ Hid (w'.ownsRow w.heap.size 38 1 v l.length (vdC l)) ∧ Hid (Kept [] w w')
theorem runU_any (pv nv ov ev : Value) (ps : List ByteArray) (next : List (List Int)) (out : List Nat) (es : List (List ByteArray)) (w : World) (hp : Strs w pv ps) (hn : Rowss w nv next) (ho : Vds w ov out) (he : Evs w ev es) (hf : out.length ≤ 1000000) :
    Calls Tryz.prog 9 #[.agg #[pv, nv, ov], ev] w (RunsTo w (runL ps next out es) (runC ps next out)) := by
  refine (runR_any pv nv ov ev ps next out es w hp hn ho he hf _ rfl).mono ?_
  rintro e w' ⟨hk, ht, hfa⟩
  unfold RunsTo runL runC
  cases hb : rightM ps next out with
  | true =>
    obtain ⟨B, rfl, hB, hl⟩ := ht hb
    have hlen := runV_len (ps := ps) (next := next) (out := out) (es := es) (k := es.length)
    have hef := he.few
    refine ⟨_, rfl, ⟨?_, .inr ⟨B, es.length, _, ?_, hl.out, hB.out, ?_, ?_, ?_, ?_⟩⟩, hk⟩
    · simp [vdC]
    · rw [if_pos rfl, hlen]
    · rw [if_pos rfl, hlen]; omega
    · unfold maxLen; omega
    · simp [vdC, hlen]
    · simp only [if_true]
      rw [hlen, List.take_of_length_le (by simp [vdC, hlen])]
  | false =>
    obtain rfl := hfa hb
    exact ⟨_, rfl, ⟨rfl, .inl ⟨rfl, rfl⟩⟩, hk⟩
theorem refRunU_any (pv nv ov ev : Value) (ps : List ByteArray) (next : List (List Int)) (out : List Nat) (es : List (List ByteArray)) (w : World) (hp : Strs w pv ps) (hn : Rowss w nv next) (ho : Vds w ov out) (he : Evs w ev es) (hf : out.length ≤ 1000000) (hle : es.length ≤ 100000000000) :
    Calls Tryz.prog 13 #[.agg #[pv, nv, ov], ev] w (RunsTo w (runL ps next out es) (runC ps next out)) := by
  refine (refRun_any pv nv ov ev ps next out es w hp hn ho he hf hle _ rfl).mono ?_
  rintro e w' ⟨hk, ht, hfa⟩
  unfold RunsTo runL runC
  cases hb : rightM ps next out with
  | true =>
    obtain ⟨v, rfl, hv⟩ := ht hb
    refine ⟨v, rfl, ?_, hk⟩
    show World.ownsRow _ _ _ _ _ _ _
    rw [if_pos rfl, runV_len]
    exact hv.out
  | false =>
    obtain rfl := hfa hb
    exact ⟨_, rfl, ⟨rfl, .inl ⟨rfl, rfl⟩⟩, hk⟩
/-- A row of verdicts, as the law's comparison reads it. -/
theorem own_srcV {W : World} {base : Nat} {v : Value} {l : List Nat} (h : W.ownsRow base 38 1 v l.length (vdC l)) : Src 1 W v l.length (cellsV l) := by
  have e : cellsV l = vdC l := rfl
  rw [e]
  refine ⟨by simp [vdC], by intro u hu; obtain ⟨x, _, rfl⟩ := List.mem_map.1 hu; rfl, ?_⟩
  rcases own_lie h with ⟨e1, e2⟩ | ⟨g, c, e1, e2, e3, e4⟩
  · exact .inl ⟨e1, e2⟩
  · refine .inr ⟨⟨g, 0, none⟩, c, e1, e2, e3, fun _ => rfl, fun hz => by rw [List.length_eq_zero_iff.1 hz]; rfl, fun j u hu => ?_⟩
    rw [addr_add]
    exact e4 j u hu
/-- The list when an owner writes it from its end: what the law's loop leaves behind k rounds. -/
def swapV (xs : List Nat) : Nat → List Nat
  | 0 => xs
  | k + 1 => (swapV xs k).set k ((swapV xs k).getD (xs.length - 1 - k) 0)
theorem swapV_len (xs : List Nat) : ∀ k, (swapV xs k).length = xs.length
  | 0 => rfl
  | k + 1 => by unfold swapV; rw [List.length_set, swapV_len xs k]
end Go.Proofs.YtbbfajbnklgncaaGreat
