/- The document's runner (augurref17): Run. -/
import Derived.Test.YtbbfajbnklgncaaRuDocN
namespace Go.Proofs.Ytbbfajbnklgncaa
open Go.RowKit Go.Shelf Go.Maps

/-- The verdicts behind each of the first k events. -/
def runP (ps : List ByteArray) (next : List (List Int)) (out : List Nat) (es : List (List ByteArray)) (k : Nat) : List Nat := (List.range k).map fun i => out.getD (goN ps next (es.take (i + 1))) 0
theorem runP_len {ps : List ByteArray} {next : List (List Int)} {out : List Nat} {es : List (List ByteArray)} {k : Nat} : (runP ps next out es k).length = k := by simp [runP]
theorem runP_succ {ps : List ByteArray} {next : List (List Int)} {out : List Nat} {es : List (List ByteArray)} {k : Nat} : runP ps next out es (k + 1) = runP ps next out es k ++ [out.getD (goN ps next (es.take (k + 1))) 0] := by
  simp [runP, List.range_succ]
theorem runP_all {ps : List ByteArray} {next : List (List Int)} {out : List Nat} {es : List (List ByteArray)} : runP ps next out es es.length = runV ps next out es es.length := by
  unfold runP runV
  apply List.map_congr_left
  intro i hi
  rw [if_pos (by simpa using hi)]
theorem own_lowR {W : World} {base base' : Nat} {e : TypeId} {size : Nat} {v : Value} {n : Nat} {xs : List Value} (h : W.ownsRow base e size v n xs) (hb : base' ≤ base) : W.ownsRow base' e size v n xs := by
  refine ⟨h.1, ?_⟩
  rcases h.2 with h2 | ⟨g, cap, cur, e, h2, h3⟩
  · exact .inl h2
  · exact .inr ⟨g, cap, cur, e, by omega, h3⟩
theorem appendVd_step {W : World} {base : Nat} {v : Value} {xs : List Nat} (x : Nat) (hown : W.ownsRow base 60 1 v xs.length (vdC xs)) (hb : base ≤ W.heap.size) (hl : xs.length ≤ 1000000000000) :
    ∃ v' W2, (∀ ty, (Builtin.append_ #[24, 24] ty #[v, .slice (some ⟨W.heap.size, 0, none⟩) 1 1]).run Try.prog (W.alloc (.cells #[.int .u8 (x : Nat)] 60)) = .ok v' W2) ∧ W2.ownsRow base 60 1 v' (xs ++ [x]).length (vdC (xs ++ [x])) ∧ (W.alloc (.cells #[.int .u8 (x : Nat)] 60)).grownBy W2 v.ownBlock := by
  obtain ⟨i0, hi, hz0, hz1, hz2⟩ := info_parts infVdsN
  have hbA : (W.alloc (.cells #[.int .u8 (x : Nat)] 60)).heap[W.heap.size]? = some (.cells #[.int .u8 (x : Nat)] 60 (0, 0)) := al0 _ _
  have ho := bx_kept hown ((Kept.refl [] W).alloc (.cells #[.int .u8 (x : Nat)] 60)) (by simp)
  obtain ⟨gr, cap, w2, g1, g2, g3, g4, g5⟩ := run_append_lies (P := Try.prog) (W.alloc (.cells #[.int .u8 (x : Nat)] 60)) 24 0 base 60 i0 (.int .u8 0) 1 1 Try.underlying24 hi hz0 hz1 hz2 rfl (by decide) v xs.length (vdC xs) ho ⟨W.heap.size, 0, none⟩ 1 1 [.int .u8 (x : Nat)] rfl (fun j u hu => by
      rw [addr_add, Nat.zero_add, cell_of hbA]
      simpa using hu) (by intro u hu; simp at hu; subst hu; rfl) (by decide) (by unfold maxLen; omega) (by omega) (by rw [World.size_alloc]; omega) _ rfl
  refine ⟨_, w2, fun ty => g1, ?_, g3⟩
  have e1 : (xs ++ [x]).length = xs.length + 1 := by simp
  have e2 : vdC (xs ++ [x]) = vdC xs ++ [.int .u8 (x : Nat)] := by simp [vdC]
  rw [e1, e2]
  exact g2
theorem DocS.grown {Wb W W' : World} {Q s : Nat} {ps : List ByteArray} {next : List (List Int)} {out : List Nat} {row : Option Nat} (h : DocS Wb W Q ps next out s) (hg : W.grownBy W' row) (hr : ∀ g, row = some g → Wb.heap.size ≤ g) (hQ : Q < Wb.heap.size) : DocS Wb W' Q ps next out s := by
  obtain ⟨pv, nv, ov, h1, h2⟩ := h.ex
  have hq : W'.heap[Q]? = W.heap[Q]? := hg.block Q (lt_of h1) (fun e => by have := hr Q e.symm; omega)
  exact ⟨⟨pv, nv, ov, by rw [hq]; exact h1, h2⟩, h.kept.grown hg (fun k e => .inr (hr k e)), h.lt⟩
def DRunEnd (ps : List ByteArray) (next : List (List Int)) (out : List Nat) (es : List (List ByteArray)) (b : Bool) (w : World) (e : Ending) (w' : World) : Prop :=
  Hid (Kept [] w w') ∧ (b = true → ∃ v, e = .returned (.tuple #[v, .int .i64 0]) ∧ Hid (w'.ownsRow w.heap.size 60 1 v es.length (vdC (runV ps next out es es.length)))) ∧ (b = false → e = .returned (.tuple #[.slice none 0 0, .int .i64 170]))
end Go.Proofs.Ytbbfajbnklgncaa
