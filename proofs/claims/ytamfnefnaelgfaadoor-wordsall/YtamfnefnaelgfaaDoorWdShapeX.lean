/- words.ofShape. -/
import Derived.Test.YtamfnefnaelgfaaDoorWdGrowAX
namespace Go.Proofs.YtamfnefnaelgfaaDoor
open Go.RowKit Go.Shelf
attribute [local go_sem ↓] Go.wp_at_zero Go.wp_at_succ
variable {l stem places below N : Nat} {T : Nat → Prop} {L : List Wd} {J Jx : (Nat → Prop) → List Nw → World → Prop}

theorem make_cap (w : World) (k : Nat) (hk : k ≤ 65536) : Sem.run Tryd.prog (Instr.makeSlice 45 (.int .i64 0) (.int .i64 k)) w = .ok (.slice (some ⟨w.heap.size, 0, none⟩) 0 k) (w.alloc (.cells (Array.replicate k (.int .u16 0)) 51)) := by
  obtain ⟨i0, hi, hz0, hz1, hz2⟩ := info_parts Tryd.infoU16
  have H := run_make (P := Tryd.prog) w 45 51 i0 _ Tryd.underlying45 hi hz0 .i64 .i64 0 k (by omega) (by omega) (by rw [hz2]; omega) (by omega)
  rw [H, hz1]
  have e : madeCells (Value.cells (.int .u16 0)) (k * 1) = Array.replicate k (Value.int .u16 0) := by
    apply Array.toList_inj.1
    rw [show Value.cells (.int .u16 0) = #[Value.int .u16 0] from rfl, toList_madeCells_one]; simp
  simp only [Int.toNat_natCast]
  rw [e]
  rfl
/-- What ofShape owes. -/
def ShapeEnds (T : Nat → Prop) (J Jx : (Nat → Prop) → List Nw → World → Prop) (lst : List Wd) (pre : List Nw) (X : Nat → Prop) (W : World) (e : Ending) (W' : World) : Prop :=
  (e = .returned (.bool true) ∧ ∃ X' xs, (∀ k, X k → X' k) ∧ KpX T W W' ∧ J X' (pre ++ xs) W' ∧ (∀ k, X' k → k < W'.heap.size) ∧ xs.map Nw.q = lst) ∨
  (e = .returned (.bool false) ∧ ∃ X' xs, Jx X' (pre ++ xs) W' ∧ xs.map Nw.q <+: lst)
/-- The closure's seven blocks. -/
def fvOf (n : Nat) : Value := .func (.func 54) #[] #[.pointer (some ⟨n + 1 + 1 + 1 + 1 + 1, 0, none⟩), .pointer (some ⟨n + 1, 0, none⟩), .pointer (some ⟨n, 0, none⟩), .pointer (some ⟨n + 1 + 1 + 1, 0, none⟩), .pointer (some ⟨n + 1 + 1, 0, none⟩), .pointer (some ⟨n + 1 + 1 + 1 + 1 + 1 + 1, 0, none⟩)]
def worldOf (W : World) (l stem places below : Nat) : World := ((((((W.alloc (.cells #[.int .i64 (stem : Nat)] 3)).alloc (.cells #[.int .i64 (places : Nat)] 3)).alloc (.cells #[.int .u16 (below : Nat)] 51)).alloc (.cells #[.func (.yield l) #[] #[]] 66)).alloc (.cells (Array.replicate places (.int .u16 0)) 51)).alloc (.cells #[.slice (some ⟨W.heap.size + 1 + 1 + 1 + 1, 0, none⟩) 0 places] 45)).alloc (.cells #[fvOf W.heap.size] 22)
theorem al6 (w : World) (a b c d e f g : Obj) : (((((((w.alloc a).alloc b).alloc c).alloc d).alloc e).alloc f).alloc g).heap[w.heap.size + 1 + 1 + 1 + 1 + 1 + 1]? = some g := by have := al5 (w.alloc a) b c d e f g; rwa [World.size_alloc] at this
theorem worldOf_kept (W : World) (l stem places below : Nat) : Kept [] W (worldOf W l stem places below) := (((((((Kept.refl [] W).alloc _).alloc _).alloc _).alloc _).alloc _).alloc _).alloc _
theorem worldOf_size (W : World) (l stem places below : Nat) : (worldOf W l stem places below).heap.size = W.heap.size + 7 := by unfold worldOf; simp
theorem worldOf_at (W : World) (l stem places below : Nat) (X : Nat → Prop) (hpl : places ≤ 1000) :
    GrowAt l (W.heap.size + 1 + 1 + 1 + 1 + 1) (W.heap.size + 1) W.heap.size (W.heap.size + 1 + 1 + 1) (W.heap.size + 1 + 1) (W.heap.size + 1 + 1 + 1 + 1 + 1 + 1) W.heap.size stem places below (fun k => X k ∨ Between W (worldOf W l stem places below) k) [] (worldOf W l stem places below) := by
  have hz := worldOf_size W l stem places below
  have hb : ∀ i, i < 7 → X (W.heap.size + i) ∨ Between W (worldOf W l stem places below) (W.heap.size + i) := fun i hi => .inr ⟨by omega, by omega⟩
  refine ⟨?_, ?_, ?_, ?_, ?_, ⟨.slice (some ⟨W.heap.size + 1 + 1 + 1 + 1, 0, none⟩) 0 places, ?_, ?_, ?_⟩, hb 1 (by omega), hb 0 (by omega), hb 2 (by omega), hb 3 (by omega), hb 6 (by omega), hb 5 (by omega)⟩
  · exact alUp (alUp (alUp (alUp (alUp (al1 W _ _) _) _) _) _) _
  · exact alUp (alUp (alUp (alUp (alUp (alUp (al0 W _) _) _) _) _) _) _
  · exact alUp (alUp (alUp (alUp (al2 W _ _ _) _) _) _) _
  · exact alUp (alUp (alUp (al3 W _ _ _ _) _) _) _
  · exact al6 W _ _ _ _ _ _ _
  · exact alUp (al5 W _ _ _ _ _ _) _
  · exact ⟨rfl, .inr ⟨W.heap.size + 1 + 1 + 1 + 1, places, _, rfl, by omega, alUp (alUp (al4 W _ _ _ _ _) _) _, by simp, by unfold maxLen; omega, by simp, by simp [u16s]⟩⟩
  · intro g e
    simp only [Value.ownBlock, Option.some.injEq] at e
    subst e
    exact ⟨hb 4 (by omega), by omega⟩
set_option maxHeartbeats 4000000 in
set_option maxRecDepth 20000 in
theorem shape_any (hJ : Abide J)
    (hY : ∀ m X pre x W1, J X pre W1 → NwAt L X x W1 → (∀ k, X k → k < W1.heap.size) → pre.length < N → (∃ W0, J X pre W0 ∧ FrNw W0.heap.size x) → YieldAt Fence.wide m Tryd.prog l (nwV x) W1 fun e W' =>
      (e = .returned (.bool true) ∧ J X (pre ++ [x]) W' ∧ KpX (orT T X) W1 W') ∨ (e = .returned (.bool false) ∧ Jx X (pre ++ [x]) W' ∧ KpX (orT T X) W1 W'))
    (hst : stem < places) (hpl : places ≤ 1000) (hbl : below ≤ 256) (X : Nat → Prop) (pre : List Nw) (W : World) (hT : ∀ k, T k → k < W.heap.size) (hj : J X pre W) (hX : ∀ k, X k → k < W.heap.size)
    (hN : pre.length + (ext below stem places []).length ≤ N) (hL : ∀ y ∈ ext below stem places [], y ∈ L) :
    Calls Tryd.prog 25 #[.int .i64 (stem : Nat), .int .i64 (places : Nat), .int .u16 (below : Nat), .func (.yield l) #[] #[]] W (ShapeEnds T J Jx (ext below stem places []) pre X W) := by
  have hmk := fun w : World => make_cap w places (by omega)
  have HJ : Hid (Abide J) := hJ
  have HY : Hid (∀ m X pre x W1, J X pre W1 → NwAt L X x W1 → (∀ k, X k → k < W1.heap.size) → pre.length < N → (∃ W0, J X pre W0 ∧ FrNw W0.heap.size x) → YieldAt Fence.wide m Tryd.prog l (nwV x) W1 fun e W' =>
      (e = .returned (.bool true) ∧ J X (pre ++ [x]) W' ∧ KpX (orT T X) W1 W') ∨ (e = .returned (.bool false) ∧ Jx X (pre ++ [x]) W' ∧ KpX (orT T X) W1 W')) := hY
  have HT : Hid _ := hT
  have HX : Hid _ := hX
  have Hj : Hid (J X pre W) := hj
  have HN : Hid (pre.length + (ext below stem places []).length ≤ N) := hN
  have HL : Hid (∀ y ∈ ext below stem places [], y ∈ L) := hL
  clear hJ hY hT hX hj hN hL
  go_enter Tryd.func25, Tryd.ntmps25
  go_wp2_with fail
  have HC : Hid (Calls Tryd.prog 54 #[.pointer (some ⟨W.heap.size + 1 + 1 + 1 + 1 + 1, 0, none⟩), .pointer (some ⟨W.heap.size + 1, 0, none⟩), .pointer (some ⟨W.heap.size, 0, none⟩), .pointer (some ⟨W.heap.size + 1 + 1 + 1, 0, none⟩), .pointer (some ⟨W.heap.size + 1 + 1, 0, none⟩), .pointer (some ⟨W.heap.size + 1 + 1 + 1 + 1 + 1 + 1, 0, none⟩)] (worldOf W l stem places below) (ShapeEnds T J Jx (ext below stem places []) pre X W)) := by
    have hz := worldOf_size W l stem places below
    have kV := worldOf_kept W l stem places below
    refine (rows_any HJ.out HY.out (base := W.heap.size) HT.out ⟨by omega, by omega, by omega, by omega, by omega, by omega⟩ hst hpl hbl places [] (fun k => X k ∨ Between W (worldOf W l stem places below) k) pre _ (worldOf_at W l stem places below X hpl) (HJ.out.lay Hj.out kV) (fun k h => h.elim (fun h => Nat.lt_of_lt_of_le (HX.out k h) kV.size) (fun h => h.2)) kV.size (by simp) (by simp) HN.out HL.out).mono ?_
    rintro e W' (⟨rfl, X', xs, h1, _, h3, h4, h5, h6⟩ | ⟨rfl, X', xs, h1, h2⟩)
    · exact .inl ⟨rfl, X', xs, fun k h => h1 k (.inl h), (KpX.of_kept kV).trans h3, h4, h5, h6⟩
    · exact .inr ⟨rfl, X', xs, h1, h2⟩
  refine HC.out.mono ?_
  intro e W' hends
  have he : ∃ b : Bool, e = .returned (.bool b) := by
    rcases hends with ⟨rfl, _⟩ | ⟨rfl, _⟩
    · exact ⟨true, rfl⟩
    · exact ⟨false, rfl⟩
  obtain ⟨b, rfl⟩ := he
  have HEN : Hid (ShapeEnds T J Jx (ext below stem places []) pre X W (.returned (.bool b)) W') := hends
  clear hends
  go_wp2
  go_ret
  exact HEN.out
end Go.Proofs.YtamfnefnaelgfaaDoor
