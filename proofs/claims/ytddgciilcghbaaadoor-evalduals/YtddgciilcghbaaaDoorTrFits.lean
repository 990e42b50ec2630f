/- tree.fits: is a tree, with another in the place of a name, within the bounds. -/
import Derived.Test.YtddgciilcghbaaaDoorTrCopy
import Derived.Deep.RegionHeld3
import Derived.Deep.CutRange
namespace Go.Proofs.YtddgciilcghbaaaDoor
open Go.RowKit Go.Shelf
attribute [local go_sem] Oper.semAt_some

theorem bcell {W w1 : World} (hb : Below W.heap.size W w1) : (∀ b o, b < W.heap.size → w1.cell? ⟨b, o, none⟩ = W.cell? ⟨b, o, none⟩) ∧ (∀ b o, b < W.heap.size → w1.frozen? ⟨b, o, none⟩ = W.frozen? ⟨b, o, none⟩) :=
  ⟨fun b o h => hb.cell (p := ⟨b, o, none⟩) h, fun b o h => hb.frozen (p := ⟨b, o, none⟩) h⟩
theorem drew_heap (w : World) : w.drew.heap = w.heap := rfl
theorem uS_of {V W : World} {B : Nat} {a b c : Value} (h : For3 V B a b c) (k : Kept [] V W) : W.cell? ⟨B, 0, none⟩ = some a ∧ W.cell? ⟨B, 1, none⟩ = some b ∧ W.cell? ⟨B, 2, none⟩ = some c := ⟨(h.kept k).cells.1, (h.kept k).cells.2.1, (h.kept k).cells.2.2.1⟩
theorem al0s (W : World) (p : Addr) (v : Value) (o : Obj) : ((W.setCell p v).alloc o).heap[W.heap.size]? = some o := by
  have := heap_alloc_new (W.setCell p v) o
  rwa [show (W.setCell p v).heap.size = W.heap.size from by simp [World.setCell]] at this
/-- Is a tree that name. -/
def propB (nm : ByteArray) (t : Tr) : Bool := decide (t.op = 3) && (t.name.toList == nm.toList)
/-- What a measure comes to. -/
def measStep (nm : ByteArray) (sz dp : Nat) (m : Nat × Nat) (x : List Nat × Tr) : Nat × Nat := if propB nm x.2 then (m.1 + sz, max m.2 (x.1.length + dp)) else (m.1 + 1, max m.2 (x.1.length + 1))
def measOf (nm : ByteArray) (sz dp : Nat) (l : List (List Nat × Tr)) : Nat × Nat := l.foldl (measStep nm sz dp) (0, 0)
def measFits (m : Nat × Nat) : Bool := decide (m.1 ≤ 1000) && decide (m.2 ≤ 100)
theorem measOf_snoc (nm : ByteArray) (sz dp : Nat) (l : List (List Nat × Tr)) (x : List Nat × Tr) : measOf nm sz dp (l ++ [x]) = measStep nm sz dp (measOf nm sz dp l) x := by simp [measOf]
theorem measStep_le (nm : ByteArray) (sz dp : Nat) (m : Nat × Nat) (x : List Nat × Tr) : m.1 ≤ (measStep nm sz dp m x).1 ∧ m.2 ≤ (measStep nm sz dp m x).2 := by
  unfold measStep; split <;> exact ⟨by simp, Nat.le_max_left _ _⟩
theorem meas_le (nm : ByteArray) (sz dp : Nat) (l : List (List Nat × Tr)) : ∀ m : Nat × Nat, m.1 ≤ (l.foldl (measStep nm sz dp) m).1 ∧ m.2 ≤ (l.foldl (measStep nm sz dp) m).2 := by
  induction l with
  | nil => intro m; exact ⟨Nat.le_refl _, Nat.le_refl _⟩
  | cons x r ih =>
    intro m
    have h1 := measStep_le nm sz dp m x
    have h2 := ih (measStep nm sz dp m x)
    exact ⟨Nat.le_trans h1.1 h2.1, Nat.le_trans h1.2 h2.2⟩
theorem fits_no {nm : ByteArray} {sz dp : Nat} {l pre : List (List Nat × Tr)} (hp : pre <+: l) (h : measFits (measOf nm sz dp pre) = false) : measFits (measOf nm sz dp l) = false := by
  obtain ⟨r, rfl⟩ := hp
  have := meas_le nm sz dp r (measOf nm sz dp pre)
  rw [show (r.foldl (measStep nm sz dp) (measOf nm sz dp pre)) = measOf nm sz dp (pre ++ r) from by simp [measOf]] at this
  unfold measFits at h ⊢
  rw [Bool.and_eq_false_iff, decide_eq_false_iff_not, decide_eq_false_iff_not] at h ⊢
  omega

end Go.Proofs.YtddgciilcghbaaaDoor
