/- The rows that number trees: a map whose keys are structs. -/
import Derived.Test.YtnjajafmmociiaaGreatDoorTrRen
import Derived.DeepKeys4
import Derived.ChangeKeys
namespace Go.Proofs.YtnjajafmmociiaaGreatDoor
open Go.RowKit Go.Shelf Go.Maps

/-- A row: what a tree is written as, in numbers. -/
structure Rw where
  op : Nat
  name : ByteArray
  ahead : Nat
  kid : Nat
def Rw.cells (r : Rw) : Array Value := #[.int .u8 (r.op : Nat), .string r.name, .int .i64 (r.ahead : Nat), .int .i64 (r.kid : Nat)]
def Rw.val (r : Rw) : Value := .agg r.cells
def Rw.lits (r : Rw) : List Lit := [.int .u8 (r.op : Nat), .string r.name.data.toList, .int .i64 (r.ahead : Nat), .int .i64 (r.kid : Nat)]
def Rw.key (r : Rw) : List UInt8 := keyBytes r.lits
structure Rw.Ok (r : Rw) : Prop where
  op : r.op < 256
  name : r.name.size ≤ maxLen
  ahead : r.ahead < 9223372036854775808
  kid : r.kid < 9223372036854775808
theorem Rw.val_inj {r s : Rw} (h : r.val = s.val) : r = s := by
  obtain ⟨o, n, a, k⟩ := r
  obtain ⟨o', n', a', k'⟩ := s
  simp only [Rw.val, Rw.cells] at h
  simp at h
  obtain ⟨h1, h2, h3, h4⟩ := h
  subst h2
  congr 1 <;> omega
theorem Tryz.laidB : laidOutB Tryz.prog = true := by kernel_rfl
theorem rowRow : (155 : TypeId) < Tryz.prog.types.size := of_decide_eq_true (by kernel_rfl)
theorem deepRow : Tryz.prog.keyTypeAt 3 155 = true := by kernel_rfl
theorem lawRow : Keyed Tryz.prog 155 := Keyed.of_law (deep_law_laid Tryz.laidB (m := 3) (by omega) rowRow deepRow (by simp only [Tryz.underlying155]))
theorem keyTypeRow : Tryz.prog.keyType 155 = true := by kernel_rfl
theorem cellsRow : Tryz.prog.cellsOf 155 = 4 := by kernel_rfl
theorem cellsOp : Tryz.prog.cellsOf 22 = 1 := by kernel_rfl
theorem cellsStr : Tryz.prog.cellsOf 9 = 1 := by kernel_rfl
theorem cellsInt : Tryz.prog.cellsOf 3 = 1 := by kernel_rfl
theorem rowKey (r : Rw) (h : r.Ok) : keyOf Tryz.prog 155 r.val = some (.string r.key) := by
  have h1 : (Lit.int .u8 (r.op : Nat)).wf = true := by
    have := h.op
    simp only [Lit.wf, show IntKind.u8.min = 0 from rfl, show IntKind.u8.max = 255 from rfl, Bool.and_eq_true, decide_eq_true_eq]; omega
  have hi : ∀ n : Nat, n < 9223372036854775808 → (Lit.int .i64 (n : Nat)).wf = true := fun n hn => by
    simp only [Lit.wf, show IntKind.i64.min = -9223372036854775808 from rfl, show IntKind.i64.max = 9223372036854775807 from rfl, Bool.and_eq_true, decide_eq_true_eq]; omega
  have h3 := hi _ h.ahead
  have h4 := hi _ h.kid
  have h2 := h.name
  have hl : ∀ d, Tryz.prog.keyLits (d + 1 + 1) 155 r.cells.toList = some r.lits := fun d => by
    simp [Program.keyLits, Tryz.underlying155, Tryz.underlying22, Tryz.underlying9, Tryz.underlying3, cellsRow, cellsOp, cellsStr, cellsInt, Rw.cells, Rw.lits, h1, h2, h3, h4]
  simp [keyOf, Tryz.underlying155, keyTypeRow, Value.formed, cellsRow, Rw.val, Rw.key, Value.cells]
  exact ⟨rfl, _, hl _, rfl⟩
theorem rowKey_inj {r s : Rw} (hr : r.Ok) (hs : s.Ok) (h : r.key = s.key) : r = s :=
  Rw.val_inj (lawRow.inj (rowKey r hr) (by rw [h]; exact rowKey s hs))
end Go.Proofs.YtnjajafmmociiaaGreatDoor
