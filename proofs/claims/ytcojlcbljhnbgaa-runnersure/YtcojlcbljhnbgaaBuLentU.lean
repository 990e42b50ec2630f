/- Lists of letters that are lent: LentLetters, SameLetters, WholeLetters, SpoilLetters. -/
import Derived.Test.YtcojlcbljhnbgaaBuLn
namespace Go.Proofs.Ytcojlcbljhnbgaa
open Go.RowKit Go.Shelf

theorem Try.infoUL : (Try.prog.info? 40).map (fun i => (i.zero, i.size, i.bytes)) = some (some (.int .u16 0), 1, 2) := by kernel_rfl
def marksU : List Value := [.int .u16 60001, .int .u16 60002]
def spoilU : Value := .int .u16 60003
theorem make_roomU (w : World) (k : Nat) (hk : k ≤ 20000000000000) : Sem.run Try.prog (Instr.makeSlice 46 (.int .i64 0) (.int .i64 ((k : Int) + 2))) w = .ok (.slice (some ⟨w.heap.size, 0, none⟩) 0 (k + 2)) (w.alloc (.cells (madeCells (Value.cells (.int .u16 0)) ((k + 2) * 1)) 40)) := by
  obtain ⟨i, hi, hz, hs, hb⟩ := info_parts Try.infoUL
  have h := run_make (P := Try.prog) w 46 40 i _ Try.underlying46 hi hz .i64 .i64 0 ((k : Int) + 2) (by omega) (by omega) (by rw [hb]; omega) (by omega)
  rw [h, hs, show ((k : Int) + 2).toNat = k + 2 from by omega]
  rfl
theorem append_noneU (w : World) (g c : Nat) (ty : TypeId) : (Builtin.append_ #[46, 46] ty #[.slice (some ⟨g, 0, none⟩) 0 c, .slice none 0 0]).run Try.prog w = .ok (.slice (some ⟨g, 0, none⟩) 0 c) w := by
  go_simp
def cellsU (xs : List Nat) : List Value := xs.map fun x => Value.int .u16 (x : Nat)
theorem cellsU_at {xs : List Nat} {k : Nat} (h : k < xs.length) : (cellsU xs)[k]? = some ((fun x => Value.int .u16 (x : Nat)) xs[k]) := by simp [cellsU, h]
theorem cellsU_one (xs : List Nat) : ∀ u ∈ cellsU xs, u.oneCell' = true := by
  intro u hu
  obtain ⟨x, _, rfl⟩ := List.mem_map.1 hu
  rfl
end Go.Proofs.Ytcojlcbljhnbgaa
