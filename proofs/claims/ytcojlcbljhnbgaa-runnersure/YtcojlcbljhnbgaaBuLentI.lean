/- Lists of numbers that are lent: LentInts, SameInts, WholeInts, SpoilInts. -/
import Derived.Test.YtcojlcbljhnbgaaBuLn
namespace Go.Proofs.Ytcojlcbljhnbgaa
open Go.RowKit Go.Shelf

theorem Try.infoIL : (Try.prog.info? 3).map (fun i => (i.zero, i.size, i.bytes)) = some (some (.int .i64 0), 1, 8) := by kernel_rfl
def marksI : List Value := [.int .i64 (-771), .int .i64 (-772)]
def spoilI : Value := .int .i64 (-5)
theorem make_roomI (w : World) (k : Nat) (hk : k ≤ 20000000000000) : Sem.run Try.prog (Instr.makeSlice 60 (.int .i64 0) (.int .i64 ((k : Int) + 2))) w = .ok (.slice (some ⟨w.heap.size, 0, none⟩) 0 (k + 2)) (w.alloc (.cells (madeCells (Value.cells (.int .i64 0)) ((k + 2) * 1)) 3)) := by
  obtain ⟨i, hi, hz, hs, hb⟩ := info_parts Try.infoIL
  have h := run_make (P := Try.prog) w 60 3 i _ Try.underlying60 hi hz .i64 .i64 0 ((k : Int) + 2) (by omega) (by omega) (by rw [hb]; omega) (by omega)
  rw [h, hs, show ((k : Int) + 2).toNat = k + 2 from by omega]
  rfl
theorem append_noneI (w : World) (g c : Nat) (ty : TypeId) : (Builtin.append_ #[60, 60] ty #[.slice (some ⟨g, 0, none⟩) 0 c, .slice none 0 0]).run Try.prog w = .ok (.slice (some ⟨g, 0, none⟩) 0 c) w := by
  go_simp
def cellsI (xs : List Int) : List Value := xs.map fun x => Value.int .i64 x
theorem cellsI_at {xs : List Int} {k : Nat} (h : k < xs.length) : (cellsI xs)[k]? = some ((fun x => Value.int .i64 x) xs[k]) := by simp [cellsI, h]
theorem cellsI_one (xs : List Int) : ∀ u ∈ cellsI xs, u.oneCell' = true := by
  intro u hu
  obtain ⟨x, _, rfl⟩ := List.mem_map.1 hu
  rfl
end Go.Proofs.Ytcojlcbljhnbgaa
