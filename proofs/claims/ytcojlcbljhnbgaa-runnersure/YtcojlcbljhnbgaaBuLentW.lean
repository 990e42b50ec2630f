/- Lists of bools that are lent: LentBools, SameBools, WholeBools, SpoilBools. -/
import Derived.Test.YtcojlcbljhnbgaaBuLn
namespace Go.Proofs.Ytcojlcbljhnbgaa
open Go.RowKit Go.Shelf

theorem Try.infoWL : (Try.prog.info? 4).map (fun i => (i.zero, i.size, i.bytes)) = some (some (.bool false), 1, 1) := by kernel_rfl
def marksW : List Value := [.bool true, .bool false]
def spoilW : Value := .bool true
theorem make_roomW (w : World) (k : Nat) (hk : k ≤ 20000000000000) : Sem.run Try.prog (Instr.makeSlice 61 (.int .i64 0) (.int .i64 ((k : Int) + 2))) w = .ok (.slice (some ⟨w.heap.size, 0, none⟩) 0 (k + 2)) (w.alloc (.cells (madeCells (Value.cells (.bool false)) ((k + 2) * 1)) 4)) := by
  obtain ⟨i, hi, hz, hs, hb⟩ := info_parts Try.infoWL
  have h := run_make (P := Try.prog) w 61 4 i _ Try.underlying61 hi hz .i64 .i64 0 ((k : Int) + 2) (by omega) (by omega) (by rw [hb]; omega) (by omega)
  rw [h, hs, show ((k : Int) + 2).toNat = k + 2 from by omega]
  rfl
theorem append_noneW (w : World) (g c : Nat) (ty : TypeId) : (Builtin.append_ #[61, 61] ty #[.slice (some ⟨g, 0, none⟩) 0 c, .slice none 0 0]).run Try.prog w = .ok (.slice (some ⟨g, 0, none⟩) 0 c) w := by
  go_simp
def cellsW (xs : List Bool) : List Value := xs.map fun x => Value.bool x
theorem cellsW_at {xs : List Bool} {k : Nat} (h : k < xs.length) : (cellsW xs)[k]? = some ((fun x => Value.bool x) xs[k]) := by simp [cellsW, h]
theorem cellsW_one (xs : List Bool) : ∀ u ∈ cellsW xs, u.oneCell' = true := by
  intro u hu
  obtain ⟨x, _, rfl⟩ := List.mem_map.1 hu
  rfl
end Go.Proofs.Ytcojlcbljhnbgaa
