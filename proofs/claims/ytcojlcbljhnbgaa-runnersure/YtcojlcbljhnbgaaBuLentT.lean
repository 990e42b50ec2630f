/- Lists of texts that are lent: LentTexts, SameTexts, WholeTexts, SpoilTexts. -/
import Derived.Test.YtcojlcbljhnbgaaBuLn
namespace Go.Proofs.Ytcojlcbljhnbgaa
open Go.RowKit Go.Shelf

theorem Try.infoTL : (Try.prog.info? 9).map (fun i => (i.zero, i.size, i.bytes)) = some (some (.string ⟨#[]⟩), 1, 16) := by kernel_rfl
def marksT : List Value := [.string ⟨#[116, 104, 101, 32, 111, 119, 110, 101, 114, 39, 115]⟩, .string ⟨#[116, 104, 101, 32, 111, 119, 110, 101, 114, 39, 115]⟩]
def spoilT : Value := .string ⟨#[115, 112, 111, 105, 108, 116]⟩
theorem make_roomT (w : World) (k : Nat) (hk : k ≤ 8796093022208) : Sem.run Try.prog (Instr.makeSlice 23 (.int .i64 0) (.int .i64 ((k : Int) + 2))) w = .ok (.slice (some ⟨w.heap.size, 0, none⟩) 0 (k + 2)) (w.alloc (.cells (madeCells (Value.cells (.string ⟨#[]⟩)) ((k + 2) * 1)) 9)) := by
  obtain ⟨i, hi, hz, hs, hb⟩ := info_parts Try.infoTL
  have h := run_make (P := Try.prog) w 23 9 i _ Try.underlying23 hi hz .i64 .i64 0 ((k : Int) + 2) (by omega) (by omega) (by rw [hb]; omega) (by omega)
  rw [h, hs, show ((k : Int) + 2).toNat = k + 2 from by omega]
  rfl
theorem append_noneT (w : World) (g c : Nat) (ty : TypeId) : (Builtin.append_ #[23, 23] ty #[.slice (some ⟨g, 0, none⟩) 0 c, .slice none 0 0]).run Try.prog w = .ok (.slice (some ⟨g, 0, none⟩) 0 c) w := by
  go_simp
def cellsT (xs : List ByteArray) : List Value := xs.map fun x => Value.string x
theorem cellsT_at {xs : List ByteArray} {k : Nat} (h : k < xs.length) : (cellsT xs)[k]? = some ((fun x => Value.string x) xs[k]) := by simp [cellsT, h]
theorem cellsT_one (xs : List ByteArray) : ∀ u ∈ cellsT xs, u.oneCell' = true := by
  intro u hu
  obtain ⟨x, _, rfl⟩ := List.mem_map.1 hu
  rfl
end Go.Proofs.Ytcojlcbljhnbgaa
