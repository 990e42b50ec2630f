/- augurref13.Run, Has at any deterministic automaton: the document's answers are the program's. -/
import Derived.Test.YtbbfajbnklgncaaGreatDrRef
namespace Go.Proofs.YtbbfajbnklgncaaGreat
open Go.RowKit Go.Shelf

theorem pow_small {pn tp : Nat} (h8 : pn ≤ 8) (htp : 2 ^ pn = tp) : tp ≤ 256 := by
  rw [← htp]
  exact Nat.pow_le_pow_right (by omega) h8
theorem wrap_pow {pn tp : Nat} (h8 : pn ≤ 8) (htp : 2 ^ pn = tp) : wrap64 ((2 : Int) ^ pn) = (tp : Int) ∧ IntKind.i64.wrap ((2 : Int) ^ pn) = (tp : Int) := by
  have htb : tp ≤ 256 := pow_small h8 htp
  rw [show ((2 : Int) ^ pn) = ((2 ^ pn : Nat) : Int) by norm_cast, htp, IntKind.wrap_i64]
  clear htp
  unfold wrap64
  omega
theorem wrap_lt {lt : Nat} (h : lt < 65536) : IntKind.i64.wrap (lt : Int) = (lt : Int) := by
  rw [IntKind.wrap_i64]
  omega
end Go.Proofs.YtbbfajbnklgncaaGreat
