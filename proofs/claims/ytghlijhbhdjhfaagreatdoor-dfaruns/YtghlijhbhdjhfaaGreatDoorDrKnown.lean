/- What the layer's examples fix: known answers true in every memory, reckoned by the evaluator; and the variables that are laid. -/
import Derived.KernelRfl
import Derived.LaidMore
import Derived.Lay
import Derived.Lib.LaidTab
import Derived.Lib.TrailingZeros
import Derived.OpenShut
import Derived.ProofKit
import Derived.Stop.Joined
import Derived.Stop.LaidErr
import Derived.Test.YtghlijhbhdjhfaaGreatDoorChecked
import Derived.Test.YtghlijhbhdjhfaaGreatDoorRows
import Derived.Test.YtghlijhbhdjhfaaGreatDoorRxC
namespace Go.Proofs.YtghlijhbhdjhfaaGreatDoor
open Go.ChangeShapes Go.WideShapes Go.ChangeAt Go.WideMaps Go.WideElems Go.RowKit Rx

def yes : Option (Value × AH) → Bool
  | some (.bool b, _) => b
  | _ => false
theorem yes_out {r : Option (Value × AH)} (h : yes r = true) : ∃ H1, r = some (.bool true, H1) := by
  unfold yes at h
  split at h
  · subst h; exact ⟨_, rfl⟩
  · cases h
theorem mixed_ok : Tryz.prog.follows .mixedOrders = true := Checked.mixed Tryz.checked
theorem own : ownKnob Tryz.prog.godebug = none := by kernel_rfl

theorem funcs_ok : Tryz.prog.funcs.toList.all (funcOkB 1) = true := by kernel_rfl
def debL : List Nat := Lib.deBruijn64tab
def tab0 : List Value := debL.map fun n : Nat => .int .u8 (n : Int)
def H0 : AH := ⟨1, some (Tri.s14 none 0 ⟨2, tab0, 0, none, none, 0⟩)⟩
def Tab (w : World) : Prop := 1 ≤ w.heap.size ∧ (∀ j, j < 64 → w.cell? ⟨0, j, none⟩ = some (.int .u8 (debL.getD j 0 : Nat)))
theorem map_get (k : IntKind) (l : List Nat) (i : Nat) (v : Value) (h : (l.map fun n : Nat => Value.int k (n : Int))[i]? = some v) : i < l.length ∧ v = .int k (l.getD i 0 : Nat) := by
  rw [List.getElem?_map] at h
  cases hd : l[i]? with
  | none => rw [hd] at h; cases h
  | some n =>
    rw [hd] at h
    cases h
    exact ⟨(List.getElem?_eq_some_iff.1 hd).1, by rw [List.getD_eq_getElem?_getD, hd]; rfl⟩
theorem tab_R {W : World} (h : Tab W) : R 1 W.heap.size W (fun b => if b < 1 then some ⟨b, 0, 0, 0⟩ else none) H0 W :=
  start_R (tabs := fun g => tab0) rfl (by decide) (fun g hg _ => by have := h.1; omega) (fun g hg => by
    obtain rfl : g = 0 := by omega
    exact .inr rfl)
    (fun g hg i v hv _ => by
      obtain rfl : g = 0 := by omega
      obtain ⟨h1, rfl⟩ := map_get .u8 debL i v (by simpa [tab0] using hv)
      exact ⟨h.2 i h1, rfl⟩)
def sm7 : Sn where
  f := 17
  args := [.agg #[.slice (some ⟨1, 0, none⟩) 1 1, .int .i64 1, .slice (some ⟨2, 0, none⟩) 1 1, .slice (some ⟨3, 0, none⟩) 1 1, .slice (some ⟨4, 0, none⟩) 1 1], .pointer (some ⟨9, 0, none⟩), .int .i64 2]
  gl := 1
  next := 10
  ins := [(0, [.int .u8 0, .int .u8 1, .int .u8 56, .int .u8 2, .int .u8 57, .int .u8 49, .int .u8 28, .int .u8 3, .int .u8 61, .int .u8 58, .int .u8 42, .int .u8 50, .int .u8 38, .int .u8 29, .int .u8 17, .int .u8 4, .int .u8 62, .int .u8 47, .int .u8 59, .int .u8 36, .int .u8 45, .int .u8 43, .int .u8 51, .int .u8 22, .int .u8 53, .int .u8 39, .int .u8 33, .int .u8 30, .int .u8 24, .int .u8 18, .int .u8 12, .int .u8 5, .int .u8 63, .int .u8 55, .int .u8 48, .int .u8 27, .int .u8 60, .int .u8 41, .int .u8 37, .int .u8 16, .int .u8 46, .int .u8 35, .int .u8 44, .int .u8 21, .int .u8 52, .int .u8 32, .int .u8 23, .int .u8 11, .int .u8 54, .int .u8 26, .int .u8 40, .int .u8 15, .int .u8 34, .int .u8 20, .int .u8 31, .int .u8 10, .int .u8 25, .int .u8 14, .int .u8 19, .int .u8 9, .int .u8 13, .int .u8 8, .int .u8 7, .int .u8 6]),
    (1, [.string ⟨#[97]⟩]),
    (2, [.int .i64 0]),
    (3, [.int .i64 0, .int .i64 0, .int .u16 1, .int .u16 0]),
    (4, [.int .i64 0]),
    (9, [.int .i64 1, .slice (some ⟨8, 0, none⟩) 1 1]),
    (8, [.int .u64 1])]
  v := .tuple #[.agg #[.slice (some ⟨75, 0, none⟩) 1 (BIG + 1), .slice (some ⟨174, 0, none⟩) 2 (BIG + 2), .slice (some ⟨176, 0, none⟩) 2 (BIG + 2)], .int .i64 0]
  next' := 177
  out := [(75, ⟨1, [.string ⟨#[97]⟩], 9, none, none, 1⟩),
    (96, ⟨0, [.int .i64 1, .int .i64 0], 3, none, none, 0⟩),
    (154, ⟨0, [.int .i64 1, .int .i64 1], 3, none, none, 0⟩),
    (174, ⟨1, [.slice (some ⟨96, 0, none⟩) 2 2, .slice (some ⟨154, 0, none⟩) 2 2], 43, none, none, 1⟩),
    (176, ⟨1, [.bool true, .bool false], 4, none, none, 1⟩)]
theorem sm7_ok : SnOk Tryz.prog 1 sm7 :=
  sn_known (okP_of funcs_ok mixed_ok) (K := []) (fun _ h => by cases h) (d := 60) rfl (by kernel_rfl)

theorem known_ev : yes ((ev Tryz.prog [sm7] 60).enter 6 [] H0) = true := by kernel_rfl
theorem known_walk (W : World) (h : Tab W) : Calls Tryz.prog 6 #[] W fun e w' => e = .returned (.bool true) ∧ Below W.heap.size W w' := by
  obtain ⟨H1, h1⟩ := yes_out known_ev
  exact ev_calls (okP_of funcs_ok mixed_ok) (K := [sm7]) (fun e he => by
    simp only [List.mem_cons, List.not_mem_nil, or_false] at he
    subst he
    exact sm7_ok) rfl h1 (tab_R h)

def laidTab : List (String × DataW Unit) := [("math/bits.deBruijn64tab", Rows.laid_math_bits_deBruijn64tab)]
theorem g_deb : Tryz.prog.globalNamed "math/bits.deBruijn64tab" = some 0 := by kernel_rfl
theorem tab_plain (W : World) : laidMetH Tryz.prog laidTab W = laidMet Tryz.prog laidTab W := MakeChecks.laidMetH_plain _ _ _ (by kernel_rfl)
theorem tab_shape (os : Os) : (World.laidAll Tryz.prog os laidTab).Shaped Tryz.prog := World.shaped_of_ZipB (by kernel_rfl) (by kernel_rfl)
theorem tab_met (os : Os) (args : Array Value) : laidMetH Tryz.prog laidTab ((World.laidAll Tryz.prog os laidTab).forCall (fun _ _ => 0) ⟨#[], args, []⟩).memory := by
  rw [tab_plain]
  exact laidMet_laidAll _ (by kernel_rfl) (by kernel_rfl)
theorem int_get (l : List Nat) (i : Nat) : (l.map fun n : Nat => (n : Int)).getD i 0 = ((l.getD i 0 : Nat) : Int) := by
  rw [List.getD_eq_getElem?_getD, List.getD_eq_getElem?_getD, List.getElem?_map]
  cases l[i]? <;> rfl
theorem of_laid {W : World} (h : laidMetH Tryz.prog laidTab W) : Tab W := by
  rw [tab_plain] at h
  have h0 : Lib.TabIs Tryz.prog W "math/bits.deBruijn64tab" .u8 (debL.map fun n : Nat => (n : Int)) :=
    Lib.tabIs_of_head (t := 147) (e := 5) (n := 64) g_deb (by kernel_rfl) (by kernel_rfl) (by kernel_rfl) (by kernel_rfl) (by kernel_rfl) h
  have c0 : ∀ j, j < 64 → W.cell? ⟨0, j, none⟩ = some (.int .u8 (debL.getD j 0 : Nat)) := fun j hj => by
    rw [h0.cell g_deb j (by rw [List.length_map]; exact hj), int_get]
  exact ⟨World.block_lt_of_cell? W _ (c0 0 (by omega)), c0⟩
end Go.Proofs.YtghlijhbhdjhfaaGreatDoor
