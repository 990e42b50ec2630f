/- The call of the law, by the evaluator. -/
import Derived.Test.YtfcknafkllilpaaGreatDoorRxC
import Derived.Test.YtfcknafkllilpaaGreatDoorChecked
import Derived.KernelRfl
import Derived.ProofKit
import Derived.OpenShut
import Derived.Lib.LaidTab
import Derived.Lib.TrailingZeros
namespace Go.Proofs.YtfcknafkllilpaaGreatDoor
open Go.ChangeShapes Go.WideShapes Go.ChangeAt Go.WideMaps Go.WideElems Go.RowKit Rx

def yes : Option (Value × AH) → Bool
  | some (.bool b, _) => b
  | _ => false
theorem yes_out {r : Option (Value × AH)} (h : yes r = true) : ∃ H1, r = some (.bool true, H1) := by
  unfold yes at h
  split at h
  · subst h; exact ⟨_, rfl⟩
  · cases h
theorem mixed_ok : Tryz.prog.follows .mixedOrders = true := Checked.mixed Tryz.checked
theorem own : ownKnob Tryz.prog.godebug = none := by kernel_rfl

theorem funcs_ok : Tryz.prog.funcs.toList.all (funcOkB 1) = true := by kernel_rfl
def tabL : List Value := Lib.deBruijn64tab.map fun n : Nat => .int .u8 (n : Int)
def H0 : AH := ⟨1, some (Tri.s14 none 0 ⟨2, tabL, 0, none, none, 0⟩)⟩
def Tab (w : World) : Prop := 0 < w.heap.size ∧ ∀ j, j < 64 → w.cell? ⟨0, j, none⟩ = some (.int .u8 (Lib.deBruijn64tab.getD j 0 : Nat))
theorem tabL_get (i : Nat) (v : Value) (h : tabL[i]? = some v) : i < 64 ∧ v = .int .u8 (Lib.deBruijn64tab.getD i 0 : Nat) := by
  unfold tabL at h
  rw [List.getElem?_map] at h
  cases hd : Lib.deBruijn64tab[i]? with
  | none => rw [hd] at h; cases h
  | some n =>
    rw [hd] at h
    cases h
    have hl : Lib.deBruijn64tab.length = 64 := by decide
    have := (List.getElem?_eq_some_iff.1 hd).1
    exact ⟨by omega, by rw [List.getD_eq_getElem?_getD, hd]; rfl⟩
theorem tab_R {W : World} (h : Tab W) : R 1 W.heap.size W (fun b => if b < 1 then some ⟨b, 0, 0, 0⟩ else none) H0 W :=
  start_R (tabs := fun _ => tabL) rfl (by decide) h.1 (fun g hg => by
    obtain rfl : g = 0 := by omega
    exact .inr rfl)
    (fun g hg i v hv _ => by
      obtain rfl : g = 0 := by omega
      obtain ⟨h1, rfl⟩ := tabL_get i v hv
      exact ⟨h.2 i h1, rfl⟩)
def sm3 : Sm where
  f := 6
  args := [.agg #[.slice (some ⟨3, 0, none⟩) 1 1, .int .i64 3, .slice (some ⟨4, 0, none⟩) 1 1, .slice (some ⟨2, 0, none⟩) 4 4, .slice (some ⟨5, 0, none⟩) 1 1]]
  next := 7
  ins := [(0, [.int .u8 0, .int .u8 1, .int .u8 56, .int .u8 2, .int .u8 57, .int .u8 49, .int .u8 28, .int .u8 3, .int .u8 61, .int .u8 58, .int .u8 42, .int .u8 50, .int .u8 38, .int .u8 29, .int .u8 17, .int .u8 4, .int .u8 62, .int .u8 47, .int .u8 59, .int .u8 36, .int .u8 45, .int .u8 43, .int .u8 51, .int .u8 22, .int .u8 53, .int .u8 39, .int .u8 33, .int .u8 30, .int .u8 24, .int .u8 18, .int .u8 12, .int .u8 5, .int .u8 63, .int .u8 55, .int .u8 48, .int .u8 27, .int .u8 60, .int .u8 41, .int .u8 37, .int .u8 16, .int .u8 46, .int .u8 35, .int .u8 44, .int .u8 21, .int .u8 52, .int .u8 32, .int .u8 23, .int .u8 11, .int .u8 54, .int .u8 26, .int .u8 40, .int .u8 15, .int .u8 34, .int .u8 20, .int .u8 31, .int .u8 10, .int .u8 25, .int .u8 14, .int .u8 19, .int .u8 9, .int .u8 13, .int .u8 8, .int .u8 7, .int .u8 6]),
    (2, [.int .i64 0, .int .i64 0, .int .u16 0, .int .u16 0, .int .i64 0, .int .i64 1, .int .u16 1, .int .u16 0, .int .i64 1, .int .i64 2, .int .u16 0, .int .u16 1, .int .i64 2, .int .i64 1, .int .u16 1, .int .u16 0]),
    (3, [.string ⟨#[112]⟩]),
    (4, [.int .i64 0]),
    (5, [.int .i64 1])]
  v := .tuple #[.agg #[.slice (some ⟨175, 0, none⟩) 1 1, .slice (some ⟨218, 0, none⟩) 2 2], .bool true, .int .i64 0]
  next' := 290
  out := [(175, ⟨0, [.int .u16 1], 42, none, none, 0⟩),
    (218, ⟨0, [.int .u16 0, .int .u16 1], 42, none, none, 0⟩)]
theorem sm3_ok : SmOk Tryz.prog 1 sm3 :=
  sm_known (okP_of funcs_ok mixed_ok) (K := []) (fun _ h => by cases h) (d := 60) (by kernel_rfl)

def sm349 : Sm where
  f := 7
  args := [.agg #[.slice (some ⟨3, 0, none⟩) 1 1, .int .i64 3, .slice (some ⟨4, 0, none⟩) 1 1, .slice (some ⟨2, 0, none⟩) 4 4, .slice (some ⟨5, 0, none⟩) 1 1], .slice (some ⟨291, 0, none⟩) 1 1]
  next := 292
  ins := [(0, [.int .u8 0, .int .u8 1, .int .u8 56, .int .u8 2, .int .u8 57, .int .u8 49, .int .u8 28, .int .u8 3, .int .u8 61, .int .u8 58, .int .u8 42, .int .u8 50, .int .u8 38, .int .u8 29, .int .u8 17, .int .u8 4, .int .u8 62, .int .u8 47, .int .u8 59, .int .u8 36, .int .u8 45, .int .u8 43, .int .u8 51, .int .u8 22, .int .u8 53, .int .u8 39, .int .u8 33, .int .u8 30, .int .u8 24, .int .u8 18, .int .u8 12, .int .u8 5, .int .u8 63, .int .u8 55, .int .u8 48, .int .u8 27, .int .u8 60, .int .u8 41, .int .u8 37, .int .u8 16, .int .u8 46, .int .u8 35, .int .u8 44, .int .u8 21, .int .u8 52, .int .u8 32, .int .u8 23, .int .u8 11, .int .u8 54, .int .u8 26, .int .u8 40, .int .u8 15, .int .u8 34, .int .u8 20, .int .u8 31, .int .u8 10, .int .u8 25, .int .u8 14, .int .u8 19, .int .u8 9, .int .u8 13, .int .u8 8, .int .u8 7, .int .u8 6]),
    (2, [.int .i64 0, .int .i64 0, .int .u16 0, .int .u16 0, .int .i64 0, .int .i64 1, .int .u16 1, .int .u16 0, .int .i64 1, .int .i64 2, .int .u16 0, .int .u16 1, .int .i64 2, .int .i64 1, .int .u16 1, .int .u16 0]),
    (3, [.string ⟨#[112]⟩]),
    (4, [.int .i64 0]),
    (5, [.int .i64 1]),
    (291, [.int .i64 1])]
  v := .tuple #[.agg #[.slice (some ⟨455, 0, none⟩) 0 0, .slice (some ⟨459, 0, none⟩) 2 2], .bool true, .int .i64 0]
  next' := 531
  out := [(455, ⟨0, [], 42, none, none, 0⟩),
    (459, ⟨0, [.int .u16 0, .int .u16 1], 42, none, none, 0⟩)]
theorem sm349_ok : SmOk Tryz.prog 1 sm349 :=
  sm_known (okP_of funcs_ok mixed_ok) (K := [sm3]) (fun e he => by
    simp only [List.mem_cons, List.not_mem_nil, or_false] at he
    subst he
    exact sm3_ok) (d := 60) (by kernel_rfl)

def sm654 : Sm where
  f := 7
  args := [.agg #[.slice (some ⟨3, 0, none⟩) 1 1, .int .i64 3, .slice (some ⟨4, 0, none⟩) 1 1, .slice (some ⟨2, 0, none⟩) 4 4, .slice (some ⟨5, 0, none⟩) 1 1], .slice none 0 0]
  next := 532
  ins := [(0, [.int .u8 0, .int .u8 1, .int .u8 56, .int .u8 2, .int .u8 57, .int .u8 49, .int .u8 28, .int .u8 3, .int .u8 61, .int .u8 58, .int .u8 42, .int .u8 50, .int .u8 38, .int .u8 29, .int .u8 17, .int .u8 4, .int .u8 62, .int .u8 47, .int .u8 59, .int .u8 36, .int .u8 45, .int .u8 43, .int .u8 51, .int .u8 22, .int .u8 53, .int .u8 39, .int .u8 33, .int .u8 30, .int .u8 24, .int .u8 18, .int .u8 12, .int .u8 5, .int .u8 63, .int .u8 55, .int .u8 48, .int .u8 27, .int .u8 60, .int .u8 41, .int .u8 37, .int .u8 16, .int .u8 46, .int .u8 35, .int .u8 44, .int .u8 21, .int .u8 52, .int .u8 32, .int .u8 23, .int .u8 11, .int .u8 54, .int .u8 26, .int .u8 40, .int .u8 15, .int .u8 34, .int .u8 20, .int .u8 31, .int .u8 10, .int .u8 25, .int .u8 14, .int .u8 19, .int .u8 9, .int .u8 13, .int .u8 8, .int .u8 7, .int .u8 6]),
    (2, [.int .i64 0, .int .i64 0, .int .u16 0, .int .u16 0, .int .i64 0, .int .i64 1, .int .u16 1, .int .u16 0, .int .i64 1, .int .i64 2, .int .u16 0, .int .u16 1, .int .i64 2, .int .i64 1, .int .u16 1, .int .u16 0]),
    (3, [.string ⟨#[112]⟩]),
    (4, [.int .i64 0]),
    (5, [.int .i64 1])]
  v := .tuple #[.agg #[.slice none 0 0, .slice none 0 0], .bool false, .int .i64 0]
  next' := 652
  out := []
theorem sm654_ok : SmOk Tryz.prog 1 sm654 :=
  sm_known (okP_of funcs_ok mixed_ok) (K := [sm3, sm349]) (fun e he => by
    simp only [List.mem_cons, List.not_mem_nil, or_false] at he
    rcases he with rfl | rfl
    · exact sm3_ok
    · exact sm349_ok) (d := 60) (by kernel_rfl)

def sm845 : Sm where
  f := 8
  args := [.agg #[.slice (some ⟨3, 0, none⟩) 1 1, .int .i64 3, .slice (some ⟨4, 0, none⟩) 1 1, .slice (some ⟨2, 0, none⟩) 4 4, .slice (some ⟨5, 0, none⟩) 1 1]]
  next := 674
  ins := [(0, [.int .u8 0, .int .u8 1, .int .u8 56, .int .u8 2, .int .u8 57, .int .u8 49, .int .u8 28, .int .u8 3, .int .u8 61, .int .u8 58, .int .u8 42, .int .u8 50, .int .u8 38, .int .u8 29, .int .u8 17, .int .u8 4, .int .u8 62, .int .u8 47, .int .u8 59, .int .u8 36, .int .u8 45, .int .u8 43, .int .u8 51, .int .u8 22, .int .u8 53, .int .u8 39, .int .u8 33, .int .u8 30, .int .u8 24, .int .u8 18, .int .u8 12, .int .u8 5, .int .u8 63, .int .u8 55, .int .u8 48, .int .u8 27, .int .u8 60, .int .u8 41, .int .u8 37, .int .u8 16, .int .u8 46, .int .u8 35, .int .u8 44, .int .u8 21, .int .u8 52, .int .u8 32, .int .u8 23, .int .u8 11, .int .u8 54, .int .u8 26, .int .u8 40, .int .u8 15, .int .u8 34, .int .u8 20, .int .u8 31, .int .u8 10, .int .u8 25, .int .u8 14, .int .u8 19, .int .u8 9, .int .u8 13, .int .u8 8, .int .u8 7, .int .u8 6]),
    (2, [.int .i64 0, .int .i64 0, .int .u16 0, .int .u16 0, .int .i64 0, .int .i64 1, .int .u16 1, .int .u16 0, .int .i64 1, .int .i64 2, .int .u16 0, .int .u16 1, .int .i64 2, .int .i64 1, .int .u16 1, .int .u16 0]),
    (3, [.string ⟨#[112]⟩]),
    (4, [.int .i64 0]),
    (5, [.int .i64 1])]
  v := .tuple #[.pointer (some ⟨707, 0, none⟩), .int .i64 0]
  next' := 775
  out := [(706, ⟨0, [.int .u64 7], 68, none, none, 0⟩),
    (707, ⟨0, [.int .i64 3, .slice (some ⟨706, 0, none⟩) 1 1], 67, none, none, 0⟩)]
theorem sm845_ok : SmOk Tryz.prog 1 sm845 :=
  sm_known (okP_of funcs_ok mixed_ok) (K := [sm3, sm349, sm654]) (fun e he => by
    simp only [List.mem_cons, List.not_mem_nil, or_false] at he
    rcases he with rfl | rfl | rfl
    · exact sm3_ok
    · exact sm349_ok
    · exact sm654_ok) (d := 60) (by kernel_rfl)

def sm981 : Sm where
  f := 9
  args := [.agg #[.slice (some ⟨3, 0, none⟩) 1 1, .int .i64 3, .slice (some ⟨4, 0, none⟩) 1 1, .slice (some ⟨2, 0, none⟩) 4 4, .slice (some ⟨5, 0, none⟩) 1 1]]
  next := 775
  ins := [(0, [.int .u8 0, .int .u8 1, .int .u8 56, .int .u8 2, .int .u8 57, .int .u8 49, .int .u8 28, .int .u8 3, .int .u8 61, .int .u8 58, .int .u8 42, .int .u8 50, .int .u8 38, .int .u8 29, .int .u8 17, .int .u8 4, .int .u8 62, .int .u8 47, .int .u8 59, .int .u8 36, .int .u8 45, .int .u8 43, .int .u8 51, .int .u8 22, .int .u8 53, .int .u8 39, .int .u8 33, .int .u8 30, .int .u8 24, .int .u8 18, .int .u8 12, .int .u8 5, .int .u8 63, .int .u8 55, .int .u8 48, .int .u8 27, .int .u8 60, .int .u8 41, .int .u8 37, .int .u8 16, .int .u8 46, .int .u8 35, .int .u8 44, .int .u8 21, .int .u8 52, .int .u8 32, .int .u8 23, .int .u8 11, .int .u8 54, .int .u8 26, .int .u8 40, .int .u8 15, .int .u8 34, .int .u8 20, .int .u8 31, .int .u8 10, .int .u8 25, .int .u8 14, .int .u8 19, .int .u8 9, .int .u8 13, .int .u8 8, .int .u8 7, .int .u8 6]),
    (2, [.int .i64 0, .int .i64 0, .int .u16 0, .int .u16 0, .int .i64 0, .int .i64 1, .int .u16 1, .int .u16 0, .int .i64 1, .int .i64 2, .int .u16 0, .int .u16 1, .int .i64 2, .int .i64 1, .int .u16 1, .int .u16 0]),
    (3, [.string ⟨#[112]⟩]),
    (4, [.int .i64 0]),
    (5, [.int .i64 1])]
  v := .tuple #[.bool false, .int .i64 0]
  next' := 877
  out := []
theorem sm981_ok : SmOk Tryz.prog 1 sm981 :=
  sm_known (okP_of funcs_ok mixed_ok) (K := [sm3, sm349, sm654, sm845]) (fun e he => by
    simp only [List.mem_cons, List.not_mem_nil, or_false] at he
    rcases he with rfl | rfl | rfl | rfl
    · exact sm3_ok
    · exact sm349_ok
    · exact sm654_ok
    · exact sm845_ok) (d := 60) (by kernel_rfl)

theorem emptyNumbers_ev : yes ((ev Tryz.prog [sm3, sm349, sm654, sm845, sm981] 60).enter 3 [] H0) = true := by kernel_rfl
theorem emptyNumbers_walk (W : World) (h : Tab W) : Calls Tryz.prog 3 #[] W fun e w' => e = .returned (.bool true) ∧ Below W.heap.size W w' := by
  obtain ⟨H1, h1⟩ := yes_out emptyNumbers_ev
  exact ev_calls (okP_of funcs_ok mixed_ok) (K := [sm3, sm349, sm654, sm845, sm981]) (fun e he => by
    simp only [List.mem_cons, List.not_mem_nil, or_false] at he
    rcases he with rfl | rfl | rfl | rfl | rfl
    · exact sm3_ok
    · exact sm349_ok
    · exact sm654_ok
    · exact sm845_ok
    · exact sm981_ok) rfl h1 (tab_R h)

end Go.Proofs.YtfcknafkllilpaaGreatDoor
