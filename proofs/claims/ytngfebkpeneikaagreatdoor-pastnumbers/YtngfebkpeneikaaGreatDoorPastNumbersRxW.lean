/- The call of the law, by the evaluator. -/
import Derived.Test.YtngfebkpeneikaaGreatDoorRxC
import Derived.Test.YtngfebkpeneikaaGreatDoorChecked
import Derived.KernelRfl
import Derived.ProofKit
import Derived.OpenShut
import Derived.Lib.LaidTab
import Derived.Lib.TrailingZeros
import Derived.SevenTiedAt
import Derived.Stop.LaidErr
import Derived.LaidSub
namespace Go.Proofs.YtngfebkpeneikaaGreatDoor
open Go.ChangeShapes Go.WideShapes Go.ChangeAt Go.WideMaps Go.WideElems Go.RowKit Rx

def yes : Option (Value × AH) → Bool
  | some (.bool b, _) => b
  | _ => false
theorem yes_out {r : Option (Value × AH)} (h : yes r = true) : ∃ H1, r = some (.bool true, H1) := by
  unfold yes at h
  split at h
  · subst h; exact ⟨_, rfl⟩
  · cases h
theorem mixed_ok : Tryz.prog.follows .mixedOrders = true := Checked.mixed Tryz.checked
theorem own : ownKnob Tryz.prog.godebug = none := by kernel_rfl

theorem funcs_ok : Tryz.prog.funcs.toList.all (funcOkB 5) = true := by kernel_rfl
def kidsL : List Nat := [0, 0, 0, 0, 1, 2, 2, 2, 2, 1, 1, 1, 2, 2, 2, 2, 1, 1, 1, 1, 2, 2]
def tab0 : List Value := kidsL.map fun n : Nat => .int .i64 (n : Int)
def H0 : AH := ⟨5, some (Tri.s14 none 0 ⟨2, tab0, 0, none, none, 0⟩)⟩
def Tab (w : World) : Prop := (∀ j, j < 22 → w.cell? ⟨0, j, none⟩ = some (.int .i64 (kidsL.getD j 0 : Nat)))
theorem map_get (k : IntKind) (l : List Nat) (i : Nat) (v : Value) (h : (l.map fun n : Nat => Value.int k (n : Int))[i]? = some v) : i < l.length ∧ v = .int k (l.getD i 0 : Nat) := by
  rw [List.getElem?_map] at h
  cases hd : l[i]? with
  | none => rw [hd] at h; cases h
  | some n =>
    rw [hd] at h
    cases h
    exact ⟨(List.getElem?_eq_some_iff.1 hd).1, by rw [List.getD_eq_getElem?_getD, hd]; rfl⟩
theorem tab_R {W : World} (h : Tab W) : R 5 W.heap.size W (fun b => if b < 5 then some ⟨b, 0, 0, 0⟩ else none) H0 W :=
  start_R (tabs := fun g => tab0) rfl (by decide)
    (fun g hg hk => by
      rcases (by omega : g = 0 ∨ g = 1 ∨ g = 2 ∨ g = 3 ∨ g = 4) with rfl | rfl | rfl | rfl | rfl
      · exact World.block_lt_of_cell? W _ (h 0 (by omega))
      · exact absurd rfl hk
      · exact absurd rfl hk
      · exact absurd rfl hk
      · exact absurd rfl hk)
    (fun g hg => by
      rcases (by omega : g = 0 ∨ g = 1 ∨ g = 2 ∨ g = 3 ∨ g = 4) with rfl | rfl | rfl | rfl | rfl
      · exact .inr rfl
      · exact .inl rfl
      · exact .inl rfl
      · exact .inl rfl
      · exact .inl rfl)
    (fun g hg i v hv hk => by
      rcases (by omega : g = 0 ∨ g = 1 ∨ g = 2 ∨ g = 3 ∨ g = 4) with rfl | rfl | rfl | rfl | rfl
      · obtain ⟨h1, rfl⟩ := map_get .i64 kidsL i v (by simpa [tab0] using hv)
        exact ⟨h i h1, rfl⟩
      · exact absurd rfl hk
      · exact absurd rfl hk
      · exact absurd rfl hk
      · exact absurd rfl hk)
def sm259 : Sn where
  f := 81
  args := []
  gl := 5
  next := 386
  ins := [(0, [.int .i64 0, .int .i64 0, .int .i64 0, .int .i64 0, .int .i64 1, .int .i64 2, .int .i64 2, .int .i64 2, .int .i64 2, .int .i64 1, .int .i64 1, .int .i64 1, .int .i64 2, .int .i64 2, .int .i64 2, .int .i64 2, .int .i64 1, .int .i64 1, .int .i64 1, .int .i64 1, .int .i64 2, .int .i64 2])]
  v := .agg #[.func (.func 90) #[] #[], .func (.func 90) #[] #[], .func (.func 90) #[] #[], .func (.func 90) #[] #[], .func (.func 90) #[] #[], .func (.func 90) #[] #[], .func (.func 90) #[] #[], .func (.func 90) #[] #[], .func (.func 90) #[] #[], .func (.func 90) #[] #[], .func (.func 90) #[] #[], .func (.func 90) #[] #[], .func (.func 90) #[] #[], .func (.func 90) #[] #[], .func (.func 90) #[] #[], .func (.func 90) #[] #[], .func (.func 90) #[] #[], .func (.func 90) #[] #[], .func (.func 90) #[] #[], .func (.func 90) #[] #[], .func (.func 90) #[] #[], .func (.func 90) #[] #[], .func (.func 90) #[] #[], .func (.func 90) #[] #[], .func (.func 90) #[] #[], .func (.func 90) #[] #[], .func (.func 90) #[] #[], .func (.func 90) #[] #[], .func (.func 90) #[] #[], .func (.func 90) #[] #[], .func (.func 90) #[] #[], .func (.func 90) #[] #[], .func (.func 90) #[] #[], .func (.func 93) #[] #[], .func (.func 94) #[] #[], .func (.func 90) #[] #[], .func (.func 90) #[] #[], .func (.func 90) #[] #[], .func (.func 93) #[] #[], .func (.func 90) #[] #[], .func (.func 93) #[] #[], .func (.func 93) #[] #[], .func (.func 90) #[] #[], .func (.func 90) #[] #[], .func (.func 90) #[] #[], .func (.func 95) #[] #[], .func (.func 90) #[] #[], .func (.func 90) #[] #[], .func (.func 90) #[] #[], .func (.func 90) #[] #[], .func (.func 90) #[] #[], .func (.func 90) #[] #[], .func (.func 90) #[] #[], .func (.func 90) #[] #[], .func (.func 90) #[] #[], .func (.func 90) #[] #[], .func (.func 90) #[] #[], .func (.func 90) #[] #[], .func (.func 90) #[] #[], .func (.func 90) #[] #[], .func (.func 96) #[] #[], .func (.func 90) #[] #[], .func (.func 90) #[] #[], .func (.func 90) #[] #[], .func (.func 90) #[] #[], .func (.func 92) #[] #[], .func (.func 92) #[] #[], .func (.func 92) #[] #[], .func (.func 92) #[] #[], .func (.func 92) #[] #[], .func (.func 92) #[] #[], .func (.func 92) #[] #[], .func (.func 92) #[] #[], .func (.func 92) #[] #[], .func (.func 92) #[] #[], .func (.func 92) #[] #[], .func (.func 92) #[] #[], .func (.func 92) #[] #[], .func (.func 92) #[] #[], .func (.func 92) #[] #[], .func (.func 92) #[] #[], .func (.func 92) #[] #[], .func (.func 92) #[] #[], .func (.func 92) #[] #[], .func (.func 92) #[] #[], .func (.func 92) #[] #[], .func (.func 92) #[] #[], .func (.func 92) #[] #[], .func (.func 92) #[] #[], .func (.func 92) #[] #[], .func (.func 92) #[] #[], .func (.func 90) #[] #[], .func (.func 90) #[] #[], .func (.func 90) #[] #[], .func (.func 90) #[] #[], .func (.func 92) #[] #[], .func (.func 90) #[] #[], .func (.func 92) #[] #[], .func (.func 92) #[] #[], .func (.func 92) #[] #[], .func (.func 92) #[] #[], .func (.func 92) #[] #[], .func (.func 92) #[] #[], .func (.func 92) #[] #[], .func (.func 92) #[] #[], .func (.func 92) #[] #[], .func (.func 92) #[] #[], .func (.func 92) #[] #[], .func (.func 92) #[] #[], .func (.func 92) #[] #[], .func (.func 92) #[] #[], .func (.func 92) #[] #[], .func (.func 92) #[] #[], .func (.func 92) #[] #[], .func (.func 92) #[] #[], .func (.func 92) #[] #[], .func (.func 92) #[] #[], .func (.func 92) #[] #[], .func (.func 92) #[] #[], .func (.func 92) #[] #[], .func (.func 92) #[] #[], .func (.func 92) #[] #[], .func (.func 92) #[] #[], .func (.func 90) #[] #[], .func (.func 93) #[] #[], .func (.func 90) #[] #[], .func (.func 90) #[] #[], .func (.func 90) #[] #[], .func (.func 90) #[] #[], .func (.func 90) #[] #[], .func (.func 90) #[] #[], .func (.func 90) #[] #[], .func (.func 90) #[] #[], .func (.func 90) #[] #[], .func (.func 90) #[] #[], .func (.func 90) #[] #[], .func (.func 90) #[] #[], .func (.func 90) #[] #[], .func (.func 90) #[] #[], .func (.func 90) #[] #[], .func (.func 90) #[] #[], .func (.func 90) #[] #[], .func (.func 90) #[] #[], .func (.func 90) #[] #[], .func (.func 90) #[] #[], .func (.func 90) #[] #[], .func (.func 90) #[] #[], .func (.func 90) #[] #[], .func (.func 90) #[] #[], .func (.func 90) #[] #[], .func (.func 90) #[] #[], .func (.func 90) #[] #[], .func (.func 90) #[] #[], .func (.func 90) #[] #[], .func (.func 90) #[] #[], .func (.func 90) #[] #[], .func (.func 90) #[] #[], .func (.func 90) #[] #[], .func (.func 90) #[] #[], .func (.func 90) #[] #[], .func (.func 90) #[] #[], .func (.func 90) #[] #[], .func (.func 90) #[] #[], .func (.func 90) #[] #[], .func (.func 90) #[] #[], .func (.func 90) #[] #[], .func (.func 90) #[] #[], .func (.func 90) #[] #[], .func (.func 90) #[] #[], .func (.func 90) #[] #[], .func (.func 90) #[] #[], .func (.func 90) #[] #[], .func (.func 90) #[] #[], .func (.func 90) #[] #[], .func (.func 90) #[] #[], .func (.func 90) #[] #[], .func (.func 90) #[] #[], .func (.func 90) #[] #[], .func (.func 90) #[] #[], .func (.func 90) #[] #[], .func (.func 90) #[] #[], .func (.func 90) #[] #[], .func (.func 90) #[] #[], .func (.func 90) #[] #[], .func (.func 90) #[] #[], .func (.func 90) #[] #[], .func (.func 90) #[] #[], .func (.func 90) #[] #[], .func (.func 90) #[] #[], .func (.func 90) #[] #[], .func (.func 90) #[] #[], .func (.func 90) #[] #[], .func (.func 90) #[] #[], .func (.func 90) #[] #[], .func (.func 90) #[] #[], .func (.func 90) #[] #[], .func (.func 90) #[] #[], .func (.func 90) #[] #[], .func (.func 90) #[] #[], .func (.func 90) #[] #[], .func (.func 90) #[] #[], .func (.func 90) #[] #[], .func (.func 90) #[] #[], .func (.func 90) #[] #[], .func (.func 90) #[] #[], .func (.func 90) #[] #[], .func (.func 90) #[] #[], .func (.func 90) #[] #[], .func (.func 90) #[] #[], .func (.func 90) #[] #[], .func (.func 90) #[] #[], .func (.func 90) #[] #[], .func (.func 90) #[] #[], .func (.func 90) #[] #[], .func (.func 90) #[] #[], .func (.func 90) #[] #[], .func (.func 90) #[] #[], .func (.func 90) #[] #[], .func (.func 90) #[] #[], .func (.func 90) #[] #[], .func (.func 90) #[] #[], .func (.func 90) #[] #[], .func (.func 90) #[] #[], .func (.func 90) #[] #[], .func (.func 90) #[] #[], .func (.func 90) #[] #[], .func (.func 90) #[] #[], .func (.func 90) #[] #[], .func (.func 90) #[] #[], .func (.func 90) #[] #[], .func (.func 90) #[] #[], .func (.func 90) #[] #[], .func (.func 90) #[] #[], .func (.func 90) #[] #[], .func (.func 90) #[] #[], .func (.func 90) #[] #[], .func (.func 90) #[] #[], .func (.func 90) #[] #[], .func (.func 90) #[] #[], .func (.func 90) #[] #[], .func (.func 90) #[] #[], .func (.func 90) #[] #[], .func (.func 90) #[] #[], .func (.func 90) #[] #[], .func (.func 90) #[] #[], .func (.func 90) #[] #[], .func (.func 90) #[] #[], .func (.func 90) #[] #[], .func (.func 90) #[] #[], .func (.func 90) #[] #[], .func (.func 90) #[] #[], .func (.func 90) #[] #[], .func (.func 90) #[] #[], .func (.func 90) #[] #[], .func (.func 90) #[] #[], .func (.func 90) #[] #[]]
  next' := 389
  out := []
theorem sm259_ok : SnOk Tryz.prog 5 sm259 :=
  sn_known (okP_of funcs_ok mixed_ok) (K := []) (fun _ h => by cases h) (d := 60) rfl (by kernel_rfl)

def sm253 : Sn where
  f := 49
  args := [.string ⟨#[79, 32, 111, 112, 101, 110]⟩, .agg #[.int .i64 65536, .int .i64 1000, .int .i64 100, .int .i64 8, .int .i64 0, .int .i64 0, .int .i64 0]]
  gl := 5
  next := 377
  ins := [(0, [.int .i64 0, .int .i64 0, .int .i64 0, .int .i64 0, .int .i64 1, .int .i64 2, .int .i64 2, .int .i64 2, .int .i64 2, .int .i64 1, .int .i64 1, .int .i64 1, .int .i64 2, .int .i64 2, .int .i64 2, .int .i64 2, .int .i64 1, .int .i64 1, .int .i64 1, .int .i64 1, .int .i64 2, .int .i64 2])]
  v := .tuple #[.agg #[.int .u8 18, .string ⟨#[]⟩, .slice (some ⟨441, 0, none⟩) 1 (BIG + 1)], .nilIface]
  next' := 490
  out := [(441, ⟨1, [.int .u8 3, .string ⟨#[111, 112, 101, 110]⟩, .slice none 0 0], 28, none, none, 3⟩)]
theorem sm253_ok : SnOk Tryz.prog 5 sm253 :=
  sn_known (okP_of funcs_ok mixed_ok) (K := [sm259]) (fun e he => by
    simp only [List.mem_cons, List.not_mem_nil, or_false] at he
    subst he
    exact sm259_ok) (d := 60) rfl (by kernel_rfl)

theorem pastNumbers_ev : yes ((ev Tryz.prog [sm253] 60).enter 3 [] H0) = true := by kernel_rfl
theorem pastNumbers_walk (W : World) (h : Tab W) : Calls Tryz.prog 3 #[] W fun e w' => e = .returned (.bool true) ∧ Below W.heap.size W w' := by
  obtain ⟨H1, h1⟩ := yes_out pastNumbers_ev
  exact ev_calls (okP_of funcs_ok mixed_ok) (K := [sm253]) (fun e he => by
    simp only [List.mem_cons, List.not_mem_nil, or_false] at he
    subst he
    exact sm253_ok) rfl h1 (tab_R h)

end Go.Proofs.YtngfebkpeneikaaGreatDoor
