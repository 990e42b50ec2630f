/- EvalDuals' great region: its operations, one by one. -/
import Derived.Test.YtddgciilcghbaaaDoorHeldStep
namespace Go.Proofs.YtddgciilcghbaaaDoor
open Go.RowKit Go.Shelf
noncomputable def dOps : Array Oper := ((Tryd.f3.body.bind (regionAt 12)).getD #[])
noncomputable def dOp (i : Nat) : Oper := dOps.getD i default
/-- When each comes up. -/
def dPos : List Nat := [0, 50, 1, 2, 51, 3, 52, 4, 5, 53, 6, 7, 54, 8, 9, 10, 55, 56, 11, 12, 57, 13, 14, 15, 58, 59, 16, 17, 60, 61, 18, 19, 62, 20, 21, 63, 64, 22, 23, 65, 24, 25, 66, 67, 26, 27, 68, 28, 69, 70, 29, 71, 30, 72, 73, 31, 74, 32, 33, 75, 34, 35, 76, 36, 37, 77, 38, 39, 78, 79, 40, 41, 80, 81, 42, 82, 43, 83, 84, 44, 45, 85, 86, 46, 87, 47, 88, 89, 48, 90, 91, 49, 92, 93, 94, 95]
/-- Which have come up behind k. -/
def dL (k : Nat) : Array Bool := (dPos.map fun p => decide (p < k)).toArray
theorem dOps_size : dOps.size = 96 := by kernel_rfl
theorem dL_zero : Array.replicate 96 false = dL 0 := by kernel_rfl
theorem dNoSel : Region.noSelect dOps = true := by kernel_rfl
structure LdAt (k i s d : Nat) : Prop where
  at_ : dOps[i]? = some (dOp i)
  op : (dOp i).op = Op.load 25 (.tmp s)
  dst : (dOp i).dst = some d
  guard : (dOp i).guard = none
  free : Region.free .any dOps (dL k) i = true
  ready : (Region.ready .any dOps (dL k)).contains i = true
  link : (dL k).setIfInBounds i true = dL (k + 1)
structure OneAt (k i d c s : Nat) : Prop where
  at_ : dOps[i]? = some (dOp i)
  op : (dOp i).op = Op.call { callee := .value (.func 9), args := #[.const (.int .u8 (c : Nat)), .tmp s], argTypes := #[22, 25] }
  dst : (dOp i).dst = some d
  guard : (dOp i).guard = none
  ready : Region.ready .any dOps (dL k) = [i]
  link : (dL k).setIfInBounds i true = dL (k + 1)
structure TwoAt (k i d c s t : Nat) : Prop where
  at_ : dOps[i]? = some (dOp i)
  op : (dOp i).op = Op.call { callee := .value (.func 10), args := #[.const (.int .u8 (c : Nat)), .tmp s, .tmp t], argTypes := #[22, 25, 25] }
  dst : (dOp i).dst = some d
  guard : (dOp i).guard = none
  ready : Region.ready .any dOps (dL k) = [i]
  link : (dL k).setIfInBounds i true = dL (k + 1)
theorem dop0 : LdAt 0 0 4 52 := ⟨by kernel_rfl, by kernel_rfl, by kernel_rfl, by kernel_rfl, by kernel_rfl, by kernel_rfl, by kernel_rfl⟩
theorem dop1 : LdAt 1 2 12 54 := ⟨by kernel_rfl, by kernel_rfl, by kernel_rfl, by kernel_rfl, by kernel_rfl, by kernel_rfl, by kernel_rfl⟩
theorem dop2 : LdAt 2 3 4 55 := ⟨by kernel_rfl, by kernel_rfl, by kernel_rfl, by kernel_rfl, by kernel_rfl, by kernel_rfl, by kernel_rfl⟩
theorem dop3 : LdAt 3 5 4 57 := ⟨by kernel_rfl, by kernel_rfl, by kernel_rfl, by kernel_rfl, by kernel_rfl, by kernel_rfl, by kernel_rfl⟩
theorem dop4 : LdAt 4 7 13 59 := ⟨by kernel_rfl, by kernel_rfl, by kernel_rfl, by kernel_rfl, by kernel_rfl, by kernel_rfl, by kernel_rfl⟩
theorem dop5 : LdAt 5 8 4 60 := ⟨by kernel_rfl, by kernel_rfl, by kernel_rfl, by kernel_rfl, by kernel_rfl, by kernel_rfl, by kernel_rfl⟩
theorem dop6 : LdAt 6 10 4 62 := ⟨by kernel_rfl, by kernel_rfl, by kernel_rfl, by kernel_rfl, by kernel_rfl, by kernel_rfl, by kernel_rfl⟩
theorem dop7 : LdAt 7 11 5 63 := ⟨by kernel_rfl, by kernel_rfl, by kernel_rfl, by kernel_rfl, by kernel_rfl, by kernel_rfl, by kernel_rfl⟩
theorem dop8 : LdAt 8 13 5 65 := ⟨by kernel_rfl, by kernel_rfl, by kernel_rfl, by kernel_rfl, by kernel_rfl, by kernel_rfl, by kernel_rfl⟩
theorem dop9 : LdAt 9 14 4 66 := ⟨by kernel_rfl, by kernel_rfl, by kernel_rfl, by kernel_rfl, by kernel_rfl, by kernel_rfl, by kernel_rfl⟩
theorem dop10 : LdAt 10 15 5 67 := ⟨by kernel_rfl, by kernel_rfl, by kernel_rfl, by kernel_rfl, by kernel_rfl, by kernel_rfl, by kernel_rfl⟩
theorem dop11 : LdAt 11 18 4 70 := ⟨by kernel_rfl, by kernel_rfl, by kernel_rfl, by kernel_rfl, by kernel_rfl, by kernel_rfl, by kernel_rfl⟩
theorem dop12 : LdAt 12 19 5 71 := ⟨by kernel_rfl, by kernel_rfl, by kernel_rfl, by kernel_rfl, by kernel_rfl, by kernel_rfl, by kernel_rfl⟩
theorem dop13 : LdAt 13 21 5 73 := ⟨by kernel_rfl, by kernel_rfl, by kernel_rfl, by kernel_rfl, by kernel_rfl, by kernel_rfl, by kernel_rfl⟩
theorem dop14 : LdAt 14 22 4 74 := ⟨by kernel_rfl, by kernel_rfl, by kernel_rfl, by kernel_rfl, by kernel_rfl, by kernel_rfl, by kernel_rfl⟩
theorem dop15 : LdAt 15 23 5 75 := ⟨by kernel_rfl, by kernel_rfl, by kernel_rfl, by kernel_rfl, by kernel_rfl, by kernel_rfl, by kernel_rfl⟩
theorem dop16 : LdAt 16 26 4 78 := ⟨by kernel_rfl, by kernel_rfl, by kernel_rfl, by kernel_rfl, by kernel_rfl, by kernel_rfl, by kernel_rfl⟩
theorem dop17 : LdAt 17 27 5 79 := ⟨by kernel_rfl, by kernel_rfl, by kernel_rfl, by kernel_rfl, by kernel_rfl, by kernel_rfl, by kernel_rfl⟩
theorem dop18 : LdAt 18 30 14 82 := ⟨by kernel_rfl, by kernel_rfl, by kernel_rfl, by kernel_rfl, by kernel_rfl, by kernel_rfl, by kernel_rfl⟩
theorem dop19 : LdAt 19 31 15 83 := ⟨by kernel_rfl, by kernel_rfl, by kernel_rfl, by kernel_rfl, by kernel_rfl, by kernel_rfl, by kernel_rfl⟩
theorem dop20 : LdAt 20 33 4 85 := ⟨by kernel_rfl, by kernel_rfl, by kernel_rfl, by kernel_rfl, by kernel_rfl, by kernel_rfl, by kernel_rfl⟩
theorem dop21 : LdAt 21 34 5 86 := ⟨by kernel_rfl, by kernel_rfl, by kernel_rfl, by kernel_rfl, by kernel_rfl, by kernel_rfl, by kernel_rfl⟩
theorem dop22 : LdAt 22 37 14 89 := ⟨by kernel_rfl, by kernel_rfl, by kernel_rfl, by kernel_rfl, by kernel_rfl, by kernel_rfl, by kernel_rfl⟩
theorem dop23 : LdAt 23 38 15 90 := ⟨by kernel_rfl, by kernel_rfl, by kernel_rfl, by kernel_rfl, by kernel_rfl, by kernel_rfl, by kernel_rfl⟩
theorem dop24 : LdAt 24 40 4 92 := ⟨by kernel_rfl, by kernel_rfl, by kernel_rfl, by kernel_rfl, by kernel_rfl, by kernel_rfl, by kernel_rfl⟩
theorem dop25 : LdAt 25 41 5 93 := ⟨by kernel_rfl, by kernel_rfl, by kernel_rfl, by kernel_rfl, by kernel_rfl, by kernel_rfl, by kernel_rfl⟩
theorem dop26 : LdAt 26 44 14 96 := ⟨by kernel_rfl, by kernel_rfl, by kernel_rfl, by kernel_rfl, by kernel_rfl, by kernel_rfl, by kernel_rfl⟩
theorem dop27 : LdAt 27 45 15 97 := ⟨by kernel_rfl, by kernel_rfl, by kernel_rfl, by kernel_rfl, by kernel_rfl, by kernel_rfl, by kernel_rfl⟩
theorem dop28 : LdAt 28 47 4 99 := ⟨by kernel_rfl, by kernel_rfl, by kernel_rfl, by kernel_rfl, by kernel_rfl, by kernel_rfl, by kernel_rfl⟩
theorem dop29 : LdAt 29 50 14 102 := ⟨by kernel_rfl, by kernel_rfl, by kernel_rfl, by kernel_rfl, by kernel_rfl, by kernel_rfl, by kernel_rfl⟩
theorem dop30 : LdAt 30 52 4 104 := ⟨by kernel_rfl, by kernel_rfl, by kernel_rfl, by kernel_rfl, by kernel_rfl, by kernel_rfl, by kernel_rfl⟩
theorem dop31 : LdAt 31 55 14 107 := ⟨by kernel_rfl, by kernel_rfl, by kernel_rfl, by kernel_rfl, by kernel_rfl, by kernel_rfl, by kernel_rfl⟩
theorem dop32 : LdAt 32 57 4 109 := ⟨by kernel_rfl, by kernel_rfl, by kernel_rfl, by kernel_rfl, by kernel_rfl, by kernel_rfl, by kernel_rfl⟩
theorem dop33 : LdAt 33 58 5 110 := ⟨by kernel_rfl, by kernel_rfl, by kernel_rfl, by kernel_rfl, by kernel_rfl, by kernel_rfl, by kernel_rfl⟩
theorem dop34 : LdAt 34 60 14 112 := ⟨by kernel_rfl, by kernel_rfl, by kernel_rfl, by kernel_rfl, by kernel_rfl, by kernel_rfl, by kernel_rfl⟩
theorem dop35 : LdAt 35 61 5 113 := ⟨by kernel_rfl, by kernel_rfl, by kernel_rfl, by kernel_rfl, by kernel_rfl, by kernel_rfl, by kernel_rfl⟩
theorem dop36 : LdAt 36 63 4 115 := ⟨by kernel_rfl, by kernel_rfl, by kernel_rfl, by kernel_rfl, by kernel_rfl, by kernel_rfl, by kernel_rfl⟩
theorem dop37 : LdAt 37 64 5 116 := ⟨by kernel_rfl, by kernel_rfl, by kernel_rfl, by kernel_rfl, by kernel_rfl, by kernel_rfl, by kernel_rfl⟩
theorem dop38 : LdAt 38 66 14 118 := ⟨by kernel_rfl, by kernel_rfl, by kernel_rfl, by kernel_rfl, by kernel_rfl, by kernel_rfl, by kernel_rfl⟩
theorem dop39 : LdAt 39 67 5 119 := ⟨by kernel_rfl, by kernel_rfl, by kernel_rfl, by kernel_rfl, by kernel_rfl, by kernel_rfl, by kernel_rfl⟩
theorem dop40 : LdAt 40 70 4 122 := ⟨by kernel_rfl, by kernel_rfl, by kernel_rfl, by kernel_rfl, by kernel_rfl, by kernel_rfl, by kernel_rfl⟩
theorem dop41 : LdAt 41 71 5 123 := ⟨by kernel_rfl, by kernel_rfl, by kernel_rfl, by kernel_rfl, by kernel_rfl, by kernel_rfl, by kernel_rfl⟩
theorem dop42 : LdAt 42 74 4 126 := ⟨by kernel_rfl, by kernel_rfl, by kernel_rfl, by kernel_rfl, by kernel_rfl, by kernel_rfl, by kernel_rfl⟩
theorem dop43 : LdAt 43 76 5 128 := ⟨by kernel_rfl, by kernel_rfl, by kernel_rfl, by kernel_rfl, by kernel_rfl, by kernel_rfl, by kernel_rfl⟩
theorem dop44 : LdAt 44 79 4 131 := ⟨by kernel_rfl, by kernel_rfl, by kernel_rfl, by kernel_rfl, by kernel_rfl, by kernel_rfl, by kernel_rfl⟩
theorem dop45 : LdAt 45 80 5 132 := ⟨by kernel_rfl, by kernel_rfl, by kernel_rfl, by kernel_rfl, by kernel_rfl, by kernel_rfl, by kernel_rfl⟩
theorem dop46 : LdAt 46 83 4 135 := ⟨by kernel_rfl, by kernel_rfl, by kernel_rfl, by kernel_rfl, by kernel_rfl, by kernel_rfl, by kernel_rfl⟩
theorem dop47 : LdAt 47 85 5 137 := ⟨by kernel_rfl, by kernel_rfl, by kernel_rfl, by kernel_rfl, by kernel_rfl, by kernel_rfl, by kernel_rfl⟩
theorem dop48 : LdAt 48 88 4 140 := ⟨by kernel_rfl, by kernel_rfl, by kernel_rfl, by kernel_rfl, by kernel_rfl, by kernel_rfl, by kernel_rfl⟩
theorem dop49 : LdAt 49 91 4 143 := ⟨by kernel_rfl, by kernel_rfl, by kernel_rfl, by kernel_rfl, by kernel_rfl, by kernel_rfl, by kernel_rfl⟩
theorem dop50 : OneAt 50 1 53 10 52 := ⟨by kernel_rfl, by kernel_rfl, by kernel_rfl, by kernel_rfl, by kernel_rfl, by kernel_rfl⟩
theorem dop51 : TwoAt 51 4 56 12 54 55 := ⟨by kernel_rfl, by kernel_rfl, by kernel_rfl, by kernel_rfl, by kernel_rfl, by kernel_rfl⟩
theorem dop52 : OneAt 52 6 58 11 57 := ⟨by kernel_rfl, by kernel_rfl, by kernel_rfl, by kernel_rfl, by kernel_rfl, by kernel_rfl⟩
theorem dop53 : TwoAt 53 9 61 13 59 60 := ⟨by kernel_rfl, by kernel_rfl, by kernel_rfl, by kernel_rfl, by kernel_rfl, by kernel_rfl⟩
theorem dop54 : TwoAt 54 12 64 14 62 63 := ⟨by kernel_rfl, by kernel_rfl, by kernel_rfl, by kernel_rfl, by kernel_rfl, by kernel_rfl⟩
theorem dop55 : TwoAt 55 16 68 6 66 67 := ⟨by kernel_rfl, by kernel_rfl, by kernel_rfl, by kernel_rfl, by kernel_rfl, by kernel_rfl⟩
theorem dop56 : TwoAt 56 17 69 13 65 68 := ⟨by kernel_rfl, by kernel_rfl, by kernel_rfl, by kernel_rfl, by kernel_rfl, by kernel_rfl⟩
theorem dop57 : TwoAt 57 20 72 15 70 71 := ⟨by kernel_rfl, by kernel_rfl, by kernel_rfl, by kernel_rfl, by kernel_rfl, by kernel_rfl⟩
theorem dop58 : TwoAt 58 24 76 5 74 75 := ⟨by kernel_rfl, by kernel_rfl, by kernel_rfl, by kernel_rfl, by kernel_rfl, by kernel_rfl⟩
theorem dop59 : TwoAt 59 25 77 12 73 76 := ⟨by kernel_rfl, by kernel_rfl, by kernel_rfl, by kernel_rfl, by kernel_rfl, by kernel_rfl⟩
theorem dop60 : TwoAt 60 28 80 12 78 79 := ⟨by kernel_rfl, by kernel_rfl, by kernel_rfl, by kernel_rfl, by kernel_rfl, by kernel_rfl⟩
theorem dop61 : OneAt 61 29 81 4 80 := ⟨by kernel_rfl, by kernel_rfl, by kernel_rfl, by kernel_rfl, by kernel_rfl, by kernel_rfl⟩
theorem dop62 : TwoAt 62 32 84 13 82 83 := ⟨by kernel_rfl, by kernel_rfl, by kernel_rfl, by kernel_rfl, by kernel_rfl, by kernel_rfl⟩
theorem dop63 : TwoAt 63 35 87 13 85 86 := ⟨by kernel_rfl, by kernel_rfl, by kernel_rfl, by kernel_rfl, by kernel_rfl, by kernel_rfl⟩
theorem dop64 : OneAt 64 36 88 4 87 := ⟨by kernel_rfl, by kernel_rfl, by kernel_rfl, by kernel_rfl, by kernel_rfl, by kernel_rfl⟩
theorem dop65 : TwoAt 65 39 91 12 89 90 := ⟨by kernel_rfl, by kernel_rfl, by kernel_rfl, by kernel_rfl, by kernel_rfl, by kernel_rfl⟩
theorem dop66 : TwoAt 66 42 94 14 92 93 := ⟨by kernel_rfl, by kernel_rfl, by kernel_rfl, by kernel_rfl, by kernel_rfl, by kernel_rfl⟩
theorem dop67 : OneAt 67 43 95 4 94 := ⟨by kernel_rfl, by kernel_rfl, by kernel_rfl, by kernel_rfl, by kernel_rfl, by kernel_rfl⟩
theorem dop68 : TwoAt 68 46 98 15 96 97 := ⟨by kernel_rfl, by kernel_rfl, by kernel_rfl, by kernel_rfl, by kernel_rfl, by kernel_rfl⟩
theorem dop69 : OneAt 69 48 100 10 99 := ⟨by kernel_rfl, by kernel_rfl, by kernel_rfl, by kernel_rfl, by kernel_rfl, by kernel_rfl⟩
theorem dop70 : OneAt 70 49 101 4 100 := ⟨by kernel_rfl, by kernel_rfl, by kernel_rfl, by kernel_rfl, by kernel_rfl, by kernel_rfl⟩
theorem dop71 : OneAt 71 51 103 11 102 := ⟨by kernel_rfl, by kernel_rfl, by kernel_rfl, by kernel_rfl, by kernel_rfl, by kernel_rfl⟩
theorem dop72 : OneAt 72 53 105 9 104 := ⟨by kernel_rfl, by kernel_rfl, by kernel_rfl, by kernel_rfl, by kernel_rfl, by kernel_rfl⟩
theorem dop73 : OneAt 73 54 106 4 105 := ⟨by kernel_rfl, by kernel_rfl, by kernel_rfl, by kernel_rfl, by kernel_rfl, by kernel_rfl⟩
theorem dop74 : OneAt 74 56 108 9 107 := ⟨by kernel_rfl, by kernel_rfl, by kernel_rfl, by kernel_rfl, by kernel_rfl, by kernel_rfl⟩
theorem dop75 : TwoAt 75 59 111 7 109 110 := ⟨by kernel_rfl, by kernel_rfl, by kernel_rfl, by kernel_rfl, by kernel_rfl, by kernel_rfl⟩
theorem dop76 : TwoAt 76 62 114 6 112 113 := ⟨by kernel_rfl, by kernel_rfl, by kernel_rfl, by kernel_rfl, by kernel_rfl, by kernel_rfl⟩
theorem dop77 : TwoAt 77 65 117 8 115 116 := ⟨by kernel_rfl, by kernel_rfl, by kernel_rfl, by kernel_rfl, by kernel_rfl, by kernel_rfl⟩
theorem dop78 : TwoAt 78 68 120 8 118 119 := ⟨by kernel_rfl, by kernel_rfl, by kernel_rfl, by kernel_rfl, by kernel_rfl, by kernel_rfl⟩
theorem dop79 : OneAt 79 69 121 4 120 := ⟨by kernel_rfl, by kernel_rfl, by kernel_rfl, by kernel_rfl, by kernel_rfl, by kernel_rfl⟩
theorem dop80 : TwoAt 80 72 124 12 122 123 := ⟨by kernel_rfl, by kernel_rfl, by kernel_rfl, by kernel_rfl, by kernel_rfl, by kernel_rfl⟩
theorem dop81 : OneAt 81 73 125 9 124 := ⟨by kernel_rfl, by kernel_rfl, by kernel_rfl, by kernel_rfl, by kernel_rfl, by kernel_rfl⟩
theorem dop82 : OneAt 82 75 127 9 126 := ⟨by kernel_rfl, by kernel_rfl, by kernel_rfl, by kernel_rfl, by kernel_rfl, by kernel_rfl⟩
theorem dop83 : OneAt 83 77 129 9 128 := ⟨by kernel_rfl, by kernel_rfl, by kernel_rfl, by kernel_rfl, by kernel_rfl, by kernel_rfl⟩
theorem dop84 : TwoAt 84 78 130 12 127 129 := ⟨by kernel_rfl, by kernel_rfl, by kernel_rfl, by kernel_rfl, by kernel_rfl, by kernel_rfl⟩
theorem dop85 : TwoAt 85 81 133 15 131 132 := ⟨by kernel_rfl, by kernel_rfl, by kernel_rfl, by kernel_rfl, by kernel_rfl, by kernel_rfl⟩
theorem dop86 : OneAt 86 82 134 9 133 := ⟨by kernel_rfl, by kernel_rfl, by kernel_rfl, by kernel_rfl, by kernel_rfl, by kernel_rfl⟩
theorem dop87 : OneAt 87 84 136 9 135 := ⟨by kernel_rfl, by kernel_rfl, by kernel_rfl, by kernel_rfl, by kernel_rfl, by kernel_rfl⟩
theorem dop88 : OneAt 88 86 138 9 137 := ⟨by kernel_rfl, by kernel_rfl, by kernel_rfl, by kernel_rfl, by kernel_rfl, by kernel_rfl⟩
theorem dop89 : TwoAt 89 87 139 15 136 138 := ⟨by kernel_rfl, by kernel_rfl, by kernel_rfl, by kernel_rfl, by kernel_rfl, by kernel_rfl⟩
theorem dop90 : OneAt 90 89 141 11 140 := ⟨by kernel_rfl, by kernel_rfl, by kernel_rfl, by kernel_rfl, by kernel_rfl, by kernel_rfl⟩
theorem dop91 : OneAt 91 90 142 9 141 := ⟨by kernel_rfl, by kernel_rfl, by kernel_rfl, by kernel_rfl, by kernel_rfl, by kernel_rfl⟩
theorem dop92 : OneAt 92 92 144 9 143 := ⟨by kernel_rfl, by kernel_rfl, by kernel_rfl, by kernel_rfl, by kernel_rfl, by kernel_rfl⟩
theorem dop93 : OneAt 93 93 145 11 144 := ⟨by kernel_rfl, by kernel_rfl, by kernel_rfl, by kernel_rfl, by kernel_rfl, by kernel_rfl⟩
theorem dop94_at : dOps[94]? = some (dOp 94) := by kernel_rfl
theorem dop94_op : (dOp 94).op = Op.buildSlice 23 28 #[(0, .tmp 53), (1, .tmp 56), (2, .tmp 58), (3, .tmp 61), (4, .tmp 64), (5, .tmp 69), (6, .tmp 72), (7, .tmp 77), (8, .tmp 81), (9, .tmp 84), (10, .tmp 88), (11, .tmp 91), (12, .tmp 95), (13, .tmp 98), (14, .tmp 101), (15, .tmp 103), (16, .tmp 106), (17, .tmp 108), (18, .tmp 111), (19, .tmp 114), (20, .tmp 117), (21, .tmp 121), (22, .tmp 125), (23, .tmp 130), (24, .tmp 134), (25, .tmp 139), (26, .tmp 142), (27, .tmp 145)] := by kernel_rfl
theorem dop94_dst : (dOp 94).dst = some 146 := by kernel_rfl
theorem dop94_guard : (dOp 94).guard = none := by kernel_rfl
theorem dop94_ready : Region.ready .any dOps (dL 94) = [94] := by kernel_rfl
theorem dop94_link : (dL 94).setIfInBounds 94 true = dL 95 := by kernel_rfl
theorem dop95_at : dOps[95]? = some (dOp 95) := by kernel_rfl
theorem dop95_op : (dOp 95).op = Op.assign (.tmp 146) := by kernel_rfl
theorem dop95_dst : (dOp 95).dst = some 16 := by kernel_rfl
theorem dop95_guard : (dOp 95).guard = none := by kernel_rfl
theorem dop95_ready : Region.ready .any dOps (dL 95) = [95] := by kernel_rfl
theorem dop95_link : (dL 95).setIfInBounds 95 true = dL 96 := by kernel_rfl
theorem dEnd : Region.ready .any dOps (dL 96) = [] := by kernel_rfl
section
variable {Q : Exit → Act → World → Prop} {V w : World} {a : Act} {fuel k i d c s t B : Nat} {x y z : Value}
theorem stepLoad (h : LdAt k i s d) (he : a.eval (.tmp s) = .pointer (some ⟨B, 0, none⟩)) (hb : ∀ W, Kept [] V W → For3 W B x y z) (hw : Kept [] V w) (next : wpAnyH Tryd.prog .any dOps (NoPanic Q) (Kept [] V) fuel (dL (k + 1)) (a.put (some d) (.agg #[x, y, z])) w) : wpAnyH Tryd.prog .any dOps (NoPanic Q) (Kept [] V) (fuel + 1) (dL k) a w := by
  refine held_take h.at_ h.guard dNoSel h.free h.ready h.link (fun W hW => exec_load h.op (by rw [he]; exact load_for (hb W hW))) hw ?_
  rw [h.dst]
  exact next
theorem stepOne {a1 : Int} {s1 : ByteArray} {ad1 : Option Addr} {n1 c1 : Nat} (h : OneAt k i d c s) (he : a.eval (.tmp s) = .agg #[.int .u8 a1, .string s1, .slice ad1 n1 c1]) (hw : Kept [] V w) (next : ∀ b w', Kept [] w w' → w'.heap[b]? = some (oneO a1 s1 (.slice ad1 n1 c1)) → wpAnyH Tryd.prog .any dOps (NoPanic Q) (Kept [] V) fuel (dL (k + 1)) (a.put (some d) (.agg #[.int .u8 (c : Nat), .string ⟨#[]⟩, sl b 1])) w') : wpAnyH Tryd.prog .any dOps (NoPanic Q) (Kept [] V) (fuel + 1) (dL k) a w := by
  refine held_call h.at_ h.guard h.ready h.link (exec_call2 h.op) ?_
  rw [he]
  refine (lawOneC _ _ _ _ _ _ _).mono fun e w' ⟨b, he, _, _, hb, hk⟩ => ⟨_, he, hw.trans hk (by simp) (by simp), ?_⟩
  rw [h.dst]
  exact next b w' hk hb
theorem stepTwo {a1 a2 : Int} {s1 s2 : ByteArray} {ad1 ad2 : Option Addr} {n1 c1 n2 c2 : Nat} (h : TwoAt k i d c s t) (he : a.eval (.tmp s) = .agg #[.int .u8 a1, .string s1, .slice ad1 n1 c1]) (hf : a.eval (.tmp t) = .agg #[.int .u8 a2, .string s2, .slice ad2 n2 c2]) (hw : Kept [] V w) (next : ∀ b w', Kept [] w w' → w'.heap[b]? = some (twoO a1 s1 (.slice ad1 n1 c1) a2 s2 (.slice ad2 n2 c2)) → wpAnyH Tryd.prog .any dOps (NoPanic Q) (Kept [] V) fuel (dL (k + 1)) (a.put (some d) (.agg #[.int .u8 (c : Nat), .string ⟨#[]⟩, sl b 2])) w') : wpAnyH Tryd.prog .any dOps (NoPanic Q) (Kept [] V) (fuel + 1) (dL k) a w := by
  refine held_call h.at_ h.guard h.ready h.link (exec_call3 h.op) ?_
  rw [he, hf]
  refine (lawTwoC _ _ _ _ _ _ _ _ _ _ _ _).mono fun e w' ⟨b, he, _, _, hb, hk⟩ => ⟨_, he, hw.trans hk (by simp) (by simp), ?_⟩
  rw [h.dst]
  exact next b w' hk hb
end
end Go.Proofs.YtddgciilcghbaaaDoor
