/- Weight, and much: whether trees hold more than there is room for. -/
import Derived.Test.YtddgciilcghbaaaDoorTrWeight
namespace Go.Proofs.YtddgciilcghbaaaDoor
open Go.RowKit Go.Shelf

set_option maxHeartbeats 400000 in
theorem weightAll_any (t : Tr) (kv : Value) (w : World) (hI : IsF w t kv) (hM : t.Modest) :
    Calls Tryd.prog 16 #[.agg #[.int .u8 (t.op : Nat), .string t.name, kv]] w fun e w' => ∃ n : Nat, e = .returned (.int .i64 (n : Nat)) ∧ n ≤ 145036750680577 ∧ (n ≤ 1048576 → t.wsum = n) ∧ Kept [] w w' := by
  obtain ⟨kad, kcap, rfl⟩ := hI.slice
  have HW : Hid _ := fun W (k : Kept [] w W) => weight_any t 0 0 _ W rfl (by omega) (hI.kept k) hM
  clear hI hM
  go_enter Tryd.func16, Tryd.ntmps16
  go_wp2_with (go_at_call 44; refine (HW.out _ ((Kept.refl [] w).alloc _)).mono ?_; rintro e W5 ⟨n, rfl, h1, h2, h3, hk⟩)
  go_ret
  exact ⟨n, rfl, by omega, fun h => h3 (by omega), ((Kept.refl [] w).alloc _).trans hk (by simp) (by simp)⟩

end Go.Proofs.YtddgciilcghbaaaDoor
