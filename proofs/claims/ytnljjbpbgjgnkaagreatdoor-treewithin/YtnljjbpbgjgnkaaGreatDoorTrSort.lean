/- Subs' comparison, and the sort by it. -/
import Derived.Test.YtnljjbpbgjgnkaaGreatDoorTrUnlike
import Derived.Test.YtnljjbpbgjgnkaaGreatDoorTrCmp2
import Derived.Test.YtnljjbpbgjgnkaaGreatDoorShelf
namespace Go.Proofs.YtnljjbpbgjgnkaaGreatDoor
open Go.RowKit Go.Shelf

theorem Grew.isF {w w' : World} (h : Grew w w') {t : Tr} {kv : Value} (hI : IsF w t kv) : IsF w' t kv := hI.kept h.kept
/-- By size, then as Cmp has it. -/
def cmpE (x y : Nat × Tr) : Int := if x.1 = y.1 then cmpT x.2 y.2 else cmpN x.1 y.1
set_option maxHeartbeats 1000000 in
theorem subsCmp_any (x y : En) (w : World) (hx : IsF w x.t (.slice x.kad x.t.kids.length x.kcap)) (hy : IsF w y.t (.slice y.kad y.t.kids.length y.kcap)) (hsx : x.t.size ≤ 1099511627776) (hsy : y.t.size ≤ 1099511627776) :
    Calls Tryz.prog 36 #[.agg x.cells.toArray, .agg y.cells.toArray] w fun e w' => e = .returned (.int .i64 (cmpE x.key y.key)) ∧ Grew w w' := by
  have HCM : Hid _ := fun W (k : Grew w W) => cmp_any x.t y.t _ _ W (k.isF hx) (k.isF hy) hsx hsy
  have HCI : Hid _ := fun W => compareInt x.size y.size W
  clear hx hy
  show Calls Tryz.prog 36 #[.agg #[.int .i64 (x.size : Nat), .int .u8 (x.t.op : Nat), .string x.t.name, .slice x.kad x.t.kids.length x.kcap], .agg #[.int .i64 (y.size : Nat), .int .u8 (y.t.op : Nat), .string y.t.name, .slice y.kad y.t.kids.length y.kcap]] w _
  by_cases hs : x.size = y.size
  · have hb : ((x.size : Int) != (y.size : Int)) = false := by rw [bne_eq_false_iff_eq]; omega
    have HE : Hid (cmpE x.key y.key = cmpT x.t y.t) := if_pos hs
    rw [HE.out]
    clear hs
    go_enter Tryz.func36, Tryz.ntmps36
    go_wp2_with (go_at_call 10; refine (HCM.out _ (((Grew.refl w).alloc _).alloc _)).mono ?_; rintro e W2 ⟨rfl, hk2⟩)
    go_ret
    exact ⟨rfl, (((Grew.refl w).alloc _).alloc _).trans hk2⟩
  · have hb : ((x.size : Int) != (y.size : Int)) = true := by rw [bne_iff_ne]; omega
    have HE : Hid (cmpE x.key y.key = cmpN x.size y.size) := if_neg hs
    rw [HE.out]
    clear hs
    go_enter Tryz.func36, Tryz.ntmps36
    go_wp2_with (go_at_call 32; refine (HCI.out _).mono ?_; rintro e W2 ⟨rfl, rfl⟩)
    go_ret
    exact ⟨rfl, ((Grew.refl w).alloc _).alloc _⟩
end Go.Proofs.YtnljjbpbgjgnkaaGreatDoor
