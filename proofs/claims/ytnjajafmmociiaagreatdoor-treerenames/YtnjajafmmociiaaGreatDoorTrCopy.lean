/- tree.Copy, tree.isProp. -/
import Derived.Test.YtnjajafmmociiaaGreatDoorTrReb
namespace Go.Proofs.YtnjajafmmociiaaGreatDoor
open Go.RowKit Go.Shelf

theorem Tr.reb_id (t : Tr) : t.reb (fun x => x) = t := by
  induction t using Tr.ind with
  | h t ih =>
    by_cases h0 : t.kids.length = 0
    · rw [Tr.reb_leaf _ t h0]
      cases t with
      | mk o n ks => rw [show ks = [] from List.eq_nil_of_length_eq_zero h0]
    · rw [Tr.reb_node _ t h0]
      cases t with
      | mk o n ks =>
        congr 1
        conv => rhs; rw [← List.map_id ks]
        exact List.map_congr_left fun k hk => ih k hk
set_option maxHeartbeats 400000 in
theorem copyLeaf (w0 : World) : LeafDoes 87 #[] (fun x => x) w0 := by
  intro o nm W _ _ _
  show Calls Tryz.prog 87 #[.agg #[.int .u8 (o : Nat), .string nm, .slice none 0 0]] W _
  go_enter Tryz.func87, Tryz.ntmps87
  go_wp2
  refine ret_for rfl rfl rfl (show For3 _ (W.heap.size + 1) _ _ _ from al1 W _ _) ⟨none, 0, rfl, IsT.leaf _ _ rfl _ _, ((Kept.refl [] W).alloc _).alloc _⟩
set_option maxHeartbeats 400000 in
theorem copy_any (t : Tr) (kv : Value) (w : World) (hI : IsF w t kv) (hs : t.size ≤ 1099511627776) (hF : t.Fine) :
    Calls Tryz.prog 45 #[.agg #[.int .u8 (t.op : Nat), .string t.name, kv]] w fun e w' =>
      ∃ kad kcap, e = .returned (.agg #[.int .u8 (t.op : Nat), .string t.name, .slice kad t.kids.length kcap]) ∧ IsT (fun k => w.heap.size ≤ k) w' t (.slice kad t.kids.length kcap) ∧ Kept [] w w' := by
  have hr := fun W (k : Kept [] w W) => rebuilt_any 87 #[] (fun x => x) w (enters_of Tryz.func87 (by kernel_rfl) rfl) (copyLeaf w) t kv W (hI.kept k) k hs hF
  rw [Tr.reb_id] at hr
  have HR : Hid _ := hr
  obtain ⟨kad, kcap, rfl⟩ := hI.slice
  clear hr hI hF
  go_enter Tryz.func45, Tryz.ntmps45
  go_wp2_with (go_at_call 42; refine (HR.out _ (((Kept.refl [] w).alloc _).alloc _)).mono ?_; rintro e W2 ⟨lad, lcap, rfl, hI2, hk2⟩; have hz2 : For3 W2 (w.heap.size + 1) (.int .u8 0) (.string ⟨#[]⟩) (.slice none 0 0) := For3.kept (show For3 _ (w.heap.size + 1) (.int .u8 0) (.string ⟨#[]⟩) (.slice none 0 0) from al1 w _ _) hk2; obtain ⟨d0, d1, d2, df⟩ := hz2.cells; have HZ2 : Hid (For3 W2 (w.heap.size + 1) (.int .u8 0) (.string ⟨#[]⟩) (.slice none 0 0)) := hz2; have HI2 : Hid _ := hI2; have HK2 : Hid _ := hk2; clear hz2 hI2 hk2)
  have hk3 : Kept [] w W2 := (((Kept.refl [] w).alloc _).alloc _).trans HK2.out (by simp) (by simp)
  refine ret_for rfl rfl rfl (HZ2.out.set _ _ _) ⟨lad, lcap, rfl, ?_, kept_set3 hk3 (by omega) _ _ _⟩
  have hn : ¬ (w.heap.size + 2 ≤ w.heap.size + 1) := by omega
  have hI3 : IsT (fun k => w.heap.size + 2 ≤ k) W2 t (.slice lad t.kids.length lcap) := IsT.mono HI2.out (fun k h => by simpa using h)
  exact (((hI3.other hn _ _).other hn _ _).other hn _ _).mono (fun k h => by omega)

set_option maxHeartbeats 400000 in
theorem isProp_any (t : Tr) (kad : Option Addr) (n kcap : Nat) (nm : ByteArray) (w : World) :
    Calls Tryz.prog 44 #[.agg #[.int .u8 (t.op : Nat), .string t.name, .slice kad n kcap], .string nm] w fun e w' => e = .returned (.bool (decide (t.op = 3) && (t.name.toList == nm.toList))) ∧ Kept [] w w' := by
  by_cases h : t.op = 3
  · have h3 : ((t.op : Int) == 3) = true := by rw [beq_iff_eq]; omega
    have e : decide (t.op = 3) = true := by rw [decide_eq_true_iff]; exact h
    rw [e]
    clear e h
    go_enter Tryz.func44, Tryz.ntmps44
    go_wp2
    go_ret
    exact ⟨rfl, (Kept.refl [] w).alloc _⟩
  · have h3 : ((t.op : Int) == 3) = false := by rw [beq_eq_false_iff_ne]; omega
    have e : decide (t.op = 3) = false := by rw [decide_eq_false_iff_not]; exact h
    rw [e]
    clear e h
    go_enter Tryz.func44, Tryz.ntmps44
    go_wp2
    go_ret
    exact ⟨rfl, (Kept.refl [] w).alloc _⟩
end Go.Proofs.YtnjajafmmociiaaGreatDoor
