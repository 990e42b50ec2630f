/- tree.unlike. -/
import Derived.Test.YtnljjbpbgjgnkaaGreatDoorTrVisit
namespace Go.Proofs.YtnljjbpbgjgnkaaGreatDoor
open Go.RowKit Go.Shelf Go.Maps

/-- The trees that stand in a tree, each once, with their sizes, as they come. -/
def unlikeP (t : Tr) : List (Nat × Tr) := (visitP t ([], [])).2.2.2
theorem un_start (w : World) (o : Obj) : UnAt w (w.heap.size + 1) (w.heap.size + 1 + 1 + 1) (w.heap.size + 1 + 1) (w.heap.size + 1 + 1 + 1 + 1) (w.heap.size + 1 + 1 + 1 + 1 + 1) [] []
    ((((((w.alloc o).alloc (.cells #[.slice none 0 0] 67)).alloc (.map #[] 0)).alloc (.cells #[.map (some (w.heap.size + 1 + 1))] 94)).alloc (.cells #[.func (.func 61) #[] #[.pointer (some ⟨w.heap.size + 1 + 1 + 1, 0, none⟩)]] 97)).alloc (.cells #[.func (.func 62) #[] #[.pointer (some ⟨w.heap.size + 1 + 1 + 1 + 1, 0, none⟩), .pointer (some ⟨w.heap.size + 1 + 1 + 1 + 1 + 1, 0, none⟩), .pointer (some ⟨w.heap.size + 1, 0, none⟩)]] 98)) := by
  have hm := World.ownsMap_made (H := Unit) ((w.alloc o).alloc (.cells #[.slice none 0 0] 67)) Tryz.prog 96 (plainElem Tryz.prog 3)
  rw [World.size_alloc, World.size_alloc] at hm
  have hk : Kept [] w _ := ((((((Kept.refl [] w).alloc o).alloc (.cells #[.slice none 0 0] 67)).alloc (.map #[] 0)).alloc (.cells #[.map (some (w.heap.size + 1 + 1))] 94)).alloc (.cells #[.func (.func 61) #[] #[.pointer (some ⟨w.heap.size + 1 + 1 + 1, 0, none⟩)]] 97)).alloc (.cells #[.func (.func 62) #[] #[.pointer (some ⟨w.heap.size + 1 + 1 + 1 + 1, 0, none⟩), .pointer (some ⟨w.heap.size + 1 + 1 + 1 + 1 + 1, 0, none⟩), .pointer (some ⟨w.heap.size + 1, 0, none⟩)]] 98)
  exact ⟨⟨_, alUp (alUp (alUp (alUp (al1 _ _ _) _) _) _) _, World.ownsRow_nil _ _ _ _⟩, alUp (alUp (al3 _ _ _ _ _) _) _, ⟨_, ((hm.alloc _).alloc _).alloc _, NumsOf.nil⟩, alUp (al4 _ _ _ _ _ _) _, al5 _ _ _ _ _ _ _, ⟨by omega, by omega⟩, hk.size, fun x h => (by cases h), hk.below⟩
set_option maxHeartbeats 1000000 in
set_option maxRecDepth 20000 in
theorem unlike_any (t : Tr) (kv : Value) (w : World) (hI : IsF w t kv) (hs : t.size ≤ 1099511627776) (hF : t.Fine) :
    Calls Tryz.prog 34 #[.agg #[.int .u8 (t.op : Nat), .string t.name, kv]] w fun e w' => ∃ v l, e = .returned v ∧ w'.ownsRow w.heap.size 71 4 v l.length (ents l) ∧ l.map En.key = unlikeP t ∧ (∀ x ∈ l, IsF w x.t (.slice x.kad x.t.kids.length x.kcap)) ∧ Kept [] w w' := by
  have hmm := @run_makeMap Tryz.prog
  have HVI : Hid _ := fun Bl Bm Mb Bn Bv W (hU : UnAt w Bl Bm Mb Bn Bv [] [] W) => visit_any w Bl Bm Mb Bn Bv t kv [] [] W hI hF hU (by simp; omega) (by simp; omega)
  obtain ⟨kad, kcap, rfl⟩ := hI.slice
  clear hI hF
  go_enter Tryz.func34, Tryz.ntmps34
  go_wp2_with (go_at_call 62; refine (HVI.out _ _ _ _ _ _ (un_start w _)).mono ?_; rintro e W2 ⟨rfl, l2, hu2, hl2, _⟩; obtain ⟨vl, c1, c2⟩ := hu2.coll; have cl := c1.cell; have HU2 : Hid (UnAt w _ _ _ _ _ _ l2 W2) := hu2; have HC2 : Hid (W2.ownsRow w.heap.size 71 4 vl l2.length (ents l2)) := c2; have HL2 : Hid _ := hl2; clear hu2 c1 c2 hl2)
  go_ret
  exact ⟨vl, l2, rfl, HC2.out, HL2.out, HU2.out.ents, kept_of_below HU2.out.below⟩
end Go.Proofs.YtnljjbpbgjgnkaaGreatDoor
