/- package buchi: rowsOf of one edge. -/
import Derived.Test.YtkkhilgcjaigcaaDoorBuCheck
namespace Go.Proofs.YtkkhilgcjaigcaaDoor
open Go.RowKit Go.Shelf

theorem set_one {W : World} {B : Nat} {x : Value} {T : TypeId} (h : W.heap[B]? = some (.cells #[x] T (0, 0))) (v : Value) : (W.setCell ⟨B, 0, none⟩ v).drew.heap[B]? = some (.cells #[v] T (0, 0)) := by
  show (W.setCell ⟨B, 0, none⟩ v).heap[B]? = _
  simp only [World.setCell, Array.getElem?_modify, if_true, h, Option.map_some]
  rfl
set_option maxHeartbeats 1000000 in
set_option maxRecDepth 10000 in
theorem rowsOf_one (b o c : Nat) (w : World) (h : Hid (w.cell? ⟨b, o, none⟩ = some (.int .i64 0))) (hc : 1 ≤ c) (hcm : c ≤ 9223372036854775807) :
    Calls Tryd.prog 26 #[.int .i64 1, .slice (some ⟨b, o, none⟩) 1 c] w fun e w' => ∃ B, e = .returned (.slice (some ⟨B, 0, none⟩) 1 1) ∧ Hid (w'.heap[B]? = some (.cells #[.slice (some ⟨b, o, none⟩) 1 c] 24 (0, 0))) ∧ Hid (Kept [] w w') ∧ Hid (w.heap.size ≤ B) := by
  have hc0 := h.out
  have hmk : ∀ W : World, Sem.run Tryd.prog (Instr.makeSlice 61 (.int .i64 1) (.int .i64 1)) W = .ok (.slice (some ⟨W.heap.size, 0, none⟩) 1 1) (W.alloc (.cells #[.slice none 0 0] 24)) := fun _ => by kernel_rfl
  go_enter Tryd.func26, Tryd.ntmps26
  go_wp2_with fail
  refine wp_loop_rounds 2 ?_
  rw [rounds_succ]
  go_wp2_with fail
  refine wp_loop_rounds 1 ?_
  rw [rounds_succ]
  obtain ⟨V, hV⟩ : ∃ V, w.alloc (.cells #[.slice none 0 0] 24) = V := ⟨_, rfl⟩
  have hkV : Kept [] w V := by rw [← hV]; exact (Kept.refl [] w).alloc _
  have hbV : V.heap[w.heap.size]? = some (.cells #[.slice none 0 0] 24 (0, 0)) := by rw [← hV]; exact al0 _ _
  have hc1 : V.cell? ⟨b, o, none⟩ = some (.int .i64 0) := cell_kept0 hkV hc0
  rw [hV]
  go_wp2_with fail
  go_cut [32] from 16 to 32 (fun s32 wx => s32 = .bool false ∧ Hid (Kept [] V wx))
  case first =>
    refine wp_region_quiet (C := fun w' => Kept [] V w') (by kernel_rfl) (by kernel_rfl) ((Kept.refl [] V).drew) ?_
    simp only []
    go_big_quiet_want
    refine ⟨.int .i64 1, fun w' hw => (by go_simp), ?_⟩
    go_big_quiet_on
    simp only [Act.put, Array.setIfInBounds, List.size_toArray, List.length_cons, List.length_nil, Nat.reduceAdd, Nat.reduceLT, ↓reduceDIte, List.set_toArray, List.set_cons_succ, List.set_cons_zero]
    go_big_quiet_want
    refine ⟨.slice (some ⟨b, o, none⟩) 1 c, fun w' hw => (by go_simp), ?_⟩
    go_big_quiet_on
    simp only [Act.put, Array.setIfInBounds, List.size_toArray, List.length_cons, List.length_nil, Nat.reduceAdd, Nat.reduceLT, ↓reduceDIte, List.set_toArray, List.set_cons_succ, List.set_cons_zero]
    go_big_quiet_want
    refine ⟨.int .i64 1, fun w' hw => (by go_simp), ?_⟩
    go_big_quiet_on
    simp only [Act.put, Array.setIfInBounds, List.size_toArray, List.length_cons, List.length_nil, Nat.reduceAdd, Nat.reduceLT, ↓reduceDIte, List.set_toArray, List.set_cons_succ, List.set_cons_zero]
    go_big_quiet_want
    refine ⟨.bool false, fun w' hw => (by go_simp), ?_⟩
    go_big_quiet_on
    simp only [Act.put, Array.setIfInBounds, List.size_toArray, List.length_cons, List.length_nil, Nat.reduceAdd, Nat.reduceLT, ↓reduceDIte, List.set_toArray, List.set_cons_succ, List.set_cons_zero]
    go_big_quiet_want
    refine ⟨.bool false, fun w' hw => (by go_simp), ?_⟩
    go_big_quiet_on
    simp only [Act.put, Array.setIfInBounds, List.size_toArray, List.length_cons, List.length_nil, Nat.reduceAdd, Nat.reduceLT, ↓reduceDIte, List.set_toArray, List.set_cons_succ, List.set_cons_zero]
    go_big_quiet_skip
    go_big_quiet_skip
    go_big_quiet_skip
    go_big_quiet_skip
    go_big_quiet_skip
    go_big_quiet_skip
    go_big_quiet_skip
    go_big_quiet_skip
    go_big_quiet_skip
    go_big_quiet_skip
    go_big_quiet_skip
    go_big_quiet_want
    refine ⟨.bool false, fun w' hw => (by go_simp), ?_⟩
    go_big_quiet_on
    simp only [Act.put, Array.setIfInBounds, List.size_toArray, List.length_cons, List.length_nil, Nat.reduceAdd, Nat.reduceLT, ↓reduceDIte, List.set_toArray, List.set_cons_succ, List.set_cons_zero]
    refine wpQuiet_nil ?_
    intro W9 hk9
    first | go_meet | (go_wp2_with fail; go_meet)
    exact ⟨rfl, hk9⟩
  case rest =>
    obtain ⟨rfl, HK9⟩ := hcut
    rename World => W9
    have hc2 := cell_kept0 HK9.out hc1
    have hb9 := HK9.out.at hbV (by simp)
    have hz : W9.cell? ⟨w.heap.size, 0, none⟩ = some (.slice none 0 0) := (cell_of hb9 0).trans rfl
    have hcz : (1 : Int) ≤ (c : Int) := by omega
    have hfz : W9.frozen? ⟨w.heap.size, 0, none⟩ = false := by simp [World.frozen?, hb9]
    have HX : Hid (∀ v, (W9.setCell ⟨w.heap.size, 0, none⟩ v).drew.heap[w.heap.size]? = some (.cells #[v] 24 (0, 0))) := fun v => set_one hb9 v
    have HKX : Hid (∀ v, Kept [] w (W9.setCell ⟨w.heap.size, 0, none⟩ v).drew) := fun v => ((keptB hkV HK9.out).setCell (.inr (Nat.le_refl _)) v).drew
    clear hb9 hbV hkV h hmk hc0 hc1
    go_wp2_with fail
    go_region
    obtain ⟨X, hX⟩ : ∃ X, (W9.setCell ⟨w.heap.size, 0, none⟩ (.slice (some ⟨b, o, none⟩) 1 c)).drew = X := ⟨_, rfl⟩
    have HX1 : Hid (X.heap[w.heap.size]? = some (.cells #[.slice (some ⟨b, o, none⟩) 1 c] 24 (0, 0))) := by show X.heap[_]? = _; rw [← hX]; exact HX.out _
    have HKX1 : Hid (Kept [] w X) := by show Kept [] w X; rw [← hX]; exact HKX.out _
    rw [hX]
    clear hX HX HKX hz hfz
    go_wp2_with fail
    rw [rounds_succ]
    go_wp2_with fail
    go_ret
    exact ⟨_, rfl, HX1, HKX1, Nat.le_refl _⟩
end Go.Proofs.YtkkhilgcjaigcaaDoor
