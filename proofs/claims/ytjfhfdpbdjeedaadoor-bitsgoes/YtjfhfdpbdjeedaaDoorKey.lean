/- Set.Key. -/
import Derived.Test.YtjfhfdpbdjeedaaDoorMake
import Derived.Laws.BytesString
import Derived.Laws.BytesArg
namespace Go.Proofs.YtjfhfdpbdjeedaaDoor
open Go.RowKit

theorem Tryd.infoU8 : (Tryd.prog.info? 5).map (fun i => (i.zero, i.size, i.bytes)) = some (some (.int .u8 0), 1, 1) := by kernel_rfl
theorem make_u8 (w : World) (k : Nat) (hk : k ≤ 2000000) : Sem.run Tryd.prog (Instr.makeSlice 94 (.int .i64 k) (.int .i64 k)) w = .ok (.slice (some ⟨w.heap.size, 0, none⟩) k k) (w.alloc (.cells (Array.replicate k (.int .u8 0)) 5)) := by
  obtain ⟨i0, hi, hz0, hz1, hz2⟩ := info_parts Tryd.infoU8
  have H := run_make (P := Tryd.prog) w 94 5 i0 _ (by kernel_rfl) hi hz0 .i64 .i64 k k (by omega) (by omega) (by rw [hz2]; omega) (by omega)
  rw [H, hz1]
  have e : madeCells (Value.cells (.int .u8 0)) (k * 1) = Array.replicate k (Value.int .u8 0) := by
    apply Array.toList_inj.1
    rw [show Value.cells (.int .u8 0) = #[Value.int .u8 0] from rfl, toList_madeCells_one]; simp
  simp only [Int.toNat_natCast]
  rw [e]

/-- Byte j of a key. -/
def keyB (ws : List Nat) (j : Nat) : UInt8 := UInt8.ofNat (ws.getD (j / 8) 0 / 2 ^ (j % 8 * 8))
def keyW (n : Nat) (ws : List Nat) : List UInt8 := (List.range ((n + 7) / 8)).map (keyB ws)

theorem quoB (n : Nat) (hn : n ≤ 65536) : ∃ k : Nat, k = (n + 7) / 8 ∧ k ≤ 8192 ∧ ((n : Int) + 7).tdiv 8 = (k : Int) ∧ ((n : Int) + 7) / 8 = (k : Int) ∧ IntKind.i64.wrap (k : Int) = (k : Int) := by
  refine ⟨(n + 7) / 8, rfl, by omega, ?_, by omega, ?_⟩
  · rw [Int.tdiv_eq_ediv_of_nonneg (by omega)]; omega
  · simp only [IntKind.wrap, IntKind.bits, IntKind.signed]; simp; omega
theorem quo8 (i : Nat) (hi : i ≤ 65536) : ∃ k r : Nat, k = i / 8 ∧ r = i % 8 ∧ r ≤ 7 ∧ (i : Int).tdiv 8 = (k : Int) ∧ (i : Int) / 8 = (k : Int) ∧ IntKind.i64.wrap (k : Int) = (k : Int) ∧ (i : Int).tmod 8 = (r : Int) ∧ (i : Int) % 8 = (r : Int) ∧ IntKind.i64.wrap (r : Int) = (r : Int) := by
  refine ⟨i / 8, i % 8, rfl, rfl, by omega, ?_, by omega, ?_, ?_, by omega, ?_⟩
  · rw [Int.tdiv_eq_ediv_of_nonneg (by omega)]; omega
  · simp only [IntKind.wrap, IntKind.bits, IntKind.signed]; simp; omega
  · rw [Int.tmod_eq_emod_of_nonneg (by omega)]; omega
  · simp only [IntKind.wrap, IntKind.bits, IntKind.signed]; simp; omega

set_option maxHeartbeats 1600000 in
theorem key_any (b g c n : Nat) (ws : List Nat) (w : World) (hs : IsSet w b g c n ws) (hG : Good n ws) :
    Calls Tryd.prog 28 #[.pointer (some ⟨b, 0, none⟩)] w fun e w' => e = .returned (.string ⟨(keyW n ws).toArray⟩) ∧ Kept [] w w' := by
  have hn := hG.top
  have hl := hG.len
  have h0 := hs.c0
  have h1 := hs.c1
  obtain ⟨m, hm, hm1, q1, q2, q3⟩ := quoB n hn
  have hmk := make_u8 w m (by omega)
  have hbl : b < w.heap.size := hs.ltb
  have hgl : g < w.heap.size := hs.ltg
  have hcell : ∀ j, j < ws.length → w.cell? ⟨g, j, none⟩ = some (.int .u64 (ws.getD j 0 : Nat)) := fun j hj => by rw [hs.cw j hj, getD_get hj]
  have HC : Hid _ := hcell
  have HM : Hid (m = (n + 7) / 8) := hm
  have HL : Hid (ws.length = (n + 63) / 64) := hl
  have HG : Hid (Good n ws) := hG
  have b2 : (n : Int) ≤ 65536 := by omega
  clear hs hG hcell hm hl
  go_enter Tryd.func28, Tryd.ntmps28
  go_wp2_with fail
  go_loopw [14] (fun i wr => ∃ (k : Nat) (arr : Array Value), k ≤ m ∧ i = .int .i64 k ∧ wr = w.alloc (.cells arr 5) ∧ arr.size = m ∧ ∀ j, j < k → arr[j]? = some (.int .u8 ((keyB ws j).toNat : Nat))) (fun i _ => m - (intOf i).toNat)
  case atStart => exact ⟨0, _, Nat.zero_le _, rfl, rfl, by simp, fun j hj => by omega⟩
  case round =>
    obtain ⟨k, arr, hk, rfl, rfl, harr, hdone⟩ := hrel
    have HD : Hid _ := hdone
    clear hdone
    clear hmk q1 q2 q3
    by_cases hlt : k < m
    · obtain ⟨k8, r, e8, er, hr7, p1, p2, p3, p4, p5, p6⟩ := quo8 k (by omega)
      have hk8 : k8 < ws.length := by have := HL.out; have := HM.out; omega
      have hk8' : (k8 : Int) < (ws.length : Int) := by omega
      have hk80 : (0 : Int) ≤ (k8 : Int) := by omega
      have hc := HC.out k8 hk8
      have hlt' : (k : Int) < (m : Int) := by omega
      have HE8 : Hid (k8 = k / 8) := e8
      have HER : Hid (r = k % 8) := er
      have hr0 : (0 : Int) ≤ (r : Int) := by omega
      have hr7' : (r : Int) ≤ 7 := by omega
      have hasz : k < arr.size := by omega
      generalize hx : ws.getD k8 0 = x at hc
      have HX : Hid _ := hx
      clear e8 er hx
      have HV : Hid (((x : Int) / 2 ^ (r * 8)) % 256 = (((keyB ws k).toNat : Nat) : Int)) := by
        show ((x : Int) / 2 ^ (r * 8)) % 256 = (((keyB ws k).toNat : Nat) : Int)
        unfold keyB
        rw [← HE8.out, ← HER.out, HX.out, UInt8.toNat_ofNat']
        simp
      go_wp2
      go_roundw
      case rel =>
        refine ⟨k + 1, _, by omega, by go_num, rfl, by simpa using harr, fun j hj => ?_⟩
        rw [Array.getElem?_setIfInBounds]
        by_cases e : k = j
        · subst e; rw [if_pos rfl, if_pos hasz, HV.out]
        · rw [if_neg e]; exact HD.out j (by omega)
      case measure => simp [intOf]; omega
    · have hlt' : ¬ (k : Int) < (m : Int) := by omega
      have hconv : Sem.run Tryd.prog (convert 94 9 (.slice (some ⟨w.heap.size, 0, none⟩) m m)) (w.alloc (.cells arr 5)) = .ok (.string ⟨(keyW n ws).toArray⟩) (w.alloc (.cells arr 5)) := by
        have hlen : (keyW n ws).length = m := by unfold keyW; rw [List.length_map, List.length_range, HM.out]
        have H := run_convert_bytes_back (P := Tryd.prog) (w.alloc (.cells arr 5)) 94 9 5 ⟨w.heap.size, 0, none⟩ m (keyW n ws) (by kernel_rfl) (by kernel_rfl) (by kernel_rfl) (fun j hj => by
          have hj' : j < k := by omega
          have hd := HD.out j hj'
          have e : (⟨w.heap.size, 0, none⟩ : Addr).add j = ⟨w.heap.size, j, none⟩ := by simp [Addr.add]; exact fun h => h.symm
          rw [e, cell_of (heap_alloc_new w (.cells arr 5)), hd]
          simp [keyW])
        rw [hlen] at H
        exact H
      go_wp2
      go_ret
      exact ⟨rfl, (Kept.refl [] w).alloc _⟩
end Go.Proofs.YtjfhfdpbdjeedaaDoor
