/- The document's own sets (rows of yes and no): New, Put, Of, All. -/
import Derived.Test.YtjfhfdpbdjeedaaDoorMake
import Derived.Test.YtjfhfdpbdjeedaaDoorOf
import Derived.Test.YtjfhfdpbdjeedaaDoorTabBase
import Derived.Deep.AppendLies
namespace Go.Proofs.YtjfhfdpbdjeedaaDoor
open Go.RowKit

theorem Tryd.infoB : (Tryd.prog.info? 4).map (fun i => (i.zero, i.size, i.bytes)) = some (some (.bool false), 1, 1) := by kernel_rfl
theorem make_bool (w : World) (k : Nat) (hk : k ≤ 2000000) : Sem.run Tryd.prog (Instr.makeSlice 67 (.int .i64 k) (.int .i64 k)) w = .ok (.slice (some ⟨w.heap.size, 0, none⟩) k k) (w.alloc (.cells (Array.replicate k (.bool false)) 4)) := by
  obtain ⟨i0, hi, hz0, hz1, hz2⟩ := info_parts Tryd.infoB
  have H := run_make (P := Tryd.prog) w 67 4 i0 _ (by kernel_rfl) hi hz0 .i64 .i64 k k (by omega) (by omega) (by rw [hz2]; omega) (by omega)
  rw [H, hz1]
  have e : madeCells (Value.cells (.bool false)) (k * 1) = Array.replicate k (Value.bool false) := by
    apply Array.toList_inj.1
    rw [show Value.cells (.bool false) = #[Value.bool false] from rfl, toList_madeCells_one]; simp
  simp only [Int.toNat_natCast]
  rw [e]

/-- A set of the document's: its struct is block b, its row block g. -/
structure IsRef (w : World) (b g : Nat) (bs : List Bool) : Prop where
  head : w.heap[b]? = some (.cells #[.slice (some ⟨g, 0, none⟩) bs.length bs.length] 69 (0, 0))
  row : w.heap[g]? = some (.cells (bs.map Value.bool).toArray 4 (0, 0))
  small : bs.length ≤ 65536
theorem IsRef.kept {w w' : World} {b g : Nat} {bs : List Bool} {F : List Nat} (h : IsRef w b g bs) (k : Kept F w w') (hb : b ∉ F) (hg : g ∉ F) : IsRef w' b g bs := ⟨k.at h.head hb, k.at h.row hg, h.small⟩
theorem IsRef.c0 {w : World} {b g : Nat} {bs : List Bool} (h : IsRef w b g bs) : w.cell? ⟨b, 0, none⟩ = some (.slice (some ⟨g, 0, none⟩) bs.length bs.length) := by rw [cell_of h.head]; rfl
theorem IsRef.cw {w : World} {b g : Nat} {bs : List Bool} (h : IsRef w b g bs) (i : Nat) (hi : i < bs.length) : w.cell? ⟨g, i, none⟩ = some (.bool (bs.getD i false)) := by
  rw [cell_of h.row, List.getD_eq_getElem?_getD, List.getElem?_eq_getElem hi]
  simp [hi]
theorem IsRef.fw {w : World} {b g : Nat} {bs : List Bool} (h : IsRef w b g bs) (i : Nat) : w.frozen? ⟨g, i, none⟩ = false := free_of h.row i
theorem IsRef.ne {w : World} {b g : Nat} {bs : List Bool} (h : IsRef w b g bs) : b ≠ g := ne_of_obj h.head h.row (by simp)
theorem IsRef.set {w : World} {b g : Nat} {bs : List Bool} (h : IsRef w b g bs) (i : Nat) (x : Bool) : IsRef (w.setCell ⟨g, i, none⟩ (.bool x)) b g (bs.set i x) := by
  refine ⟨?_, ?_, by simpa using h.small⟩
  · rw [Below.heap_setCell _ _ _ _ h.ne, List.length_set]; exact h.head
  · simp only [World.setCell, Array.getElem?_modify, if_true]
    rw [h.row]
    simp [List.map_set]

/-- A call that makes a set of the document's. -/
def MakesRef (w : World) (bs : List Bool) (e : Ending) (w' : World) : Prop := ∃ b g, e = .returned (.pointer (some ⟨b, 0, none⟩)) ∧ IsRef w' b g bs ∧ w.heap.size ≤ b ∧ w.heap.size ≤ g ∧ Kept [] w w'

set_option maxHeartbeats 400000 in
theorem refNew_in (n : Nat) (w : World) (hn : n ≤ 65536) :
    Calls Tryd.prog 10 #[.int .i64 n] w (MakesRef w (List.replicate n false)) := by
  have hmk := make_bool w n (by omega)
  have b0 : ¬ (n : Int) < 0 := by omega
  have b1 : ¬ (65536 : Int) < (n : Int) := by omega
  go_enter Tryd.func10, Tryd.ntmps10
  go_wp2
  go_ret
  refine ⟨w.heap.size + 1, w.heap.size, rfl, ⟨?_, ?_, by simpa using hn⟩, by omega, by omega, ((Kept.refl [] w).alloc _).alloc _⟩
  · rw [heap_new1]; simp
  · rw [heap_new2]; simp

def refPut (bs : List Bool) (i : Int) (x : Bool) : List Bool := if 0 ≤ i ∧ i < bs.length then bs.set i.toNat x else bs
theorem refPut_len (bs : List Bool) (i : Int) (x : Bool) : (refPut bs i x).length = bs.length := by unfold refPut; split <;> simp

set_option maxHeartbeats 400000 in
theorem refPut_any (b g : Nat) (bs : List Bool) (i : Int) (x : Bool) (w : World) (h : IsRef w b g bs) :
    Calls Tryd.prog 33 #[.pointer (some ⟨b, 0, none⟩), .int .i64 i, .bool x] w fun e w' => e = .returned (.tuple #[]) ∧ IsRef w' b g (refPut bs i x) ∧ Kept [g] w w' := by
  have c0 := h.c0
  have hs := h.small
  by_cases hi : 0 ≤ i ∧ i < bs.length
  · obtain ⟨k, rfl⟩ : ∃ k : Nat, i = (k : Int) := ⟨i.toNat, by omega⟩
    have e1 : refPut bs (k : Int) x = bs.set k x := by unfold refPut; rw [if_pos hi]; rfl
    rw [e1]
    have b0 : (0 : Int) ≤ (k : Int) := by omega
    have b1 : (k : Int) < (bs.length : Int) := hi.2
    have cw := h.cw k (by omega)
    have fw := h.fw k
    generalize bs.getD k false = y at cw
    have H : Hid (IsRef w b g bs) := h
    clear hi e1 h
    go_enter Tryd.func33, Tryd.ntmps33
    go_wp2
    go_end0
    exact ⟨rfl, H.out.set k x, (Kept.refl _ _).setCell (by simp) _⟩
  · have e1 : refPut bs i x = bs := by unfold refPut; rw [if_neg hi]
    rw [e1]
    by_cases h0 : 0 ≤ i
    · have b1 : ¬ i < (bs.length : Int) := by omega
      clear hi e1
      go_enter Tryd.func33, Tryd.ntmps33
      go_wp2
      go_end0
      exact ⟨rfl, h, Kept.refl _ _⟩
    · clear hi e1
      go_enter Tryd.func33, Tryd.ntmps33
      go_wp2
      go_end0
      exact ⟨rfl, h, Kept.refl _ _⟩

def refOf (n : Nat) (zs : List Int) : List Bool := zs.foldl (fun bs z => refPut bs z true) (List.replicate n false)
theorem refOf_snoc (n : Nat) (zs : List Int) (z : Int) : refOf n (zs ++ [z]) = refPut (refOf n zs) z true := by simp [refOf]

set_option maxHeartbeats 800000 in
theorem refOf_sl (n : Nat) (v : Value) (zs : List Int) (w : World) (hn : n ≤ 65536) (hz : zs.length ≤ 17592186044416) (hv : IsSl w v zs) :
    Calls Tryd.prog 20 #[.int .i64 n, v] w (MakesRef w (refOf n zs)) := by
  obtain ⟨ad, cap, rfl, hcase⟩ := hv
  have HC : Hid (∀ i (h : i < zs.length), ∃ lb lo, ad = some ⟨lb, lo, none⟩ ∧ lb < w.heap.size ∧ w.cell? ⟨lb, lo + i, none⟩ = some (.int .i64 zs[i])) := by
    intro i hi
    rcases hcase with h0 | ⟨lb, lo, h1, h2, h3⟩
    · rw [h0] at hi; simp at hi
    · exact ⟨lb, lo, h1, h2, h3 i hi⟩
  clear hcase
  go_enter Tryd.func20, Tryd.ntmps20
  go_wp2_with fail
  refine (refNew_in n _ hn).mono ?_
  rintro e w1 ⟨b, g, rfl, hset, hb, hg, hkept⟩
  have HS : Hid (IsRef w1 b g (List.replicate n false)) := hset
  clear hset
  go_wp2_with fail
  go_loopw [6] (fun i wr => ∃ k : Nat, k ≤ zs.length ∧ i = .int .i64 k ∧ IsRef wr b g (refOf n (zs.take k)) ∧ Kept [] w wr) (fun i _ => zs.length - (intOf i).toNat)
  case atStart => exact ⟨0, Nat.zero_le _, rfl, HS.out, hkept⟩
  case round =>
    obtain ⟨k, hk, rfl, hs, hkw⟩ := hrel
    by_cases hlt : k < zs.length
    · obtain ⟨lb, lo, rfl, hlb, hc⟩ := HC.out k hlt
      have hcell : wr.cell? ⟨lb, lo + k, none⟩ = some (.int .i64 zs[k]) := (hkw.below.cell (p := ⟨lb, lo + k, none⟩) hlb).trans hc
      have HE : Hid (refOf n (zs.take (k + 1)) = refPut (refOf n (zs.take k)) zs[k] true) := by rw [List.take_succ_eq_append_getElem hlt]; exact refOf_snoc _ _ _
      have hlt' : (k : Int) < (zs.length : Int) := by omega
      clear hc
      generalize zs[k] = z at hcell HE
      go_wp2_with fail
      refine (refPut_any b g _ z true _ hs).mono ?_
      rintro e w2 ⟨rfl, hs2, hk2⟩
      go_wp2
      go_roundw
      case rel => exact ⟨k + 1, by omega, by go_num, by rw [HE.out]; exact hs2, hkw.trans (H := []) hk2 (by simp) (by simpa using hg)⟩
      case measure => simp [intOf]; omega
    · have hlt' : ¬ (k : Int) < (zs.length : Int) := by omega
      have e : zs.take k = zs := List.take_of_length_le (by omega)
      rw [e] at hs
      clear e
      go_wp2
      go_ret
      exact ⟨b, g, rfl, hs, hb, hg, hkw⟩

/-- The members, rising. -/
def refAllK (bs : List Bool) (k : Nat) : List Nat := (List.range k).filter fun i => bs.getD i false
theorem refAllK_yes (bs : List Bool) (k : Nat) (h : bs.getD k false = true) : refAllK bs (k + 1) = refAllK bs k ++ [k] := by
  rw [List.getD_eq_getElem?_getD] at h
  unfold refAllK; rw [List.range_succ, List.filter_append]; simp [h]
theorem refAllK_no (bs : List Bool) (k : Nat) (h : bs.getD k false = false) : refAllK bs (k + 1) = refAllK bs k := by
  rw [List.getD_eq_getElem?_getD] at h
  unfold refAllK; rw [List.range_succ, List.filter_append]; simp [h]
theorem refAllK_le (bs : List Bool) (k : Nat) : (refAllK bs k).length ≤ k := by
  unfold refAllK
  have := List.length_filter_le (fun i => bs.getD i false) (List.range k)
  simpa using this

set_option maxHeartbeats 1600000 in
theorem refAll_any (b g : Nat) (bs : List Bool) (w : World) (h : IsRef w b g bs) :
    Calls Tryd.prog 21 #[.pointer (some ⟨b, 0, none⟩)] w fun e w' => ∃ v, e = .returned v ∧ w'.ownsRow w.heap.size 3 1 v (refAllK bs bs.length).length ((refAllK bs bs.length).map fun x => .int .i64 (x : Nat)) ∧ Kept [] w w' := by
  obtain ⟨i0, hi, hz0, hz1, hz2⟩ := info_parts Tryd.infoI64
  have hs := h.small
  have H : Hid (IsRef w b g bs) := h
  have hbl := lt_of h.head
  have hgl := lt_of h.row
  clear h
  go_enter Tryd.func21, Tryd.ntmps21
  go_wp2_with fail
  go_loopw [3, 4] (fun v i wr => ∃ k : Nat, k ≤ bs.length ∧ i = .int .i64 k ∧ wr.ownsRow w.heap.size 3 1 v (refAllK bs k).length ((refAllK bs k).map fun x => .int .i64 (x : Nat)) ∧ Kept [] w wr) (fun _ i _ => bs.length - (intOf i).toNat)
  case atStart => exact ⟨0, Nat.zero_le _, rfl, World.ownsRow_nil _ _ _ _, Kept.refl _ _⟩
  case round =>
    obtain ⟨k, hk, rfl, hown, hkw⟩ := hrel
    have hr := H.out.kept hkw (by simp) (by simp)
    have c0 := hr.c0
    by_cases hlt : k < bs.length
    · have cw := hr.cw k hlt
      have b0 : (k : Int) < (bs.length : Int) := by omega
      have b1 : (0 : Int) ≤ (k : Int) := by omega
      have hle := refAllK_le bs k
      have hws : w.heap.size ≤ wr.heap.size := hkw.size
      cases hy : bs.getD k false
      · rw [hy] at cw
        have HE : Hid (refAllK bs (k + 1) = refAllK bs k) := refAllK_no bs k hy
        clear hy hr
        go_wp2
        go_roundw
        case rel => exact ⟨k + 1, by omega, by go_num, by rw [HE.out]; exact hown, hkw⟩
        case measure => simp [intOf]; omega
      · rw [hy] at cw
        have HE : Hid (refAllK bs (k + 1) = refAllK bs k ++ [k]) := refAllK_yes bs k hy
        clear hy hr
        go_wp2_with (at_builtin; refine wpList_append_own _ rfl (.tmp 21) (.tmp 23) 23 rfl w.heap.size 3 i0 _ 1 8 (by kernel_rfl) hi hz0 hz1 hz2 rfl (by decide) _ _ _ rfl (hown.alloc _) ⟨wr.heap.size, 0, none⟩ 1 1 [.int .i64 (k : Nat)] rfl rfl (World.news_of_block (cs := #[.int .i64 (k : Nat)]) (t := 3) (fr := (0, 0)) (heap_alloc_new wr _)) (by simp [Value.oneCell']) (by unfold maxLen; omega) (by omega) (by simp; omega) ?_; intro v' w1 hown' hgrow hnil)
        go_roundw
        case rel =>
          refine ⟨k + 1, by omega, by go_num, ?_, (hkw.alloc _).grown hgrow (fun x hx => Or.inr (hown.lt x hx).1)⟩
          rw [HE.out]
          simpa using hown'
        case measure => simp [intOf]; omega
    · have b0 : ¬ (k : Int) < (bs.length : Int) := by omega
      have e : k = bs.length := by omega
      rw [e] at hown
      clear e hr
      go_wp2
      go_ret
      exact ⟨_, rfl, hown, hkw⟩
end Go.Proofs.YtjfhfdpbdjeedaaDoor
