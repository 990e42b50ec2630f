/- The table of beginnings: for each byte the function that begins there. -/
import Derived.Test.YtilgfnafkcjdgaaDoorLxPiece
import Derived.Laws.Tables
import Derived.OwnWalk
import Derived.Laws.EntriesVeiled
import Derived.Lib.SlBytesConst
namespace Go.Proofs.YtilgfnafkcjdgaaDoor
open Go.RowKit

def fnV (k : Nat) : Value := .func (.func k) #[] #[]
/-- A row of 256 cells, by what each holds. -/
def tabOf (f : Nat → Value) : Array Value := Array.ofFn fun i : Fin 256 => f i.val
theorem tabOf_size (f : Nat → Value) : (tabOf f).size = 256 := by simp [tabOf]
theorem tabOf_at (f : Nat → Value) (i : Nat) (h : i < 256) : (tabOf f)[i]? = some (f i) := by
  rw [Array.getElem?_eq_getElem (by rw [tabOf_size]; exact h)]
  simp [tabOf]
theorem tabOf_set (f : Nat → Value) (i : Nat) (v : Value) : (tabOf f).setIfInBounds i v = tabOf (fun j => if j = i then v else f j) := by
  apply Array.ext
  · simp [tabOf_size]
  · intro j h1 h2
    have hj : j < 256 := by rw [tabOf_size] at h2; exact h2
    rw [Array.getElem_setIfInBounds]
    simp only [tabOf, Array.getElem_ofFn]
    by_cases e : i = j
    · rw [if_pos e, if_pos e.symm]
    · rw [if_neg e, if_neg (fun h => e h.symm)]
    · simp [tabOf]; exact hj
theorem tabOf_congr {f g : Nat → Value} (h : ∀ i, i < 256 → f i = g i) : tabOf f = tabOf g := by
  unfold tabOf
  congr 1
  funext i
  exact h i.val i.isLt
theorem tabOf_zero : Tryd.zeroCells81 = tabOf (fun _ => .nilFunc) := by kernel_rfl
def IsTab (w : World) (B : Nat) (f : Nat → Value) : Prop := w.heap[B]? = some (.cells (tabOf f) 81 (0, 0))
theorem IsTab.cell {w : World} {B : Nat} {f : Nat → Value} (h : IsTab w B f) (i : Nat) (hi : i < 256) : w.cell? ⟨B, i, none⟩ = some (f i) := (cell_of h i).trans (tabOf_at f i hi)
theorem IsTab.free {w : World} {B : Nat} {f : Nat → Value} (h : IsTab w B f) (i : Nat) : w.frozen? ⟨B, i, none⟩ = false := free_of h i
theorem IsTab.set {w : World} {B : Nat} {f : Nat → Value} (h : IsTab w B f) (i : Nat) (v : Value) : IsTab (w.setCell ⟨B, i, none⟩ v) B (fun j => if j = i then v else f j) := by
  unfold IsTab; rw [row_set h v, tabOf_set]
theorem IsTab.kept {w w' : World} {B : Nat} {f : Nat → Value} (h : IsTab w B f) (k : Kept [] w w') : IsTab w' B f := k.at h (by simp)
theorem IsTab.other {w : World} {B : Nat} {f : Nat → Value} (h : IsTab w B f) {p : Addr} (hp : p.block ≠ B) (v : Value) : IsTab (w.setCell p v) B f := by
  unfold IsTab; rw [Below.heap_setCell _ _ _ _ (fun e => hp e.symm)]; exact h
theorem IsTab.congr {w : World} {B : Nat} {f g : Nat → Value} (h : IsTab w B f) (e : ∀ i, i < 256 → f i = g i) : IsTab w B g := by
  unfold IsTab at h ⊢; rw [← tabOf_congr e]; exact h

theorem storeCells_row {P : Program} (w : World) (g : Nat) (t : TypeId) (c c' : Array Value) (hg : w.heap[g]? = some (.cells c t (0, 0))) (hi : (P.info? t).map (·.size) = some c'.size) (ho : c.size = c'.size) (h1 : c'.all (·.oneCell') = true) :
    (storeCells ⟨g, 0, none⟩ c'.toList 0).run P w = .ok () (w.setRow g c') := by
  have := run_storeVar_row (P := P) w g t t c c' hg hi ho h1
  cases hq : P.info? t with
  | none => simp [hq] at hi
  | some i =>
    have hs : c'.size = i.size := by simp [hq] at hi; omega
    simpa [storeVar, sizeOf, typeInfo, hq, Value.cells, hs] using this
theorem tabOf_one (f : Nat → Value) (h : ∀ i, (f i).oneCell' = true) : (tabOf f).all (·.oneCell') = true := by
  rw [Array.all_eq_true_iff_forall_mem]
  intro v hv
  unfold tabOf at hv
  obtain ⟨i, rfl⟩ := Array.mem_ofFn.1 hv
  exact h _
theorem Kept.setRow {F : List Nat} {a w : World} (h : Kept F a w) {g : Nat} (hg : a.heap.size ≤ g) (cs : Array Value) : Kept F a (w.setRow g cs) :=
  h.trans (G := [g]) (H := F) ⟨rfl, rfl, rfl, by simp, fun k _ hn => setRow_other _ _ _ _ (by simpa using hn)⟩ (fun _ h => h) (by simp; exact Or.inr hg)
/-- What the first loop has laid. -/
def tab1 (i j : Nat) : Value := if j < i then (if isLetterB (UInt8.ofNat j) then fnV 60 else fnV 59) else .nilFunc
theorem tab1_zero (j : Nat) : tab1 0 j = .nilFunc := if_neg (by omega)

theorem tab1_succ (i : Nat) (v : Value) (hv : v = if isLetterB (UInt8.ofNat i) then fnV 60 else fnV 59) (j : Nat) (_ : j < 256) : (if j = i then v else tab1 i j) = tab1 (i + 1) j := by
  unfold tab1
  by_cases e : j = i
  · subst e; rw [if_pos rfl, if_pos (by omega), hv]
  · rw [if_neg e]
    by_cases h : j < i
    · have h2 : j < i + 1 := by omega
      simp [h, h2]
    · have h2 : ¬ j < i + 1 := by omega
      simp [h, h2]

def signsL : List UInt8 := [33, 38, 124, 40, 41]
/-- What the second loop has laid. -/
def tab2 (i j : Nat) : Value := if (signsL.take i).contains (UInt8.ofNat j) then fnV 61 else tab1 256 j
theorem tab2_succ (i : Nat) (x : UInt8) (hx : signsL[i]? = some x) (j : Nat) (hj : j < 256) : (if j = x.toNat then .func (.func 61) #[] #[] else tab2 i j) = tab2 (i + 1) j := by
  unfold tab2
  rw [List.take_add_one, hx]
  simp only [Option.toList, List.contains_append]
  have hxx : x.toNat < 256 := UInt8.toNat_lt x
  by_cases e : j = x.toNat
  · subst e
    simp [fnV]
  · rw [if_neg e]
    have : ([x] : List UInt8).contains (UInt8.ofNat j) = false := by
      simp
      intro h
      apply e
      rw [← h]
      simp
      omega
    rw [this, Bool.or_false]

theorem tabF_nat : ∀ j, j < 256 → (if j = 60 then 64 else if j = 45 then 63 else if j = 34 then 62 else if (signsL.take 5).contains (UInt8.ofNat j) then 61 else if isLetterB (UInt8.ofNat j) then 60 else 59) = fnOf (UInt8.ofNat j) := by decide +kernel
theorem tabF (j : Nat) (hj : j < 256) : (if j = 60 then .func (.func 64) #[] #[] else if j = 45 then .func (.func 63) #[] #[] else if j = 34 then .func (.func 62) #[] #[] else tab2 5 j) = fnV (fnOf (UInt8.ofNat j)) := by
  rw [← tabF_nat j hj]
  unfold tab2 tab1
  rw [if_pos hj]
  repeat' split
  all_goals rfl
theorem Tryd.infoTab : (Tryd.prog.info? 81).map (·.size) = some 256 := by kernel_rfl
set_option maxHeartbeats 2000000 in
set_option maxRecDepth 20000 in
theorem beginnings_any (w : World) :
    Calls Tryd.prog 50 #[] w fun e w' => e = .returned (.agg (tabOf fun j => fnV (fnOf (UInt8.ofNat j)))) ∧ Kept [] w w' := by
  go_enter Tryd.func50, Tryd.ntmps50
  go_wp2
  have h1 : IsTab ((w.alloc (.cells Tryd.zeroCells81 81)).alloc (.cells Tryd.zeroCells81 81)) (w.heap.size + 1) (tab1 0) := by
    unfold IsTab
    rw [heap_alloc2_new, tabOf_zero, tabOf_congr (fun j _ => tab1_zero j)]
  have h0 : IsTab ((w.alloc (.cells Tryd.zeroCells81 81)).alloc (.cells Tryd.zeroCells81 81)) w.heap.size (fun _ => .nilFunc) := by
    unfold IsTab
    rw [Below.heap_alloc _ _ _ (by simp), heap_alloc_new, tabOf_zero]
  go_loopw [5] (fun v wr => ∃ i : Nat, i ≤ 256 ∧ v = .int .i64 (i : Nat) ∧ Hid (IsTab wr (w.heap.size + 1) (tab1 i)) ∧ Hid (IsTab wr w.heap.size (fun _ => .nilFunc)) ∧ Hid (Kept [] w wr)) (fun v _ => 256 - (intOf v).toNat)
  case atStart => exact ⟨0, by omega, rfl, h1, h0, ((Kept.refl [] w).alloc _).alloc _⟩
  case round =>
    obtain ⟨i, hi, rfl, H1, H0, HK⟩ := hrel
    clear h1 h0
    by_cases hi2 : i < 256
    · have hii : (i : Int) < 256 := by omega
      have hc := H1.out.cell i hi2
      have hf := H1.out.free i
      have hlet : ∀ w, Calls Tryd.prog 56 #[.int .u8 (i : Nat)] w fun e w' => e = .returned (.bool (isLetterB (UInt8.ofNat i))) ∧ w' = w := by
        intro w
        have := letter_any (UInt8.ofNat i) w
        rw [show (UInt8.ofNat i).toNat = i by simp; omega] at this
        exact this
      generalize htt : tab1 i i = old at hc
      have HT : Hid _ := htt
      clear htt
      have Hlet : Hid _ := hlet
      clear hlet
      cases hb : isLetterB (UInt8.ofNat i)
      · have HB : Hid _ := hb
        have hlet := Hlet.out
        rw [hb] at hlet
        clear hb
        have Hlet : Hid _ := hlet
        clear hlet
        go_wp2_with (go_at_call 56; refine (Hlet.out _).mono ?_; rintro e w' ⟨rfl, hw⟩; rw [hw])
        go_roundw
        case rel => exact ⟨i + 1, by omega, by go_num, (H1.out.set i _).congr (tab1_succ i _ (by rw [HB.out]; rfl)), H0.out.other (by show w.heap.size + 1 ≠ w.heap.size; omega) _, HK.out.setCell (Or.inr (by show w.heap.size ≤ w.heap.size + 1; omega)) _⟩
        case measure => simp [intOf]; omega
      · have HB : Hid _ := hb
        have hlet := Hlet.out
        rw [hb] at hlet
        clear hb
        have Hlet : Hid _ := hlet
        clear hlet
        go_wp2_with (go_at_call 56; refine (Hlet.out _).mono ?_; rintro e w' ⟨rfl, hw⟩; rw [hw])
        go_roundw
        case rel => exact ⟨i + 1, by omega, by go_num, ((H1.out.set i _).set i _).congr (fun j hj => by rw [← tab1_succ i (fnV 60) (by rw [HB.out]; rfl) j hj]; by_cases e : j = i <;> simp [e, fnV]), (H0.out.other (by show w.heap.size + 1 ≠ w.heap.size; omega) _).other (by show w.heap.size + 1 ≠ w.heap.size; omega) _, (HK.out.setCell (Or.inr (by show w.heap.size ≤ w.heap.size + 1; omega)) _).setCell (Or.inr (by show w.heap.size ≤ w.heap.size + 1; omega)) _⟩
        case measure => simp [intOf]; omega
    · have hii : ¬ (i : Int) < 256 := by omega
      obtain rfl : i = 256 := by omega
      have hcv : Hid _ := Lib.run_convert_bytes_const (P := Tryd.prog) wr 87 5 #[.int .u8 33, .int .u8 38, .int .u8 124, .int .u8 40, .int .u8 41] 5 5 Tryd.underlying87 Tryd.underlying5
      go_wp2
      rw [hcv.out]
      simp only [Result.andThen]
      rw [Oper.upon_value]
      clear hcv
      go_wp2
      have k2 := HK.out.alloc (.cells #[.int .u8 33, .int .u8 38, .int .u8 124, .int .u8 40, .int .u8 41] 5 (5, 6))
      have hB3 : wr.heap.size < (wr.alloc (.cells #[.int .u8 33, .int .u8 38, .int .u8 124, .int .u8 40, .int .u8 41] 5 (5, 6))).heap.size := by simp
      have hb2 := heap_alloc_new wr (.cells #[.int .u8 33, .int .u8 38, .int .u8 124, .int .u8 40, .int .u8 41] 5 (5, 6))
      have t1 := H1.out.kept ((Kept.refl [] wr).alloc (.cells #[.int .u8 33, .int .u8 38, .int .u8 124, .int .u8 40, .int .u8 41] 5 (5, 6)))
      have t0 := H0.out.kept ((Kept.refl [] wr).alloc (.cells #[.int .u8 33, .int .u8 38, .int .u8 124, .int .u8 40, .int .u8 41] 5 (5, 6)))
      have hlo : w.heap.size + 1 < wr.heap.size := lt_of H1.out
      go_loopw [19] (fun v wx => ∃ i : Nat, i ≤ 5 ∧ v = .int .i64 (i : Nat) ∧ Hid (IsTab wx (w.heap.size + 1) (tab2 i)) ∧ Hid (IsTab wx w.heap.size (fun _ => .nilFunc)) ∧ Hid (Kept [] w wx) ∧ Hid (wx.heap[wr.heap.size]? = some (.cells #[.int .u8 33, .int .u8 38, .int .u8 124, .int .u8 40, .int .u8 41] 5 (5, 6)))) (fun v _ => 5 - (intOf v).toNat)
      case atStart => exact ⟨0, by omega, rfl, t1, t0, k2, hb2⟩
      case round =>
        obtain ⟨i, hi, rfl, H1', H0', HK', HB'⟩ := hrel
        clear t1 t0 hb2
        by_cases hi2 : i < 5
        · have hii : (i : Int) < 5 := by omega
          obtain ⟨x, hx, hx2⟩ : ∃ x : UInt8, signsL[i]? = some x ∧ ((#[.int .u8 33, .int .u8 38, .int .u8 124, .int .u8 40, .int .u8 41] : Array Value)[i]? = some (.int .u8 (x.toNat : Nat))) := by
            rcases i with _ | _ | _ | _ | _ | i
            · exact ⟨33, rfl, rfl⟩
            · exact ⟨38, rfl, rfl⟩
            · exact ⟨124, rfl, rfl⟩
            · exact ⟨40, rfl, rfl⟩
            · exact ⟨41, rfl, rfl⟩
            · omega
          have hbc : _ = some (Value.int .u8 (x.toNat : Nat)) := (cell_of HB'.out i).trans hx2
          have hx256 : x.toNat < 256 := UInt8.toNat_lt x
          have hxi : (x.toNat : Int) < 256 := by omega
          have hc := H1'.out.cell x.toNat hx256
          have hf := H1'.out.free x.toNat
          have HX : Hid _ := hx
          clear hx hx2
          generalize tab2 i x.toNat = old at hc
          go_wp2
          go_roundw
          case rel => exact ⟨i + 1, by omega, by go_num, (H1'.out.set x.toNat _).congr (tab2_succ i x HX.out), H0'.out.other (by show w.heap.size + 1 ≠ w.heap.size; omega) _, HK'.out.setCell (Or.inr (by show w.heap.size ≤ w.heap.size + 1; omega)) _, by unfold Hid; rw [Below.heap_setCell _ _ _ _ (Nat.ne_of_gt hlo)]; exact HB'.out⟩
          case measure => simp [intOf]; omega
        · have hii : ¬ (i : Int) < 5 := by omega
          obtain rfl : i = 5 := by omega
          have c34 := H1'.out.cell 34 (by omega)
          have c45 := H1'.out.cell 45 (by omega)
          have c60 := H1'.out.cell 60 (by omega)
          have f1 := H1'.out.free 34
          have f2 := H1'.out.free 45
          have f3 := H1'.out.free 60
          generalize tab2 5 34 = o34 at c34
          generalize tab2 5 45 = o45 at c45
          generalize tab2 5 60 = o60 at c60
          have T1 : IsTab (((wr.setCell ⟨w.heap.size + 1, 34, none⟩ (.func (.func 62) #[] #[])).setCell ⟨w.heap.size + 1, 45, none⟩ (.func (.func 63) #[] #[])).setCell ⟨w.heap.size + 1, 60, none⟩ (.func (.func 64) #[] #[])) (w.heap.size + 1) (fun j => fnV (fnOf (UInt8.ofNat j))) :=
            (((H1'.out.set 34 _).set 45 _).set 60 _).congr tabF
          have T0 := ((H0'.out.other (p := ⟨w.heap.size + 1, 34, none⟩) (by show w.heap.size + 1 ≠ w.heap.size; omega) (.func (.func 62) #[] #[])).other (p := ⟨w.heap.size + 1, 45, none⟩) (by show w.heap.size + 1 ≠ w.heap.size; omega) (.func (.func 63) #[] #[])).other (p := ⟨w.heap.size + 1, 60, none⟩) (by show w.heap.size + 1 ≠ w.heap.size; omega) (.func (.func 64) #[] #[])
          have K2 := ((HK'.out.setCell (p := ⟨w.heap.size + 1, 34, none⟩) (Or.inr (by show w.heap.size ≤ w.heap.size + 1; omega)) (.func (.func 62) #[] #[])).setCell (p := ⟨w.heap.size + 1, 45, none⟩) (Or.inr (by show w.heap.size ≤ w.heap.size + 1; omega)) (.func (.func 63) #[] #[])).setCell (p := ⟨w.heap.size + 1, 60, none⟩) (Or.inr (by show w.heap.size ≤ w.heap.size + 1; omega)) (.func (.func 64) #[] #[])
          have HT1 : Hid _ := T1
          have HT0 : Hid _ := T0
          have HK2 : Hid _ := K2
          clear T1 T0 K2
          go_wp2
          generalize (((wr.setCell ⟨w.heap.size + 1, 34, none⟩ (.func (.func 62) #[] #[])).setCell ⟨w.heap.size + 1, 45, none⟩ (.func (.func 63) #[] #[])).setCell ⟨w.heap.size + 1, 60, none⟩ (.func (.func 64) #[] #[])) = wz at HT1 HT0 HK2 ⊢
          refine wp_load_row 81 (.tmp 1) rfl (w.heap.size + 1) rfl 81 _ (0, 0) _ HT1.out Tryd.underlying81 rfl (by rw [tabOf_size]; exact Tryd.infoTab) ?_
          have hst : Hid _ := storeCells_row (P := Tryd.prog) wz w.heap.size 81 _ (tabOf fun j => fnV (fnOf (UInt8.ofNat j))) HT0.out (by rw [tabOf_size]; exact Tryd.infoTab) (by rw [tabOf_size, tabOf_size]) (tabOf_one _ (fun _ => rfl))
          go_wp2
          rw [hst.out]
          simp only [Result.andThen]
          rw [Oper.upon_skip]
          go_wp2
          (try simp only [Exit.inBlock, Exit.then])
          refine bodyPost_ret (results_cell_row rfl _ _ w.heap.size 81 _ (0, 0) _ rfl (setRow_heap _ _ _ _ _ _ HT0.out) Tryd.underlying81 rfl (by rw [tabOf_size]; exact Tryd.infoTab)) rfl ?_
          exact ⟨rfl, HK2.out.setRow (Nat.le_refl _) _⟩
end Go.Proofs.YtilgfnafkcjdgaaDoor
