/- Subs' comparison, and the sort by it. -/
import Derived.Test.YtnjajafmmociiaaGreatDoorGU
import Derived.Test.YtnjajafmmociiaaGreatDoorTrCmp2
import Derived.Test.YtnjajafmmociiaaGreatDoorShelf
import Derived.Test.YtnjajafmmociiaaGreatDoorTrOrd
namespace Go.Proofs.YtnjajafmmociiaaGreatDoor
open Go.RowKit Go.Shelf

theorem Grew.isF {w w' : World} (h : Grew w w') {t : Tr} {kv : Value} (hI : IsF w t kv) : IsF w' t kv := hI.kept h.kept
/-- By size, then as Cmp has it. -/
def cmpE (x y : Nat × Tr) : Int := if x.1 = y.1 then cmpT x.2 y.2 else cmpN x.1 y.1
set_option maxHeartbeats 1000000 in
theorem subsCmp_any (x y : En) (w : World) (hx : IsF w x.t (.slice x.kad x.t.kids.length x.kcap)) (hy : IsF w y.t (.slice y.kad y.t.kids.length y.kcap)) (hsx : x.t.size ≤ 1099511627776) (hsy : y.t.size ≤ 1099511627776) :
    Calls Tryz.prog 70 #[.agg x.cells.toArray, .agg y.cells.toArray] w fun e w' => e = .returned (.int .i64 (cmpE x.key y.key)) ∧ Grew w w' := by
  have HCM : Hid _ := fun W (k : Grew w W) => cmp_any x.t y.t _ _ W (k.isF hx) (k.isF hy) hsx hsy
  have HCI : Hid _ := fun W => compareInt x.size y.size W
  clear hx hy
  show Calls Tryz.prog 70 #[.agg #[.int .i64 (x.size : Nat), .int .u8 (x.t.op : Nat), .string x.t.name, .slice x.kad x.t.kids.length x.kcap], .agg #[.int .i64 (y.size : Nat), .int .u8 (y.t.op : Nat), .string y.t.name, .slice y.kad y.t.kids.length y.kcap]] w _
  by_cases hs : x.size = y.size
  · have hb : ((x.size : Int) != (y.size : Int)) = false := by rw [bne_eq_false_iff_eq]; omega
    have HE : Hid (cmpE x.key y.key = cmpT x.t y.t) := if_pos hs
    rw [HE.out]
    clear hs
    go_enter Tryz.func70, Tryz.ntmps70
    go_wp2_with (go_at_call 72; refine (HCM.out _ (((Grew.refl w).alloc _).alloc _)).mono ?_; rintro e W2 ⟨rfl, hk2⟩)
    go_ret
    exact ⟨rfl, (((Grew.refl w).alloc _).alloc _).trans hk2⟩
  · have hb : ((x.size : Int) != (y.size : Int)) = true := by rw [bne_iff_ne]; omega
    have HE : Hid (cmpE x.key y.key = cmpN x.size y.size) := if_neg hs
    rw [HE.out]
    clear hs
    go_enter Tryz.func70, Tryz.ntmps70
    go_wp2_with (go_at_call 71; refine (HCI.out _).mono ?_; rintro e W2 ⟨rfl, rfl⟩)
    go_ret
    exact ⟨rfl, ((Grew.refl w).alloc _).alloc _⟩
end Go.Proofs.YtnjajafmmociiaaGreatDoor

/- slices.SortFunc by Subs' comparison. -/
namespace Go.Proofs.YtnjajafmmociiaaGreatDoor
open Go.RowKit Go.Shelf Go.Sort

theorem preE : Pre cmpE := by
  have h : cmpE = lex2 (fun x y : Nat × Tr => cmpN x.1 y.1) (fun x y : Nat × Tr => cmpT x.2 y.2) := by
    funext x y
    unfold cmpE lex2
    by_cases e : x.1 = y.1
    · rw [if_pos e, if_pos (cmpN_zero.2 e)]
    · rw [if_neg e, if_neg (fun q => e (cmpN_zero.1 q))]
  rw [h]
  exact (preN.pull (fun x : Nat × Tr => x.1)).lex (preT.pull (fun x : Nat × Tr => x.2))
/-- What is sorted: trees that lie in w. -/
structure Lies (w : World) where
  val : En
  lies : IsF w val.t (.slice val.kad val.t.kids.length val.kcap)
  small : val.t.size ≤ 1099511627776
  fine : val.t.Fine
def encE {w : World} (x : Lies w) : List Value := x.1.cells
theorem sorted_block {w : World} {α : Type} [Inhabited α] (enc : α → List Value) (k blk off m : Nat) (dk : Array α) (os : Array Obj) (W : World) (hW : Kept [] w W) (hb : w.heap.size ≤ blk) : Kept [] w (sortWorldK enc k W blk off m dk os) := by
  refine hW.trans (F := []) (G := [blk]) ⟨rfl, rfl, rfl, size_sortWorldK_c enc k W blk off m dk os, fun i hi hn => ?_⟩ (by simp) (fun x hx => .inr (by simpa using (List.mem_singleton.1 hx) ▸ hb))
  have hne : i ≠ blk := by simpa using hn
  have hs : i < (W.heap.modify blk (onCells (putCells id off (flatK enc k dk)))).size := by rw [Array.size_modify]; exact hi
  show ((W.heap.modify blk (onCells (putCells id off (flatK enc k dk))) ++ os)[i]?) = _
  rw [Array.getElem?_append_left hs, Array.getElem?_modify, if_neg (fun e => hne e.symm)]
theorem cmpLays (w W : World) (blk off size : Nat) [Inhabited (Lies w)] (hW : Kept [] w W) (hb : w.heap.size ≤ blk) : CmpLays Tryz.prog 70 #[] (encE (w := w)) 4 (fun x y => cmpE x.1.key y.1.key) blk off size W := by
  intro m os dk _ x y
  have hk := sorted_block (w := w) encE 4 blk off m dk os W hW hb
  exact subsCmp_any x.1 y.1 _ (x.lies.kept hk) (y.lies.kept hk) x.small y.small
theorem aggSized (w : World) : (isAgg 101).run Tryz.prog w = .ok true w := by kernel_rfl
theorem sizeSized (w : World) : (Go.sizeOf 101).run Tryz.prog w = .ok 4 w := by kernel_rfl
theorem sort_any (w W : World) (blk cap : Nat) [Inhabited (Lies w)] (d : Array (Lies w)) (hW : Kept [] w W) (hb : w.heap.size ≤ blk) (hl : blk < W.heap.size) (hH : HoldsK (encE (w := w)) 4 W blk 0 d) (hs : d.size < 4611686018427387904) :
    Calls Tryz.prog 69 #[.slice (some ⟨blk, 0, none⟩) d.size cap, .func (.func 70) #[] #[]] W fun e w' =>
      e = .returned (.tuple #[]) ∧ ∃ d' n os, Go.Sort.PermIn 0 d.size d d' ∧ Go.Sort.SortedIn (ltOf fun x y : Lies w => cmpE x.1.key y.1.key) 0 d.size d' ∧ w' = sortWorldK encE 4 W blk 0 n d' os :=
  AnyQ.slices_SortFunc Tryz.laysSort 4 aggSized sizeSized encE (fun _ => rfl) (fun x v hv => by
    simp [encE, En.cells] at hv
    rcases hv with rfl | rfl | rfl | rfl <;> rfl) _ (preE.pull (fun x : Lies w => x.1.key)).swo 70 #[] blk 0 cap d W (enters_of Tryz.func70 (by kernel_rfl) rfl) (cmpLays w W blk 0 d.size hW hb) hH hl hs
end Go.Proofs.YtnjajafmmociiaaGreatDoor

/- Subs: from unlike's list to what is sorted; the list of copies that grows. No walk here. -/
namespace Go.Proofs.YtnjajafmmociiaaGreatDoor
open Go.RowKit Go.Shelf Go.Sort

/-- The list G has its first i trees. -/
structure RowAt (G n : Nat) (us : List Tr) (i : Nat) (wr : World) : Prop where
  row : ∃ arr, wr.heap[G]? = some (.cells arr 25 (0, 0)) ∧ arr.size = n * 3 ∧ ∀ j (hj : j < us.length), j < i → ∃ ad cap, arr[j * 3]? = some (.int .u8 (us[j].op : Nat)) ∧ arr[j * 3 + 1]? = some (.string us[j].name) ∧ arr[j * 3 + 2]? = some (.slice ad us[j].kids.length cap) ∧ IsT (fun k => G < k) wr us[j] (.slice ad us[j].kids.length cap)
theorem RowAt.next {wr W5 : World} {G n : Nat} {us : List Tr} {i : Nat} (h : RowAt G n us i wr) (hk : Kept [] wr W5) (hi : i < us.length) (hn : us.length = n) {ad : Option Addr} {cap : Nat} (hI : IsT (fun k => G < k) W5 us[i] (.slice ad us[i].kids.length cap)) :
    (∃ v0 v1 v2, W5.cell? ⟨G, i * 3, none⟩ = some v0 ∧ W5.cell? ⟨G, i * 3 + 1, none⟩ = some v1 ∧ W5.cell? ⟨G, i * 3 + 2, none⟩ = some v2 ∧ ∀ k, W5.frozen? ⟨G, k, none⟩ = false) ∧
    RowAt G n us (i + 1) (((W5.setCell ⟨G, i * 3, none⟩ (.int .u8 (us[i].op : Nat))).setCell ⟨G, i * 3 + 1, none⟩ (.string us[i].name)).setCell ⟨G, i * 3 + 2, none⟩ (.slice ad us[i].kids.length cap)) := by
  obtain ⟨arr, hg, hsz, hr⟩ := h.row
  have hg5 : W5.heap[G]? = some (.cells arr 25 (0, 0)) := hk.at hg (by simp)
  refine ⟨⟨arr[i * 3]'(by omega), arr[i * 3 + 1]'(by omega), arr[i * 3 + 2]'(by omega), ?_, ?_, ?_, fun k => free_of hg5 k⟩, ⟨_, row_set (row_set (row_set hg5 _) _) _, by simp [hsz], fun j hj hji => ?_⟩⟩
  · rw [cell_of hg5]; exact Array.getElem?_eq_getElem _
  · rw [cell_of hg5]; exact Array.getElem?_eq_getElem _
  · rw [cell_of hg5]; exact Array.getElem?_eq_getElem _
  · have hnG : ¬ (G < G) := by omega
    rcases Nat.lt_or_ge j i with h' | h'
    · obtain ⟨ad', cap', a0, a1, a2, hIj⟩ := hr j hj h'
      refine ⟨ad', cap', ?_, ?_, ?_, ?_⟩
      · rw [Array.getElem?_setIfInBounds_ne (by omega), Array.getElem?_setIfInBounds_ne (by omega), Array.getElem?_setIfInBounds_ne (by omega)]; exact a0
      · rw [Array.getElem?_setIfInBounds_ne (by omega), Array.getElem?_setIfInBounds_ne (by omega), Array.getElem?_setIfInBounds_ne (by omega)]; exact a1
      · rw [Array.getElem?_setIfInBounds_ne (by omega), Array.getElem?_setIfInBounds_ne (by omega), Array.getElem?_setIfInBounds_ne (by omega)]; exact a2
      · exact ((((hIj.cells (fun _ h => h) (fun _ _ _ _ cc => cell_kept0 hk cc)).other hnG _ _).other hnG _ _).other hnG _ _)
    · obtain rfl : j = i := by omega
      refine ⟨ad, cap, ?_, ?_, ?_, ?_⟩
      · rw [Array.getElem?_setIfInBounds_ne (by omega), Array.getElem?_setIfInBounds_ne (by omega), Array.getElem?_setIfInBounds_self_of_lt (by omega)]
      · rw [Array.getElem?_setIfInBounds_ne (by omega), Array.getElem?_setIfInBounds_self_of_lt (by simp; omega)]
      · rw [Array.getElem?_setIfInBounds_self_of_lt (by simp; omega)]
      · exact ((hI.other hnG _ _).other hnG _ _).other hnG _ _
/-- The trees, each with the word that it lies in w. -/
def liesOf (w : World) (l : List En) (h : ∀ x ∈ l, IsF w x.t (.slice x.kad x.t.kids.length x.kcap) ∧ x.t.size ≤ 1099511627776 ∧ x.t.Fine) : List (Lies w) := l.attach.map fun x => ⟨x.1, (h x.1 x.2).1, (h x.1 x.2).2.1, (h x.1 x.2).2.2⟩
theorem liesOf_val (w : World) (l : List En) (h) : (liesOf w l h).map (fun x => x.1) = l := by
  unfold liesOf
  rw [List.map_map]
  exact List.attach_map_subtype_val l
theorem liesOf_len (w : World) (l : List En) (h) : (liesOf w l h).length = l.length := by simp [liesOf]
theorem liesOf_at (w : World) (l : List En) (h) (i : Nat) (hi : i < l.length) : ((liesOf w l h)[i]'(by rw [liesOf_len]; exact hi)).1 = l[i] := by
  simp [liesOf]
theorem ents_get : ∀ (l : List En) (i c : Nat) (hi : i < l.length), c < 4 → (ents l)[i * 4 + c]? = l[i].cells[c]?
  | [], _, _, hi, _ => by simp at hi
  | x :: r, 0, c, _, hc => by
    show (x.cells ++ ents r)[0 * 4 + c]? = _
    rw [List.getElem?_append_left (by simp [En.cells]; omega)]
    simp
  | x :: r, i + 1, c, hi, hc => by
    show (x.cells ++ ents r)[(i + 1) * 4 + c]? = _
    have hl : x.cells.length = 4 := rfl
    rw [List.getElem?_append_right (by omega), hl, show (i + 1) * 4 + c - 4 = i * 4 + c by omega, ents_get r i c (by simpa using hi) hc]
    simp
/-- unlike's list holds what is to be sorted. -/
theorem holds_of {w W : World} [Inhabited (Lies w)] {l : List En} {g cap : Nat} {ad : Option Addr} (h : ∀ x ∈ l, IsF w x.t (.slice x.kad x.t.kids.length x.kcap) ∧ x.t.size ≤ 1099511627776 ∧ x.t.Fine) (hr : W.ownsRow w.heap.size 101 4 (.slice ad l.length cap) l.length (ents l)) (hg : ad = some ⟨g, 0, none⟩) : w.heap.size ≤ g ∧ g < W.heap.size ∧ HoldsK (encE (w := w)) 4 W g 0 (liesOf w l h).toArray := by
  subst hg
  rcases hr.2 with ⟨e, _⟩ | ⟨g', cap', cur, e, hb, hc, _, _, hsz, htk⟩
  · cases e
  · cases e
    refine ⟨hb, lt_of hc, fun j hj => ?_⟩
    have hj2 : j < l.length * 4 := by
      have := size_flatK (encE (w := w)) 4 (liesOf w l h).toArray
      rw [this] at hj
      simpa [liesOf_len] using hj
    have hj3 : j < (liesOf w l h).toArray.size * 4 := by simpa [liesOf_len] using hj2
    have hd : j / 4 < l.length := by omega
    have hm : j % 4 < 4 := by omega
    have hcell : W.cell? ⟨g, 0 + j, none⟩ = (ents l)[j]? := by
      rw [cell_of hc, ← htk, List.getElem?_take_of_lt hj2, Nat.zero_add]
      simp
    refine ⟨?_, free_of hc _⟩
    rw [hcell, get_flatK _ _ _ _ hj3]
    have hx : (liesOf w l h).toArray[j / 4]! = (liesOf w l h)[j / 4]'(by rw [liesOf_len]; exact hd) := by
      rw [getElem!_pos _ _ (by simpa [liesOf_len] using hd)]; simp
    rw [hx]
    show _ = some ((((liesOf w l h)[j / 4]'(by rw [liesOf_len]; exact hd)).1.cells)[j % 4]!)
    rw [liesOf_at w l h (j / 4) hd]
    have := ents_get l (j / 4) (j % 4) hd hm
    rw [show j / 4 * 4 + j % 4 = j by omega] at this
    rw [this, List.getElem?_eq_getElem (by simp [En.cells]; omega), getElem!_pos _ _ (by simp [En.cells]; omega)]
end Go.Proofs.YtnjajafmmociiaaGreatDoor

/- tree.Subs. -/
namespace Go.Proofs.YtnjajafmmociiaaGreatDoor
open Go.RowKit Go.Shelf Go.Sort

set_option maxHeartbeats 2000000 in
set_option maxRecDepth 20000 in
theorem subs_any (t : Tr) (kv : Value) (w : World) (hI : IsF w t kv) (hs : t.size ≤ 1099511627776) (hF : t.Fine) :
    Calls Tryz.prog 22 #[.agg #[.int .u8 (t.op : Nat), .string t.name, kv]] w fun e w' => ∃ G us, e = .returned (.slice (some ⟨G, 0, none⟩) us.length us.length) ∧ w.heap.size ≤ G ∧ RowAt G us.length us us.length w' ∧ us.length = (unlikeP t).length ∧ (∃ ds : List (Nat × Tr), us = ds.map Prod.snd ∧ ds.Perm (unlikeP t) ∧ ∀ i j (hi : i < ds.length) (hj : j < ds.length), i < j → ¬ cmpE ds[j] ds[i] < 0) ∧ Kept [] w w' := by
  obtain ⟨kad, kcap, rfl⟩ := hI.slice
  obtain ⟨W0, hW0⟩ : ∃ W0, w.alloc (.cells #[.int .u8 (t.op : Nat), .string t.name, .slice kad t.kids.length kcap] 25) = W0 := ⟨_, rfl⟩
  have k0 : Kept [] w W0 := by rw [← hW0]; exact (Kept.refl [] w).alloc _
  have HUN : Hid _ := fun (_ : Unit) => unlike_any t _ W0 (hI.kept k0) hs hF
  have HW0 : Hid _ := hW0
  have HUA : Hid _ := unlike_all t hF
  have HUL : Hid _ := unlike_len t
  have HUS : Hid _ := unlike_some t
  have HK0 : Hid (Kept [] w W0) := k0
  clear hI hF k0 hW0
  go_enter Tryz.func22, Tryz.ntmps22
  go_wp2_with (go_at_call 68; rw [HW0.out]; refine (HUN.out ()).mono ?_; rintro e W1 ⟨v, l, rfl, hrow, hl, hin, hk1⟩; obtain ⟨ad, cap, rfl⟩ := own_slice hrow)
  have hln : l.length = (unlikeP t).length := by rw [← hl, List.length_map]
  have hlz : 1 ≤ l.length := by rw [hln]; exact HUS.out
  have hlm : l.length ≤ 1099511627776 := by rw [hln]; have := HUL.out; omega
  have hin2 : ∀ x ∈ l, IsF W0 x.t (.slice x.kad x.t.kids.length x.kcap) ∧ x.t.size ≤ 1099511627776 ∧ x.t.Fine := fun x hx => by
    have := HUA.out x.key (by rw [← hl]; exact List.mem_map.2 ⟨x, hx, rfl⟩)
    exact ⟨hin x hx, Nat.le_trans this.1 hs, this.2⟩
  obtain ⟨x0, r0, hx0⟩ : ∃ x0 r0, l = x0 :: r0 := by cases l with | nil => simp at hlz | cons a b => exact ⟨a, b, rfl⟩
  have i0 : Inhabited (Lies W0) := ⟨⟨x0, (hin2 x0 (by simp [hx0])).1, (hin2 x0 (by simp [hx0])).2.1, (hin2 x0 (by simp [hx0])).2.2⟩⟩
  obtain ⟨g, hg⟩ : ∃ g, ad = some ⟨g, 0, none⟩ := by
    rcases hrow.2 with ⟨e, e0⟩ | ⟨g', cap', cur, e, _⟩
    · omega
    · cases e; exact ⟨g', rfl⟩
  obtain ⟨hg0, hg1, hH⟩ := holds_of hin2 hrow hg
  subst hg
  have hds : (liesOf W0 l hin2).toArray.size = l.length := by simp [liesOf_len]
  have hso := sort_any W0 W1 g cap (liesOf W0 l hin2).toArray hk1 hg0 hg1 hH (by omega)
  rw [hds] at hso
  refine hso.mono ?_
  rintro e W2 ⟨rfl, d', n, os, hp, hsrt, rfl⟩
  have hk2 := sorted_block (w := W0) encE 4 g 0 n d' os W1 hk1 hg0
  have hd' : d'.size = l.length := hp.1.trans hds
  have hH2 := holdsK_sortWorldK_c encE 4 W1 g 0 _ d' n os hH hg1 hp.1
  have hds2 : ∃ ds : List (Nat × Tr), d'.toList.map (fun x => x.val.t) = ds.map Prod.snd ∧ ds.Perm (unlikeP t) ∧ ∀ i j (hi : i < ds.length) (hj : j < ds.length), i < j → ¬ cmpE ds[j] ds[i] < 0 := by
    refine ⟨d'.toList.map (fun x => x.val.key), ?_, ?_, ?_⟩
    · rw [List.map_map]; rfl
    · have h1 := hp.2.2
      rw [show d'.extract 0 l.length = d' by rw [← hd']; exact Array.extract_size, show (liesOf W0 l hin2).toArray.extract 0 l.length = (liesOf W0 l hin2).toArray by rw [← hds]; exact Array.extract_size] at h1
      have h2 := h1.map (fun x : Lies W0 => x.val.key)
      have h3 : (liesOf W0 l hin2).map (fun x => x.val.key) = unlikeP t := by
        rw [← hl]
        conv => rhs; rw [← liesOf_val W0 l hin2, List.map_map]
        rfl
      rw [← h3]
      exact h2
    · intro i j hi hj hij
      have hjd : j < d'.size := by simpa using hj
      have hid : i < d'.size := by simpa using hi
      have h1 := hsrt i j (Nat.zero_le _) hij (by omega)
      rw [getElem!_pos d' j hjd, getElem!_pos d' i hid] at h1
      simpa [ltOf] using h1
  obtain ⟨W2, hW2⟩ : ∃ W2, sortWorldK encE 4 W1 g 0 n d' os = W2 := ⟨_, rfl⟩
  rw [hW2] at hk2 hH2 ⊢
  have HK2 : Hid (Kept [] W0 W2) := hk2
  have HH2 : Hid (HoldsK (encE (w := W0)) 4 W2 g 0 d') := hH2
  have HLN : Hid _ := hln
  have HDS : Hid _ := hds2
  have hmk := make_for W2 l.length (by omega)
  clear hso hds2 hsrt hk2 hH2 hH hp hW2 hin hin2 hl hrow HUN HUA HUL HUS hx0 hln hds
  go_wp2
  obtain ⟨us, hus⟩ : ∃ us, d'.toList.map (fun x => x.val.t) = us := ⟨_, rfl⟩
  have hul : us.length = l.length := by rw [← hus, List.length_map, Array.length_toList, hd']
  clear hmk
  go_loopw [16] (fun v wr => ∃ i : Nat, v = .int .i64 (i : Nat) ∧ i ≤ l.length ∧ Hid (Kept [] W2 wr ∧ RowAt W2.heap.size l.length us i wr)) (fun v _ => l.length - (intOf v).toNat)
  case atStart => exact ⟨0, rfl, Nat.zero_le _, (Kept.refl [] W2).alloc _, ⟨zeros3 _, al0 _ _, zeros3_size _, fun j _ h => by omega⟩⟩
  case round =>
    obtain ⟨i, rfl, hi, HR⟩ := hrel
    by_cases hlt : i < l.length
    · obtain ⟨kw, hra⟩ := HR.out
      have hid : i < d'.size := by omega
      obtain ⟨x, hx⟩ : ∃ x, d'[i]! = x := ⟨_, rfl⟩
      have cc : ∀ c, c < 4 → wr.cell? ⟨g, i * 4 + c, none⟩ = some (x.val.cells[c]!) := fun c hc => by
        have h1 := (HH2.out (i * 4 + c) (by rw [size_flatK]; omega)).1
        rw [get_flatK _ _ _ _ (by omega), show (i * 4 + c) / 4 = i by omega, show (i * 4 + c) % 4 = c by omega, hx, Nat.zero_add] at h1
        exact cell_kept0 kw h1
      have q0 : wr.cell? ⟨g, i * 4, none⟩ = some (.int .i64 (x.val.size : Nat)) := cc 0 (by omega)
      have q1 : wr.cell? ⟨g, i * 4 + 1, none⟩ = some (.int .u8 (x.val.t.op : Nat)) := cc 1 (by omega)
      have q2 : wr.cell? ⟨g, i * 4 + 2, none⟩ = some (.string x.val.t.name) := cc 2 (by omega)
      have q3 : wr.cell? ⟨g, i * 4 + 3, none⟩ = some (.slice x.val.kad x.val.t.kids.length x.val.kcap) := cc 3 (by omega)
      have hiu : i < us.length := by omega
      have hui : us[i] = x.val.t := by
        subst hus
        rw [← hx, getElem!_pos d' i hid]
        simp
      have HUI : Hid _ := hui
      have kwr : Kept [] W0 wr := HK2.out.trans kw (by simp) (by simp)
      have HCP : Hid _ := fun W' (k : Kept [] wr W') => copy_any x.val.t _ W' ((x.lies.kept kwr).kept k) x.small x.fine
      have HKW : Hid (Kept [] W2 wr) := kw
      have HRA : Hid (RowAt W2.heap.size l.length us i wr) := hra
      have hzw := kw.size
      have lG : W2.heap.size < wr.heap.size := by obtain ⟨arr, hg, _⟩ := hra.row; exact lt_of hg
      have hili : (i : Int) < (l.length : Int) := by omega
      clear cc kwr kw hra hx hui HR
      go_wp2_with (go_at_call 45; refine (HCP.out _ ((Kept.refl [] wr).alloc _)).mono ?_; rintro e W5 ⟨cad, ccap, rfl, hI5, hk5⟩; have kk : Kept [] wr W5 := ((Kept.refl [] wr).alloc _).trans hk5 (by simp) (by simp); obtain ⟨⟨v0, v1, v2, g0, g1, g2, gf⟩, hnx⟩ := HRA.out.next kk hiu hul (ad := cad) (cap := ccap) (by rw [HUI.out]; exact IsT.mono hI5 (fun k h => by simp at h; omega)); rw [HUI.out] at hnx; have HNX : Hid _ := hnx; have HKK : Hid (Kept [] wr W5) := kk; clear hI5 hk5 kk hnx)
      refine ⟨⟨i + 1, by simp, by omega, ?_, HNX.out⟩, by simp only [intOf]; omega⟩
      exact (((HKW.out.trans HKK.out (H := []) (by simp) (by simp)).setCell (p := ⟨W2.heap.size, i * 3, none⟩) (.inr (Nat.le_refl _)) _).setCell (p := ⟨W2.heap.size, i * 3 + 1, none⟩) (.inr (Nat.le_refl _)) _).setCell (p := ⟨W2.heap.size, i * 3 + 2, none⟩) (.inr (Nat.le_refl _)) _
    · obtain rfl : i = l.length := by omega
      have HHR : Hid _ := HR.out
      go_wp2
      go_ret
      refine ⟨W2.heap.size, us, by rw [hul]; rfl, Nat.le_trans HK0.out.size HK2.out.size, ?_, by rw [hul]; exact HLN.out, by rw [← hus]; exact HDS.out, ?_⟩
      · rw [hul]; exact HHR.out.2
      · exact (HK0.out.trans HK2.out (H := []) (by simp) (by simp)).trans HHR.out.1 (by simp) (by simp)
end Go.Proofs.YtnjajafmmociiaaGreatDoor
