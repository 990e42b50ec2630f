/- augurref00.LentFormula: a copy whose lists have a mark behind. -/
import Derived.Test.YtjcfgmoppmjnmaaGreatDoorTrFits
import Derived.Deep.RegionHeld3
import Derived.OwnWalk
import Derived.Test.YtjcfgmoppmjnmaaGreatDoorTrCmp2
import Derived.Test.YtjcfgmoppmjnmaaGreatDoorTrAwk3
import Derived.Test.YtjcfgmoppmjnmaaGreatDoorTrMuch
import Derived.Test.YtjcfgmoppmjnmaaGreatDoorTrAlike
import Derived.Test.YtjcfgmoppmjnmaaGreatDoorTrRight
import Derived.Test.YtjcfgmoppmjnmaaGreatDoorTrWeight
import Derived.Deep.CutRange
namespace Go.Proofs.YtjcfgmoppmjnmaaGreatDoor
open Go.RowKit Go.Shelf

def owners : ByteArray := ⟨#[116, 104, 101, 32, 111, 119, 110, 101, 114, 39, 115]⟩
/-- A tree that was lent: each list has one place more, with the mark. -/
def IsL (X : Nat → Prop) (w : World) : Tr → Value → Prop :=
  Tr.para (fun t rs kv => ∃ b, kv = .slice (some ⟨b, 0, none⟩) t.kids.length (t.kids.length + 1) ∧ X b ∧ (w.cell? ⟨b, t.kids.length * 3, none⟩ = some (.int .u8 0) ∧ w.cell? ⟨b, t.kids.length * 3 + 1, none⟩ = some (.string owners) ∧ w.cell? ⟨b, t.kids.length * 3 + 2, none⟩ = some (.slice none 0 0)) ∧
    ∀ i (h : i < rs.length), ∃ kv, w.cell? ⟨b, i * 3, none⟩ = some (.int .u8 ((t.kids[i]?.map Tr.op).getD 0 : Nat)) ∧ w.cell? ⟨b, i * 3 + 1, none⟩ = some (.string ((t.kids[i]?.map Tr.name).getD ⟨#[]⟩)) ∧ w.cell? ⟨b, i * 3 + 2, none⟩ = some kv ∧ rs[i] kv)
theorem isL_eq {X : Nat → Prop} {w : World} (t : Tr) (kv : Value) : IsL X w t kv ↔ ∃ b, kv = .slice (some ⟨b, 0, none⟩) t.kids.length (t.kids.length + 1) ∧ X b ∧ (w.cell? ⟨b, t.kids.length * 3, none⟩ = some (.int .u8 0) ∧ w.cell? ⟨b, t.kids.length * 3 + 1, none⟩ = some (.string owners) ∧ w.cell? ⟨b, t.kids.length * 3 + 2, none⟩ = some (.slice none 0 0)) ∧
    ∀ i (h : i < t.kids.length), ∃ kv, w.cell? ⟨b, i * 3, none⟩ = some (.int .u8 (t.kids[i].op : Nat)) ∧ w.cell? ⟨b, i * 3 + 1, none⟩ = some (.string t.kids[i].name) ∧ w.cell? ⟨b, i * 3 + 2, none⟩ = some kv ∧ IsL X w t.kids[i] kv := by
  unfold IsL
  rw [Tr.para_eq]
  simp only [List.length_map, List.getElem_map]
  refine exists_congr fun b => and_congr_right fun _ => and_congr_right fun _ => and_congr_right fun _ => ?_
  refine forall_congr' fun i => forall_congr' fun h => ?_
  simp [List.getElem?_eq_getElem h]
theorem IsL.cells {X Y : Nat → Prop} {w w' : World} (hX : ∀ k, X k → Y k) (hw : ∀ b o v, X b → w.cell? ⟨b, o, none⟩ = some v → w'.cell? ⟨b, o, none⟩ = some v) {t : Tr} : ∀ {kv : Value}, IsL X w t kv → IsL Y w' t kv := by
  induction t using Tr.ind with
  | h t ih =>
    intro kv h
    obtain ⟨b, e, hb, ⟨m0, m1, m2⟩, hk⟩ := (isL_eq t kv).1 h
    refine (isL_eq t kv).2 ⟨b, e, hX b hb, ⟨hw _ _ _ hb m0, hw _ _ _ hb m1, hw _ _ _ hb m2⟩, fun i hi => ?_⟩
    obtain ⟨kv', c0, c1, c2, hr⟩ := hk i hi
    exact ⟨kv', hw _ _ _ hb c0, hw _ _ _ hb c1, hw _ _ _ hb c2, ih _ (List.getElem_mem _) hr⟩
theorem IsL.kept {X : Nat → Prop} {w w' : World} {t : Tr} {kv : Value} (h : IsL X w t kv) (k : Kept [] w w') : IsL X w' t kv := h.cells (fun _ h => h) (fun _ _ _ _ c => cell_kept0 k c)
theorem IsL.mono {X Y : Nat → Prop} {w : World} {t : Tr} {kv : Value} (h : IsL X w t kv) (hX : ∀ k, X k → Y k) : IsL Y w t kv := h.cells hX (fun _ _ _ _ c => c)
theorem IsL.blocks {X : Nat → Prop} {w w' : World} (hw : ∀ k, X k → k < w.heap.size → w'.heap[k]? = w.heap[k]?) {t : Tr} {kv : Value} (h : IsL X w t kv) : IsL X w' t kv :=
  h.cells (fun _ h => h) (fun b o v hb c => by
    rw [World.cell?_of_block (w := w) (a := ⟨b, o, none⟩) (hw b hb (World.block_lt_of_cell? w _ c))]; exact c)
theorem IsL.isT {X : Nat → Prop} {w : World} {t : Tr} : ∀ {kv : Value}, IsL X w t kv → IsT X w t kv := by
  induction t using Tr.ind with
  | h t ih =>
    intro kv h
    obtain ⟨b, e, hb, _, hk⟩ := (isL_eq t kv).1 h
    refine (isT_eq t kv).2 ⟨_, _, e, .inr ⟨b, 0, rfl, hb, fun i hi => ?_⟩⟩
    obtain ⟨kv', c0, c1, c2, hr⟩ := hk i hi
    rw [show 0 + i * 3 = i * 3 from by omega]
    exact ⟨kv', c0, c1, c2, ih _ (List.getElem_mem _) hr⟩

/-- What has been copied so far. -/
structure LentAt (w : World) (t : Tr) (G i : Nat) (wr : World) : Prop where
  kept : Kept [] w wr
  row : ∃ xs : List Value, wr.ownsRow w.heap.size 25 3 (.slice (some ⟨G, 0, none⟩) i (t.kids.length + 1)) i xs ∧
    ∀ j (h : j < t.kids.length), j < i → ∃ kv, xs[j * 3]? = some (.int .u8 (t.kids[j].op : Nat)) ∧ xs[j * 3 + 1]? = some (.string t.kids[j].name) ∧ xs[j * 3 + 2]? = some kv ∧ kv.oneCell' = true ∧ IsL (fun k => G < k) wr t.kids[j] kv

theorem make_lent (w : World) (k : Nat) (hk : k ≤ 1099511627776) : Sem.run Tryz.prog (Instr.makeSlice 23 (.int .i64 0) (.int .i64 ((k : Int) + 1))) w = .ok (.slice (some ⟨w.heap.size, 0, none⟩) 0 (k + 1)) (w.alloc (.cells (zeros3 (k + 1)) 25)) := by
  obtain ⟨i, hi, hz, hs, hb⟩ := info_parts Tryz.infoFor
  have h := run_make (P := Tryz.prog) w 23 25 i _ Tryz.underlying23 hi hz .i64 .i64 0 ((k : Int) + 1) (by omega) (by omega) (by rw [hb]; omega) (by omega)
  rw [h, hs, show ((k : Int) + 1).toNat = k + 1 from by omega]
  rfl
theorem lent_start (w : World) (t : Tr) (hl : t.kids.length ≤ 1099511627776) : LentAt w t w.heap.size 0 (w.alloc (.cells (zeros3 (t.kids.length + 1)) 25)) :=
  ⟨(Kept.refl [] w).alloc _, [], ⟨rfl, .inr ⟨_, _, _, rfl, Nat.le_refl _, al0 _ _, Nat.zero_le _, by unfold maxLen; omega, by rw [zeros3_size], by simp⟩⟩, fun j _ h => by omega⟩
theorem lent_put {w : World} {t : Tr} {G i : Nat} {wr w5 w6 : World} (h : LentAt w t G i wr) (hi : i < t.kids.length) (hG : w.heap.size ≤ G) {b : Nat} (hk : Kept [] wr w5) (o : Obj) (hI : IsL (fun k => wr.heap.size ≤ k) w5 t.kids[i] (.slice (some ⟨b, 0, none⟩) t.kids[i].kids.length (t.kids[i].kids.length + 1))) {xs : List Value} (hxs : w5.ownsRow w.heap.size 25 3 (.slice (some ⟨G, 0, none⟩) i (t.kids.length + 1)) i xs)
    (hx : ∀ j (h : j < t.kids.length), j < i → ∃ kv, xs[j * 3]? = some (.int .u8 (t.kids[j].op : Nat)) ∧ xs[j * 3 + 1]? = some (.string t.kids[j].name) ∧ xs[j * 3 + 2]? = some kv ∧ kv.oneCell' = true ∧ IsL (fun k => G < k) wr t.kids[j] kv)
    (hr : w6.ownsRow w.heap.size 25 3 (.slice (some ⟨G, 0, none⟩) (i + 1) (t.kids.length + 1)) (i + 1) (xs ++ [.int .u8 (t.kids[i].op : Nat), .string t.kids[i].name, .slice (some ⟨b, 0, none⟩) t.kids[i].kids.length (t.kids[i].kids.length + 1)])) (hg : (w5.alloc o).grownBy w6 (some G)) : LentAt w t G (i + 1) w6 := by
  have hxl : xs.length = i * 3 := hxs.1
  have hGr : G < wr.heap.size := by
    obtain ⟨xs', ⟨_, hh⟩, _⟩ := h.row
    rcases hh with ⟨e, _⟩ | ⟨g, cap, cur, e, _, hc, _⟩
    · cases e
    · cases e; exact lt_of hc
  have hb6 : ∀ k, k ≠ G → k < w5.heap.size → w6.heap[k]? = w5.heap[k]? := fun k hkG hkl => by
    rw [hg.block k (by rw [World.size_alloc]; omega) (by simpa using hkG)]
    exact Below.heap_alloc _ _ _ hkl
  refine ⟨⟨hg.os.trans hk.os |>.trans h.kept.os, hg.tape.trans hk.tape |>.trans h.kept.tape, hg.output.trans hk.output |>.trans h.kept.output, ?_, fun k hkl hn => ?_⟩, _, hr, fun j hj hji => ?_⟩
  · have := hg.size; have := hk.size; have := h.kept.size; rw [World.size_alloc] at *; omega
  · have h1 := h.kept.size
    have h2 := hk.size
    rw [hb6 k (by omega) (by omega), hk.block k (by omega) hn, h.kept.block k hkl hn]
  · rcases Nat.lt_or_ge j i with hh | hh
    · obtain ⟨kv, c0, c1, c2, h1, hL⟩ := hx j hj hh
      refine ⟨kv, ?_, ?_, ?_, h1, (hL.kept hk).blocks (fun k hX hkl => hb6 k (by omega) hkl)⟩
      · rw [List.getElem?_append_left (by omega)]; exact c0
      · rw [List.getElem?_append_left (by omega)]; exact c1
      · rw [List.getElem?_append_left (by omega)]; exact c2
    · obtain rfl : j = i := by omega
      refine ⟨_, ?_, ?_, ?_, rfl, (hI.mono (Y := fun k => G < k) (fun k h => by omega)).blocks (fun k hX hkl => hb6 k (by omega) hkl)⟩
      · rw [List.getElem?_append_right (by omega), show j * 3 - xs.length = 0 from by omega]; rfl
      · rw [List.getElem?_append_right (by omega), show j * 3 + 1 - xs.length = 1 from by omega]; rfl
      · rw [List.getElem?_append_right (by omega), show j * 3 + 2 - xs.length = 2 from by omega]; rfl
theorem lent_end {w : World} {t : Tr} {wr w6 : World} {o : Obj} {xs : List Value} {G : Nat} (h : LentAt w t G t.kids.length wr) (hG : w.heap.size ≤ G) (hxl : xs.length = t.kids.length * 3)
    (hx : ∀ j (h : j < t.kids.length), j < t.kids.length → ∃ kv, xs[j * 3]? = some (.int .u8 (t.kids[j].op : Nat)) ∧ xs[j * 3 + 1]? = some (.string t.kids[j].name) ∧ xs[j * 3 + 2]? = some kv ∧ kv.oneCell' = true ∧ IsL (fun k => G < k) wr t.kids[j] kv)
    (hr : w6.ownsRow w.heap.size 25 3 (.slice (some ⟨G, 0, none⟩) (t.kids.length + 1) (t.kids.length + 1)) (t.kids.length + 1) (xs ++ [.int .u8 0, .string owners, .slice none 0 0])) (hg : (wr.alloc o).grownBy w6 (some G)) :
    IsL (fun k => w.heap.size ≤ k) w6 t (.slice (some ⟨G, 0, none⟩) t.kids.length (t.kids.length + 1)) ∧ Kept [] w w6 := by
  have hb6 : ∀ k, k ≠ G → k < wr.heap.size → w6.heap[k]? = wr.heap[k]? := fun k hkG hkl => by
    rw [hg.block k (by rw [World.size_alloc]; omega) (by simpa using hkG)]
    exact Below.heap_alloc _ _ _ hkl
  constructor
  · refine (isL_eq t _).2 ⟨G, rfl, hG, ⟨?_, ?_, ?_⟩, fun i hi => ?_⟩
    · rw [hr.cellAt _ (by omega), List.getElem?_append_right (by omega), show t.kids.length * 3 - xs.length = 0 from by omega]; rfl
    · rw [hr.cellAt _ (by omega), List.getElem?_append_right (by omega), show t.kids.length * 3 + 1 - xs.length = 1 from by omega]; rfl
    · rw [hr.cellAt _ (by omega), List.getElem?_append_right (by omega), show t.kids.length * 3 + 2 - xs.length = 2 from by omega]; rfl
    · obtain ⟨kv, c0, c1, c2, _, hL⟩ := hx i hi hi
      refine ⟨kv, ?_, ?_, ?_, (hL.blocks (fun k hX hkl => hb6 k (by omega) hkl)).mono (fun k h => by omega)⟩
      · rw [hr.cellAt _ (by omega), List.getElem?_append_left (by omega)]; exact c0
      · rw [hr.cellAt _ (by omega), List.getElem?_append_left (by omega)]; exact c1
      · rw [hr.cellAt _ (by omega), List.getElem?_append_left (by omega)]; exact c2
  · refine ⟨hg.os.trans h.kept.os, hg.tape.trans h.kept.tape, hg.output.trans h.kept.output, ?_, fun k hkl hn => ?_⟩
    · have := hg.size; have := h.kept.size; rw [World.size_alloc] at *; omega
    · have h1 := h.kept.size
      rw [hb6 k (by omega) (by omega), h.kept.block k hkl hn]
theorem IsL.other {X : Nat → Prop} {W : World} {t : Tr} {kv : Value} (h : IsL X W t kv) {B : Nat} (hB : ¬ X B) (o : Nat) (v : Value) : IsL X (W.setCell ⟨B, o, none⟩ v) t kv :=
  h.blocks (fun k hk _ => Below.heap_setCell _ _ _ _ (fun e => hB (by have e' : k = B := e; rw [← e']; exact hk)))
theorem own_kept {wr w5 : World} {n₀ : Nat} {e : TypeId} {s n : Nat} {v : Value} {xs : List Value} (h : wr.ownsRow n₀ e s v n xs) (k : Kept [] wr w5) : w5.ownsRow n₀ e s v n xs := by
  refine ⟨h.1, h.2.imp id ?_⟩
  rintro ⟨g, cap, cur, e1, h1, h2, h3⟩
  exact ⟨g, cap, cur, e1, h1, k.at h2 (by simp), h3⟩

end Go.Proofs.YtjcfgmoppmjnmaaGreatDoor

/- augurref00.WholeFormula: what was lent is as it was. -/
namespace Go.Proofs.YtjcfgmoppmjnmaaGreatDoor
open Go.RowKit Go.Shelf

theorem IsL.slice {X : Nat → Prop} {w : World} {t : Tr} {kv : Value} (h : IsL X w t kv) : ∃ b, kv = .slice (some ⟨b, 0, none⟩) t.kids.length (t.kids.length + 1) := by
  obtain ⟨b, e, _⟩ := (isL_eq t kv).1 h
  exact ⟨b, e⟩
theorem IsL.kid {X : Nat → Prop} {w : World} {t : Tr} {b n m : Nat} (h : IsL X w t (.slice (some ⟨b, 0, none⟩) n m)) : (w.cell? ⟨b, t.kids.length * 3, none⟩ = some (.int .u8 0) ∧ w.cell? ⟨b, t.kids.length * 3 + 1, none⟩ = some (.string owners) ∧ w.cell? ⟨b, t.kids.length * 3 + 2, none⟩ = some (.slice none 0 0)) ∧
    ∀ i (h : i < t.kids.length), ∃ kv, w.cell? ⟨b, i * 3, none⟩ = some (.int .u8 (t.kids[i].op : Nat)) ∧ w.cell? ⟨b, i * 3 + 1, none⟩ = some (.string t.kids[i].name) ∧ w.cell? ⟨b, i * 3 + 2, none⟩ = some kv ∧ IsL X w t.kids[i] kv := by
  obtain ⟨b', e, _, hm, hk⟩ := (isL_eq t _).1 h
  cases e
  exact ⟨hm, hk⟩
theorem six_cells {W W' : World} {b c i : Nat} {off : Nat} {x0 x1 x2 y0 y1 y2 : Value} (k : Kept [] W W') (a0 : W.cell? ⟨b, i * 3, none⟩ = some x0) (a1 : W.cell? ⟨b, i * 3 + 1, none⟩ = some x1) (a2 : W.cell? ⟨b, i * 3 + 2, none⟩ = some x2) (c0 : W.cell? ⟨c, off + i * 3, none⟩ = some y0) (c1 : W.cell? ⟨c, off + i * 3 + 1, none⟩ = some y1) (c2 : W.cell? ⟨c, off + i * 3 + 2, none⟩ = some y2) :
    (W'.cell? ⟨b, i * 3, none⟩ = some x0 ∧ W'.cell? ⟨b, i * 3 + 1, none⟩ = some x1 ∧ W'.cell? ⟨b, i * 3 + 2, none⟩ = some x2) ∧ (W'.cell? ⟨c, off + i * 3, none⟩ = some y0 ∧ W'.cell? ⟨c, off + i * 3 + 1, none⟩ = some y1 ∧ W'.cell? ⟨c, off + i * 3 + 2, none⟩ = some y2) :=
  ⟨⟨cell_kept0 k a0, cell_kept0 k a1, cell_kept0 k a2⟩, cell_kept0 k c0, cell_kept0 k c1, cell_kept0 k c2⟩

end Go.Proofs.YtjcfgmoppmjnmaaGreatDoor

/- augurref03.Cmp: the document's order. -/
namespace Go.Proofs.YtjcfgmoppmjnmaaGreatDoor
open Go.RowKit Go.Shelf

theorem cmpT_head {t u : Tr} {x : Int} (h : cmpHead t u = x) (hx : x ≠ 0) : cmpT t u = x := by rw [cmpT_eq, h, if_neg hx]
theorem cmpN_lt {a b : Nat} (h : a < b) : cmpN a b = -1 := if_pos h
theorem cmpN_gt {a b : Nat} (h : b < a) : cmpN a b = 1 := by unfold cmpN; rw [if_neg (by omega), if_pos h]
theorem cmpN_self (a : Nat) : cmpN a a = 0 := by unfold cmpN; rw [if_neg (by omega), if_neg (by omega)]
theorem eight_cells {W W' : World} {b c i p q : Nat} {off loff : Nat} {x0 x1 x2 y0 y1 y2 p2 q2 : Value} (k : Kept [] W W') (h0 : W.cell? ⟨p, 2, none⟩ = some p2) (h1 : W.cell? ⟨q, 2, none⟩ = some q2) (a0 : W.cell? ⟨b, off + i * 3, none⟩ = some x0) (a1 : W.cell? ⟨b, off + i * 3 + 1, none⟩ = some x1) (a2 : W.cell? ⟨b, off + i * 3 + 2, none⟩ = some x2) (c0 : W.cell? ⟨c, loff + i * 3, none⟩ = some y0) (c1 : W.cell? ⟨c, loff + i * 3 + 1, none⟩ = some y1) (c2 : W.cell? ⟨c, loff + i * 3 + 2, none⟩ = some y2) :
    (W'.cell? ⟨p, 2, none⟩ = some p2 ∧ W'.cell? ⟨q, 2, none⟩ = some q2) ∧ (W'.cell? ⟨b, off + i * 3, none⟩ = some x0 ∧ W'.cell? ⟨b, off + i * 3 + 1, none⟩ = some x1 ∧ W'.cell? ⟨b, off + i * 3 + 2, none⟩ = some x2) ∧ (W'.cell? ⟨c, loff + i * 3, none⟩ = some y0 ∧ W'.cell? ⟨c, loff + i * 3 + 1, none⟩ = some y1 ∧ W'.cell? ⟨c, loff + i * 3 + 2, none⟩ = some y2) :=
  ⟨⟨cell_kept0 k h0, cell_kept0 k h1⟩, ⟨cell_kept0 k a0, cell_kept0 k a1, cell_kept0 k a2⟩, cell_kept0 k c0, cell_kept0 k c1, cell_kept0 k c2⟩

end Go.Proofs.YtjcfgmoppmjnmaaGreatDoor

/- TreeOrders: the walk. -/
namespace Go.Proofs.YtjcfgmoppmjnmaaGreatDoor
open Go.RowKit Go.Shelf

theorem isF_pair {W : World} {b : Nat} {t u : Tr} {kv lv : Value} (hb : W.heap[b]? = some (.cells #[.int .u8 (t.op : Nat), .string t.name, kv, .int .u8 (u.op : Nat), .string u.name, lv] 25 (0, 0))) (h : IsF W t kv) (k : IsF W u lv) : IsF W ⟨0, ⟨#[]⟩, [t, u]⟩ (.slice (some ⟨b, 0, none⟩) 2 2) := by
  refine (isT_eq (X := fun k => k < W.heap.size) ⟨0, ⟨#[]⟩, [t, u]⟩ _).2 ⟨_, _, rfl, .inr ⟨b, 0, rfl, lt_of hb, fun i hi => ?_⟩⟩
  have hi' : i < 2 := by simpa using hi
  match i, hi' with
  | 0, _ => exact ⟨kv, (cell_of hb 0).trans rfl, (cell_of hb 1).trans rfl, (cell_of hb 2).trans rfl, h⟩
  | 1, _ => exact ⟨lv, (cell_of hb 3).trans rfl, (cell_of hb 4).trans rfl, (cell_of hb 5).trans rfl, k⟩
/-- Cmp tells -1, 0 or 1. -/
def Unit3 (x : Int) : Prop := x = -1 ∨ x = 0 ∨ x = 1
theorem unitN (a b : Nat) : Unit3 (cmpN a b) := by
  unfold cmpN Unit3
  split
  · exact .inl rfl
  · split
    · exact .inr (.inr rfl)
    · exact .inr (.inl rfl)
theorem unitS (a b : ByteArray) : Unit3 (cmpS a b) := by
  unfold cmpS Unit3
  split
  · exact .inl rfl
  · split
    · exact .inr (.inl rfl)
    · exact .inr (.inr rfl)
theorem unitO {x y z : Int} (hx : Unit3 x) (hy : Unit3 y) (hz : Unit3 z) : Unit3 (or3 x y z) := by
  unfold or3
  split
  · exact hx
  · split
    · exact hy
    · exact hz
theorem unitR : ∀ (rs : List (Tr → Int)) (us : List Tr), (∀ r ∈ rs, ∀ u, Unit3 (r u)) → Unit3 (rowCmp rs us)
  | [], _, _ => .inr (.inl (by unfold rowCmp; rfl))
  | _ :: _, [], _ => .inr (.inl (by unfold rowCmp; rfl))
  | r :: rs, u :: us, h => by
    rw [rowCmp]
    split
    · exact unitR rs us (fun r hr => h r (by simp [hr]))
    · exact h r (by simp) u
theorem unitT (t : Tr) : ∀ u, Unit3 (cmpT t u) := by
  induction t using Tr.ind with
  | h t ih =>
    intro u
    rw [cmpT_eq]
    split
    · refine unitR _ _ fun r hr u => ?_
      obtain ⟨k, hk, rfl⟩ := List.mem_map.1 hr
      exact ih k hk u
    · exact unitO (unitN _ _) (unitS _ _) (unitN _ _)
theorem cmpT_neg (t u : Tr) : cmpT u t = -cmpT t u := by
  have h1 := preT.flip t u
  have h2 := preT.flip u t
  rcases unitT t u with a | a | a <;> rcases unitT u t with b | b | b <;> rw [a, b] at h1 h2 ⊢ <;> simp at h1 h2 ⊢

end Go.Proofs.YtjcfgmoppmjnmaaGreatDoor

/- The document's answers: augurref03's Kids, Name, Size, Depth. -/
namespace Go.Proofs.YtjcfgmoppmjnmaaGreatDoor
open Go.RowKit Go.Shelf

/-- How many kids the document gives an Op. -/
def kidsR (o : Nat) : Int := if 1 ≤ o ∧ o ≤ 21 then (kidsN o : Nat) else -1
theorem sum_take_le : ∀ (l : List Nat) (i : Nat), (l.take i).sum ≤ l.sum
  | [], _ => by simp
  | _ :: _, 0 => by simp
  | a :: l, i + 1 => by
    simp only [List.take_succ_cons, List.sum_cons]
    have := sum_take_le l i
    omega
theorem fold_ge : ∀ (l : List Nat) (a : Nat), a ≤ l.foldl max a
  | [], _ => Nat.le_refl _
  | b :: l, a => Nat.le_trans (Nat.le_max_left a b) (fold_ge l (max a b))
theorem fold_take_le : ∀ (l : List Nat) (i a : Nat), (l.take i).foldl max a ≤ l.foldl max a
  | [], _, _ => by simp
  | b :: l, 0, a => by simpa using fold_ge (b :: l) a
  | b :: l, i + 1, a => by
    simp only [List.take_succ_cons, List.foldl_cons]
    exact fold_take_le l i (max a b)

end Go.Proofs.YtjcfgmoppmjnmaaGreatDoor

/- augurref03.formed, right, Right, RightPast. -/
namespace Go.Proofs.YtjcfgmoppmjnmaaGreatDoor
open Go.RowKit Go.Shelf

theorem all_parts (q : Tr → Bool) (t : Tr) : ∀ p, ((t.parts p).all fun x => q x.2) = (q t && t.kids.all fun k => k.every q) := by
  induction t using Tr.ind with
  | h t ih =>
    intro p
    rw [Tr.parts_eq, List.all_cons]
    congr 1
    have key : ∀ (ks : List Tr) (i : Nat), (∀ k ∈ ks, ∀ p, ((k.parts p).all fun x => q x.2) = (q k && k.kids.all fun k => k.every q)) → ((rowsFrom p i (ks.map Tr.parts)).all fun x => q x.2) = ks.all fun k => k.every q := by
      intro ks
      induction ks with
      | nil => intro i _; rfl
      | cons k ks ih2 =>
        intro i hk
        rw [List.map_cons, rowsFrom, List.all_append, List.all_cons, ih2 (i + 1) (fun k h => hk k (by simp [h]))]
        congr 1
        unfold Tr.every
        rw [hk k (by simp), hk k (by simp)]
    exact key t.kids 0 (fun k hk p => ih k hk p)
theorem every_eq (q : Tr → Bool) (t : Tr) : t.every q = (q t && t.kids.all fun k => k.every q) := all_parts q t []
theorem every_bad {q : Tr → Bool} {t : Tr} (h : q t = false) : t.every q = false := by rw [every_eq, h]; rfl
theorem every_kid {q : Tr → Bool} {t k : Tr} (hk : k ∈ t.kids) (h : k.every q = false) : t.every q = false := by
  rw [every_eq, show (t.kids.all fun k => k.every q) = false from List.all_eq_false.2 ⟨k, hk, by simp [h]⟩, Bool.and_false]
theorem every_good {q : Tr → Bool} {t : Tr} (h : q t = true) (hk : ∀ i (hi : i < t.kids.length), (t.kids[i]).every q = true) : t.every q = true := by
  rw [every_eq, h, show (t.kids.all fun k => k.every q) = true from List.all_eq_true.2 fun k hk' => by obtain ⟨i, hi, rfl⟩ := List.getElem_of_mem hk'; exact hk i hi]; rfl
theorem formed_no1 {t : Tr} (h : ¬ (1 ≤ t.op ∧ t.op ≤ 21)) : formedB t = false := by
  unfold formedB
  rw [show (decide (1 ≤ t.op) && decide (t.op ≤ 21)) = false from by rw [← Bool.decide_and, decide_eq_false_iff_not]; exact h]; rfl
theorem formed_no2 {t : Tr} (h : t.kids.length ≠ kidsN t.op) : formedB t = false := by
  unfold formedB
  rw [show (t.kids.length == kidsN t.op) = false from by rw [beq_eq_false_iff_ne]; exact h, Bool.and_false]; rfl
theorem formed_no3 {t : Tr} (h : (if t.op = 3 then nameB t.name.data.toList else t.name.toList.isEmpty) = false) : formedB t = false := by
  unfold formedB; rw [h, Bool.and_false]
theorem formed_yes {t : Tr} (h1 : 1 ≤ t.op ∧ t.op ≤ 21) (h2 : t.kids.length = kidsN t.op) (h3 : (if t.op = 3 then nameB t.name.data.toList else t.name.toList.isEmpty) = true) : formedB t = true := by
  unfold formedB; rw [h3, decide_eq_true h1.1, decide_eq_true h1.2, show (t.kids.length == kidsN t.op) = true from by rw [beq_iff_eq]; exact h2]; rfl
theorem right_no {ob : Nat → Bool} {t : Tr} (h : formedB t = false) : rightQ ob t = false := by unfold rightQ; rw [h]; rfl

theorem right_kids {ob : Nat → Bool} {t : Tr} (h : rightQ ob t = true) : kidsR t.op = ((t.kids.length : Nat) : Int) := by
  unfold rightQ formedB at h
  simp only [Bool.and_eq_true, decide_eq_true_eq, beq_iff_eq] at h
  obtain ⟨⟨⟨⟨h1, h2⟩, h3⟩, _⟩, _⟩ := h
  unfold kidsR
  rw [if_pos ⟨h1, h2⟩, h3]
end Go.Proofs.YtjcfgmoppmjnmaaGreatDoor
