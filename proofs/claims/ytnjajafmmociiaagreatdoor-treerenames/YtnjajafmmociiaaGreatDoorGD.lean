/- augurref00.LentFormula: a copy whose lists have a mark behind. -/
import Derived.Test.YtnjajafmmociiaaGreatDoorTrFits
import Derived.Deep.RegionHeld3
import Derived.OwnWalk
import Derived.Test.YtnjajafmmociiaaGreatDoorTrOwn
namespace Go.Proofs.YtnjajafmmociiaaGreatDoor
open Go.RowKit Go.Shelf

def owners : ByteArray := ⟨#[116, 104, 101, 32, 111, 119, 110, 101, 114, 39, 115]⟩
/-- A tree that was lent: each list has one place more, with the mark. -/
def IsL (X : Nat → Prop) (w : World) : Tr → Value → Prop :=
  Tr.para (fun t rs kv => ∃ b, kv = .slice (some ⟨b, 0, none⟩) t.kids.length (t.kids.length + 1) ∧ X b ∧ (w.cell? ⟨b, t.kids.length * 3, none⟩ = some (.int .u8 0) ∧ w.cell? ⟨b, t.kids.length * 3 + 1, none⟩ = some (.string owners) ∧ w.cell? ⟨b, t.kids.length * 3 + 2, none⟩ = some (.slice none 0 0)) ∧
    ∀ i (h : i < rs.length), ∃ kv, w.cell? ⟨b, i * 3, none⟩ = some (.int .u8 ((t.kids[i]?.map Tr.op).getD 0 : Nat)) ∧ w.cell? ⟨b, i * 3 + 1, none⟩ = some (.string ((t.kids[i]?.map Tr.name).getD ⟨#[]⟩)) ∧ w.cell? ⟨b, i * 3 + 2, none⟩ = some kv ∧ rs[i] kv)
theorem isL_eq {X : Nat → Prop} {w : World} (t : Tr) (kv : Value) : IsL X w t kv ↔ ∃ b, kv = .slice (some ⟨b, 0, none⟩) t.kids.length (t.kids.length + 1) ∧ X b ∧ (w.cell? ⟨b, t.kids.length * 3, none⟩ = some (.int .u8 0) ∧ w.cell? ⟨b, t.kids.length * 3 + 1, none⟩ = some (.string owners) ∧ w.cell? ⟨b, t.kids.length * 3 + 2, none⟩ = some (.slice none 0 0)) ∧
    ∀ i (h : i < t.kids.length), ∃ kv, w.cell? ⟨b, i * 3, none⟩ = some (.int .u8 (t.kids[i].op : Nat)) ∧ w.cell? ⟨b, i * 3 + 1, none⟩ = some (.string t.kids[i].name) ∧ w.cell? ⟨b, i * 3 + 2, none⟩ = some kv ∧ IsL X w t.kids[i] kv := by
  unfold IsL
  rw [Tr.para_eq]
  simp only [List.length_map, List.getElem_map]
  refine exists_congr fun b => and_congr_right fun _ => and_congr_right fun _ => and_congr_right fun _ => ?_
  refine forall_congr' fun i => forall_congr' fun h => ?_
  simp [List.getElem?_eq_getElem h]
theorem IsL.cells {X Y : Nat → Prop} {w w' : World} (hX : ∀ k, X k → Y k) (hw : ∀ b o v, X b → w.cell? ⟨b, o, none⟩ = some v → w'.cell? ⟨b, o, none⟩ = some v) {t : Tr} : ∀ {kv : Value}, IsL X w t kv → IsL Y w' t kv := by
  induction t using Tr.ind with
  | h t ih =>
    intro kv h
    obtain ⟨b, e, hb, ⟨m0, m1, m2⟩, hk⟩ := (isL_eq t kv).1 h
    refine (isL_eq t kv).2 ⟨b, e, hX b hb, ⟨hw _ _ _ hb m0, hw _ _ _ hb m1, hw _ _ _ hb m2⟩, fun i hi => ?_⟩
    obtain ⟨kv', c0, c1, c2, hr⟩ := hk i hi
    exact ⟨kv', hw _ _ _ hb c0, hw _ _ _ hb c1, hw _ _ _ hb c2, ih _ (List.getElem_mem _) hr⟩
theorem IsL.kept {X : Nat → Prop} {w w' : World} {t : Tr} {kv : Value} (h : IsL X w t kv) (k : Kept [] w w') : IsL X w' t kv := h.cells (fun _ h => h) (fun _ _ _ _ c => cell_kept0 k c)
theorem IsL.mono {X Y : Nat → Prop} {w : World} {t : Tr} {kv : Value} (h : IsL X w t kv) (hX : ∀ k, X k → Y k) : IsL Y w t kv := h.cells hX (fun _ _ _ _ c => c)
theorem IsL.blocks {X : Nat → Prop} {w w' : World} (hw : ∀ k, X k → k < w.heap.size → w'.heap[k]? = w.heap[k]?) {t : Tr} {kv : Value} (h : IsL X w t kv) : IsL X w' t kv :=
  h.cells (fun _ h => h) (fun b o v hb c => by
    rw [World.cell?_of_block (w := w) (a := ⟨b, o, none⟩) (hw b hb (World.block_lt_of_cell? w _ c))]; exact c)
theorem IsL.isT {X : Nat → Prop} {w : World} {t : Tr} : ∀ {kv : Value}, IsL X w t kv → IsT X w t kv := by
  induction t using Tr.ind with
  | h t ih =>
    intro kv h
    obtain ⟨b, e, hb, _, hk⟩ := (isL_eq t kv).1 h
    refine (isT_eq t kv).2 ⟨_, _, e, .inr ⟨b, 0, rfl, hb, fun i hi => ?_⟩⟩
    obtain ⟨kv', c0, c1, c2, hr⟩ := hk i hi
    rw [show 0 + i * 3 = i * 3 from by omega]
    exact ⟨kv', c0, c1, c2, ih _ (List.getElem_mem _) hr⟩

def LentDoes (t : Tr) : Prop := ∀ (kv : Value) (w : World), IsF w t kv → t.size ≤ 1099511627776 →
  Calls Tryz.prog 8 #[.agg #[.int .u8 (t.op : Nat), .string t.name, kv]] w fun e w' => ∃ b, e = .returned (.agg #[.int .u8 (t.op : Nat), .string t.name, .slice (some ⟨b, 0, none⟩) t.kids.length (t.kids.length + 1)]) ∧ IsL (fun k => w.heap.size ≤ k) w' t (.slice (some ⟨b, 0, none⟩) t.kids.length (t.kids.length + 1)) ∧ Kept [] w w'
/-- What has been copied so far. -/
structure LentAt (w : World) (t : Tr) (G i : Nat) (wr : World) : Prop where
  kept : Kept [] w wr
  row : ∃ xs : List Value, wr.ownsRow w.heap.size 25 3 (.slice (some ⟨G, 0, none⟩) i (t.kids.length + 1)) i xs ∧
    ∀ j (h : j < t.kids.length), j < i → ∃ kv, xs[j * 3]? = some (.int .u8 (t.kids[j].op : Nat)) ∧ xs[j * 3 + 1]? = some (.string t.kids[j].name) ∧ xs[j * 3 + 2]? = some kv ∧ kv.oneCell' = true ∧ IsL (fun k => G < k) wr t.kids[j] kv

theorem make_lent (w : World) (k : Nat) (hk : k ≤ 1099511627776) : Sem.run Tryz.prog (Instr.makeSlice 23 (.int .i64 0) (.int .i64 ((k : Int) + 1))) w = .ok (.slice (some ⟨w.heap.size, 0, none⟩) 0 (k + 1)) (w.alloc (.cells (zeros3 (k + 1)) 25)) := by
  obtain ⟨i, hi, hz, hs, hb⟩ := info_parts Tryz.infoFor
  have h := run_make (P := Tryz.prog) w 23 25 i _ Tryz.underlying23 hi hz .i64 .i64 0 ((k : Int) + 1) (by omega) (by omega) (by rw [hb]; omega) (by omega)
  rw [h, hs, show ((k : Int) + 1).toNat = k + 1 from by omega]
  rfl
theorem lent_start (w : World) (t : Tr) (hl : t.kids.length ≤ 1099511627776) : LentAt w t w.heap.size 0 (w.alloc (.cells (zeros3 (t.kids.length + 1)) 25)) :=
  ⟨(Kept.refl [] w).alloc _, [], ⟨rfl, .inr ⟨_, _, _, rfl, Nat.le_refl _, al0 _ _, Nat.zero_le _, by unfold maxLen; omega, by rw [zeros3_size], by simp⟩⟩, fun j _ h => by omega⟩
theorem lent_put {w : World} {t : Tr} {G i : Nat} {wr w5 w6 : World} (h : LentAt w t G i wr) (hi : i < t.kids.length) (hG : w.heap.size ≤ G) {b : Nat} (hk : Kept [] wr w5) (o : Obj) (hI : IsL (fun k => wr.heap.size ≤ k) w5 t.kids[i] (.slice (some ⟨b, 0, none⟩) t.kids[i].kids.length (t.kids[i].kids.length + 1))) {xs : List Value} (hxs : w5.ownsRow w.heap.size 25 3 (.slice (some ⟨G, 0, none⟩) i (t.kids.length + 1)) i xs)
    (hx : ∀ j (h : j < t.kids.length), j < i → ∃ kv, xs[j * 3]? = some (.int .u8 (t.kids[j].op : Nat)) ∧ xs[j * 3 + 1]? = some (.string t.kids[j].name) ∧ xs[j * 3 + 2]? = some kv ∧ kv.oneCell' = true ∧ IsL (fun k => G < k) wr t.kids[j] kv)
    (hr : w6.ownsRow w.heap.size 25 3 (.slice (some ⟨G, 0, none⟩) (i + 1) (t.kids.length + 1)) (i + 1) (xs ++ [.int .u8 (t.kids[i].op : Nat), .string t.kids[i].name, .slice (some ⟨b, 0, none⟩) t.kids[i].kids.length (t.kids[i].kids.length + 1)])) (hg : (w5.alloc o).grownBy w6 (some G)) : LentAt w t G (i + 1) w6 := by
  have hxl : xs.length = i * 3 := hxs.1
  have hGr : G < wr.heap.size := by
    obtain ⟨xs', ⟨_, hh⟩, _⟩ := h.row
    rcases hh with ⟨e, _⟩ | ⟨g, cap, cur, e, _, hc, _⟩
    · cases e
    · cases e; exact lt_of hc
  have hb6 : ∀ k, k ≠ G → k < w5.heap.size → w6.heap[k]? = w5.heap[k]? := fun k hkG hkl => by
    rw [hg.block k (by rw [World.size_alloc]; omega) (by simpa using hkG)]
    exact Below.heap_alloc _ _ _ hkl
  refine ⟨⟨hg.os.trans hk.os |>.trans h.kept.os, hg.tape.trans hk.tape |>.trans h.kept.tape, hg.output.trans hk.output |>.trans h.kept.output, ?_, fun k hkl hn => ?_⟩, _, hr, fun j hj hji => ?_⟩
  · have := hg.size; have := hk.size; have := h.kept.size; rw [World.size_alloc] at *; omega
  · have h1 := h.kept.size
    have h2 := hk.size
    rw [hb6 k (by omega) (by omega), hk.block k (by omega) hn, h.kept.block k hkl hn]
  · rcases Nat.lt_or_ge j i with hh | hh
    · obtain ⟨kv, c0, c1, c2, h1, hL⟩ := hx j hj hh
      refine ⟨kv, ?_, ?_, ?_, h1, (hL.kept hk).blocks (fun k hX hkl => hb6 k (by omega) hkl)⟩
      · rw [List.getElem?_append_left (by omega)]; exact c0
      · rw [List.getElem?_append_left (by omega)]; exact c1
      · rw [List.getElem?_append_left (by omega)]; exact c2
    · obtain rfl : j = i := by omega
      refine ⟨_, ?_, ?_, ?_, rfl, (hI.mono (Y := fun k => G < k) (fun k h => by omega)).blocks (fun k hX hkl => hb6 k (by omega) hkl)⟩
      · rw [List.getElem?_append_right (by omega), show j * 3 - xs.length = 0 from by omega]; rfl
      · rw [List.getElem?_append_right (by omega), show j * 3 + 1 - xs.length = 1 from by omega]; rfl
      · rw [List.getElem?_append_right (by omega), show j * 3 + 2 - xs.length = 2 from by omega]; rfl
theorem lent_end {w : World} {t : Tr} {wr w6 : World} {o : Obj} {xs : List Value} {G : Nat} (h : LentAt w t G t.kids.length wr) (hG : w.heap.size ≤ G) (hxl : xs.length = t.kids.length * 3)
    (hx : ∀ j (h : j < t.kids.length), j < t.kids.length → ∃ kv, xs[j * 3]? = some (.int .u8 (t.kids[j].op : Nat)) ∧ xs[j * 3 + 1]? = some (.string t.kids[j].name) ∧ xs[j * 3 + 2]? = some kv ∧ kv.oneCell' = true ∧ IsL (fun k => G < k) wr t.kids[j] kv)
    (hr : w6.ownsRow w.heap.size 25 3 (.slice (some ⟨G, 0, none⟩) (t.kids.length + 1) (t.kids.length + 1)) (t.kids.length + 1) (xs ++ [.int .u8 0, .string owners, .slice none 0 0])) (hg : (wr.alloc o).grownBy w6 (some G)) :
    IsL (fun k => w.heap.size ≤ k) w6 t (.slice (some ⟨G, 0, none⟩) t.kids.length (t.kids.length + 1)) ∧ Kept [] w w6 := by
  have hb6 : ∀ k, k ≠ G → k < wr.heap.size → w6.heap[k]? = wr.heap[k]? := fun k hkG hkl => by
    rw [hg.block k (by rw [World.size_alloc]; omega) (by simpa using hkG)]
    exact Below.heap_alloc _ _ _ hkl
  constructor
  · refine (isL_eq t _).2 ⟨G, rfl, hG, ⟨?_, ?_, ?_⟩, fun i hi => ?_⟩
    · rw [hr.cellAt _ (by omega), List.getElem?_append_right (by omega), show t.kids.length * 3 - xs.length = 0 from by omega]; rfl
    · rw [hr.cellAt _ (by omega), List.getElem?_append_right (by omega), show t.kids.length * 3 + 1 - xs.length = 1 from by omega]; rfl
    · rw [hr.cellAt _ (by omega), List.getElem?_append_right (by omega), show t.kids.length * 3 + 2 - xs.length = 2 from by omega]; rfl
    · obtain ⟨kv, c0, c1, c2, _, hL⟩ := hx i hi hi
      refine ⟨kv, ?_, ?_, ?_, (hL.blocks (fun k hX hkl => hb6 k (by omega) hkl)).mono (fun k h => by omega)⟩
      · rw [hr.cellAt _ (by omega), List.getElem?_append_left (by omega)]; exact c0
      · rw [hr.cellAt _ (by omega), List.getElem?_append_left (by omega)]; exact c1
      · rw [hr.cellAt _ (by omega), List.getElem?_append_left (by omega)]; exact c2
  · refine ⟨hg.os.trans h.kept.os, hg.tape.trans h.kept.tape, hg.output.trans h.kept.output, ?_, fun k hkl hn => ?_⟩
    · have := hg.size; have := h.kept.size; rw [World.size_alloc] at *; omega
    · have h1 := h.kept.size
      rw [hb6 k (by omega) (by omega), h.kept.block k hkl hn]
theorem IsL.other {X : Nat → Prop} {W : World} {t : Tr} {kv : Value} (h : IsL X W t kv) {B : Nat} (hB : ¬ X B) (o : Nat) (v : Value) : IsL X (W.setCell ⟨B, o, none⟩ v) t kv :=
  h.blocks (fun k hk _ => Below.heap_setCell _ _ _ _ (fun e => hB (by have e' : k = B := e; rw [← e']; exact hk)))
theorem lent_ret {w V Wa : World} {t : Tr} {b : Nat} {a : Act} (hL : IsL (fun k => V.drew.heap.size ≤ k) Wa t (.slice (some ⟨b, 0, none⟩) t.kids.length (t.kids.length + 1))) (hB : For3 Wa (w.heap.size + 1) (.int .u8 0) (.string ⟨#[]⟩) (.slice none 0 0)) (kV : Kept [] w V) (ka : Kept [] V.drew Wa) (hz : V.heap.size = w.heap.size + 1 + 1)
    (hp : a.tmps.getD 2 undef = .pointer (some ⟨w.heap.size + 1, 0, none⟩)) (hd : a.defers = []) :
    bodyPost Tryz.prog Tryz.f8 (fun e w' => ∃ b, e = .returned (.agg #[.int .u8 (t.op : Nat), .string t.name, .slice (some ⟨b, 0, none⟩) t.kids.length (t.kids.length + 1)]) ∧ IsL (fun k => w.heap.size ≤ k) w' t (.slice (some ⟨b, 0, none⟩) t.kids.length (t.kids.length + 1)) ∧ Kept [] w w') .ret a
      (((Wa.setCell ⟨w.heap.size + 1, 0, none⟩ (.int .u8 (t.op : Nat))).setCell ⟨w.heap.size + 1, 1, none⟩ (.string t.name)).setCell ⟨w.heap.size + 1, 2, none⟩ (.slice (some ⟨b, 0, none⟩) t.kids.length (t.kids.length + 1))) := by
  have hn : ¬ (V.drew.heap.size ≤ w.heap.size + 1) := by show ¬ (V.heap.size ≤ _); omega
  have hzV : V.drew.heap.size = V.heap.size := rfl
  exact ret_for rfl hp hd (hB.set _ _ _) ⟨b, rfl, (((hL.other hn _ _).other hn _ _).other hn _ _).mono (fun k h => by omega), kept_set3 (kV.drew.trans ka (H := []) (by simp) (by simp)) (by omega) _ _ _⟩
theorem own_kept {wr w5 : World} {n₀ : Nat} {e : TypeId} {s n : Nat} {v : Value} {xs : List Value} (h : wr.ownsRow n₀ e s v n xs) (k : Kept [] wr w5) : w5.ownsRow n₀ e s v n xs := by
  refine ⟨h.1, h.2.imp id ?_⟩
  rintro ⟨g, cap, cur, e1, h1, h2, h3⟩
  exact ⟨g, cap, cur, e1, h1, k.at h2 (by simp), h3⟩

set_option maxHeartbeats 1000000 in
set_option maxRecDepth 20000 in
theorem lents_any (t : Tr) (ih : ∀ k ∈ t.kids, LentDoes k) (kv : Value) (w : World) (hI : IsF w t kv) (hs : t.size ≤ 1099511627776) :
    Calls Tryz.prog 38 #[kv] w fun e w' => ∃ b, e = .returned (.slice (some ⟨b, 0, none⟩) t.kids.length (t.kids.length + 1)) ∧ IsL (fun k => w.heap.size ≤ k) w' t (.slice (some ⟨b, 0, none⟩) t.kids.length (t.kids.length + 1)) ∧ Kept [] w w' := by
  obtain ⟨kad, kcap, rfl⟩ := hI.slice
  have HI : Hid (IsT (fun k => k < w.heap.size) w t (.slice kad t.kids.length kcap)) := hI
  have HIH : Hid _ := fun k hk => ih k hk
  have hlen : t.kids.length ≤ 1099511627776 := by have := t.kids_size; omega
  have hmk := make_lent w t.kids.length hlen
  obtain ⟨inf, hi1, hi2, hi3, hi4⟩ := info_parts Tryz.infoFor
  have HINF : Hid (Tryz.prog.info? 25 = some inf ∧ inf.size = 3) := ⟨hi1, hi3⟩
  have HST : Hid _ := lent_start w t hlen
  clear hI ih hi1 hi2 hi3 hi4
  go_enter Tryz.func38, Tryz.ntmps38
  go_wp2
  clear hmk
  go_loopw [3, 4] (fun v3 v4 wr => ∃ i : Nat, v3 = .slice (some ⟨w.heap.size, 0, none⟩) i (t.kids.length + 1) ∧ v4 = .int .i64 (i : Nat) ∧ i ≤ t.kids.length ∧ Hid (LentAt w t w.heap.size i wr)) (fun _ v4 _ => t.kids.length - (intOf v4).toNat)
  case atStart => exact ⟨0, rfl, rfl, Nat.zero_le _, HST.out⟩
  case round =>
    obtain ⟨i, rfl, rfl, hi, HR⟩ := hrel
    clear HST
    by_cases hlt : i < t.kids.length
    · have hli : (i : Int) < (t.kids.length : Int) := by omega
      obtain ⟨kb, koff, rfl, _, hkid⟩ := HI.out.kid (by omega)
      obtain ⟨kv, c0, c1, c2, hIk⟩ := hkid i hlt
      obtain ⟨ckad, ckcap, rfl⟩ := hIk.slice
      obtain ⟨k, hk⟩ : ∃ k, t.kids[i] = k := ⟨_, rfl⟩
      have hkm : k ∈ t.kids := by rw [← hk]; exact List.getElem_mem _
      rw [hk] at c0 c1 c2 hIk
      have kw : Kept [] w wr := HR.out.kept
      have c0 := cell_kept0 kw c0
      have c1 := cell_kept0 kw c1
      have c2 := cell_kept0 kw c2
      have HREC : Hid _ := fun (_ : Unit) => HIH.out k hkm (.slice ckad k.kids.length ckcap) wr (IsF.kept hIk kw) (by have := Tr.kid_size hkm; omega)
      have HKK : Hid _ := hk
      obtain ⟨xs, hrow, hxs⟩ := HR.out.row
      have HRW : Hid _ := fun (_ : Unit) => hrow
      have HXS : Hid _ := hxs
      clear hkid hk hIk hkm kw hrow hxs
      go_wp2_with (first
        | (go_at_call 8; refine (HREC.out ()).mono ?_; rintro e W5 ⟨b, rfl, hI5, hk5⟩; have HI5 : Hid _ := fun (_ : Unit) => hI5; have HK5 : Hid (Kept [] wr W5) := hk5; clear hI5 hk5)
        | (at_builtin; refine wpList_append_fits _ rfl _ _ 23 rfl w.heap.size 25 inf 3 Tryz.underlying23 HINF.out.1 HINF.out.2 w.heap.size i (t.kids.length + 1) xs rfl (own_kept (own_kept (HRW.out ()) HK5.out) ((Kept.refl [] _).alloc _)) ⟨W5.heap.size, 0, none⟩ 1 1 [.int .u8 (k.op : Nat), .string k.name, .slice (some ⟨b, 0, none⟩) k.kids.length (k.kids.length + 1)] rfl rfl (World.news_of_block (cs := #[.int .u8 (k.op : Nat), .string k.name, .slice (some ⟨b, 0, none⟩) k.kids.length (k.kids.length + 1)]) (t := 25) (fr := (0, 0)) (heap_alloc_new W5 _)) (by simp [Value.oneCell']) (by omega) ?_; intro W6 hr6 hg6; have HR6 : Hid _ := fun (_ : Unit) => hr6; have HG6 : Hid _ := fun (_ : Unit) => hg6; clear hr6 hg6))
      go_roundw
      case rel =>
        refine ⟨i + 1, rfl, by go_num, by omega, ?_⟩
        have hk := HKK.out
        subst hk
        exact lent_put HR.out hlt (Nat.le_refl _) HK5.out _ (HI5.out ()) (own_kept (HRW.out ()) HK5.out) HXS.out (HR6.out ()) (HG6.out ())
      case measure => simp [intOf]; omega
    · obtain rfl : i = t.kids.length := by omega
      have hli : ¬ ((t.kids.length : Int) < (t.kids.length : Int)) := by omega
      obtain ⟨xs, hrow, hxs⟩ := HR.out.row
      have HRW : Hid _ := fun (_ : Unit) => hrow
      have HXS : Hid _ := hxs
      clear hrow hxs
      go_wp2_with (at_builtin; refine wpList_append_fits _ rfl _ _ 23 rfl w.heap.size 25 inf 3 Tryz.underlying23 HINF.out.1 HINF.out.2 w.heap.size t.kids.length (t.kids.length + 1) xs rfl (own_kept (HRW.out ()) ((Kept.refl [] _).alloc _)) ⟨wr.heap.size, 0, none⟩ 1 1 [.int .u8 0, .string owners, .slice none 0 0] rfl rfl (World.news_of_block (cs := #[.int .u8 0, .string owners, .slice none 0 0]) (t := 25) (fr := (0, 0)) (heap_alloc_new wr _)) (by simp [Value.oneCell']) (by omega) ?_; intro W6 hr6 hg6; have HR6 : Hid _ := fun (_ : Unit) => hr6; have HG6 : Hid _ := fun (_ : Unit) => hg6; clear hr6 hg6)
      have he := lent_end HR.out (Nat.le_refl _) (HRW.out ()).1 HXS.out (HR6.out ()) (HG6.out ())
      go_ret
      exact ⟨_, rfl, he.1, he.2⟩

set_option maxHeartbeats 1000000 in
set_option maxRecDepth 20000 in
theorem lent_any (t : Tr) : LentDoes t := by
  induction t using Tr.ind with
  | h t ih =>
    intro kv w hI hs
    have HL : Hid _ := fun W (k : Kept [] w W) => lents_any t ih kv W (hI.kept k) hs
    obtain ⟨kad, kcap, rfl⟩ := hI.slice
    obtain ⟨V, hV⟩ : ∃ V, (w.alloc (.cells #[.int .u8 (t.op : Nat), .string t.name, .slice kad t.kids.length kcap] 25)).alloc (.cells #[.int .u8 0, .string ⟨#[]⟩, .slice none 0 0] 25) = V := ⟨_, rfl⟩
    have HKV : Hid (Kept [] w V) := by show Kept [] w V; rw [← hV]; exact ((Kept.refl [] w).alloc _).alloc _
    have HB0 : Hid (For3 V w.heap.size (.int .u8 (t.op : Nat)) (.string t.name) (.slice kad t.kids.length kcap)) := by show For3 V _ _ _ _; rw [← hV]; exact alUp (al0 _ _) _
    have HB1 : Hid (For3 V (w.heap.size + 1) (.int .u8 0) (.string ⟨#[]⟩) (.slice none 0 0)) := by show For3 V _ _ _ _; rw [← hV]; exact al1 _ _ _
    have hz : V.heap.size = w.heap.size + 1 + 1 := by rw [← hV]; simp
    obtain ⟨U, hU⟩ : ∃ U, w.alloc (.cells #[.int .u8 (t.op : Nat), .string t.name, .slice kad t.kids.length kcap] 25) = U := ⟨_, rfl⟩
    have HBU : Hid (For3 U w.heap.size (.int .u8 (t.op : Nat)) (.string t.name) (.slice kad t.kids.length kcap)) := by show For3 U _ _ _ _; rw [← hU]; exact al0 _ _
    have HKU : Hid (Kept [] U V) := by show Kept [] U V; rw [← hV, ← hU]; exact (Kept.refl [] _).alloc _
    have hzu : U.heap.size = w.heap.size + 1 := by rw [← hU]; simp
    have HV : Hid _ := hV
    clear hU
    clear hI ih hV
    go_enter Tryz.func8, Tryz.ntmps8
    go_upto_region 1 with fail
    rw [HV.out]
    clear HV
    obtain ⟨c0, c1, c2, _⟩ := HB0.out.cells
    go_region_held3 (fun w' => w'.cell? ⟨w.heap.size, 0, none⟩ = some (.int .u8 (t.op : Nat)) ∧ w'.cell? ⟨w.heap.size, 1, none⟩ = some (.string t.name) ∧ w'.cell? ⟨w.heap.size, 2, none⟩ = some (.slice kad t.kids.length kcap))
      ((refine uS_of HBU.out ?_; (repeat (first | with_reducible exact HKU.out | with_reducible refine Kept.drew ?_ | refine Kept.setCell ?_ (Or.inr (by dsimp only; omega)) _ | with_reducible refine Kept.trans (F := []) (G := []) (H := []) ?_ HKa.out (by simp) (by simp)))))
      ((go_at_call 38; refine (HL.out _ (by (repeat (first | with_reducible exact HKV.out | with_reducible refine Kept.drew ?_)))).mono ?_; rintro e Wa ⟨b, rfl, hLa, ka⟩; have hB1 : For3 Wa (w.heap.size + 1) (.int .u8 0) (.string ⟨#[]⟩) (.slice none 0 0) := For3.kept (W := V.drew) HB1.out ka; obtain ⟨d0, d1, d2, df⟩ := hB1.cells; have HB1a : Hid (For3 Wa (w.heap.size + 1) (.int .u8 0) (.string ⟨#[]⟩) (.slice none 0 0)) := hB1; have HLa : Hid _ := fun (_ : Unit) => hLa; have HKa : Hid _ := ka; clear ka hLa hB1))
    all_goals go_wp2
    all_goals exact lent_ret (HLa.out ()) HB1a.out HKV.out HKa.out hz rfl rfl
end Go.Proofs.YtnjajafmmociiaaGreatDoor

/- augurref00.LentFormula: a copy whose lists have a mark behind, each in a block of its own. -/
namespace Go.Proofs.YtnjajafmmociiaaGreatDoor
open Go.RowKit Go.Shelf

/-- A tree that was lent: its lists, each with the mark behind, lie in the blocks L. -/
def IsLO (w : World) : Tr → Value → List Nat → Prop :=
  Tr.para (fun t rs kv L => ∃ (b : Nat) (arr : Array Value) (Ls : List (List Nat)), kv = .slice (some ⟨b, 0, none⟩) t.kids.length (t.kids.length + 1) ∧ w.heap[b]? = some (.cells arr 25 (0, 0)) ∧ arr.size = (t.kids.length + 1) * 3 ∧ (arr[t.kids.length * 3]? = some (.int .u8 0) ∧ arr[t.kids.length * 3 + 1]? = some (.string owners) ∧ arr[t.kids.length * 3 + 2]? = some (.slice none 0 0)) ∧ Ls.length = rs.length ∧ L = b :: Ls.flatten ∧
      ∀ i (h : i < rs.length) (h' : i < Ls.length), ∃ kv, arr[i * 3]? = some (.int .u8 ((t.kids[i]?.map Tr.op).getD 0 : Nat)) ∧ arr[i * 3 + 1]? = some (.string ((t.kids[i]?.map Tr.name).getD ⟨#[]⟩)) ∧ arr[i * 3 + 2]? = some kv ∧ rs[i] kv Ls[i])
theorem isLO_eq {w : World} (t : Tr) (kv : Value) (L : List Nat) : IsLO w t kv L ↔ ∃ (b : Nat) (arr : Array Value) (Ls : List (List Nat)), kv = .slice (some ⟨b, 0, none⟩) t.kids.length (t.kids.length + 1) ∧ w.heap[b]? = some (.cells arr 25 (0, 0)) ∧ arr.size = (t.kids.length + 1) * 3 ∧ (arr[t.kids.length * 3]? = some (.int .u8 0) ∧ arr[t.kids.length * 3 + 1]? = some (.string owners) ∧ arr[t.kids.length * 3 + 2]? = some (.slice none 0 0)) ∧ Ls.length = t.kids.length ∧ L = b :: Ls.flatten ∧
      ∀ i (h : i < t.kids.length) (h' : i < Ls.length), ∃ kv, arr[i * 3]? = some (.int .u8 (t.kids[i].op : Nat)) ∧ arr[i * 3 + 1]? = some (.string t.kids[i].name) ∧ arr[i * 3 + 2]? = some kv ∧ IsLO w t.kids[i] kv Ls[i] := by
  unfold IsLO
  rw [Tr.para_eq]
  simp only [List.length_map, List.getElem_map]
  refine exists_congr fun b => exists_congr fun arr => exists_congr fun Ls => and_congr_right fun _ => and_congr_right fun _ => and_congr_right fun _ => and_congr_right fun _ => and_congr_right fun _ => and_congr_right fun _ => ?_
  refine forall_congr' fun i => forall_congr' fun h => ?_
  simp [List.getElem?_eq_getElem h]
theorem IsLO.keep {w w' : World} {t : Tr} : ∀ {kv : Value} {L : List Nat}, IsLO w t kv L → (∀ b ∈ L, w'.heap[b]? = w.heap[b]?) → IsLO w' t kv L := by
  induction t using Tr.ind with
  | h t ih =>
    intro kv L h hb
    obtain ⟨b, arr, Ls, e1, e2, e3, em, e4, e5, e6⟩ := (isLO_eq t kv L).1 h
    subst e5
    refine (isLO_eq t kv _).2 ⟨b, arr, Ls, e1, (hb b (by simp)).trans e2, e3, em, e4, rfl, fun i hi hl => ?_⟩
    obtain ⟨kv', c0, c1, c2, hr⟩ := e6 i hi hl
    exact ⟨kv', c0, c1, c2, ih _ (List.getElem_mem _) hr (fun x hx => hb x (List.mem_cons_of_mem _ (mem_flat hl hx)))⟩
theorem IsLO.lt {w : World} {t : Tr} : ∀ {kv : Value} {L : List Nat}, IsLO w t kv L → ∀ b ∈ L, b < w.heap.size := by
  induction t using Tr.ind with
  | h t ih =>
    intro kv L h b hb
    obtain ⟨g, arr, Ls, e1, e2, e3, _, e4, rfl, e6⟩ := (isLO_eq t kv L).1 h
    rcases List.mem_cons.1 hb with rfl | hb
    · exact lt_of e2
    · obtain ⟨l, hl, hx⟩ := List.mem_flatten.1 hb
      obtain ⟨i, hi, rfl⟩ := List.getElem_of_mem hl
      obtain ⟨kv', _, _, _, hr⟩ := e6 i (by omega) hi
      exact ih _ (List.getElem_mem _) hr b hx
theorem IsLO.isL {w : World} {t : Tr} : ∀ {kv : Value} {L : List Nat}, IsLO w t kv L → IsL (fun k => k ∈ L) w t kv := by
  induction t using Tr.ind with
  | h t ih =>
    intro kv L h
    obtain ⟨g, arr, Ls, e1, e2, e3, ⟨m0, m1, m2⟩, e4, rfl, e6⟩ := (isLO_eq t kv L).1 h
    refine (isL_eq t _).2 ⟨g, e1, by simp, ⟨(cell_of e2 _).trans m0, (cell_of e2 _).trans m1, (cell_of e2 _).trans m2⟩, fun i hi => ?_⟩
    obtain ⟨kv', c0, c1, c2, hr⟩ := e6 i hi (by omega)
    exact ⟨kv', (cell_of e2 _).trans c0, (cell_of e2 _).trans c1, (cell_of e2 _).trans c2, (ih _ (List.getElem_mem _) hr).mono (fun k hk => List.mem_cons_of_mem _ (mem_flat (by omega) hk))⟩
theorem IsLO.form {w : World} {t : Tr} {kv : Value} {L : List Nat} (h : IsLO w t kv L) : ∃ b, kv = .slice (some ⟨b, 0, none⟩) t.kids.length (t.kids.length + 1) := by
  obtain ⟨b, _, _, e1, _⟩ := (isLO_eq t kv L).1 h
  exact ⟨b, e1⟩
def IsLN (lo : Nat) (w : World) (t : Tr) (kv : Value) : Prop := ∃ L, IsLO w t kv L ∧ L.Nodup ∧ ∀ b ∈ L, lo ≤ b
theorem IsLN.mono {lo lo' : Nat} {w : World} {t : Tr} {kv : Value} (h : IsLN lo w t kv) (hl : lo' ≤ lo) : IsLN lo' w t kv := by
  obtain ⟨L, h1, h2, h3⟩ := h
  exact ⟨L, h1, h2, fun b hb => Nat.le_trans hl (h3 b hb)⟩
theorem IsLN.other {lo : Nat} {w : World} {t : Tr} {kv : Value} (h : IsLN lo w t kv) {B : Nat} (hB : B < lo) (o : Nat) (v : Value) : IsLN lo (w.setCell ⟨B, o, none⟩ v) t kv := by
  obtain ⟨L, h1, h2, h3⟩ := h
  exact ⟨L, h1.keep (fun b hb => Below.heap_setCell _ _ _ _ (fun e => by have e' : b = B := e; have := h3 b hb; omega)), h2, h3⟩
theorem IsLN.keptF {F : List Nat} {lo : Nat} {w w' : World} {t : Tr} {kv : Value} (h : IsLN lo w t kv) (k : Kept F w w') (hF : ∀ x ∈ F, x < lo) : IsLN lo w' t kv := by
  obtain ⟨L, h1, h2, h3⟩ := h
  exact ⟨L, h1.keep (fun b hb => k.block b (h1.lt b hb) (fun hx => by have := hF b hx; have := h3 b hb; omega)), h2, h3⟩
theorem IsLN.kept {lo : Nat} {w w' : World} {t : Tr} {kv : Value} (h : IsLN lo w t kv) (k : Kept [] w w') : IsLN lo w' t kv := h.keptF k (by simp)
theorem IsLN.isL {lo : Nat} {w : World} {t : Tr} {kv : Value} (h : IsLN lo w t kv) : IsL (fun k => lo ≤ k) w t kv := by
  obtain ⟨L, h1, _, h3⟩ := h
  exact h1.isL.mono h3

def LentNew (t : Tr) : Prop := ∀ (kv : Value) (w : World), IsF w t kv → t.size ≤ 1099511627776 →
  Calls Tryz.prog 8 #[.agg #[.int .u8 (t.op : Nat), .string t.name, kv]] w fun e w' => ∃ b, e = .returned (.agg #[.int .u8 (t.op : Nat), .string t.name, .slice (some ⟨b, 0, none⟩) t.kids.length (t.kids.length + 1)]) ∧ IsLN w.heap.size w' t (.slice (some ⟨b, 0, none⟩) t.kids.length (t.kids.length + 1)) ∧ Kept [] w w'
/-- The kids that have been copied, and where. -/
def DoneN (t : Tr) (G i : Nat) (wr : World) (xs : List Value) : Prop := ∃ Ls : List (List Nat), Ls.length = i ∧ Ls.flatten.Nodup ∧ (∀ x ∈ Ls.flatten, G < x ∧ x < wr.heap.size) ∧ ∀ j (h : j < t.kids.length) (hj : j < Ls.length), ∃ kv, xs[j * 3]? = some (.int .u8 (t.kids[j].op : Nat)) ∧ xs[j * 3 + 1]? = some (.string t.kids[j].name) ∧ xs[j * 3 + 2]? = some kv ∧ IsLO wr t.kids[j] kv Ls[j]
structure LentAtN (w : World) (t : Tr) (G i : Nat) (wr : World) : Prop where
  kept : Kept [] w wr
  row : ∃ xs : List Value, wr.ownsRow w.heap.size 25 3 (.slice (some ⟨G, 0, none⟩) i (t.kids.length + 1)) i xs ∧ DoneN t G i wr xs
theorem lent_startN (w : World) (t : Tr) (hl : t.kids.length ≤ 1099511627776) : LentAtN w t w.heap.size 0 (w.alloc (.cells (zeros3 (t.kids.length + 1)) 25)) :=
  ⟨(Kept.refl [] w).alloc _, [], ⟨rfl, .inr ⟨_, _, _, rfl, Nat.le_refl _, al0 _ _, Nat.zero_le _, by unfold maxLen; omega, by rw [zeros3_size], by simp⟩⟩, [], rfl, by simp, by simp, fun j _ h => by simp at h⟩
theorem lent_putN {w : World} {t : Tr} {G i : Nat} {wr w5 w6 : World} (h : LentAtN w t G i wr) (hi : i < t.kids.length) (hG : w.heap.size ≤ G) {b : Nat} (hk : Kept [] wr w5) (o : Obj) (hI : IsLN wr.heap.size w5 t.kids[i] (.slice (some ⟨b, 0, none⟩) t.kids[i].kids.length (t.kids[i].kids.length + 1))) {xs : List Value} (hxs : w5.ownsRow w.heap.size 25 3 (.slice (some ⟨G, 0, none⟩) i (t.kids.length + 1)) i xs)
    (hx : DoneN t G i wr xs)
    (hr : w6.ownsRow w.heap.size 25 3 (.slice (some ⟨G, 0, none⟩) (i + 1) (t.kids.length + 1)) (i + 1) (xs ++ [.int .u8 (t.kids[i].op : Nat), .string t.kids[i].name, .slice (some ⟨b, 0, none⟩) t.kids[i].kids.length (t.kids[i].kids.length + 1)])) (hg : (w5.alloc o).grownBy w6 (some G)) : LentAtN w t G (i + 1) w6 := by
  have hxl : xs.length = i * 3 := hxs.1
  have hGr : G < wr.heap.size := by
    obtain ⟨xs', ⟨_, hh⟩, _⟩ := h.row
    rcases hh with ⟨e, _⟩ | ⟨g, cap, cur, e, _, hc, _⟩
    · cases e
    · cases e; exact lt_of hc
  have hb6 : ∀ k, k ≠ G → k < w5.heap.size → w6.heap[k]? = w5.heap[k]? := fun k hkG hkl => by
    rw [hg.block k (by rw [World.size_alloc]; omega) (by simpa using hkG)]
    exact Below.heap_alloc _ _ _ hkl
  have h1 := h.kept.size
  have h2 := hk.size
  have h6 : w5.heap.size < w6.heap.size := by have := hg.size; rw [World.size_alloc] at this; omega
  obtain ⟨Ls, q1, q2, q3, q4⟩ := hx
  obtain ⟨L, p1, p2, p3⟩ := hI
  refine ⟨⟨hg.os.trans hk.os |>.trans h.kept.os, hg.tape.trans hk.tape |>.trans h.kept.tape, hg.output.trans hk.output |>.trans h.kept.output, by omega, fun k hkl hn => ?_⟩, _, hr, Ls ++ [L], by simp [q1], ?_, ?_, fun j hj hji => ?_⟩
  · rw [hb6 k (by omega) (by omega), hk.block k (by omega) hn, h.kept.block k hkl hn]
  · rw [List.flatten_append, List.nodup_append]
    refine ⟨q2, by simpa using p2, fun x hx y hy => ?_⟩
    have r1 := (q3 x hx).2
    have r2 := p3 y (by simpa using hy)
    omega
  · intro x hx
    rw [List.flatten_append, List.mem_append] at hx
    rcases hx with hx | hx
    · have r1 := q3 x hx
      exact ⟨r1.1, by omega⟩
    · have hx' : x ∈ L := by simpa using hx
      have r1 := p3 x hx'
      have r2 := p1.lt x hx'
      exact ⟨by omega, by omega⟩
  · rcases Nat.lt_or_ge j i with hh | hh
    · obtain ⟨kv, c0, c1, c2, hL⟩ := q4 j hj (by omega)
      refine ⟨kv, ?_, ?_, ?_, ?_⟩
      · rw [List.getElem?_append_left (by omega)]; exact c0
      · rw [List.getElem?_append_left (by omega)]; exact c1
      · rw [List.getElem?_append_left (by omega)]; exact c2
      · rw [List.getElem_append_left (by omega)]
        exact hL.keep (fun x hx => by
          have r := q3 x (mem_flat (by omega) hx)
          exact (hb6 x (by omega) (by omega)).trans (hk.block x r.2 (by simp)))
    · obtain rfl : j = i := by
        rw [List.length_append, List.length_singleton] at hji
        omega
      refine ⟨.slice (some ⟨b, 0, none⟩) t.kids[j].kids.length (t.kids[j].kids.length + 1), ?_, ?_, ?_, ?_⟩
      · rw [List.getElem?_append_right (by omega), show j * 3 - xs.length = 0 from by omega]; rfl
      · rw [List.getElem?_append_right (by omega), show j * 3 + 1 - xs.length = 1 from by omega]; rfl
      · rw [List.getElem?_append_right (by omega), show j * 3 + 2 - xs.length = 2 from by omega]; rfl
      · rw [List.getElem_append_right (by omega)]
        simp only [q1, Nat.sub_self, List.getElem_singleton]
        exact p1.keep (fun x hx => by
          have r1 := p3 x hx
          have r2 := p1.lt x hx
          exact hb6 x (by omega) r2)
theorem lent_endN {w : World} {t : Tr} {wr w6 : World} {o : Obj} {xs : List Value} {G : Nat} (h : LentAtN w t G t.kids.length wr) (hG : w.heap.size ≤ G) (hxl : xs.length = t.kids.length * 3)
    (hx : DoneN t G t.kids.length wr xs)
    (hr : w6.ownsRow w.heap.size 25 3 (.slice (some ⟨G, 0, none⟩) (t.kids.length + 1) (t.kids.length + 1)) (t.kids.length + 1) (xs ++ [.int .u8 0, .string owners, .slice none 0 0])) (hg : (wr.alloc o).grownBy w6 (some G)) :
    IsLN w.heap.size w6 t (.slice (some ⟨G, 0, none⟩) t.kids.length (t.kids.length + 1)) ∧ Kept [] w w6 := by
  have hb6 : ∀ k, k ≠ G → k < wr.heap.size → w6.heap[k]? = wr.heap[k]? := fun k hkG hkl => by
    rw [hg.block k (by rw [World.size_alloc]; omega) (by simpa using hkG)]
    exact Below.heap_alloc _ _ _ hkl
  obtain ⟨Ls, q1, q2, q3, q4⟩ := hx
  constructor
  · rcases hr.2 with ⟨e, _⟩ | ⟨g, cap, cur, e, hb, hc, _, _, hcs, htk⟩
    · cases e
    cases e
    have hcl : cur.toList = xs ++ [.int .u8 0, .string owners, .slice none 0 0] := by
      rw [← htk, List.take_of_length_le (by rw [Array.length_toList]; omega)]
    have hat : ∀ j, cur[j]? = (xs ++ [.int .u8 0, .string owners, .slice none 0 0])[j]? := fun j => by rw [← hcl, Array.getElem?_toList]
    refine ⟨G :: Ls.flatten, (isLO_eq t _ _).2 ⟨G, cur, Ls, rfl, hc, hcs, ⟨?_, ?_, ?_⟩, q1, rfl, fun i hi hl => ?_⟩, ?_, ?_⟩
    · rw [hat, List.getElem?_append_right (by omega), show t.kids.length * 3 - xs.length = 0 from by omega]; rfl
    · rw [hat, List.getElem?_append_right (by omega), show t.kids.length * 3 + 1 - xs.length = 1 from by omega]; rfl
    · rw [hat, List.getElem?_append_right (by omega), show t.kids.length * 3 + 2 - xs.length = 2 from by omega]; rfl
    · obtain ⟨kv, c0, c1, c2, hL⟩ := q4 i hi hl
      refine ⟨kv, ?_, ?_, ?_, hL.keep (fun x hx => by
        have r := q3 x (mem_flat hl hx)
        exact hb6 x (by omega) r.2)⟩
      · rw [hat, List.getElem?_append_left (by omega)]; exact c0
      · rw [hat, List.getElem?_append_left (by omega)]; exact c1
      · rw [hat, List.getElem?_append_left (by omega)]; exact c2
    · rw [List.nodup_cons]
      exact ⟨fun hx => by have := q3 _ hx; omega, q2⟩
    · intro x hx
      rcases List.mem_cons.1 hx with rfl | hx
      · exact hG
      · have := q3 x hx; omega
  · refine ⟨hg.os.trans h.kept.os, hg.tape.trans h.kept.tape, hg.output.trans h.kept.output, ?_, fun k hkl hn => ?_⟩
    · have := hg.size; have := h.kept.size; rw [World.size_alloc] at *; omega
    · have h1 := h.kept.size
      rw [hb6 k (by omega) (by omega), h.kept.block k hkl hn]
theorem lent_retN {w V Wa : World} {t : Tr} {b : Nat} {a : Act} (hL : IsLN V.drew.heap.size Wa t (.slice (some ⟨b, 0, none⟩) t.kids.length (t.kids.length + 1))) (hB : For3 Wa (w.heap.size + 1) (.int .u8 0) (.string ⟨#[]⟩) (.slice none 0 0)) (kV : Kept [] w V) (ka : Kept [] V.drew Wa) (hz : V.heap.size = w.heap.size + 1 + 1)
    (hp : a.tmps.getD 2 undef = .pointer (some ⟨w.heap.size + 1, 0, none⟩)) (hd : a.defers = []) :
    bodyPost Tryz.prog Tryz.f8 (fun e w' => ∃ b, e = .returned (.agg #[.int .u8 (t.op : Nat), .string t.name, .slice (some ⟨b, 0, none⟩) t.kids.length (t.kids.length + 1)]) ∧ IsLN w.heap.size w' t (.slice (some ⟨b, 0, none⟩) t.kids.length (t.kids.length + 1)) ∧ Kept [] w w') .ret a
      (((Wa.setCell ⟨w.heap.size + 1, 0, none⟩ (.int .u8 (t.op : Nat))).setCell ⟨w.heap.size + 1, 1, none⟩ (.string t.name)).setCell ⟨w.heap.size + 1, 2, none⟩ (.slice (some ⟨b, 0, none⟩) t.kids.length (t.kids.length + 1))) := by
  have hn : w.heap.size + 1 < V.drew.heap.size := by show _ < V.heap.size; omega
  have hzV : V.drew.heap.size = V.heap.size := rfl
  exact ret_for rfl hp hd (hB.set _ _ _) ⟨b, rfl, (((hL.other hn _ _).other hn _ _).other hn _ _).mono (by omega), kept_set3 (kV.drew.trans ka (H := []) (by simp) (by simp)) (by omega) _ _ _⟩
set_option maxHeartbeats 1000000 in
set_option maxRecDepth 20000 in
theorem lentsN_any (t : Tr) (ih : ∀ k ∈ t.kids, LentNew k) (kv : Value) (w : World) (hI : IsF w t kv) (hs : t.size ≤ 1099511627776) :
    Calls Tryz.prog 38 #[kv] w fun e w' => ∃ b, e = .returned (.slice (some ⟨b, 0, none⟩) t.kids.length (t.kids.length + 1)) ∧ IsLN w.heap.size w' t (.slice (some ⟨b, 0, none⟩) t.kids.length (t.kids.length + 1)) ∧ Kept [] w w' := by
  obtain ⟨kad, kcap, rfl⟩ := hI.slice
  have HI : Hid (IsT (fun k => k < w.heap.size) w t (.slice kad t.kids.length kcap)) := hI
  have HIH : Hid _ := fun k hk => ih k hk
  have hlen : t.kids.length ≤ 1099511627776 := by have := t.kids_size; omega
  have hmk := make_lent w t.kids.length hlen
  obtain ⟨inf, hi1, hi2, hi3, hi4⟩ := info_parts Tryz.infoFor
  have HINF : Hid (Tryz.prog.info? 25 = some inf ∧ inf.size = 3) := ⟨hi1, hi3⟩
  have HST : Hid _ := lent_startN w t hlen
  clear hI ih hi1 hi2 hi3 hi4
  go_enter Tryz.func38, Tryz.ntmps38
  go_wp2
  clear hmk
  go_loopw [3, 4] (fun v3 v4 wr => ∃ i : Nat, v3 = .slice (some ⟨w.heap.size, 0, none⟩) i (t.kids.length + 1) ∧ v4 = .int .i64 (i : Nat) ∧ i ≤ t.kids.length ∧ Hid (LentAtN w t w.heap.size i wr)) (fun _ v4 _ => t.kids.length - (intOf v4).toNat)
  case atStart => exact ⟨0, rfl, rfl, Nat.zero_le _, HST.out⟩
  case round =>
    obtain ⟨i, rfl, rfl, hi, HR⟩ := hrel
    clear HST
    by_cases hlt : i < t.kids.length
    · have hli : (i : Int) < (t.kids.length : Int) := by omega
      obtain ⟨kb, koff, rfl, _, hkid⟩ := HI.out.kid (by omega)
      obtain ⟨kv, c0, c1, c2, hIk⟩ := hkid i hlt
      obtain ⟨ckad, ckcap, rfl⟩ := hIk.slice
      obtain ⟨k, hk⟩ : ∃ k, t.kids[i] = k := ⟨_, rfl⟩
      have hkm : k ∈ t.kids := by rw [← hk]; exact List.getElem_mem _
      rw [hk] at c0 c1 c2 hIk
      have kw : Kept [] w wr := HR.out.kept
      have c0 := cell_kept0 kw c0
      have c1 := cell_kept0 kw c1
      have c2 := cell_kept0 kw c2
      have HREC : Hid _ := fun (_ : Unit) => HIH.out k hkm (.slice ckad k.kids.length ckcap) wr (IsF.kept hIk kw) (by have := Tr.kid_size hkm; omega)
      have HKK : Hid _ := hk
      obtain ⟨xs, hrow, hxs⟩ := HR.out.row
      have HRW : Hid _ := fun (_ : Unit) => hrow
      have HXS : Hid _ := hxs
      clear hkid hk hIk hkm kw hrow hxs
      go_wp2_with (first
        | (go_at_call 8; refine (HREC.out ()).mono ?_; rintro e W5 ⟨b, rfl, hI5, hk5⟩; have HI5 : Hid _ := fun (_ : Unit) => hI5; have HK5 : Hid (Kept [] wr W5) := hk5; clear hI5 hk5)
        | (at_builtin; refine wpList_append_fits _ rfl _ _ 23 rfl w.heap.size 25 inf 3 Tryz.underlying23 HINF.out.1 HINF.out.2 w.heap.size i (t.kids.length + 1) xs rfl (own_kept (own_kept (HRW.out ()) HK5.out) ((Kept.refl [] _).alloc _)) ⟨W5.heap.size, 0, none⟩ 1 1 [.int .u8 (k.op : Nat), .string k.name, .slice (some ⟨b, 0, none⟩) k.kids.length (k.kids.length + 1)] rfl rfl (World.news_of_block (cs := #[.int .u8 (k.op : Nat), .string k.name, .slice (some ⟨b, 0, none⟩) k.kids.length (k.kids.length + 1)]) (t := 25) (fr := (0, 0)) (heap_alloc_new W5 _)) (by simp [Value.oneCell']) (by omega) ?_; intro W6 hr6 hg6; have HR6 : Hid _ := fun (_ : Unit) => hr6; have HG6 : Hid _ := fun (_ : Unit) => hg6; clear hr6 hg6))
      go_roundw
      case rel =>
        refine ⟨i + 1, rfl, by go_num, by omega, ?_⟩
        have hk := HKK.out
        subst hk
        exact lent_putN HR.out hlt (Nat.le_refl _) HK5.out _ (HI5.out ()) (own_kept (HRW.out ()) HK5.out) HXS.out (HR6.out ()) (HG6.out ())
      case measure => simp [intOf]; omega
    · obtain rfl : i = t.kids.length := by omega
      have hli : ¬ ((t.kids.length : Int) < (t.kids.length : Int)) := by omega
      obtain ⟨xs, hrow, hxs⟩ := HR.out.row
      have HRW : Hid _ := fun (_ : Unit) => hrow
      have HXS : Hid _ := hxs
      clear hrow hxs
      go_wp2_with (at_builtin; refine wpList_append_fits _ rfl _ _ 23 rfl w.heap.size 25 inf 3 Tryz.underlying23 HINF.out.1 HINF.out.2 w.heap.size t.kids.length (t.kids.length + 1) xs rfl (own_kept (HRW.out ()) ((Kept.refl [] _).alloc _)) ⟨wr.heap.size, 0, none⟩ 1 1 [.int .u8 0, .string owners, .slice none 0 0] rfl rfl (World.news_of_block (cs := #[.int .u8 0, .string owners, .slice none 0 0]) (t := 25) (fr := (0, 0)) (heap_alloc_new wr _)) (by simp [Value.oneCell']) (by omega) ?_; intro W6 hr6 hg6; have HR6 : Hid _ := fun (_ : Unit) => hr6; have HG6 : Hid _ := fun (_ : Unit) => hg6; clear hr6 hg6)
      have he := lent_endN HR.out (Nat.le_refl _) (HRW.out ()).1 HXS.out (HR6.out ()) (HG6.out ())
      go_ret
      exact ⟨_, rfl, he.1, he.2⟩

set_option maxHeartbeats 1000000 in
set_option maxRecDepth 20000 in
theorem lentN_any (t : Tr) : LentNew t := by
  induction t using Tr.ind with
  | h t ih =>
    intro kv w hI hs
    have HL : Hid _ := fun W (k : Kept [] w W) => lentsN_any t ih kv W (hI.kept k) hs
    obtain ⟨kad, kcap, rfl⟩ := hI.slice
    obtain ⟨V, hV⟩ : ∃ V, (w.alloc (.cells #[.int .u8 (t.op : Nat), .string t.name, .slice kad t.kids.length kcap] 25)).alloc (.cells #[.int .u8 0, .string ⟨#[]⟩, .slice none 0 0] 25) = V := ⟨_, rfl⟩
    have HKV : Hid (Kept [] w V) := by show Kept [] w V; rw [← hV]; exact ((Kept.refl [] w).alloc _).alloc _
    have HB0 : Hid (For3 V w.heap.size (.int .u8 (t.op : Nat)) (.string t.name) (.slice kad t.kids.length kcap)) := by show For3 V _ _ _ _; rw [← hV]; exact alUp (al0 _ _) _
    have HB1 : Hid (For3 V (w.heap.size + 1) (.int .u8 0) (.string ⟨#[]⟩) (.slice none 0 0)) := by show For3 V _ _ _ _; rw [← hV]; exact al1 _ _ _
    have hz : V.heap.size = w.heap.size + 1 + 1 := by rw [← hV]; simp
    obtain ⟨U, hU⟩ : ∃ U, w.alloc (.cells #[.int .u8 (t.op : Nat), .string t.name, .slice kad t.kids.length kcap] 25) = U := ⟨_, rfl⟩
    have HBU : Hid (For3 U w.heap.size (.int .u8 (t.op : Nat)) (.string t.name) (.slice kad t.kids.length kcap)) := by show For3 U _ _ _ _; rw [← hU]; exact al0 _ _
    have HKU : Hid (Kept [] U V) := by show Kept [] U V; rw [← hV, ← hU]; exact (Kept.refl [] _).alloc _
    have hzu : U.heap.size = w.heap.size + 1 := by rw [← hU]; simp
    have HV : Hid _ := hV
    clear hU
    clear hI ih hV
    go_enter Tryz.func8, Tryz.ntmps8
    go_upto_region 1 with fail
    rw [HV.out]
    clear HV
    obtain ⟨c0, c1, c2, _⟩ := HB0.out.cells
    go_region_held3 (fun w' => w'.cell? ⟨w.heap.size, 0, none⟩ = some (.int .u8 (t.op : Nat)) ∧ w'.cell? ⟨w.heap.size, 1, none⟩ = some (.string t.name) ∧ w'.cell? ⟨w.heap.size, 2, none⟩ = some (.slice kad t.kids.length kcap))
      ((refine uS_of HBU.out ?_; (repeat (first | with_reducible exact HKU.out | with_reducible refine Kept.drew ?_ | refine Kept.setCell ?_ (Or.inr (by dsimp only; omega)) _ | with_reducible refine Kept.trans (F := []) (G := []) (H := []) ?_ HKa.out (by simp) (by simp)))))
      ((go_at_call 38; refine (HL.out _ (by (repeat (first | with_reducible exact HKV.out | with_reducible refine Kept.drew ?_)))).mono ?_; rintro e Wa ⟨b, rfl, hLa, ka⟩; have hB1 : For3 Wa (w.heap.size + 1) (.int .u8 0) (.string ⟨#[]⟩) (.slice none 0 0) := For3.kept (W := V.drew) HB1.out ka; obtain ⟨d0, d1, d2, df⟩ := hB1.cells; have HB1a : Hid (For3 Wa (w.heap.size + 1) (.int .u8 0) (.string ⟨#[]⟩) (.slice none 0 0)) := hB1; have HLa : Hid _ := fun (_ : Unit) => hLa; have HKa : Hid _ := ka; clear ka hLa hB1))
    all_goals go_wp2
    all_goals exact lent_retN (HLa.out ()) HB1a.out HKV.out HKa.out hz rfl rfl
end Go.Proofs.YtnjajafmmociiaaGreatDoor

/- augurref00.SpoilFormula: whoever lent a tree writes over it. -/
namespace Go.Proofs.YtnjajafmmociiaaGreatDoor
open Go.RowKit Go.Shelf

def spoiltN : ByteArray := ⟨#[115, 112, 111, 105, 108, 116]⟩
theorem flat_parts {Ls : List (List Nat)} (h : Ls.flatten.Nodup) : (∀ i (hi : i < Ls.length), Ls[i].Nodup) ∧ ∀ i j (hi : i < Ls.length) (hj : j < Ls.length), i < j → ∀ x ∈ Ls[i], x ∉ Ls[j] := by
  obtain ⟨h1, h2⟩ := List.pairwise_flatten.1 h
  refine ⟨fun i hi => h1 _ (List.getElem_mem hi), fun i j hi hj hij x hx hx2 => ?_⟩
  exact List.pairwise_iff_getElem.1 h2 i j hi hj hij x hx x hx2 rfl
def SpoilDoes (t : Tr) : Prop := ∀ (o : Nat) (nm : ByteArray) (kv : Value) (L : List Nat) (w : World), IsLO w t kv L → L.Nodup →
  Calls Tryz.prog 12 #[.agg #[.int .u8 (o : Nat), .string nm, kv]] w fun e w' => (∃ v, e = .returned v) ∧ Kept L w w'
/-- What stands between two rounds: the first i are written over. -/
structure SpAt (w : World) (b : Nat) (arr : Array Value) (Ls : List (List Nat)) (i : Nat) (wr : World) : Prop where
  kept : Kept (b :: Ls.flatten) w wr
  row : ∃ cur : Array Value, wr.heap[b]? = some (.cells cur 25 (0, 0)) ∧ cur.size = arr.size ∧ ∀ j, i * 3 ≤ j → cur[j]? = arr[j]?
  same : ∀ j (h : j < Ls.length), i ≤ j → ∀ x ∈ Ls[j], wr.heap[x]? = w.heap[x]?
theorem SpAt.next {w wr W5 : World} {b i : Nat} {arr : Array Value} {Ls : List (List Nat)} (h : SpAt w b arr Ls i wr) (hi : i < Ls.length) (hsz : (i + 1) * 3 ≤ arr.size) (hnd : (b :: Ls.flatten).Nodup) (hlt : ∀ x ∈ b :: Ls.flatten, x < w.heap.size) (k5 : Kept Ls[i] wr W5) :
    (∃ v0 v1 v2, W5.cell? ⟨b, i * 3, none⟩ = some v0 ∧ W5.cell? ⟨b, i * 3 + 1, none⟩ = some v1 ∧ W5.cell? ⟨b, i * 3 + 2, none⟩ = some v2 ∧ ∀ k, W5.frozen? ⟨b, k, none⟩ = false) ∧
    SpAt w b arr Ls (i + 1) (((W5.setCell ⟨b, i * 3, none⟩ (.int .u8 99)).setCell ⟨b, i * 3 + 1, none⟩ (.string spoiltN)).setCell ⟨b, i * 3 + 2, none⟩ (.slice none 0 0)) := by
  obtain ⟨cur, hg, hcs, hr⟩ := h.row
  rw [List.nodup_cons] at hnd
  obtain ⟨hnb, hnf⟩ := hnd
  obtain ⟨hp1, hp2⟩ := flat_parts hnf
  have hbi : b ∉ Ls[i] := fun hx => hnb (mem_flat hi hx)
  have hg5 : W5.heap[b]? = some (.cells cur 25 (0, 0)) := k5.at hg hbi
  refine ⟨⟨cur[i * 3]'(by omega), cur[i * 3 + 1]'(by omega), cur[i * 3 + 2]'(by omega), ?_, ?_, ?_, fun k => free_of hg5 k⟩, ?_, ?_, ?_⟩
  · rw [cell_of hg5]; exact Array.getElem?_eq_getElem _
  · rw [cell_of hg5]; exact Array.getElem?_eq_getElem _
  · rw [cell_of hg5]; exact Array.getElem?_eq_getElem _
  · have k : Kept (b :: Ls.flatten) w W5 := h.kept.trans k5 (fun x hx => hx) (fun x hx => .inl (List.mem_cons_of_mem _ (mem_flat hi hx)))
    exact ((k.setCell (p := ⟨b, i * 3, none⟩) (.inl (by simp)) _).setCell (p := ⟨b, i * 3 + 1, none⟩) (.inl (by simp)) _).setCell (p := ⟨b, i * 3 + 2, none⟩) (.inl (by simp)) _
  · refine ⟨_, row_set (row_set (row_set hg5 _) _) _, by simp [hcs], fun j hj => ?_⟩
    rw [Array.getElem?_setIfInBounds_ne (by omega), Array.getElem?_setIfInBounds_ne (by omega), Array.getElem?_setIfInBounds_ne (by omega)]
    exact hr j (by omega)
  · intro j hj hij x hx
    have hxb : x ≠ b := fun e => hnb (by rw [← e]; exact mem_flat hj hx)
    have hxi : x ∉ Ls[i] := fun hx2 => hp2 i j hi hj (by omega) x hx2 hx
    have hxl := hlt x (List.mem_cons_of_mem _ (mem_flat hj hx))
    have hs := h.kept.size
    exact (Below.heap_setCell _ _ _ _ (by show x ≠ b; exact hxb)).trans ((Below.heap_setCell _ _ _ _ (by show x ≠ b; exact hxb)).trans ((Below.heap_setCell _ _ _ _ (by show x ≠ b; exact hxb)).trans ((k5.block x (by omega) hxi).trans (h.same j hj (by omega) x hx))))
set_option maxHeartbeats 1000000 in
set_option maxRecDepth 20000 in
theorem spoils_any (t : Tr) (ih : ∀ k ∈ t.kids, SpoilDoes k) (hl : t.kids.length ≤ 1099511627776) (kv : Value) (L : List Nat) (w : World) (hI : IsLO w t kv L) (hnd : L.Nodup) :
    Calls Tryz.prog 48 #[kv] w fun e w' => (∃ v, e = .returned v) ∧ Kept L w w' := by
  have hlt := hI.lt
  obtain ⟨b, arr, Ls, rfl, hg, hsz, _, hll, rfl, hk⟩ := (isLO_eq t kv L).1 hI
  have HIH : Hid (∀ k ∈ t.kids, SpoilDoes k) := ih
  have HND : Hid ((b :: Ls.flatten).Nodup ∧ ∀ x ∈ b :: Ls.flatten, x < w.heap.size) := ⟨hnd, hlt⟩
  have HK : Hid (∀ i (h : i < t.kids.length) (h' : i < Ls.length), ∃ kv, arr[i * 3]? = some (.int .u8 (t.kids[i].op : Nat)) ∧ arr[i * 3 + 1]? = some (.string t.kids[i].name) ∧ arr[i * 3 + 2]? = some kv ∧ IsLO w t.kids[i] kv Ls[i]) := hk
  have HS0 : Hid (SpAt w b arr Ls 0 w) := ⟨Kept.refl _ _, ⟨arr, hg, rfl, fun _ _ => rfl⟩, fun _ _ _ _ _ => rfl⟩
  have HLL : Hid (Ls.length = t.kids.length ∧ arr.size = (t.kids.length + 1) * 3) := ⟨hll, hsz⟩
  clear hI hnd ih hg hk hll hlt hsz
  obtain ⟨n, hn⟩ : ∃ n, t.kids.length = n := ⟨_, rfl⟩
  have HN : Hid (t.kids.length = n) := hn
  rw [hn] at hl HLL ⊢
  clear hn
  go_enter Tryz.func48, Tryz.ntmps48
  go_wp2_with fail
  go_loopw [2] (fun v wr => ∃ i : Nat, v = .int .i64 (i : Nat) ∧ i ≤ n ∧ Hid (SpAt w b arr Ls i wr)) (fun v _ => n - (intOf v).toNat)
  case atStart => exact ⟨0, rfl, Nat.zero_le _, HS0.out⟩
  case round =>
    obtain ⟨i, rfl, hi, HR⟩ := hrel
    by_cases hlt : i < n
    · have z0 : (i : Int) < (n : Int) := by omega
      have z00 : (0 : Int) ≤ (i : Int) := by omega
      have hik : i < t.kids.length := by rw [HN.out]; exact hlt
      have hil : i < Ls.length := by rw [HLL.out.1]; exact hlt
      obtain ⟨kv, a0, a1, a2, hIk⟩ := HK.out i hik hil
      obtain ⟨cur, hg, hcs, hr⟩ := HR.out.row
      have c0 : wr.cell? ⟨b, i * 3, none⟩ = some (.int .u8 (t.kids[i].op : Nat)) := (cell_of hg _).trans ((hr _ (by omega)).trans a0)
      have c1 : wr.cell? ⟨b, i * 3 + 1, none⟩ = some (.string t.kids[i].name) := (cell_of hg _).trans ((hr _ (by omega)).trans a1)
      have c2 : wr.cell? ⟨b, i * 3 + 2, none⟩ = some kv := (cell_of hg _).trans ((hr _ (by omega)).trans a2)
      obtain ⟨kb, rfl⟩ := hIk.form
      have hIk2 := hIk.keep (w' := wr) (fun x hx => HR.out.same i hil (Nat.le_refl _) x hx)
      have HCA : Hid (Calls Tryz.prog 12 #[.agg #[.int .u8 (t.kids[i].op : Nat), .string t.kids[i].name, .slice (some ⟨kb, 0, none⟩) t.kids[i].kids.length (t.kids[i].kids.length + 1)]] wr fun e w' => (∃ v, e = .returned v) ∧ Kept Ls[i] wr w') := HIH.out _ (List.getElem_mem _) _ _ _ _ wr hIk2 ((flat_parts (List.nodup_cons.1 HND.out.1).2).1 i hil)
      have HNX : Hid (∀ W5, Kept Ls[i] wr W5 → (∃ v0 v1 v2, W5.cell? ⟨b, i * 3, none⟩ = some v0 ∧ W5.cell? ⟨b, i * 3 + 1, none⟩ = some v1 ∧ W5.cell? ⟨b, i * 3 + 2, none⟩ = some v2 ∧ ∀ k, W5.frozen? ⟨b, k, none⟩ = false) ∧ SpAt w b arr Ls (i + 1) (((W5.setCell ⟨b, i * 3, none⟩ (.int .u8 99)).setCell ⟨b, i * 3 + 1, none⟩ (.string spoiltN)).setCell ⟨b, i * 3 + 2, none⟩ (.slice none 0 0))) := fun W5 k5 => HR.out.next hil (by rw [HLL.out.2]; omega) HND.out.1 HND.out.2 k5
      generalize t.kids[i].op = ko at *
      generalize t.kids[i].name = kn at *
      generalize t.kids[i].kids.length = kl at *
      generalize Ls[i] = Li at *
      clear a0 a1 a2 hIk hIk2 hg hcs hr
      go_wp2_with (go_at_call 12; refine HCA.out.mono ?_; rintro e W5 ⟨⟨v, rfl⟩, k5⟩; obtain ⟨⟨v0, v1, v2, d0, d1, d2, df⟩, hS⟩ := HNX.out W5 k5; have HS : Hid (SpAt w b arr Ls (i + 1) (((W5.setCell ⟨b, i * 3, none⟩ (.int .u8 99)).setCell ⟨b, i * 3 + 1, none⟩ (.string spoiltN)).setCell ⟨b, i * 3 + 2, none⟩ (.slice none 0 0))) := hS; clear hS k5 c0 c1 c2)
      go_roundw
      case rel => exact ⟨i + 1, by go_num, by omega, HS.out⟩
      case measure => simp [intOf]; omega
    · obtain rfl : i = n := by omega
      have z0 : ¬ ((i : Int) < (i : Int)) := by omega
      go_wp2
      first | go_end0 | refine bodyPost_ret (results_none rfl _ _ _) rfl ?_
      exact ⟨⟨_, rfl⟩, HR.out.kept⟩
set_option maxHeartbeats 1000000 in
theorem spoil_any (t : Tr) (hs : t.size ≤ 1099511627776) : SpoilDoes t := by
  induction t using Tr.ind with
  | h t ih =>
    intro o nm kv L w hI hnd
    have kA : Kept [] w (w.alloc (.cells #[.int .u8 (o : Nat), .string nm, kv] 25)) := (Kept.refl [] w).alloc _
    have HS : Hid (Calls Tryz.prog 48 #[kv] (w.alloc (.cells #[.int .u8 (o : Nat), .string nm, kv] 25)) fun e w' => (∃ v, e = .returned v) ∧ Kept L (w.alloc (.cells #[.int .u8 (o : Nat), .string nm, kv] 25)) w') :=
      spoils_any t (fun k hk => ih k hk (by have := Tr.kid_size hk; omega)) (by have := t.kids_size; omega) kv L _ (hI.keep (fun b hb => kA.block b (hI.lt b hb) (by simp))) hnd
    have HKA : Hid (Kept [] w (w.alloc (.cells #[.int .u8 (o : Nat), .string nm, kv] 25))) := kA
    obtain ⟨b, rfl⟩ := hI.form
    clear hI hnd ih kA hs
    go_enter Tryz.func12, Tryz.ntmps12
    go_wp2_with (go_at_call 48; refine HS.out.mono ?_; rintro e W5 ⟨⟨v, rfl⟩, k5⟩; have HK5 : Hid (Kept L (w.alloc (.cells #[.int .u8 (o : Nat), .string nm, .slice (some ⟨b, 0, none⟩) t.kids.length (t.kids.length + 1)] 25)) W5) := k5; clear k5)
    first | go_end0 | refine bodyPost_ret (results_none rfl _ _ _) rfl ?_
    exact ⟨⟨_, rfl⟩, HKA.out.trans HK5.out (by simp) (fun x hx => .inl hx)⟩
end Go.Proofs.YtnjajafmmociiaaGreatDoor

/- augurref00.WholeFormula: what was lent is as it was. -/
namespace Go.Proofs.YtnjajafmmociiaaGreatDoor
open Go.RowKit Go.Shelf

theorem IsL.slice {X : Nat → Prop} {w : World} {t : Tr} {kv : Value} (h : IsL X w t kv) : ∃ b, kv = .slice (some ⟨b, 0, none⟩) t.kids.length (t.kids.length + 1) := by
  obtain ⟨b, e, _⟩ := (isL_eq t kv).1 h
  exact ⟨b, e⟩
theorem IsL.kid {X : Nat → Prop} {w : World} {t : Tr} {b n m : Nat} (h : IsL X w t (.slice (some ⟨b, 0, none⟩) n m)) : (w.cell? ⟨b, t.kids.length * 3, none⟩ = some (.int .u8 0) ∧ w.cell? ⟨b, t.kids.length * 3 + 1, none⟩ = some (.string owners) ∧ w.cell? ⟨b, t.kids.length * 3 + 2, none⟩ = some (.slice none 0 0)) ∧
    ∀ i (h : i < t.kids.length), ∃ kv, w.cell? ⟨b, i * 3, none⟩ = some (.int .u8 (t.kids[i].op : Nat)) ∧ w.cell? ⟨b, i * 3 + 1, none⟩ = some (.string t.kids[i].name) ∧ w.cell? ⟨b, i * 3 + 2, none⟩ = some kv ∧ IsL X w t.kids[i] kv := by
  obtain ⟨b', e, _, hm, hk⟩ := (isL_eq t _).1 h
  cases e
  exact ⟨hm, hk⟩
def WholeDoes (t : Tr) : Prop := ∀ (X : Nat → Prop) (xv lv : Value) (w : World), IsL X w t xv → IsF w t lv → t.size ≤ 1099511627776 →
  Calls Tryz.prog 11 #[.agg #[.int .u8 (t.op : Nat), .string t.name, xv], .agg #[.int .u8 (t.op : Nat), .string t.name, lv]] w fun e w' => e = .returned (.bool true) ∧ Kept [] w w'
theorem six_cells {W W' : World} {b c i : Nat} {off : Nat} {x0 x1 x2 y0 y1 y2 : Value} (k : Kept [] W W') (a0 : W.cell? ⟨b, i * 3, none⟩ = some x0) (a1 : W.cell? ⟨b, i * 3 + 1, none⟩ = some x1) (a2 : W.cell? ⟨b, i * 3 + 2, none⟩ = some x2) (c0 : W.cell? ⟨c, off + i * 3, none⟩ = some y0) (c1 : W.cell? ⟨c, off + i * 3 + 1, none⟩ = some y1) (c2 : W.cell? ⟨c, off + i * 3 + 2, none⟩ = some y2) :
    (W'.cell? ⟨b, i * 3, none⟩ = some x0 ∧ W'.cell? ⟨b, i * 3 + 1, none⟩ = some x1 ∧ W'.cell? ⟨b, i * 3 + 2, none⟩ = some x2) ∧ (W'.cell? ⟨c, off + i * 3, none⟩ = some y0 ∧ W'.cell? ⟨c, off + i * 3 + 1, none⟩ = some y1 ∧ W'.cell? ⟨c, off + i * 3 + 2, none⟩ = some y2) :=
  ⟨⟨cell_kept0 k a0, cell_kept0 k a1, cell_kept0 k a2⟩, cell_kept0 k c0, cell_kept0 k c1, cell_kept0 k c2⟩

set_option maxHeartbeats 1000000 in
set_option maxRecDepth 20000 in
theorem wholes_any (t : Tr) (ih : ∀ k ∈ t.kids, WholeDoes k) (X : Nat → Prop) (xv lv : Value) (w : World) (hL : IsL X w t xv) (hI : IsF w t lv) (hs : t.size ≤ 1099511627776) :
    Calls Tryz.prog 47 #[xv, lv] w fun e w' => e = .returned (.bool true) ∧ Kept [] w w' := by
  obtain ⟨xb, rfl⟩ := hL.slice
  obtain ⟨kad, kcap, rfl⟩ := hI.slice
  have HI : Hid (IsT (fun k => k < w.heap.size) w t (.slice kad t.kids.length kcap)) := hI
  have HL : Hid (IsL X w t (.slice (some ⟨xb, 0, none⟩) t.kids.length (t.kids.length + 1))) := hL
  have HIH : Hid _ := fun k hk => ih k hk
  have hlen : t.kids.length ≤ 1099511627776 := by have := t.kids_size; omega
  obtain ⟨⟨m0, m1', m2⟩, _⟩ := hL.kid
  have m1 : w.cell? ⟨xb, t.kids.length * 3 + 1, none⟩ = some (.string ⟨#[116, 104, 101, 32, 111, 119, 110, 101, 114, 39, 115]⟩) := m1'
  clear hI ih hL m1'
  go_enter Tryz.func47, Tryz.ntmps47
  go_wp2
  go_loopw [6] (fun v wr => ∃ i : Nat, v = .int .i64 (i : Nat) ∧ i ≤ t.kids.length ∧ Hid (Kept [] w wr)) (fun v _ => t.kids.length - (intOf v).toNat)
  case atStart => exact ⟨0, rfl, Nat.zero_le _, Kept.refl [] w⟩
  case round =>
    obtain ⟨i, rfl, hi, HR⟩ := hrel
    clear m0 m1 m2
    by_cases hlt : i < t.kids.length
    · have hli : (i : Int) < (t.kids.length : Int) := by omega
      obtain ⟨kb, koff, rfl, _, hkid⟩ := HI.out.kid (by omega)
      obtain ⟨kv, c0, c1, c2, hIk⟩ := hkid i hlt
      obtain ⟨yv, a0, a1, a2, hLk⟩ := HL.out.kid.2 i hlt
      obtain ⟨ckad, ckcap, rfl⟩ := hIk.slice
      obtain ⟨yb, rfl⟩ := hLk.slice
      obtain ⟨k, hk⟩ : ∃ k, t.kids[i] = k := ⟨_, rfl⟩
      have hkm : k ∈ t.kids := by rw [← hk]; exact List.getElem_mem _
      rw [hk] at c0 c1 c2 hIk a0 a1 a2 hLk
      have kw : Kept [] w wr := HR.out
      have c0 := cell_kept0 kw c0
      have c1 := cell_kept0 kw c1
      have c2 := cell_kept0 kw c2
      have a0 := cell_kept0 kw a0
      have a1 := cell_kept0 kw a1
      have a2 := cell_kept0 kw a2
      have HS : Hid _ := fun W' (q : Kept [] wr W') => six_cells q a0 a1 a2 c0 c1 c2
      have HREC : Hid _ := fun W (q : Kept [] wr W) => HIH.out k hkm X (.slice (some ⟨yb, 0, none⟩) k.kids.length (k.kids.length + 1)) (.slice ckad k.kids.length ckcap) W ((hLk.kept kw).kept q) (IsF.kept (IsF.kept hIk kw) q) (by have := Tr.kid_size hkm; omega)
      clear hkid hk hIk hLk hkm kw
      go_upto_region 9 with fail
      go_cut [66] from 57 to 66 (fun s wx => s = .bool false ∧ Hid (Kept [] wr wx))
      case first =>
        go_region_held3 (fun w' => (w'.cell? ⟨xb, i * 3, none⟩ = some (.int .u8 (k.op : Nat)) ∧ w'.cell? ⟨xb, i * 3 + 1, none⟩ = some (.string k.name) ∧ w'.cell? ⟨xb, i * 3 + 2, none⟩ = some (.slice (some ⟨yb, 0, none⟩) k.kids.length (k.kids.length + 1))) ∧ (w'.cell? ⟨kb, koff + i * 3, none⟩ = some (.int .u8 (k.op : Nat)) ∧ w'.cell? ⟨kb, koff + i * 3 + 1, none⟩ = some (.string k.name) ∧ w'.cell? ⟨kb, koff + i * 3 + 2, none⟩ = some (.slice ckad k.kids.length ckcap)))
          ((refine HS.out _ ?_; (repeat (first | with_reducible exact Kept.refl [] _ | with_reducible refine Kept.drew ?_ | with_reducible refine Kept.trans (F := []) (G := []) (H := []) ?_ HKa.out (by simp) (by simp)))))
          ((go_at_call 11; refine (HREC.out _ (by (repeat (first | with_reducible exact Kept.refl [] _ | with_reducible refine Kept.drew ?_)))).mono ?_; rintro e Wa ⟨rfl, ka⟩; have HKa : Hid _ := ka; clear ka))
        all_goals (go_wp2_with fail; go_meet)
        all_goals refine ⟨rfl, ?_⟩
        all_goals (show Kept [] wr _; (repeat (first | with_reducible exact Kept.refl [] _ | with_reducible refine Kept.drew ?_ | with_reducible refine Kept.trans (F := []) (G := []) (H := []) ?_ HKa.out (by simp) (by simp))))
      case rest =>
        obtain ⟨rfl, HX⟩ := hcut
        go_wp2
        go_roundw
        case rel => exact ⟨i + 1, by go_num, by omega, HR.out.trans HX.out (by simp) (by simp)⟩
        case measure => simp [intOf]; omega
    · obtain rfl : i = t.kids.length := by omega
      have hli : ¬ ((t.kids.length : Int) < (t.kids.length : Int)) := by omega
      go_wp2
      go_ret
      exact ⟨rfl, HR.out⟩

set_option maxHeartbeats 1000000 in
set_option maxRecDepth 20000 in
theorem whole_any (t : Tr) : WholeDoes t := by
  induction t using Tr.ind with
  | h t ih =>
    intro X xv lv w hL hI hs
    have HW : Hid _ := fun W (k : Kept [] w W) => wholes_any t ih X xv lv W (hL.kept k) (hI.kept k) hs
    obtain ⟨xb, rfl⟩ := hL.slice
    obtain ⟨kad, kcap, rfl⟩ := hI.slice
    clear hI hL ih
    go_enter Tryz.func11, Tryz.ntmps11
    go_wp2_with (go_at_call 47; refine (HW.out _ (((Kept.refl [] w).alloc _).alloc _)).mono ?_; rintro e W ⟨rfl, hk⟩)
    go_ret
    exact ⟨rfl, (((Kept.refl [] w).alloc _).alloc _).trans hk (by simp) (by simp)⟩
end Go.Proofs.YtnjajafmmociiaaGreatDoor
