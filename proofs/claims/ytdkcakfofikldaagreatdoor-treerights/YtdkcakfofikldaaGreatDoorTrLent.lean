/- augurref00.LentFormula: a copy whose lists have a mark behind. -/
import Derived.Test.YtdkcakfofikldaaGreatDoorTrFits
import Derived.Deep.RegionHeld3
import Derived.OwnWalk
namespace Go.Proofs.YtdkcakfofikldaaGreatDoor
open Go.RowKit Go.Shelf

def owners : ByteArray := ⟨#[116, 104, 101, 32, 111, 119, 110, 101, 114, 39, 115]⟩
/-- A tree that was lent: each list has one place more, with the mark. -/
def IsL (X : Nat → Prop) (w : World) : Tr → Value → Prop :=
  Tr.para (fun t rs kv => ∃ b, kv = .slice (some ⟨b, 0, none⟩) t.kids.length (t.kids.length + 1) ∧ X b ∧ (w.cell? ⟨b, t.kids.length * 3, none⟩ = some (.int .u8 0) ∧ w.cell? ⟨b, t.kids.length * 3 + 1, none⟩ = some (.string owners) ∧ w.cell? ⟨b, t.kids.length * 3 + 2, none⟩ = some (.slice none 0 0)) ∧
    ∀ i (h : i < rs.length), ∃ kv, w.cell? ⟨b, i * 3, none⟩ = some (.int .u8 ((t.kids[i]?.map Tr.op).getD 0 : Nat)) ∧ w.cell? ⟨b, i * 3 + 1, none⟩ = some (.string ((t.kids[i]?.map Tr.name).getD ⟨#[]⟩)) ∧ w.cell? ⟨b, i * 3 + 2, none⟩ = some kv ∧ rs[i] kv)
theorem isL_eq {X : Nat → Prop} {w : World} (t : Tr) (kv : Value) : IsL X w t kv ↔ ∃ b, kv = .slice (some ⟨b, 0, none⟩) t.kids.length (t.kids.length + 1) ∧ X b ∧ (w.cell? ⟨b, t.kids.length * 3, none⟩ = some (.int .u8 0) ∧ w.cell? ⟨b, t.kids.length * 3 + 1, none⟩ = some (.string owners) ∧ w.cell? ⟨b, t.kids.length * 3 + 2, none⟩ = some (.slice none 0 0)) ∧
    ∀ i (h : i < t.kids.length), ∃ kv, w.cell? ⟨b, i * 3, none⟩ = some (.int .u8 (t.kids[i].op : Nat)) ∧ w.cell? ⟨b, i * 3 + 1, none⟩ = some (.string t.kids[i].name) ∧ w.cell? ⟨b, i * 3 + 2, none⟩ = some kv ∧ IsL X w t.kids[i] kv := by
  unfold IsL
  rw [Tr.para_eq]
  simp only [List.length_map, List.getElem_map]
  refine exists_congr fun b => and_congr_right fun _ => and_congr_right fun _ => and_congr_right fun _ => ?_
  refine forall_congr' fun i => forall_congr' fun h => ?_
  simp [List.getElem?_eq_getElem h]
theorem IsL.cells {X Y : Nat → Prop} {w w' : World} (hX : ∀ k, X k → Y k) (hw : ∀ b o v, X b → w.cell? ⟨b, o, none⟩ = some v → w'.cell? ⟨b, o, none⟩ = some v) {t : Tr} : ∀ {kv : Value}, IsL X w t kv → IsL Y w' t kv := by
  induction t using Tr.ind with
  | h t ih =>
    intro kv h
    obtain ⟨b, e, hb, ⟨m0, m1, m2⟩, hk⟩ := (isL_eq t kv).1 h
    refine (isL_eq t kv).2 ⟨b, e, hX b hb, ⟨hw _ _ _ hb m0, hw _ _ _ hb m1, hw _ _ _ hb m2⟩, fun i hi => ?_⟩
    obtain ⟨kv', c0, c1, c2, hr⟩ := hk i hi
    exact ⟨kv', hw _ _ _ hb c0, hw _ _ _ hb c1, hw _ _ _ hb c2, ih _ (List.getElem_mem _) hr⟩
theorem IsL.kept {X : Nat → Prop} {w w' : World} {t : Tr} {kv : Value} (h : IsL X w t kv) (k : Kept [] w w') : IsL X w' t kv := h.cells (fun _ h => h) (fun _ _ _ _ c => cell_kept0 k c)
theorem IsL.mono {X Y : Nat → Prop} {w : World} {t : Tr} {kv : Value} (h : IsL X w t kv) (hX : ∀ k, X k → Y k) : IsL Y w t kv := h.cells hX (fun _ _ _ _ c => c)
theorem IsL.blocks {X : Nat → Prop} {w w' : World} (hw : ∀ k, X k → k < w.heap.size → w'.heap[k]? = w.heap[k]?) {t : Tr} {kv : Value} (h : IsL X w t kv) : IsL X w' t kv :=
  h.cells (fun _ h => h) (fun b o v hb c => by
    rw [World.cell?_of_block (w := w) (a := ⟨b, o, none⟩) (hw b hb (World.block_lt_of_cell? w _ c))]; exact c)
theorem IsL.isT {X : Nat → Prop} {w : World} {t : Tr} : ∀ {kv : Value}, IsL X w t kv → IsT X w t kv := by
  induction t using Tr.ind with
  | h t ih =>
    intro kv h
    obtain ⟨b, e, hb, _, hk⟩ := (isL_eq t kv).1 h
    refine (isT_eq t kv).2 ⟨_, _, e, .inr ⟨b, 0, rfl, hb, fun i hi => ?_⟩⟩
    obtain ⟨kv', c0, c1, c2, hr⟩ := hk i hi
    rw [show 0 + i * 3 = i * 3 from by omega]
    exact ⟨kv', c0, c1, c2, ih _ (List.getElem_mem _) hr⟩

def LentDoes (t : Tr) : Prop := ∀ (kv : Value) (w : World), IsF w t kv → t.size ≤ 1099511627776 →
  Calls Tryz.prog 11 #[.agg #[.int .u8 (t.op : Nat), .string t.name, kv]] w fun e w' => ∃ b, e = .returned (.agg #[.int .u8 (t.op : Nat), .string t.name, .slice (some ⟨b, 0, none⟩) t.kids.length (t.kids.length + 1)]) ∧ IsL (fun k => w.heap.size ≤ k) w' t (.slice (some ⟨b, 0, none⟩) t.kids.length (t.kids.length + 1)) ∧ Kept [] w w'
/-- What has been copied so far. -/
structure LentAt (w : World) (t : Tr) (G i : Nat) (wr : World) : Prop where
  kept : Kept [] w wr
  row : ∃ xs : List Value, wr.ownsRow w.heap.size 27 3 (.slice (some ⟨G, 0, none⟩) i (t.kids.length + 1)) i xs ∧
    ∀ j (h : j < t.kids.length), j < i → ∃ kv, xs[j * 3]? = some (.int .u8 (t.kids[j].op : Nat)) ∧ xs[j * 3 + 1]? = some (.string t.kids[j].name) ∧ xs[j * 3 + 2]? = some kv ∧ kv.oneCell' = true ∧ IsL (fun k => G < k) wr t.kids[j] kv

theorem make_lent (w : World) (k : Nat) (hk : k ≤ 1099511627776) : Sem.run Tryz.prog (Instr.makeSlice 25 (.int .i64 0) (.int .i64 ((k : Int) + 1))) w = .ok (.slice (some ⟨w.heap.size, 0, none⟩) 0 (k + 1)) (w.alloc (.cells (zeros3 (k + 1)) 27)) := by
  obtain ⟨i, hi, hz, hs, hb⟩ := info_parts Tryz.infoFor
  have h := run_make (P := Tryz.prog) w 25 27 i _ Tryz.underlying25 hi hz .i64 .i64 0 ((k : Int) + 1) (by omega) (by omega) (by rw [hb]; omega) (by omega)
  rw [h, hs, show ((k : Int) + 1).toNat = k + 1 from by omega]
  rfl
theorem lent_start (w : World) (t : Tr) (hl : t.kids.length ≤ 1099511627776) : LentAt w t w.heap.size 0 (w.alloc (.cells (zeros3 (t.kids.length + 1)) 27)) :=
  ⟨(Kept.refl [] w).alloc _, [], ⟨rfl, .inr ⟨_, _, _, rfl, Nat.le_refl _, al0 _ _, Nat.zero_le _, by unfold maxLen; omega, by rw [zeros3_size], by simp⟩⟩, fun j _ h => by omega⟩
theorem lent_put {w : World} {t : Tr} {G i : Nat} {wr w5 w6 : World} (h : LentAt w t G i wr) (hi : i < t.kids.length) (hG : w.heap.size ≤ G) {b : Nat} (hk : Kept [] wr w5) (o : Obj) (hI : IsL (fun k => wr.heap.size ≤ k) w5 t.kids[i] (.slice (some ⟨b, 0, none⟩) t.kids[i].kids.length (t.kids[i].kids.length + 1))) {xs : List Value} (hxs : w5.ownsRow w.heap.size 27 3 (.slice (some ⟨G, 0, none⟩) i (t.kids.length + 1)) i xs)
    (hx : ∀ j (h : j < t.kids.length), j < i → ∃ kv, xs[j * 3]? = some (.int .u8 (t.kids[j].op : Nat)) ∧ xs[j * 3 + 1]? = some (.string t.kids[j].name) ∧ xs[j * 3 + 2]? = some kv ∧ kv.oneCell' = true ∧ IsL (fun k => G < k) wr t.kids[j] kv)
    (hr : w6.ownsRow w.heap.size 27 3 (.slice (some ⟨G, 0, none⟩) (i + 1) (t.kids.length + 1)) (i + 1) (xs ++ [.int .u8 (t.kids[i].op : Nat), .string t.kids[i].name, .slice (some ⟨b, 0, none⟩) t.kids[i].kids.length (t.kids[i].kids.length + 1)])) (hg : (w5.alloc o).grownBy w6 (some G)) : LentAt w t G (i + 1) w6 := by
  have hxl : xs.length = i * 3 := hxs.1
  have hGr : G < wr.heap.size := by
    obtain ⟨xs', ⟨_, hh⟩, _⟩ := h.row
    rcases hh with ⟨e, _⟩ | ⟨g, cap, cur, e, _, hc, _⟩
    · cases e
    · cases e; exact lt_of hc
  have hb6 : ∀ k, k ≠ G → k < w5.heap.size → w6.heap[k]? = w5.heap[k]? := fun k hkG hkl => by
    rw [hg.block k (by rw [World.size_alloc]; omega) (by simpa using hkG)]
    exact Below.heap_alloc _ _ _ hkl
  refine ⟨⟨hg.os.trans hk.os |>.trans h.kept.os, hg.tape.trans hk.tape |>.trans h.kept.tape, hg.output.trans hk.output |>.trans h.kept.output, ?_, fun k hkl hn => ?_⟩, _, hr, fun j hj hji => ?_⟩
  · have := hg.size; have := hk.size; have := h.kept.size; rw [World.size_alloc] at *; omega
  · have h1 := h.kept.size
    have h2 := hk.size
    rw [hb6 k (by omega) (by omega), hk.block k (by omega) hn, h.kept.block k hkl hn]
  · rcases Nat.lt_or_ge j i with hh | hh
    · obtain ⟨kv, c0, c1, c2, h1, hL⟩ := hx j hj hh
      refine ⟨kv, ?_, ?_, ?_, h1, (hL.kept hk).blocks (fun k hX hkl => hb6 k (by omega) hkl)⟩
      · rw [List.getElem?_append_left (by omega)]; exact c0
      · rw [List.getElem?_append_left (by omega)]; exact c1
      · rw [List.getElem?_append_left (by omega)]; exact c2
    · obtain rfl : j = i := by omega
      refine ⟨_, ?_, ?_, ?_, rfl, (hI.mono (Y := fun k => G < k) (fun k h => by omega)).blocks (fun k hX hkl => hb6 k (by omega) hkl)⟩
      · rw [List.getElem?_append_right (by omega), show j * 3 - xs.length = 0 from by omega]; rfl
      · rw [List.getElem?_append_right (by omega), show j * 3 + 1 - xs.length = 1 from by omega]; rfl
      · rw [List.getElem?_append_right (by omega), show j * 3 + 2 - xs.length = 2 from by omega]; rfl
theorem lent_end {w : World} {t : Tr} {wr w6 : World} {o : Obj} {xs : List Value} {G : Nat} (h : LentAt w t G t.kids.length wr) (hG : w.heap.size ≤ G) (hxl : xs.length = t.kids.length * 3)
    (hx : ∀ j (h : j < t.kids.length), j < t.kids.length → ∃ kv, xs[j * 3]? = some (.int .u8 (t.kids[j].op : Nat)) ∧ xs[j * 3 + 1]? = some (.string t.kids[j].name) ∧ xs[j * 3 + 2]? = some kv ∧ kv.oneCell' = true ∧ IsL (fun k => G < k) wr t.kids[j] kv)
    (hr : w6.ownsRow w.heap.size 27 3 (.slice (some ⟨G, 0, none⟩) (t.kids.length + 1) (t.kids.length + 1)) (t.kids.length + 1) (xs ++ [.int .u8 0, .string owners, .slice none 0 0])) (hg : (wr.alloc o).grownBy w6 (some G)) :
    IsL (fun k => w.heap.size ≤ k) w6 t (.slice (some ⟨G, 0, none⟩) t.kids.length (t.kids.length + 1)) ∧ Kept [] w w6 := by
  have hb6 : ∀ k, k ≠ G → k < wr.heap.size → w6.heap[k]? = wr.heap[k]? := fun k hkG hkl => by
    rw [hg.block k (by rw [World.size_alloc]; omega) (by simpa using hkG)]
    exact Below.heap_alloc _ _ _ hkl
  constructor
  · refine (isL_eq t _).2 ⟨G, rfl, hG, ⟨?_, ?_, ?_⟩, fun i hi => ?_⟩
    · rw [hr.cellAt _ (by omega), List.getElem?_append_right (by omega), show t.kids.length * 3 - xs.length = 0 from by omega]; rfl
    · rw [hr.cellAt _ (by omega), List.getElem?_append_right (by omega), show t.kids.length * 3 + 1 - xs.length = 1 from by omega]; rfl
    · rw [hr.cellAt _ (by omega), List.getElem?_append_right (by omega), show t.kids.length * 3 + 2 - xs.length = 2 from by omega]; rfl
    · obtain ⟨kv, c0, c1, c2, _, hL⟩ := hx i hi hi
      refine ⟨kv, ?_, ?_, ?_, (hL.blocks (fun k hX hkl => hb6 k (by omega) hkl)).mono (fun k h => by omega)⟩
      · rw [hr.cellAt _ (by omega), List.getElem?_append_left (by omega)]; exact c0
      · rw [hr.cellAt _ (by omega), List.getElem?_append_left (by omega)]; exact c1
      · rw [hr.cellAt _ (by omega), List.getElem?_append_left (by omega)]; exact c2
  · refine ⟨hg.os.trans h.kept.os, hg.tape.trans h.kept.tape, hg.output.trans h.kept.output, ?_, fun k hkl hn => ?_⟩
    · have := hg.size; have := h.kept.size; rw [World.size_alloc] at *; omega
    · have h1 := h.kept.size
      rw [hb6 k (by omega) (by omega), h.kept.block k hkl hn]
theorem IsL.other {X : Nat → Prop} {W : World} {t : Tr} {kv : Value} (h : IsL X W t kv) {B : Nat} (hB : ¬ X B) (o : Nat) (v : Value) : IsL X (W.setCell ⟨B, o, none⟩ v) t kv :=
  h.blocks (fun k hk _ => Below.heap_setCell _ _ _ _ (fun e => hB (by have e' : k = B := e; rw [← e']; exact hk)))
theorem lent_ret {w V Wa : World} {t : Tr} {b : Nat} {a : Act} (hL : IsL (fun k => V.drew.heap.size ≤ k) Wa t (.slice (some ⟨b, 0, none⟩) t.kids.length (t.kids.length + 1))) (hB : For3 Wa (w.heap.size + 1) (.int .u8 0) (.string ⟨#[]⟩) (.slice none 0 0)) (kV : Kept [] w V) (ka : Kept [] V.drew Wa) (hz : V.heap.size = w.heap.size + 1 + 1)
    (hp : a.tmps.getD 2 undef = .pointer (some ⟨w.heap.size + 1, 0, none⟩)) (hd : a.defers = []) :
    bodyPost Tryz.prog Tryz.f11 (fun e w' => ∃ b, e = .returned (.agg #[.int .u8 (t.op : Nat), .string t.name, .slice (some ⟨b, 0, none⟩) t.kids.length (t.kids.length + 1)]) ∧ IsL (fun k => w.heap.size ≤ k) w' t (.slice (some ⟨b, 0, none⟩) t.kids.length (t.kids.length + 1)) ∧ Kept [] w w') .ret a
      (((Wa.setCell ⟨w.heap.size + 1, 0, none⟩ (.int .u8 (t.op : Nat))).setCell ⟨w.heap.size + 1, 1, none⟩ (.string t.name)).setCell ⟨w.heap.size + 1, 2, none⟩ (.slice (some ⟨b, 0, none⟩) t.kids.length (t.kids.length + 1))) := by
  have hn : ¬ (V.drew.heap.size ≤ w.heap.size + 1) := by show ¬ (V.heap.size ≤ _); omega
  have hzV : V.drew.heap.size = V.heap.size := rfl
  exact ret_for rfl hp hd (hB.set _ _ _) ⟨b, rfl, (((hL.other hn _ _).other hn _ _).other hn _ _).mono (fun k h => by omega), kept_set3 (kV.drew.trans ka (H := []) (by simp) (by simp)) (by omega) _ _ _⟩
theorem own_kept {wr w5 : World} {n₀ : Nat} {e : TypeId} {s n : Nat} {v : Value} {xs : List Value} (h : wr.ownsRow n₀ e s v n xs) (k : Kept [] wr w5) : w5.ownsRow n₀ e s v n xs := by
  refine ⟨h.1, h.2.imp id ?_⟩
  rintro ⟨g, cap, cur, e1, h1, h2, h3⟩
  exact ⟨g, cap, cur, e1, h1, k.at h2 (by simp), h3⟩

set_option maxHeartbeats 1000000 in
set_option maxRecDepth 20000 in
theorem lents_any (t : Tr) (ih : ∀ k ∈ t.kids, LentDoes k) (kv : Value) (w : World) (hI : IsF w t kv) (hs : t.size ≤ 1099511627776) :
    Calls Tryz.prog 32 #[kv] w fun e w' => ∃ b, e = .returned (.slice (some ⟨b, 0, none⟩) t.kids.length (t.kids.length + 1)) ∧ IsL (fun k => w.heap.size ≤ k) w' t (.slice (some ⟨b, 0, none⟩) t.kids.length (t.kids.length + 1)) ∧ Kept [] w w' := by
  obtain ⟨kad, kcap, rfl⟩ := hI.slice
  have HI : Hid (IsT (fun k => k < w.heap.size) w t (.slice kad t.kids.length kcap)) := hI
  have HIH : Hid _ := fun k hk => ih k hk
  have hlen : t.kids.length ≤ 1099511627776 := by have := t.kids_size; omega
  have hmk := make_lent w t.kids.length hlen
  obtain ⟨inf, hi1, hi2, hi3, hi4⟩ := info_parts Tryz.infoFor
  have HINF : Hid (Tryz.prog.info? 27 = some inf ∧ inf.size = 3) := ⟨hi1, hi3⟩
  have HST : Hid _ := lent_start w t hlen
  clear hI ih hi1 hi2 hi3 hi4
  go_enter Tryz.func32, Tryz.ntmps32
  go_wp2
  clear hmk
  go_loopw [3, 4] (fun v3 v4 wr => ∃ i : Nat, v3 = .slice (some ⟨w.heap.size, 0, none⟩) i (t.kids.length + 1) ∧ v4 = .int .i64 (i : Nat) ∧ i ≤ t.kids.length ∧ Hid (LentAt w t w.heap.size i wr)) (fun _ v4 _ => t.kids.length - (intOf v4).toNat)
  case atStart => exact ⟨0, rfl, rfl, Nat.zero_le _, HST.out⟩
  case round =>
    obtain ⟨i, rfl, rfl, hi, HR⟩ := hrel
    clear HST
    by_cases hlt : i < t.kids.length
    · have hli : (i : Int) < (t.kids.length : Int) := by omega
      obtain ⟨kb, koff, rfl, _, hkid⟩ := HI.out.kid (by omega)
      obtain ⟨kv, c0, c1, c2, hIk⟩ := hkid i hlt
      obtain ⟨ckad, ckcap, rfl⟩ := hIk.slice
      obtain ⟨k, hk⟩ : ∃ k, t.kids[i] = k := ⟨_, rfl⟩
      have hkm : k ∈ t.kids := by rw [← hk]; exact List.getElem_mem _
      rw [hk] at c0 c1 c2 hIk
      have kw : Kept [] w wr := HR.out.kept
      have c0 := cell_kept0 kw c0
      have c1 := cell_kept0 kw c1
      have c2 := cell_kept0 kw c2
      have HREC : Hid _ := fun (_ : Unit) => HIH.out k hkm (.slice ckad k.kids.length ckcap) wr (IsF.kept hIk kw) (by have := Tr.kid_size hkm; omega)
      have HKK : Hid _ := hk
      obtain ⟨xs, hrow, hxs⟩ := HR.out.row
      have HRW : Hid _ := fun (_ : Unit) => hrow
      have HXS : Hid _ := hxs
      clear hkid hk hIk hkm kw hrow hxs
      go_wp2_with (first
        | (go_at_call 11; refine (HREC.out ()).mono ?_; rintro e W5 ⟨b, rfl, hI5, hk5⟩; have HI5 : Hid _ := fun (_ : Unit) => hI5; have HK5 : Hid (Kept [] wr W5) := hk5; clear hI5 hk5)
        | (at_builtin; refine wpList_append_fits _ rfl _ _ 25 rfl w.heap.size 27 inf 3 Tryz.underlying25 HINF.out.1 HINF.out.2 w.heap.size i (t.kids.length + 1) xs rfl (own_kept (own_kept (HRW.out ()) HK5.out) ((Kept.refl [] _).alloc _)) ⟨W5.heap.size, 0, none⟩ 1 1 [.int .u8 (k.op : Nat), .string k.name, .slice (some ⟨b, 0, none⟩) k.kids.length (k.kids.length + 1)] rfl rfl (World.news_of_block (cs := #[.int .u8 (k.op : Nat), .string k.name, .slice (some ⟨b, 0, none⟩) k.kids.length (k.kids.length + 1)]) (t := 27) (fr := (0, 0)) (heap_alloc_new W5 _)) (by simp [Value.oneCell']) (by omega) ?_; intro W6 hr6 hg6; have HR6 : Hid _ := fun (_ : Unit) => hr6; have HG6 : Hid _ := fun (_ : Unit) => hg6; clear hr6 hg6))
      go_roundw
      case rel =>
        refine ⟨i + 1, rfl, by go_num, by omega, ?_⟩
        have hk := HKK.out
        subst hk
        exact lent_put HR.out hlt (Nat.le_refl _) HK5.out _ (HI5.out ()) (own_kept (HRW.out ()) HK5.out) HXS.out (HR6.out ()) (HG6.out ())
      case measure => simp [intOf]; omega
    · obtain rfl : i = t.kids.length := by omega
      have hli : ¬ ((t.kids.length : Int) < (t.kids.length : Int)) := by omega
      obtain ⟨xs, hrow, hxs⟩ := HR.out.row
      have HRW : Hid _ := fun (_ : Unit) => hrow
      have HXS : Hid _ := hxs
      clear hrow hxs
      go_wp2_with (at_builtin; refine wpList_append_fits _ rfl _ _ 25 rfl w.heap.size 27 inf 3 Tryz.underlying25 HINF.out.1 HINF.out.2 w.heap.size t.kids.length (t.kids.length + 1) xs rfl (own_kept (HRW.out ()) ((Kept.refl [] _).alloc _)) ⟨wr.heap.size, 0, none⟩ 1 1 [.int .u8 0, .string owners, .slice none 0 0] rfl rfl (World.news_of_block (cs := #[.int .u8 0, .string owners, .slice none 0 0]) (t := 27) (fr := (0, 0)) (heap_alloc_new wr _)) (by simp [Value.oneCell']) (by omega) ?_; intro W6 hr6 hg6; have HR6 : Hid _ := fun (_ : Unit) => hr6; have HG6 : Hid _ := fun (_ : Unit) => hg6; clear hr6 hg6)
      have he := lent_end HR.out (Nat.le_refl _) (HRW.out ()).1 HXS.out (HR6.out ()) (HG6.out ())
      go_ret
      exact ⟨_, rfl, he.1, he.2⟩

set_option maxHeartbeats 1000000 in
set_option maxRecDepth 20000 in
theorem lent_any (t : Tr) : LentDoes t := by
  induction t using Tr.ind with
  | h t ih =>
    intro kv w hI hs
    have HL : Hid _ := fun W (k : Kept [] w W) => lents_any t ih kv W (hI.kept k) hs
    obtain ⟨kad, kcap, rfl⟩ := hI.slice
    obtain ⟨V, hV⟩ : ∃ V, (w.alloc (.cells #[.int .u8 (t.op : Nat), .string t.name, .slice kad t.kids.length kcap] 27)).alloc (.cells #[.int .u8 0, .string ⟨#[]⟩, .slice none 0 0] 27) = V := ⟨_, rfl⟩
    have HKV : Hid (Kept [] w V) := by show Kept [] w V; rw [← hV]; exact ((Kept.refl [] w).alloc _).alloc _
    have HB0 : Hid (For3 V w.heap.size (.int .u8 (t.op : Nat)) (.string t.name) (.slice kad t.kids.length kcap)) := by show For3 V _ _ _ _; rw [← hV]; exact alUp (al0 _ _) _
    have HB1 : Hid (For3 V (w.heap.size + 1) (.int .u8 0) (.string ⟨#[]⟩) (.slice none 0 0)) := by show For3 V _ _ _ _; rw [← hV]; exact al1 _ _ _
    have hz : V.heap.size = w.heap.size + 1 + 1 := by rw [← hV]; simp
    obtain ⟨U, hU⟩ : ∃ U, w.alloc (.cells #[.int .u8 (t.op : Nat), .string t.name, .slice kad t.kids.length kcap] 27) = U := ⟨_, rfl⟩
    have HBU : Hid (For3 U w.heap.size (.int .u8 (t.op : Nat)) (.string t.name) (.slice kad t.kids.length kcap)) := by show For3 U _ _ _ _; rw [← hU]; exact al0 _ _
    have HKU : Hid (Kept [] U V) := by show Kept [] U V; rw [← hV, ← hU]; exact (Kept.refl [] _).alloc _
    have hzu : U.heap.size = w.heap.size + 1 := by rw [← hU]; simp
    have HV : Hid _ := hV
    clear hU
    clear hI ih hV
    go_enter Tryz.func11, Tryz.ntmps11
    go_upto_region 1 with fail
    rw [HV.out]
    clear HV
    obtain ⟨c0, c1, c2, _⟩ := HB0.out.cells
    go_region_held3 (fun w' => w'.cell? ⟨w.heap.size, 0, none⟩ = some (.int .u8 (t.op : Nat)) ∧ w'.cell? ⟨w.heap.size, 1, none⟩ = some (.string t.name) ∧ w'.cell? ⟨w.heap.size, 2, none⟩ = some (.slice kad t.kids.length kcap))
      ((refine uS_of HBU.out ?_; (repeat (first | with_reducible exact HKU.out | with_reducible refine Kept.drew ?_ | refine Kept.setCell ?_ (Or.inr (by dsimp only; omega)) _ | with_reducible refine Kept.trans (F := []) (G := []) (H := []) ?_ HKa.out (by simp) (by simp)))))
      ((go_at_call 32; refine (HL.out _ (by (repeat (first | with_reducible exact HKV.out | with_reducible refine Kept.drew ?_)))).mono ?_; rintro e Wa ⟨b, rfl, hLa, ka⟩; have hB1 : For3 Wa (w.heap.size + 1) (.int .u8 0) (.string ⟨#[]⟩) (.slice none 0 0) := For3.kept (W := V.drew) HB1.out ka; obtain ⟨d0, d1, d2, df⟩ := hB1.cells; have HB1a : Hid (For3 Wa (w.heap.size + 1) (.int .u8 0) (.string ⟨#[]⟩) (.slice none 0 0)) := hB1; have HLa : Hid _ := fun (_ : Unit) => hLa; have HKa : Hid _ := ka; clear ka hLa hB1))
    all_goals go_wp2
    all_goals exact lent_ret (HLa.out ()) HB1a.out HKV.out HKa.out hz rfl rfl
end Go.Proofs.YtdkcakfofikldaaGreatDoor
