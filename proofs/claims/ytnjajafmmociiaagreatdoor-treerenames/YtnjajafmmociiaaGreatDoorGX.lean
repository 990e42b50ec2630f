/- The laws' own trees: prop, one, two. -/
import Derived.Test.YtnjajafmmociiaaGreatDoorTrPut
namespace Go.Proofs.YtnjajafmmociiaaGreatDoor
open Go.RowKit Go.Shelf

/-- A tree in blocks from n on. -/
def IsN (n : Nat) (w : World) (t : Tr) (kv : Value) : Prop := IsT (fun k => n ≤ k) w t kv
theorem IsN.isF {n : Nat} {w : World} {t : Tr} {kv : Value} (h : IsN n w t kv) : IsF w t kv := IsT.isF h
theorem IsN.slice {n : Nat} {w : World} {t : Tr} {kv : Value} (h : IsN n w t kv) : ∃ ad cap, kv = .slice ad t.kids.length cap := IsT.slice h
theorem IsN.kept {n : Nat} {w w' : World} {t : Tr} {kv : Value} (h : IsN n w t kv) (k : Kept [] w w') : IsN n w' t kv := IsT.cells (fun _ h => h) (fun _ _ _ _ c => cell_kept0 k c) h
theorem isN_one {n : Nat} {W : World} {b o : Nat} {nm : ByteArray} {t : Tr} {kv : Value} (hb : W.heap[b]? = some (.cells #[.int .u8 (t.op : Nat), .string t.name, kv] 25 (0, 0))) (h : IsN n W t kv) (hn : n ≤ b) : IsN n W ⟨o, nm, [t]⟩ (.slice (some ⟨b, 0, none⟩) 1 1) := by
  refine (isT_eq (X := fun k => n ≤ k) ⟨o, nm, [t]⟩ _).2 ⟨_, _, rfl, .inr ⟨b, 0, rfl, hn, fun i hi => ?_⟩⟩
  obtain rfl : i = 0 := by simp at hi; omega
  exact ⟨kv, (cell_of hb 0).trans rfl, (cell_of hb 1).trans rfl, (cell_of hb 2).trans rfl, h⟩
theorem isN_two {n : Nat} {W : World} {b o : Nat} {nm : ByteArray} {t u : Tr} {kv lv : Value} (hb : W.heap[b]? = some (.cells #[.int .u8 (t.op : Nat), .string t.name, kv, .int .u8 (u.op : Nat), .string u.name, lv] 25 (0, 0))) (h : IsN n W t kv) (k : IsN n W u lv) (hn : n ≤ b) : IsN n W ⟨o, nm, [t, u]⟩ (.slice (some ⟨b, 0, none⟩) 2 2) := by
  refine (isT_eq (X := fun k => n ≤ k) ⟨o, nm, [t, u]⟩ _).2 ⟨_, _, rfl, .inr ⟨b, 0, rfl, hn, fun i hi => ?_⟩⟩
  have hi' : i < 2 := by simpa using hi
  match i, hi' with
  | 0, _ => exact ⟨kv, (cell_of hb 0).trans rfl, (cell_of hb 1).trans rfl, (cell_of hb 2).trans rfl, h⟩
  | 1, _ => exact ⟨lv, (cell_of hb 3).trans rfl, (cell_of hb 4).trans rfl, (cell_of hb 5).trans rfl, k⟩
set_option maxHeartbeats 400000 in
theorem lawProp_any (s : ByteArray) (w : World) : Calls Tryz.prog 26 #[.string s] w fun e w' => e = .returned (.agg #[.int .u8 3, .string s, .slice none 0 0]) ∧ Kept [] w w' := by
  go_enter Tryz.func26, Tryz.ntmps26
  go_wp2
  exact ret_for rfl rfl rfl (al0 _ _) ⟨rfl, (Kept.refl [] w).alloc _⟩
set_option maxHeartbeats 400000 in
theorem lawOne_any (n o : Nat) (t : Tr) (kv : Value) (w : World) (hI : IsN n w t kv) (hn : n ≤ w.heap.size) : Calls Tryz.prog 25 #[.int .u8 (o : Nat), .agg #[.int .u8 (t.op : Nat), .string t.name, kv]] w fun e w' => ∃ b, e = .returned (.agg #[.int .u8 (o : Nat), .string ⟨#[]⟩, .slice (some ⟨b, 0, none⟩) 1 1]) ∧ IsN n w' ⟨o, ⟨#[]⟩, [t]⟩ (.slice (some ⟨b, 0, none⟩) 1 1) ∧ Kept [] w w' := by
  obtain ⟨kad, kcap, rfl⟩ := hI.slice
  have HI : Hid (IsN n w t (.slice kad t.kids.length kcap)) := hI
  clear hI
  go_enter Tryz.func25, Tryz.ntmps25
  go_wp2
  exact ret_for rfl rfl rfl (show For3 _ (w.heap.size + 1) _ _ _ from alUp (al1 _ _ _) _) ⟨_, rfl, isN_one (al2 _ _ _ _) (HI.out.kept ((((Kept.refl [] w).alloc _).alloc _).alloc _)) (by omega), (((Kept.refl [] w).alloc _).alloc _).alloc _⟩
set_option maxHeartbeats 400000 in
theorem lawTwo_any (n o : Nat) (t u : Tr) (kv lv : Value) (w : World) (hI : IsN n w t kv) (hJ : IsN n w u lv) (hn : n ≤ w.heap.size) : Calls Tryz.prog 67 #[.int .u8 (o : Nat), .agg #[.int .u8 (t.op : Nat), .string t.name, kv], .agg #[.int .u8 (u.op : Nat), .string u.name, lv]] w fun e w' => ∃ b, e = .returned (.agg #[.int .u8 (o : Nat), .string ⟨#[]⟩, .slice (some ⟨b, 0, none⟩) 2 2]) ∧ IsN n w' ⟨o, ⟨#[]⟩, [t, u]⟩ (.slice (some ⟨b, 0, none⟩) 2 2) ∧ Kept [] w w' := by
  obtain ⟨kad, kcap, rfl⟩ := hI.slice
  obtain ⟨lad, lcap, rfl⟩ := hJ.slice
  have HI : Hid (IsN n w t (.slice kad t.kids.length kcap)) := hI
  have HJ : Hid (IsN n w u (.slice lad u.kids.length lcap)) := hJ
  clear hI hJ
  go_enter Tryz.func67, Tryz.ntmps67
  go_wp2
  exact ret_for rfl rfl rfl (show For3 _ (w.heap.size + 1 + 1) _ _ _ from alUp (al2 _ _ _ _) _) ⟨_, rfl, isN_two (al3 _ _ _ _ _) (HI.out.kept (((((Kept.refl [] w).alloc _).alloc _).alloc _).alloc _)) (HJ.out.kept (((((Kept.refl [] w).alloc _).alloc _).alloc _).alloc _)) (by omega), ((((Kept.refl [] w).alloc _).alloc _).alloc _).alloc _⟩
end Go.Proofs.YtnjajafmmociiaaGreatDoor

/- The chapter's example, as the laws make it. -/
namespace Go.Proofs.YtnjajafmmociiaaGreatDoor
open Go.RowKit Go.Shelf

def leafT (s : ByteArray) : Tr := ⟨3, s, []⟩
def bP : ByteArray := ⟨#[112]⟩
def bQ : ByteArray := ⟨#[113]⟩
def nextT : Tr := ⟨9, ⟨#[]⟩, [leafT bP]⟩
def andT : Tr := ⟨5, ⟨#[]⟩, [leafT bQ, nextT]⟩
def exT : Tr := ⟨12, ⟨#[]⟩, [leafT bP, andT]⟩
/-- Such a tree with its kids at b. -/
def AtB (m : Nat) (w : World) (t : Tr) (b n : Nat) : Prop := IsN m w t (.slice (some ⟨b, 0, none⟩) n n)
theorem AtB.kept {m : Nat} {w w' : World} {t : Tr} {b n : Nat} (h : AtB m w t b n) (k : Kept [] w w') : AtB m w' t b n := IsN.kept h k
theorem leaf_at (n : Nat) (w : World) (s : ByteArray) : IsN n w (leafT s) (.slice none 0 0) := IsT.leaf _ _ rfl _ _

theorem exProp (s : ByteArray) (w W : World) (k : Kept [] w W) : Calls Tryz.prog 26 #[.string s] W fun e w' => e = .returned (.agg #[.int .u8 3, .string s, .slice none 0 0]) ∧ Kept [] w w' :=
  (lawProp_any s W).mono fun _ _ h => ⟨h.1, k.trans h.2 (by simp) (by simp)⟩
theorem exNext (w W : World) (k : Kept [] w W) : Calls Tryz.prog 25 #[.int .u8 9, .agg #[.int .u8 3, .string ⟨#[112]⟩, .slice none 0 0]] W fun e w' => ∃ b, e = .returned (.agg #[.int .u8 9, .string ⟨#[]⟩, .slice (some ⟨b, 0, none⟩) 1 1]) ∧ AtB w.heap.size w' nextT b 1 ∧ Kept [] w w' :=
  (lawOne_any w.heap.size 9 (leafT bP) _ W (leaf_at _ W bP) k.size).mono fun _ _ ⟨b, h1, h2, h3⟩ => ⟨b, h1, h2, k.trans h3 (by simp) (by simp)⟩
theorem exAnd (w W : World) (c : Nat) (hc : AtB w.heap.size W nextT c 1) (k : Kept [] w W) : Calls Tryz.prog 67 #[.int .u8 5, .agg #[.int .u8 3, .string ⟨#[113]⟩, .slice none 0 0], .agg #[.int .u8 9, .string ⟨#[]⟩, .slice (some ⟨c, 0, none⟩) 1 1]] W fun e w' => ∃ b, e = .returned (.agg #[.int .u8 5, .string ⟨#[]⟩, .slice (some ⟨b, 0, none⟩) 2 2]) ∧ AtB w.heap.size w' andT b 2 ∧ Kept [] w w' :=
  (lawTwo_any w.heap.size 5 (leafT bQ) nextT _ _ W (leaf_at _ W bQ) hc k.size).mono fun _ _ ⟨b, h1, h2, h3⟩ => ⟨b, h1, h2, k.trans h3 (by simp) (by simp)⟩
theorem exUntil (w W : World) (c : Nat) (hc : AtB w.heap.size W andT c 2) (k : Kept [] w W) : Calls Tryz.prog 67 #[.int .u8 12, .agg #[.int .u8 3, .string ⟨#[112]⟩, .slice none 0 0], .agg #[.int .u8 5, .string ⟨#[]⟩, .slice (some ⟨c, 0, none⟩) 2 2]] W fun e w' => ∃ b, e = .returned (.agg #[.int .u8 12, .string ⟨#[]⟩, .slice (some ⟨b, 0, none⟩) 2 2]) ∧ AtB w.heap.size w' exT b 2 ∧ Kept [] w w' :=
  (lawTwo_any w.heap.size 12 (leafT bP) andT _ _ W (leaf_at _ W bP) hc k.size).mono fun _ _ ⟨b, h1, h2, h3⟩ => ⟨b, h1, h2, k.trans h3 (by simp) (by simp)⟩
end Go.Proofs.YtnjajafmmociiaaGreatDoor

/- The chapter's example: the walk. -/
namespace Go.Proofs.YtnjajafmmociiaaGreatDoor
open Go.RowKit Go.Shelf

set_option maxHeartbeats 1000000 in
theorem example_any (w : World) : Calls Tryz.prog 21 #[] w fun e w' => ∃ b, e = .returned (.agg #[.int .u8 12, .string ⟨#[]⟩, .slice (some ⟨b, 0, none⟩) 2 2]) ∧ AtB w.heap.size w' exT b 2 ∧ Kept [] w w' := by
  obtain ⟨V, hV⟩ : ∃ V, w.alloc (.cells #[.int .u8 0, .string ⟨#[]⟩, .slice none 0 0] 25) = V := ⟨_, rfl⟩
  have HV : Hid _ := hV
  have HKV : Hid (Kept [] w V) := by show Kept [] w V; rw [← hV]; exact (Kept.refl [] w).alloc _
  have HF : Hid (For3 V w.heap.size (.int .u8 0) (.string ⟨#[]⟩) (.slice none 0 0)) := by show For3 V _ _ _ _; rw [← hV]; exact al0 _ _
  have HP : Hid _ := fun s W k => exProp s V W k
  have HN : Hid _ := fun W k => exNext V W k
  have HA : Hid _ := fun W c h k => exAnd V W c h k
  have HU : Hid _ := fun W c h k => exUntil V W c h k
  have HK : Hid (Kept [] V V) := Kept.refl [] V
  clear hV
  go_enter Tryz.func21, Tryz.ntmps21
  go_wp2_with (first
    | (go_at_call 26; (first | rw [HV.out] | skip); refine (HP.out _ _ HK.out).mono ?_; clear HK; rintro e W ⟨rfl, hk⟩; have HK : Hid (Kept [] V W) := hk; clear hk)
    | (go_at_call 25; refine (HN.out _ HK.out).mono ?_; clear HK; rintro e W ⟨b4, rfl, ha4, hk⟩; have HK : Hid (Kept [] V W) := hk; have HA4 : Hid (AtB V.heap.size W nextT b4 1) := ha4; clear hk ha4)
    | (go_at_call 67; refine (HA.out _ _ HA4.out HK.out).mono ?_; clear HK HA4; rintro e W ⟨b5, rfl, ha5, hk⟩; have HK : Hid (Kept [] V W) := hk; have HA5 : Hid (AtB V.heap.size W andT b5 2) := ha5; clear hk ha5)
    | (go_at_call 67; refine (HU.out _ _ HA5.out HK.out).mono ?_; clear HK HA5; rintro e W ⟨b6, rfl, ha6, hk⟩; obtain ⟨d0, d1, d2, df⟩ := (HF.out.kept hk).cells; have HK : Hid (Kept [] V W) := hk; have HA6 : Hid (AtB V.heap.size W exT b6 2) := ha6; clear hk ha6))
  have hz : V.heap.size = w.heap.size + 1 := by rw [← HV.out]; simp
  have hn : ¬ (V.heap.size ≤ w.heap.size) := by omega
  have hI : IsT (fun k => V.heap.size ≤ k) W exT (.slice (some ⟨b6, 0, none⟩) 2 2) := HA6.out
  exact ret_for rfl rfl rfl ((HF.out.kept HK.out).set _ _ _) ⟨b6, rfl, (((hI.other hn _ _).other hn _ _).other hn _ _).mono (fun k h => by omega), kept_set3 (HKV.out.trans HK.out (by simp) (by simp)) (Nat.le_refl _) _ _ _⟩
end Go.Proofs.YtnjajafmmociiaaGreatDoor
