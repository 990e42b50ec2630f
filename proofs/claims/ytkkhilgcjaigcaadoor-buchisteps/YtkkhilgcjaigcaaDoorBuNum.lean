/- package buchi: numbering.number at the spots (0, 0) and (0, 1). -/
import Derived.Test.YtkkhilgcjaigcaaDoorBuBox
import Derived.MapKept
namespace Go.Proofs.YtkkhilgcjaigcaaDoor
open Go.RowKit Go.Shelf

def spotV (p : Nat) : Value := .agg #[.int .i64 0, .int .i64 (p : Nat)]
def ents0 : Array MapEntry := #[]
def ents1 (c : Nat) : Array MapEntry := #[⟨spotV 0, .int .i64 0, c⟩]
def ents2 (c d : Nat) : Array MapEntry := #[⟨spotV 0, .int .i64 0, c⟩, ⟨spotV 1, .int .i64 1, d⟩]
theorem look_none (W : World) (M ck : Nat) (h : W.heap[M]? = some (.map ents0 ck)) : (Instr.lookup 97 (.map (some M)) (spotV 0) true).run Tryd.prog W = .ok (.tuple #[.int .i64 0, .bool false]) W := by
  have hg := run_getObj_map (P := Tryd.prog) W M _ _ h
  have hu : (underlying 97).run Tryd.prog W = .ok (.map 114 3) W := by kernel_rfl
  have hck : (Instr.checkKey true 10000 114 (spotV 0)).run Tryd.prog W = .ok () W := by kernel_rfl
  have hf : (Instr.findKey 114 (spotV 0) []).run Tryd.prog W = .ok none W := by kernel_rfl
  have hz : (zeroValue 3).run Tryd.prog W = .ok (.int .i64 0) W := by kernel_rfl
  unfold Instr.lookup
  simp [hu, hg, ents0, hck, hf, hz]
theorem look_one (W : World) (M ck c : Nat) (h : W.heap[M]? = some (.map (ents1 c) ck)) : (Instr.lookup 97 (.map (some M)) (spotV 0) true).run Tryd.prog W = .ok (.tuple #[.int .i64 0, .bool true]) W := by
  have hg := run_getObj_map (P := Tryd.prog) W M _ _ h
  have hu : (underlying 97).run Tryd.prog W = .ok (.map 114 3) W := by kernel_rfl
  have hck : (Instr.checkKey false 10000 114 (spotV 0)).run Tryd.prog W = .ok () W := by kernel_rfl
  have hf : (Instr.findKey 114 (spotV 0) [⟨spotV 0, .int .i64 0, c⟩]).run Tryd.prog W = .ok (some (0, .int .i64 0)) W := by kernel_rfl
  unfold Instr.lookup
  simp [hu, hg, ents1, hck, hf]
theorem look_two (W : World) (M ck c : Nat) (h : W.heap[M]? = some (.map (ents1 c) ck)) : (Instr.lookup 97 (.map (some M)) (spotV 1) true).run Tryd.prog W = .ok (.tuple #[.int .i64 0, .bool false]) W := by
  have hg := run_getObj_map (P := Tryd.prog) W M _ _ h
  have hu : (underlying 97).run Tryd.prog W = .ok (.map 114 3) W := by kernel_rfl
  have hck : (Instr.checkKey false 10000 114 (spotV 1)).run Tryd.prog W = .ok () W := by kernel_rfl
  have hf : (Instr.findKey 114 (spotV 1) [⟨spotV 0, .int .i64 0, c⟩]).run Tryd.prog W = .ok none W := by kernel_rfl
  have hz : (zeroValue 3).run Tryd.prog W = .ok (.int .i64 0) W := by kernel_rfl
  unfold Instr.lookup
  simp [hu, hg, ents1, hck, hf, hz]
def mapSet (W : World) (M : Nat) (o : Obj) : World := { W with heap := W.heap.setIfInBounds M o }
theorem upd_none (W : World) (M ck : Nat) (h : W.heap[M]? = some (.map ents0 ck)) : (Instr.mapUpdate 97 (.map (some M)) (spotV 0) (.int .i64 0)).run Tryd.prog W = .ok () (mapSet W M (.map (ents1 ck) (ck + 1))) := by
  have hg := run_getObj_map (P := Tryd.prog) W M _ _ h
  have hu : (underlying 97).run Tryd.prog W = .ok (.map 114 3) W := by kernel_rfl
  have hck : (Instr.checkKey false 10000 114 (spotV 0)).run Tryd.prog W = .ok () W := by kernel_rfl
  have hf : (Instr.findKey 114 (spotV 0) []).run Tryd.prog W = .ok none W := by kernel_rfl
  have hs := MapKept.run_setObj_map (P := Tryd.prog) (w := W) (Obj.map (ents1 ck) (ck + 1)) h
  unfold Instr.mapUpdate
  unfold ents1 at hs
  simp [hu, hg, ents0, hck, hf, hs]
  rfl
theorem upd_one (W : World) (M ck c : Nat) (h : W.heap[M]? = some (.map (ents1 c) ck)) : (Instr.mapUpdate 97 (.map (some M)) (spotV 1) (.int .i64 1)).run Tryd.prog W = .ok () (mapSet W M (.map (ents2 c ck) (ck + 1))) := by
  have hg := run_getObj_map (P := Tryd.prog) W M _ _ h
  have hu : (underlying 97).run Tryd.prog W = .ok (.map 114 3) W := by kernel_rfl
  have hck : (Instr.checkKey false 10000 114 (spotV 1)).run Tryd.prog W = .ok () W := by kernel_rfl
  have hf : (Instr.findKey 114 (spotV 1) [⟨spotV 0, .int .i64 0, c⟩]).run Tryd.prog W = .ok none W := by kernel_rfl
  have hs := MapKept.run_setObj_map (P := Tryd.prog) (w := W) (Obj.map (ents2 c ck) (ck + 1)) h
  unfold Instr.mapUpdate
  unfold ents2 at hs
  simp [hu, hg, ents1, hck, hf, hs]
  rfl
theorem mapSet_kept {W : World} {M : Nat} {o : Obj} : Kept [M] W (mapSet W M o) :=
  ⟨rfl, rfl, rfl, by simp [mapSet], fun k _ hn => by
    show (W.heap.setIfInBounds M o)[k]? = W.heap[k]?
    rw [Array.getElem?_setIfInBounds_ne (by simp at hn; omega)]⟩
theorem mapSet_at {W : World} {M : Nat} {o o' : Obj} (h : W.heap[M]? = some o') : (mapSet W M o).heap[M]? = some o := by
  show (W.heap.setIfInBounds M o)[M]? = some o
  rw [Array.getElem?_setIfInBounds_self_of_lt (lt_of h)]
theorem FBox.mapSet {w0 W : World} {F : Nat} {T : TypeId} {vs : List Value} {rs : List (Option Rw)} {M ck : Nat} {es : Array MapEntry} (h : FBox w0 W F T vs rs) (hM : W.heap[M]? = some (.map es ck)) (h0 : w0.heap.size ≤ M) (o : Obj) : FBox w0 (mapSet W M o) F T vs rs := by
  have k : Kept [M] W (Go.Proofs.YtkkhilgcjaigcaaDoor.mapSet W M o) := mapSet_kept
  have hne : F ≠ M := fun e => by subst e; rw [h.box] at hM; cases hM
  refine ⟨h.base, h.kept.trans k (by simp) (by simpa using h0), k.at h.box (by simpa using hne), fun i r v h1 h2 => bx_kept (h.own i r v h1 h2) k (fun g e hg => ?_), h.apart⟩
  simp at hg
  subst hg
  rcases (h.own i r v h1 h2).2 with ⟨rfl, _⟩ | ⟨g', cap, cur, rfl, hb, hw, _⟩
  · cases e
  · cases e; rw [hw] at hM; cases hM
set_option maxHeartbeats 2000000 in
set_option maxRecDepth 10000 in
theorem number_new (n : Nat) (hn : n ≤ 1000) (es es' : Array MapEntry) (ck F M : Nat) (T : TypeId) (w0 w : World) (kv : Value) (tl : List Value) (ks : List Value) (rt : List (Option Rw))
    (hL : ∀ W : World, W.heap[M]? = some (.map es ck) → (Instr.lookup 97 (.map (some M)) (spotV n) true).run Tryd.prog W = .ok (.tuple #[.int .i64 0, .bool false]) W)
    (hU : ∀ W : World, W.heap[M]? = some (.map es ck) → (Instr.mapUpdate 97 (.map (some M)) (spotV n) (.int .i64 (n : Nat))).run Tryd.prog W = .ok () (mapSet W M (.map es' (ck + 1))))
    (h : FBox w0 w F T (.map (some M) :: kv :: tl) (none :: some ⟨114, 2, n, ks⟩ :: rt)) (hM : w.heap[M]? = some (.map es ck)) (hM0 : w0.heap.size ≤ M) :
    Calls Tryd.prog 92 #[.pointer (some ⟨F, 0, none⟩), spotV n] w fun e w' => e = .returned (.int .i64 (n : Nat)) ∧ ∃ kv', Hid (FBox w0 w' F T (.map (some M) :: kv' :: tl) (none :: some ⟨114, 2, n + 1, ks ++ [.int .i64 0, .int .i64 (n : Nat)]⟩ :: rt)) ∧ Hid (w'.heap[M]? = some (.map es' (ck + 1))) ∧ Hid (∀ b o, w.heap[b]? = some o → b ≠ F → b ≠ M → kv.ownBlock ≠ some b → w'.heap[b]? = some o) ∧ Hid ((∀ g, kv'.ownBlock = some g → kv.ownBlock = some g ∨ w.heap.size ≤ g) ∧ w.heap.size ≤ w'.heap.size) := by
  obtain ⟨ka, kc, rfl⟩ : ∃ ka kc, kv = .slice ka n kc := by
    rcases (h.own 1 _ kv rfl rfl).2 with ⟨rfl, h0⟩ | ⟨g, cap, cur, rfl, _⟩
    · exact ⟨none, 0, by rw [show n = 0 from h0]⟩
    · exact ⟨_, _, rfl⟩
  unfold spotV at hL hU ⊢
  obtain ⟨V, hV⟩ : ∃ V, w.alloc (.cells #[.int .i64 0, .int .i64 (n : Nat)] 114) = V := ⟨_, rfl⟩
  have hkV : Kept [] w V := by rw [← hV]; exact (Kept.refl [] w).alloc _
  have hbV : V.heap[w.heap.size]? = some (.cells #[.int .i64 0, .int .i64 (n : Nat)] 114 (0, 0)) := by rw [← hV]; exact al0 _ _
  have kd : Kept [] V V.drew := (Kept.refl [] V).drew
  have hMV : V.heap[M]? = some (.map es ck) := hkV.at hM (by simp)
  have HFV : Hid (FBox w0 V F T (.map (some M) :: .slice ka n kc :: tl) (none :: some ⟨114, 2, n, ks⟩ :: rt)) := h.go hkV
  have c0 : V.cell? ⟨F, 0, none⟩ = some (.map (some M)) := (HFV.out.cell (i := 0) rfl).1
  have c1 : V.cell? ⟨F, 1, none⟩ = some (.slice ka n kc) := (HFV.out.cell (i := 1) rfl).1
  have x0 : V.cell? ⟨w.heap.size, 0, none⟩ = some (.int .i64 0) := (cell_of hbV 0).trans rfl
  have x1 : V.cell? ⟨w.heap.size, 1, none⟩ = some (.int .i64 (n : Nat)) := (cell_of hbV 1).trans rfl
  have hl := hL V.drew (kd.at hMV (by simp))
  obtain ⟨Bk, hBk⟩ : ∃ Bk, w.heap.size = Bk := ⟨_, rfl⟩
  have HV : Hid (w.alloc (.cells #[.int .i64 0, .int .i64 (n : Nat)] 114) = V) := hV
  have HO1 : Hid (∀ b o, w.heap[b]? = some o → V.heap[b]? = some o) := fun b o hb => hkV.at hb (by simp)
  have HS1 : Hid (w.heap.size ≤ V.heap.size) := hkV.size
  rw [hBk] at x0 x1
  clear hV h hM hkV
  go_enter Tryd.func92, Tryd.ntmps92
  go_upto_region 1 with fail
  rw [HV.out]
  go_region
  obtain ⟨Y, hY⟩ : ∃ Y, V.drew = Y := ⟨_, rfl⟩
  have kY : Kept [] V Y := by rw [← hY]; exact kd
  rw [hY]
  have HFY : Hid (FBox w0 Y F T (.map (some M) :: .slice ka n kc :: tl) (none :: some ⟨114, 2, n, ks⟩ :: rt)) := HFV.out.go kY
  have hMY : Y.heap[M]? = some (.map es ck) := kY.at hMV (by simp)
  have HBY : Hid (Y.heap[Bk]? = some (.cells #[.int .i64 0, .int .i64 (n : Nat)] 114 (0, 0))) := by rw [← hBk]; exact kY.at hbV (by simp)
  have kdY : Kept [] Y Y.drew := (Kept.refl [] Y).drew
  have hu := hU Y.drew (kdY.at hMY (by simp))
  obtain ⟨Z, hZ⟩ : ∃ Z, mapSet Y.drew M (.map es' (ck + 1)) = Z := ⟨_, rfl⟩
  have HFZ : Hid (FBox w0 Z F T (.map (some M) :: .slice ka n kc :: tl) (none :: some ⟨114, 2, n, ks⟩ :: rt)) := by show FBox _ Z _ _ _ _; rw [← hZ]; exact (HFY.out.go kdY).mapSet (kdY.at hMY (by simp)) hM0 _
  have HMZ : Hid (Z.heap[M]? = some (.map es' (ck + 1))) := by show Z.heap[M]? = _; rw [← hZ]; exact mapSet_at (kdY.at hMY (by simp))
  have HBZ : Hid (Z.heap[Bk]? = some (.cells #[.int .i64 0, .int .i64 (n : Nat)] 114 (0, 0))) := by
    show Z.heap[Bk]? = _
    rw [← hZ]
    exact mapSet_kept.at (kdY.at HBY.out (by simp)) (fun e => by simp at e; subst e; rw [HBY.out] at hMY; cases hMY)
  have HO2 : Hid (∀ b o, w.heap[b]? = some o → b ≠ M → Z.heap[b]? = some o) := by
    show ∀ b o, w.heap[b]? = some o → b ≠ M → Z.heap[b]? = some o
    intro b o hb hM'
    rw [← hZ]
    exact mapSet_kept.at (kdY.at (kY.at (HO1.out b o hb) (by simp)) (by simp)) (by simpa using hM')
  have HS2 : Hid (w.heap.size ≤ Z.heap.size) := by show _ ≤ Z.heap.size; rw [← hZ]; exact Nat.le_trans HS1.out (Nat.le_trans kY.size (Nat.le_trans kdY.size mapSet_kept.size))
  rw [hZ] at hu
  clear hZ HO1 HS1 c0 c1 x0 x1 hl kd hY kY HFV hMV hbV hU hL hMY kdY
  have c0 : Y.cell? ⟨F, 0, none⟩ = some (.map (some M)) := (HFY.out.cell (i := 0) rfl).1
  have c1 : Y.cell? ⟨F, 1, none⟩ = some (.slice ka n kc) := (HFY.out.cell (i := 1) rfl).1
  have x0 : Y.cell? ⟨Bk, 0, none⟩ = some (.int .i64 0) := (cell_of HBY.out 0).trans rfl
  have x1 : Y.cell? ⟨Bk, 1, none⟩ = some (.int .i64 (n : Nat)) := (cell_of HBY.out 1).trans rfl
  go_upto_region 4 with fail
  go_region
  clear c0 c1 x0 x1 hu HFY HBY
  have c0 : Z.cell? ⟨F, 0, none⟩ = some (.map (some M)) := (HFZ.out.cell (i := 0) rfl).1
  have c1 : Z.cell? ⟨F, 1, none⟩ = some (.slice ka n kc) := (HFZ.out.cell (i := 1) rfl).1
  have x0 : Z.cell? ⟨Bk, 0, none⟩ = some (.int .i64 0) := (cell_of HBZ.out 0).trans rfl
  have x1 : Z.cell? ⟨Bk, 1, none⟩ = some (.int .i64 (n : Nat)) := (cell_of HBZ.out 1).trans rfl
  have kQ : Kept [] Z (Z.alloc (.cells #[.int .i64 0, .int .i64 (n : Nat)] 114)).drew := ((Kept.refl [] Z).alloc _).drew
  have hbQ : (Z.alloc (.cells #[.int .i64 0, .int .i64 (n : Nat)] 114)).drew.heap[Z.heap.size]? = some (.cells #[.int .i64 0, .int .i64 (n : Nat)] 114 (0, 0)) := al0 Z _
  have c1a : (Z.alloc (.cells #[.int .i64 0, .int .i64 (n : Nat)] 114)).cell? ⟨F, 1, none⟩ = some (.slice ka n kc) := cell_kept0 ((Kept.refl [] Z).alloc _) c1
  obtain ⟨gr, cap, w3, hrun, hb3, hf3, hm3, ht3, hs3⟩ := (HFZ.out.go kQ).app (i := 1) (r := ⟨114, 2, n, ks⟩) rfl rfl 98 _ (.agg #[.int .i64 0, .int .i64 0]) 16 Tryd.underlying98 rfl rfl rfl rfl rfl (by show 0 < 2; decide) ⟨Z.heap.size, 0, none⟩ 1 1 [.int .i64 0, .int .i64 (n : Nat)] rfl (fun j u hu => by
      rw [show (Addr.add ⟨Z.heap.size, 0, none⟩ j) = ⟨Z.heap.size, j, none⟩ from by simp [Addr.add]; exact fun e => e.symm]
      rw [cell_of hbQ]
      simpa using hu) (by intro u hu; simp at hu; rcases hu with rfl | rfl <;> rfl) (by decide) (by show n + 1 ≤ maxLen; unfold maxLen; omega) (by show (n + 1) * 16 ≤ _; omega)
  have HRUN : Hid (∀ ty, (Builtin.append_ #[98, 98] ty #[.slice ka n kc, .slice (some ⟨Z.heap.size, 0, none⟩) 1 1]).run Tryd.prog (Z.alloc (.cells #[.int .i64 0, .int .i64 (n : Nat)] 114)).drew = .ok (.slice (some ⟨gr, 0, none⟩) (n + 1) cap) w3) := hrun
  have d1 : w3.cell? ⟨F, 1, none⟩ = some (.slice ka n kc) := by rw [cell_of hb3]; rfl
  have d2 : w3.frozen? ⟨F, 1, none⟩ = false := free_of hb3 1
  have HF3 : Hid (FBox w0 (w3.setCell ⟨F, 1, none⟩ (.slice (some ⟨gr, 0, none⟩) (n + 1) cap)) F T (.map (some M) :: .slice (some ⟨gr, 0, none⟩) (n + 1) cap :: tl) (none :: some ⟨114, 2, n + 1, ks ++ [.int .i64 0, .int .i64 (n : Nat)]⟩ :: rt)) := hf3
  have HM3 : Hid ((w3.setCell ⟨F, 1, none⟩ (.slice (some ⟨gr, 0, none⟩) (n + 1) cap)).heap[M]? = some (.map es' (ck + 1))) := hm3 M _ (kQ.at HMZ.out (by simp)) (fun e => by subst e; have := HFZ.out.box; rw [HMZ.out] at this; cases this) (fun e => by
    rcases (HFZ.out.own 1 _ _ rfl rfl).2 with ⟨h1, _⟩ | ⟨g', cap', cur, h1, hb, hw, _⟩
    · rw [h1] at e; cases e
    · rw [h1] at e; cases e; rw [HMZ.out] at hw; cases hw)
  have HO3 : Hid (∀ b o, w.heap[b]? = some o → b ≠ F → b ≠ M → (Value.slice ka n kc).ownBlock ≠ some b → (w3.setCell ⟨F, 1, none⟩ (.slice (some ⟨gr, 0, none⟩) (n + 1) cap)).heap[b]? = some o) := fun b o hb h1 h2 h3 => hm3 b o (kQ.at (HO2.out b o hb h2) (by simp)) h1 h3
  have HT3 : Hid ((∀ g, (Value.slice (some ⟨gr, 0, none⟩) (n + 1) cap).ownBlock = some g → (Value.slice ka n kc).ownBlock = some g ∨ w.heap.size ≤ g) ∧ w.heap.size ≤ (w3.setCell ⟨F, 1, none⟩ (.slice (some ⟨gr, 0, none⟩) (n + 1) cap)).heap.size) := by
    have q1 := HS2.out
    have q2 := kQ.size
    refine ⟨fun g e => ?_, ?_⟩
    · cases e
      exact ht3.imp id (fun q => Nat.le_trans (Nat.le_trans q1 q2) q)
    · simp [World.setCell]; omega
  clear hrun hb3 hf3 hm3 ht3 hs3 kQ hbQ HO2 HS2
  go_upto_region 5 with fail
  go_region_law (refine bx_append_run rfl _ _ _ rfl _ _ _ _ rfl rfl (HRUN.out _) ?_)
  all_goals go_wp2_with fail
  all_goals go_ret
  all_goals exact ⟨rfl, _, HF3, HM3, HO3, HT3⟩
set_option maxHeartbeats 2000000 in
set_option maxRecDepth 10000 in
theorem number_old (n k : Nat) (es : Array MapEntry) (ck F M : Nat) (w : World)
    (hL : ∀ W : World, W.heap[M]? = some (.map es ck) → (Instr.lookup 97 (.map (some M)) (spotV n) true).run Tryd.prog W = .ok (.tuple #[.int .i64 (k : Nat), .bool true]) W)
    (hc : w.cell? ⟨F, 0, none⟩ = some (.map (some M))) (hM : w.heap[M]? = some (.map es ck)) :
    Calls Tryd.prog 92 #[.pointer (some ⟨F, 0, none⟩), spotV n] w fun e w' => e = .returned (.int .i64 (k : Nat)) ∧ Kept [] w w' := by
  unfold spotV at hL ⊢
  obtain ⟨V, hV⟩ : ∃ V, w.alloc (.cells #[.int .i64 0, .int .i64 (n : Nat)] 114) = V := ⟨_, rfl⟩
  have hkV : Kept [] w V := by rw [← hV]; exact (Kept.refl [] w).alloc _
  have hbV : V.heap[w.heap.size]? = some (.cells #[.int .i64 0, .int .i64 (n : Nat)] 114 (0, 0)) := by rw [← hV]; exact al0 _ _
  have kd : Kept [] V V.drew := (Kept.refl [] V).drew
  have HK : Hid (Kept [] w V.drew) := keptB hkV kd
  have c0 : V.cell? ⟨F, 0, none⟩ = some (.map (some M)) := cell_kept0 hkV hc
  have x0 : V.cell? ⟨w.heap.size, 0, none⟩ = some (.int .i64 0) := (cell_of hbV 0).trans rfl
  have x1 : V.cell? ⟨w.heap.size, 1, none⟩ = some (.int .i64 (n : Nat)) := (cell_of hbV 1).trans rfl
  have hl := hL V.drew (kd.at (hkV.at hM (by simp)) (by simp))
  have HV : Hid (w.alloc (.cells #[.int .i64 0, .int .i64 (n : Nat)] 114) = V) := hV
  clear hV hM hkV hL hbV kd hc
  go_enter Tryd.func92, Tryd.ntmps92
  go_upto_region 1 with fail
  rw [HV.out]
  go_region
  go_wp2_with fail
  go_ret
  exact ⟨rfl, HK.out⟩
end Go.Proofs.YtkkhilgcjaigcaaDoor
