/- The columns N and D of the operators that have one kid. -/
import Derived.Test.YtddgciilcghbaaaDoorNnColsM
namespace Go.Proofs.YtddgciilcghbaaaDoor
open Go.RowKit Go.Shelf

theorem psz_leaf (o : Nat) : psz (nn0 o) = 1 := by unfold psz nn0; rw [Tr.size_eq]; rfl
theorem pdp_leaf (o : Nat) : pdp (nn0 o) = 1 := by unfold pdp nn0; rw [Tr.depth_eq]; rfl
theorem IsQ.leafs {X : Nat → Prop} (w : World) {t : Tr} (h : t.kids = []) (ad : Option Addr) (cap : Nat) : IsQ X w t (.slice ad t.kids.length cap) :=
  (isQ_eq t _).2 ⟨ad, cap, rfl, .inl (by rw [h]; rfl)⟩
set_option maxHeartbeats 4000000 in
set_option maxRecDepth 20000 in
theorem col_event (w0 : World) (Funtil FY Frelease FN : Nat) (huntil : FnAt w0 Funtil 138) (hY : Pl5 w0 FY (.int .u8 1) (.string nE) (.slice none 0 0) (.int .i64 1) (.int .i64 1)) (hrelease : FnAt w0 Frelease 139) (hN : Pl5 w0 FN (.int .u8 2) (.string nE) (.slice none 0 0) (.int .i64 1) (.int .i64 1)) : ColOne 146 #[.pointer (some ⟨Funtil, 0, none⟩), .pointer (some ⟨FY, 0, none⟩), .pointer (some ⟨Frelease, 0, none⟩), .pointer (some ⟨FN, 0, none⟩)] 10 w0 := by
  intro X a b a1 a2 a3 a4 w k0 hX ha
  obtain ⟨p, q⟩ := a
  obtain ⟨hp, hq⟩ := ha
  simp only [prA, zeroP]
  dsimp only at hp hq
  obtain ⟨pa, rfl⟩ : ∃ x, x = a1 := ⟨_, rfl⟩
  obtain ⟨pc, rfl⟩ : ∃ x, x = a2 := ⟨_, rfl⟩
  obtain ⟨qa, rfl⟩ : ∃ x, x = a3 := ⟨_, rfl⟩
  obtain ⟨qc, rfl⟩ : ∃ x, x = a4 := ⟨_, rfl⟩
  obtain ⟨pz, epz⟩ : ∃ x, psz p = x := ⟨_, rfl⟩
  obtain ⟨pd, epd⟩ : ∃ x, pdp p = x := ⟨_, rfl⟩
  obtain ⟨qz, eqz⟩ : ∃ x, psz q = x := ⟨_, rfl⟩
  obtain ⟨qd, eqd⟩ : ∃ x, pdp q = x := ⟨_, rfl⟩
  obtain ⟨z0, ez0⟩ : ∃ x, psz (nn2 12 (nn0 1) p) = x := ⟨_, rfl⟩
  obtain ⟨d0, ed0⟩ : ∃ x, pdp (nn2 12 (nn0 1) p) = x := ⟨_, rfl⟩
  obtain ⟨z1, ez1⟩ : ∃ x, psz (nn2 13 (nn0 2) q) = x := ⟨_, rfl⟩
  obtain ⟨d1, ed1⟩ : ∃ x, pdp (nn2 13 (nn0 2) q) = x := ⟨_, rfl⟩
  obtain ⟨V, hV⟩ : ∃ V, ((w.alloc (.cells #[.int .u8 (p.op : Nat), .string p.name, .slice pa p.kids.length pc, .int .i64 (pz : Nat), .int .i64 (pd : Nat), .int .u8 (q.op : Nat), .string q.name, .slice qa q.kids.length qc, .int .i64 (qz : Nat), .int .i64 (qd : Nat)] 95)).alloc (.cells #[.int .u8 0, .string ⟨#[]⟩, .slice none 0 0, .int .i64 0, .int .i64 0, .int .u8 0, .string ⟨#[]⟩, .slice none 0 0, .int .i64 0, .int .i64 0] 95)).alloc (.cells #[.int .u8 0, .string ⟨#[]⟩, .slice none 0 0, .int .i64 0, .int .i64 0, .int .u8 0, .string ⟨#[]⟩, .slice none 0 0, .int .i64 0, .int .i64 0] 95) = V := ⟨_, rfl⟩
  have kV : Kept [] w V := by rw [← hV]; exact (((Kept.refl [] w).alloc _).alloc _).alloc _
  have zV : V.heap.size = w.heap.size + 3 := by rw [← hV]; simp
  have v0 : Pr10 V w.heap.size (.int .u8 (p.op : Nat)) (.string p.name) (.slice pa p.kids.length pc) (.int .i64 (pz : Nat)) (.int .i64 (pd : Nat)) (.int .u8 (q.op : Nat)) (.string q.name) (.slice qa q.kids.length qc) (.int .i64 (qz : Nat)) (.int .i64 (qd : Nat)) := by rw [← hV]; exact alUp (alUp (al0 w _) _) _
  have v2 : Pr10 V (w.heap.size + 1 + 1) (.int .u8 0) (.string ⟨#[]⟩) (.slice none 0 0) (.int .i64 0) (.int .i64 0) (.int .u8 0) (.string ⟨#[]⟩) (.slice none 0 0) (.int .i64 0) (.int .i64 0) := by rw [← hV]; exact al2 w _ _ _
  have fb_until : V.cell? ⟨Funtil, 0, none⟩ = some (.func (.func 138) #[] #[]) := (huntil.kept k0).kept kV
  have nuntil : Funtil < w.heap.size := World.block_lt_of_cell? w _ (huntil.kept k0)
  obtain ⟨fb0Y, fb1Y, fb2Y, fb3Y, fb4Y, -⟩ := ((hY.kept k0).kept kV).cells
  have nY : FY < w.heap.size := lt_of (hY.kept k0)
  have fb_release : V.cell? ⟨Frelease, 0, none⟩ = some (.func (.func 139) #[] #[]) := (hrelease.kept k0).kept kV
  have nrelease : Frelease < w.heap.size := World.block_lt_of_cell? w _ (hrelease.kept k0)
  obtain ⟨fb0N, fb1N, fb2N, fb3N, fb4N, -⟩ := ((hN.kept k0).kept kV).cells
  have nN : FN < w.heap.size := lt_of (hN.kept k0)
  have hYY : ∀ W : World, V.heap.size ≤ W.heap.size → ∀ k, W.heap.size ≤ k → (fun b => X b ∧ b ≠ w.heap.size + 1 + 1) k := fun W hz k hk => ⟨hX k (by omega), by omega⟩
  have yp : IsQ (fun b => X b ∧ b ≠ w.heap.size + 1 + 1) V p (.slice pa p.kids.length pc) := hp.apart kV (by omega)
  have yq : IsQ (fun b => X b ∧ b ≠ w.heap.size + 1 + 1) V q (.slice qa q.kids.length qc) := hq.apart kV (by omega)
  have HJ0 : Hid (∀ (W : World), Kept [] V W → Calls Tryd.prog 138 #[.agg #[.int .u8 1, .string nE, .slice none 0 0, .int .i64 1, .int .i64 1], .agg #[.int .u8 (p.op : Nat), .string p.name, .slice pa p.kids.length pc, .int .i64 (pz : Nat), .int .i64 (pd : Nat)]] W fun e w' => ∃ g, e = .returned (.agg #[.int .u8 12, .string nE, .slice g 2 2, .int .i64 (z0 : Nat), .int .i64 (d0 : Nat)]) ∧ IsQ (fun b => X b ∧ b ≠ w.heap.size + 1 + 1) w' (nn2 12 (nn0 1) p) (.slice g 2 2) ∧ Kept [] W w') := fun W kW => by
    have := join_until (fun b => X b ∧ b ≠ w.heap.size + 1 + 1) (nn0 1) p none pa 0 pc W (hYY W kW.size) (IsQ.leafs W rfl none 0) (yp.kept kW)
    simp only [plA, psz_leaf, pdp_leaf, epz, epd, ez0, ed0] at this
    exact this
  have HJ1 : Hid (∀ (W : World), Kept [] V W → Calls Tryd.prog 139 #[.agg #[.int .u8 2, .string nE, .slice none 0 0, .int .i64 1, .int .i64 1], .agg #[.int .u8 (q.op : Nat), .string q.name, .slice qa q.kids.length qc, .int .i64 (qz : Nat), .int .i64 (qd : Nat)]] W fun e w' => ∃ g, e = .returned (.agg #[.int .u8 13, .string nE, .slice g 2 2, .int .i64 (z1 : Nat), .int .i64 (d1 : Nat)]) ∧ IsQ (fun b => X b ∧ b ≠ w.heap.size + 1 + 1) w' (nn2 13 (nn0 2) q) (.slice g 2 2) ∧ Kept [] W w') := fun W kW => by
    have := join_release (fun b => X b ∧ b ≠ w.heap.size + 1 + 1) (nn0 2) q none qa 0 qc W (hYY W kW.size) (IsQ.leafs W rfl none 0) (yq.kept kW)
    simp only [plA, psz_leaf, pdp_leaf, eqz, eqd, ez1, ed1] at this
    exact this
  have HV : Hid (_ = V) := hV
  have HKV : Hid (Kept [] w V) := kV
  have HE : Hid (psz (nn2 12 (nn0 1) p) = z0 ∧ pdp (nn2 12 (nn0 1) p) = d0 ∧ psz (nn2 13 (nn0 2) q) = z1 ∧ pdp (nn2 13 (nn0 2) q) = d1) := ⟨ez0, ed0, ez1, ed1⟩
  obtain ⟨⟨c0, c1, c2, c3, c4⟩, ⟨c5, c6, c7, c8, c9⟩, -⟩ := v0.cells
  have nR0 : w.heap.size ∉ [w.heap.size + 1 + 1] := by simp; omega
  have HS : Hid (∀ w', Kept [w.heap.size + 1 + 1] V w' → w'.cell? ⟨Funtil, 0, none⟩ = some (.func (.func 138) #[] #[]) ∧ w'.cell? ⟨FY, 0, none⟩ = some (.int .u8 1) ∧ w'.cell? ⟨FY, 1, none⟩ = some (.string nE) ∧ w'.cell? ⟨FY, 2, none⟩ = some (.slice none 0 0) ∧ w'.cell? ⟨FY, 3, none⟩ = some (.int .i64 1) ∧ w'.cell? ⟨FY, 4, none⟩ = some (.int .i64 1) ∧ w'.cell? ⟨Frelease, 0, none⟩ = some (.func (.func 139) #[] #[]) ∧ w'.cell? ⟨FN, 0, none⟩ = some (.int .u8 2) ∧ w'.cell? ⟨FN, 1, none⟩ = some (.string nE) ∧ w'.cell? ⟨FN, 2, none⟩ = some (.slice none 0 0) ∧ w'.cell? ⟨FN, 3, none⟩ = some (.int .i64 1) ∧ w'.cell? ⟨FN, 4, none⟩ = some (.int .i64 1) ∧ w'.cell? ⟨w.heap.size, 0, none⟩ = some (.int .u8 (p.op : Nat)) ∧ w'.cell? ⟨w.heap.size, 1, none⟩ = some (.string p.name) ∧ w'.cell? ⟨w.heap.size, 2, none⟩ = some (.slice pa p.kids.length pc) ∧ w'.cell? ⟨w.heap.size, 3, none⟩ = some (.int .i64 (pz : Nat)) ∧ w'.cell? ⟨w.heap.size, 4, none⟩ = some (.int .i64 (pd : Nat)) ∧ w'.cell? ⟨w.heap.size, 5, none⟩ = some (.int .u8 (q.op : Nat)) ∧ w'.cell? ⟨w.heap.size, 6, none⟩ = some (.string q.name) ∧ w'.cell? ⟨w.heap.size, 7, none⟩ = some (.slice qa q.kids.length qc) ∧ w'.cell? ⟨w.heap.size, 8, none⟩ = some (.int .i64 (qz : Nat)) ∧ w'.cell? ⟨w.heap.size, 9, none⟩ = some (.int .i64 (qd : Nat))) := fun w' k => ⟨cell_keptF k (by simp; omega) fb_until, cell_keptF k (by simp; omega) fb0Y, cell_keptF k (by simp; omega) fb1Y, cell_keptF k (by simp; omega) fb2Y, cell_keptF k (by simp; omega) fb3Y, cell_keptF k (by simp; omega) fb4Y, cell_keptF k (by simp; omega) fb_release, cell_keptF k (by simp; omega) fb0N, cell_keptF k (by simp; omega) fb1N, cell_keptF k (by simp; omega) fb2N, cell_keptF k (by simp; omega) fb3N, cell_keptF k (by simp; omega) fb4N, cell_keptF k nR0 c0, cell_keptF k nR0 c1, cell_keptF k nR0 c2, cell_keptF k nR0 c3, cell_keptF k nR0 c4, cell_keptF k nR0 c5, cell_keptF k nR0 c6, cell_keptF k nR0 c7, cell_keptF k nR0 c8, cell_keptF k nR0 c9⟩
  have T0 : Hid True := trivial
  have T1 : Hid True := trivial
  have HR : Hid (∀ W, Kept [] V W → Pr10 W (w.heap.size + 1 + 1) (.int .u8 0) (.string ⟨#[]⟩) (.slice none 0 0) (.int .i64 0) (.int .i64 0) (.int .u8 0) (.string ⟨#[]⟩) (.slice none 0 0) (.int .i64 0) (.int .i64 0)) := fun W k => v2.kept k (by simp)
  clear hp hq k0 hX kV v0 v2 hV hYY huntil hY hrelease hN yp yq ez0 ed0 ez1 ed1
  rw [epz, epd, eqz, eqd]
  clear epz epd eqz eqd nR0
  show Calls Tryd.prog 146 #[.agg #[.int .u8 (p.op : Nat), .string p.name, .slice pa p.kids.length pc, .int .i64 (pz : Nat), .int .i64 (pd : Nat), .int .u8 (q.op : Nat), .string q.name, .slice qa q.kids.length qc, .int .i64 (qz : Nat), .int .i64 (qd : Nat)], .agg #[.int .u8 0, .string ⟨#[]⟩, .slice none 0 0, .int .i64 0, .int .i64 0, .int .u8 0, .string ⟨#[]⟩, .slice none 0 0, .int .i64 0, .int .i64 0], .pointer (some ⟨Funtil, 0, none⟩), .pointer (some ⟨FY, 0, none⟩), .pointer (some ⟨Frelease, 0, none⟩), .pointer (some ⟨FN, 0, none⟩)] w _
  go_enter Tryd.func146, Tryd.ntmps146
  go_wp2_with fail
  rw [HV.out]
  go_region_held3 (fun w' => w'.cell? ⟨Funtil, 0, none⟩ = some (.func (.func 138) #[] #[]) ∧ w'.cell? ⟨FY, 0, none⟩ = some (.int .u8 1) ∧ w'.cell? ⟨FY, 1, none⟩ = some (.string nE) ∧ w'.cell? ⟨FY, 2, none⟩ = some (.slice none 0 0) ∧ w'.cell? ⟨FY, 3, none⟩ = some (.int .i64 1) ∧ w'.cell? ⟨FY, 4, none⟩ = some (.int .i64 1) ∧ w'.cell? ⟨Frelease, 0, none⟩ = some (.func (.func 139) #[] #[]) ∧ w'.cell? ⟨FN, 0, none⟩ = some (.int .u8 2) ∧ w'.cell? ⟨FN, 1, none⟩ = some (.string nE) ∧ w'.cell? ⟨FN, 2, none⟩ = some (.slice none 0 0) ∧ w'.cell? ⟨FN, 3, none⟩ = some (.int .i64 1) ∧ w'.cell? ⟨FN, 4, none⟩ = some (.int .i64 1) ∧ w'.cell? ⟨w.heap.size, 0, none⟩ = some (.int .u8 (p.op : Nat)) ∧ w'.cell? ⟨w.heap.size, 1, none⟩ = some (.string p.name) ∧ w'.cell? ⟨w.heap.size, 2, none⟩ = some (.slice pa p.kids.length pc) ∧ w'.cell? ⟨w.heap.size, 3, none⟩ = some (.int .i64 (pz : Nat)) ∧ w'.cell? ⟨w.heap.size, 4, none⟩ = some (.int .i64 (pd : Nat)) ∧ w'.cell? ⟨w.heap.size, 5, none⟩ = some (.int .u8 (q.op : Nat)) ∧ w'.cell? ⟨w.heap.size, 6, none⟩ = some (.string q.name) ∧ w'.cell? ⟨w.heap.size, 7, none⟩ = some (.slice qa q.kids.length qc) ∧ w'.cell? ⟨w.heap.size, 8, none⟩ = some (.int .i64 (qz : Nat)) ∧ w'.cell? ⟨w.heap.size, 9, none⟩ = some (.int .i64 (qd : Nat)))
    ((refine HS.out _ ?_; (repeat (first | (with_reducible exact Kept.refl _ _) | (with_reducible refine Kept.drew ?_) | (with_reducible refine Kept.setCell ?_ (Or.inl (by simp)) _) | with_reducible refine Kept.trans (F := [w.heap.size + 1 + 1]) (G := []) (H := [w.heap.size + 1 + 1]) ?_ HK1.out (by simp) (by simp) | with_reducible refine Kept.trans (F := [w.heap.size + 1 + 1]) (G := []) (H := [w.heap.size + 1 + 1]) ?_ HK0.out (by simp) (by simp)))))
    (first | (clear T0; go_at_call 138; refine (HJ0.out _ ((Kept.refl [] V).drew)).mono ?_; rintro e W0 ⟨g0, rfl, p0, k0⟩; have HKV0 : Hid (Kept [] V W0) := ((Kept.refl [] V).drew).trans k0 (by simp) (by simp); have HK0 : Hid (Kept [] _ W0) := k0; have HP0_0 : Hid (IsQ (fun b => X b ∧ b ≠ w.heap.size + 1 + 1) W0 (nn2 12 (nn0 1) p) (.slice g0 2 2)) := p0; clear p0 k0) | (clear T1; go_at_call 139; refine (HJ1.out _ (HKV0.out)).mono ?_; rintro e W1 ⟨g1, rfl, p1, k1⟩; have HKV1 : Hid (Kept [] V W1) := (HKV0.out).trans k1 (by simp) (by simp); have HK1 : Hid (Kept [] _ W1) := k1; have HP1_1 : Hid (IsQ (fun b => X b ∧ b ≠ w.heap.size + 1 + 1) W1 (nn2 13 (nn0 2) q) (.slice g1 2 2)) := p1; have HP0_1 : Hid (IsQ (fun b => X b ∧ b ≠ w.heap.size + 1 + 1) W1 (nn2 12 (nn0 1) p) (.slice g0 2 2)) := HP0_0.out.kept k1; obtain ⟨⟨r0, r1, r2, r3, r4⟩, ⟨r5, r6, r7, r8, r9⟩, rf⟩ := (HR.out W1 HKV1.out).cells; clear p1 k1))
  all_goals go_wp2
  all_goals
    refine ret_pr rfl rfl rfl ((HR.out W1 HKV1.out).set (.int .u8 12) (.string nE) (.slice g0 2 2) (.int .i64 (z0 : Nat)) (.int .i64 (d0 : Nat)) (.int .u8 13) (.string nE) (.slice g1 2 2) (.int .i64 (z1 : Nat)) (.int .i64 (d1 : Nat))) ⟨g0, 2, g1, 2, ?_, ⟨HP0_1.out.set10 _ _ _ _ _ _ _ _ _ _, HP1_1.out.set10 _ _ _ _ _ _ _ _ _ _⟩, kept_set10 (HKV.out.trans HKV1.out (by simp) (by simp)) (.inr (by omega)) _ _ _ _ _ _ _ _ _ _⟩
    obtain ⟨h1, h2, h3, h4⟩ := HE.out
    rw [← h1, ← h2, ← h3, ← h4]; rfl
set_option maxHeartbeats 4000000 in
set_option maxRecDepth 20000 in
theorem col_always (w0 : World) (Frelease FN Funtil FY : Nat) (hrelease : FnAt w0 Frelease 139) (hN : Pl5 w0 FN (.int .u8 2) (.string nE) (.slice none 0 0) (.int .i64 1) (.int .i64 1)) (huntil : FnAt w0 Funtil 138) (hY : Pl5 w0 FY (.int .u8 1) (.string nE) (.slice none 0 0) (.int .i64 1) (.int .i64 1)) : ColOne 147 #[.pointer (some ⟨Frelease, 0, none⟩), .pointer (some ⟨FN, 0, none⟩), .pointer (some ⟨Funtil, 0, none⟩), .pointer (some ⟨FY, 0, none⟩)] 11 w0 := by
  intro X a b a1 a2 a3 a4 w k0 hX ha
  obtain ⟨p, q⟩ := a
  obtain ⟨hp, hq⟩ := ha
  simp only [prA, zeroP]
  dsimp only at hp hq
  obtain ⟨pa, rfl⟩ : ∃ x, x = a1 := ⟨_, rfl⟩
  obtain ⟨pc, rfl⟩ : ∃ x, x = a2 := ⟨_, rfl⟩
  obtain ⟨qa, rfl⟩ : ∃ x, x = a3 := ⟨_, rfl⟩
  obtain ⟨qc, rfl⟩ : ∃ x, x = a4 := ⟨_, rfl⟩
  obtain ⟨pz, epz⟩ : ∃ x, psz p = x := ⟨_, rfl⟩
  obtain ⟨pd, epd⟩ : ∃ x, pdp p = x := ⟨_, rfl⟩
  obtain ⟨qz, eqz⟩ : ∃ x, psz q = x := ⟨_, rfl⟩
  obtain ⟨qd, eqd⟩ : ∃ x, pdp q = x := ⟨_, rfl⟩
  obtain ⟨z0, ez0⟩ : ∃ x, psz (nn2 13 (nn0 2) p) = x := ⟨_, rfl⟩
  obtain ⟨d0, ed0⟩ : ∃ x, pdp (nn2 13 (nn0 2) p) = x := ⟨_, rfl⟩
  obtain ⟨z1, ez1⟩ : ∃ x, psz (nn2 12 (nn0 1) q) = x := ⟨_, rfl⟩
  obtain ⟨d1, ed1⟩ : ∃ x, pdp (nn2 12 (nn0 1) q) = x := ⟨_, rfl⟩
  obtain ⟨V, hV⟩ : ∃ V, ((w.alloc (.cells #[.int .u8 (p.op : Nat), .string p.name, .slice pa p.kids.length pc, .int .i64 (pz : Nat), .int .i64 (pd : Nat), .int .u8 (q.op : Nat), .string q.name, .slice qa q.kids.length qc, .int .i64 (qz : Nat), .int .i64 (qd : Nat)] 95)).alloc (.cells #[.int .u8 0, .string ⟨#[]⟩, .slice none 0 0, .int .i64 0, .int .i64 0, .int .u8 0, .string ⟨#[]⟩, .slice none 0 0, .int .i64 0, .int .i64 0] 95)).alloc (.cells #[.int .u8 0, .string ⟨#[]⟩, .slice none 0 0, .int .i64 0, .int .i64 0, .int .u8 0, .string ⟨#[]⟩, .slice none 0 0, .int .i64 0, .int .i64 0] 95) = V := ⟨_, rfl⟩
  have kV : Kept [] w V := by rw [← hV]; exact (((Kept.refl [] w).alloc _).alloc _).alloc _
  have zV : V.heap.size = w.heap.size + 3 := by rw [← hV]; simp
  have v0 : Pr10 V w.heap.size (.int .u8 (p.op : Nat)) (.string p.name) (.slice pa p.kids.length pc) (.int .i64 (pz : Nat)) (.int .i64 (pd : Nat)) (.int .u8 (q.op : Nat)) (.string q.name) (.slice qa q.kids.length qc) (.int .i64 (qz : Nat)) (.int .i64 (qd : Nat)) := by rw [← hV]; exact alUp (alUp (al0 w _) _) _
  have v2 : Pr10 V (w.heap.size + 1 + 1) (.int .u8 0) (.string ⟨#[]⟩) (.slice none 0 0) (.int .i64 0) (.int .i64 0) (.int .u8 0) (.string ⟨#[]⟩) (.slice none 0 0) (.int .i64 0) (.int .i64 0) := by rw [← hV]; exact al2 w _ _ _
  have fb_release : V.cell? ⟨Frelease, 0, none⟩ = some (.func (.func 139) #[] #[]) := (hrelease.kept k0).kept kV
  have nrelease : Frelease < w.heap.size := World.block_lt_of_cell? w _ (hrelease.kept k0)
  obtain ⟨fb0N, fb1N, fb2N, fb3N, fb4N, -⟩ := ((hN.kept k0).kept kV).cells
  have nN : FN < w.heap.size := lt_of (hN.kept k0)
  have fb_until : V.cell? ⟨Funtil, 0, none⟩ = some (.func (.func 138) #[] #[]) := (huntil.kept k0).kept kV
  have nuntil : Funtil < w.heap.size := World.block_lt_of_cell? w _ (huntil.kept k0)
  obtain ⟨fb0Y, fb1Y, fb2Y, fb3Y, fb4Y, -⟩ := ((hY.kept k0).kept kV).cells
  have nY : FY < w.heap.size := lt_of (hY.kept k0)
  have hYY : ∀ W : World, V.heap.size ≤ W.heap.size → ∀ k, W.heap.size ≤ k → (fun b => X b ∧ b ≠ w.heap.size + 1 + 1) k := fun W hz k hk => ⟨hX k (by omega), by omega⟩
  have yp : IsQ (fun b => X b ∧ b ≠ w.heap.size + 1 + 1) V p (.slice pa p.kids.length pc) := hp.apart kV (by omega)
  have yq : IsQ (fun b => X b ∧ b ≠ w.heap.size + 1 + 1) V q (.slice qa q.kids.length qc) := hq.apart kV (by omega)
  have HJ0 : Hid (∀ (W : World), Kept [] V W → Calls Tryd.prog 139 #[.agg #[.int .u8 2, .string nE, .slice none 0 0, .int .i64 1, .int .i64 1], .agg #[.int .u8 (p.op : Nat), .string p.name, .slice pa p.kids.length pc, .int .i64 (pz : Nat), .int .i64 (pd : Nat)]] W fun e w' => ∃ g, e = .returned (.agg #[.int .u8 13, .string nE, .slice g 2 2, .int .i64 (z0 : Nat), .int .i64 (d0 : Nat)]) ∧ IsQ (fun b => X b ∧ b ≠ w.heap.size + 1 + 1) w' (nn2 13 (nn0 2) p) (.slice g 2 2) ∧ Kept [] W w') := fun W kW => by
    have := join_release (fun b => X b ∧ b ≠ w.heap.size + 1 + 1) (nn0 2) p none pa 0 pc W (hYY W kW.size) (IsQ.leafs W rfl none 0) (yp.kept kW)
    simp only [plA, psz_leaf, pdp_leaf, epz, epd, ez0, ed0] at this
    exact this
  have HJ1 : Hid (∀ (W : World), Kept [] V W → Calls Tryd.prog 138 #[.agg #[.int .u8 1, .string nE, .slice none 0 0, .int .i64 1, .int .i64 1], .agg #[.int .u8 (q.op : Nat), .string q.name, .slice qa q.kids.length qc, .int .i64 (qz : Nat), .int .i64 (qd : Nat)]] W fun e w' => ∃ g, e = .returned (.agg #[.int .u8 12, .string nE, .slice g 2 2, .int .i64 (z1 : Nat), .int .i64 (d1 : Nat)]) ∧ IsQ (fun b => X b ∧ b ≠ w.heap.size + 1 + 1) w' (nn2 12 (nn0 1) q) (.slice g 2 2) ∧ Kept [] W w') := fun W kW => by
    have := join_until (fun b => X b ∧ b ≠ w.heap.size + 1 + 1) (nn0 1) q none qa 0 qc W (hYY W kW.size) (IsQ.leafs W rfl none 0) (yq.kept kW)
    simp only [plA, psz_leaf, pdp_leaf, eqz, eqd, ez1, ed1] at this
    exact this
  have HV : Hid (_ = V) := hV
  have HKV : Hid (Kept [] w V) := kV
  have HE : Hid (psz (nn2 13 (nn0 2) p) = z0 ∧ pdp (nn2 13 (nn0 2) p) = d0 ∧ psz (nn2 12 (nn0 1) q) = z1 ∧ pdp (nn2 12 (nn0 1) q) = d1) := ⟨ez0, ed0, ez1, ed1⟩
  obtain ⟨⟨c0, c1, c2, c3, c4⟩, ⟨c5, c6, c7, c8, c9⟩, -⟩ := v0.cells
  have nR0 : w.heap.size ∉ [w.heap.size + 1 + 1] := by simp; omega
  have HS : Hid (∀ w', Kept [w.heap.size + 1 + 1] V w' → w'.cell? ⟨Frelease, 0, none⟩ = some (.func (.func 139) #[] #[]) ∧ w'.cell? ⟨FN, 0, none⟩ = some (.int .u8 2) ∧ w'.cell? ⟨FN, 1, none⟩ = some (.string nE) ∧ w'.cell? ⟨FN, 2, none⟩ = some (.slice none 0 0) ∧ w'.cell? ⟨FN, 3, none⟩ = some (.int .i64 1) ∧ w'.cell? ⟨FN, 4, none⟩ = some (.int .i64 1) ∧ w'.cell? ⟨Funtil, 0, none⟩ = some (.func (.func 138) #[] #[]) ∧ w'.cell? ⟨FY, 0, none⟩ = some (.int .u8 1) ∧ w'.cell? ⟨FY, 1, none⟩ = some (.string nE) ∧ w'.cell? ⟨FY, 2, none⟩ = some (.slice none 0 0) ∧ w'.cell? ⟨FY, 3, none⟩ = some (.int .i64 1) ∧ w'.cell? ⟨FY, 4, none⟩ = some (.int .i64 1) ∧ w'.cell? ⟨w.heap.size, 0, none⟩ = some (.int .u8 (p.op : Nat)) ∧ w'.cell? ⟨w.heap.size, 1, none⟩ = some (.string p.name) ∧ w'.cell? ⟨w.heap.size, 2, none⟩ = some (.slice pa p.kids.length pc) ∧ w'.cell? ⟨w.heap.size, 3, none⟩ = some (.int .i64 (pz : Nat)) ∧ w'.cell? ⟨w.heap.size, 4, none⟩ = some (.int .i64 (pd : Nat)) ∧ w'.cell? ⟨w.heap.size, 5, none⟩ = some (.int .u8 (q.op : Nat)) ∧ w'.cell? ⟨w.heap.size, 6, none⟩ = some (.string q.name) ∧ w'.cell? ⟨w.heap.size, 7, none⟩ = some (.slice qa q.kids.length qc) ∧ w'.cell? ⟨w.heap.size, 8, none⟩ = some (.int .i64 (qz : Nat)) ∧ w'.cell? ⟨w.heap.size, 9, none⟩ = some (.int .i64 (qd : Nat))) := fun w' k => ⟨cell_keptF k (by simp; omega) fb_release, cell_keptF k (by simp; omega) fb0N, cell_keptF k (by simp; omega) fb1N, cell_keptF k (by simp; omega) fb2N, cell_keptF k (by simp; omega) fb3N, cell_keptF k (by simp; omega) fb4N, cell_keptF k (by simp; omega) fb_until, cell_keptF k (by simp; omega) fb0Y, cell_keptF k (by simp; omega) fb1Y, cell_keptF k (by simp; omega) fb2Y, cell_keptF k (by simp; omega) fb3Y, cell_keptF k (by simp; omega) fb4Y, cell_keptF k nR0 c0, cell_keptF k nR0 c1, cell_keptF k nR0 c2, cell_keptF k nR0 c3, cell_keptF k nR0 c4, cell_keptF k nR0 c5, cell_keptF k nR0 c6, cell_keptF k nR0 c7, cell_keptF k nR0 c8, cell_keptF k nR0 c9⟩
  have T0 : Hid True := trivial
  have T1 : Hid True := trivial
  have HR : Hid (∀ W, Kept [] V W → Pr10 W (w.heap.size + 1 + 1) (.int .u8 0) (.string ⟨#[]⟩) (.slice none 0 0) (.int .i64 0) (.int .i64 0) (.int .u8 0) (.string ⟨#[]⟩) (.slice none 0 0) (.int .i64 0) (.int .i64 0)) := fun W k => v2.kept k (by simp)
  clear hp hq k0 hX kV v0 v2 hV hYY hrelease hN huntil hY yp yq ez0 ed0 ez1 ed1
  rw [epz, epd, eqz, eqd]
  clear epz epd eqz eqd nR0
  show Calls Tryd.prog 147 #[.agg #[.int .u8 (p.op : Nat), .string p.name, .slice pa p.kids.length pc, .int .i64 (pz : Nat), .int .i64 (pd : Nat), .int .u8 (q.op : Nat), .string q.name, .slice qa q.kids.length qc, .int .i64 (qz : Nat), .int .i64 (qd : Nat)], .agg #[.int .u8 0, .string ⟨#[]⟩, .slice none 0 0, .int .i64 0, .int .i64 0, .int .u8 0, .string ⟨#[]⟩, .slice none 0 0, .int .i64 0, .int .i64 0], .pointer (some ⟨Frelease, 0, none⟩), .pointer (some ⟨FN, 0, none⟩), .pointer (some ⟨Funtil, 0, none⟩), .pointer (some ⟨FY, 0, none⟩)] w _
  go_enter Tryd.func147, Tryd.ntmps147
  go_wp2_with fail
  rw [HV.out]
  go_region_held3 (fun w' => w'.cell? ⟨Frelease, 0, none⟩ = some (.func (.func 139) #[] #[]) ∧ w'.cell? ⟨FN, 0, none⟩ = some (.int .u8 2) ∧ w'.cell? ⟨FN, 1, none⟩ = some (.string nE) ∧ w'.cell? ⟨FN, 2, none⟩ = some (.slice none 0 0) ∧ w'.cell? ⟨FN, 3, none⟩ = some (.int .i64 1) ∧ w'.cell? ⟨FN, 4, none⟩ = some (.int .i64 1) ∧ w'.cell? ⟨Funtil, 0, none⟩ = some (.func (.func 138) #[] #[]) ∧ w'.cell? ⟨FY, 0, none⟩ = some (.int .u8 1) ∧ w'.cell? ⟨FY, 1, none⟩ = some (.string nE) ∧ w'.cell? ⟨FY, 2, none⟩ = some (.slice none 0 0) ∧ w'.cell? ⟨FY, 3, none⟩ = some (.int .i64 1) ∧ w'.cell? ⟨FY, 4, none⟩ = some (.int .i64 1) ∧ w'.cell? ⟨w.heap.size, 0, none⟩ = some (.int .u8 (p.op : Nat)) ∧ w'.cell? ⟨w.heap.size, 1, none⟩ = some (.string p.name) ∧ w'.cell? ⟨w.heap.size, 2, none⟩ = some (.slice pa p.kids.length pc) ∧ w'.cell? ⟨w.heap.size, 3, none⟩ = some (.int .i64 (pz : Nat)) ∧ w'.cell? ⟨w.heap.size, 4, none⟩ = some (.int .i64 (pd : Nat)) ∧ w'.cell? ⟨w.heap.size, 5, none⟩ = some (.int .u8 (q.op : Nat)) ∧ w'.cell? ⟨w.heap.size, 6, none⟩ = some (.string q.name) ∧ w'.cell? ⟨w.heap.size, 7, none⟩ = some (.slice qa q.kids.length qc) ∧ w'.cell? ⟨w.heap.size, 8, none⟩ = some (.int .i64 (qz : Nat)) ∧ w'.cell? ⟨w.heap.size, 9, none⟩ = some (.int .i64 (qd : Nat)))
    ((refine HS.out _ ?_; (repeat (first | (with_reducible exact Kept.refl _ _) | (with_reducible refine Kept.drew ?_) | (with_reducible refine Kept.setCell ?_ (Or.inl (by simp)) _) | with_reducible refine Kept.trans (F := [w.heap.size + 1 + 1]) (G := []) (H := [w.heap.size + 1 + 1]) ?_ HK1.out (by simp) (by simp) | with_reducible refine Kept.trans (F := [w.heap.size + 1 + 1]) (G := []) (H := [w.heap.size + 1 + 1]) ?_ HK0.out (by simp) (by simp)))))
    (first | (clear T0; go_at_call 139; refine (HJ0.out _ ((Kept.refl [] V).drew)).mono ?_; rintro e W0 ⟨g0, rfl, p0, k0⟩; have HKV0 : Hid (Kept [] V W0) := ((Kept.refl [] V).drew).trans k0 (by simp) (by simp); have HK0 : Hid (Kept [] _ W0) := k0; have HP0_0 : Hid (IsQ (fun b => X b ∧ b ≠ w.heap.size + 1 + 1) W0 (nn2 13 (nn0 2) p) (.slice g0 2 2)) := p0; clear p0 k0) | (clear T1; go_at_call 138; refine (HJ1.out _ (HKV0.out)).mono ?_; rintro e W1 ⟨g1, rfl, p1, k1⟩; have HKV1 : Hid (Kept [] V W1) := (HKV0.out).trans k1 (by simp) (by simp); have HK1 : Hid (Kept [] _ W1) := k1; have HP1_1 : Hid (IsQ (fun b => X b ∧ b ≠ w.heap.size + 1 + 1) W1 (nn2 12 (nn0 1) q) (.slice g1 2 2)) := p1; have HP0_1 : Hid (IsQ (fun b => X b ∧ b ≠ w.heap.size + 1 + 1) W1 (nn2 13 (nn0 2) p) (.slice g0 2 2)) := HP0_0.out.kept k1; obtain ⟨⟨r0, r1, r2, r3, r4⟩, ⟨r5, r6, r7, r8, r9⟩, rf⟩ := (HR.out W1 HKV1.out).cells; clear p1 k1))
  all_goals go_wp2
  all_goals
    refine ret_pr rfl rfl rfl ((HR.out W1 HKV1.out).set (.int .u8 13) (.string nE) (.slice g0 2 2) (.int .i64 (z0 : Nat)) (.int .i64 (d0 : Nat)) (.int .u8 12) (.string nE) (.slice g1 2 2) (.int .i64 (z1 : Nat)) (.int .i64 (d1 : Nat))) ⟨g0, 2, g1, 2, ?_, ⟨HP0_1.out.set10 _ _ _ _ _ _ _ _ _ _, HP1_1.out.set10 _ _ _ _ _ _ _ _ _ _⟩, kept_set10 (HKV.out.trans HKV1.out (by simp) (by simp)) (.inr (by omega)) _ _ _ _ _ _ _ _ _ _⟩
    obtain ⟨h1, h2, h3, h4⟩ := HE.out
    rw [← h1, ← h2, ← h3, ← h4]; rfl
set_option maxHeartbeats 1000000 in
set_option maxRecDepth 20000 in
theorem col_not (w0 : World) : ColOne 140 #[] 4 w0 := by
  intro X a b a1 a2 a3 a4 w k0 hX ha
  obtain ⟨p, q⟩ := a
  obtain ⟨hp, hq⟩ := ha
  simp only [prA, zeroP]
  dsimp only at hp hq
  have kV : ∀ o o' o'', Kept [] w (((w.alloc o).alloc o').alloc o'') := fun o o' o'' => (((Kept.refl [] w).alloc _).alloc _).alloc _
  have HP : Hid (∀ W, Kept [] w W → IsQ (fun b => X b ∧ b ≠ w.heap.size + 1 + 1) W p (.slice a1 p.kids.length a2)) := fun W k => hp.apart k (by omega)
  have HQ : Hid (∀ W, Kept [] w W → IsQ (fun b => X b ∧ b ≠ w.heap.size + 1 + 1) W q (.slice a3 q.kids.length a4)) := fun W k => hq.apart k (by omega)
  have HK : Hid _ := kV
  clear hp hq kV k0 hX
  show Calls Tryd.prog 140 #[.agg #[.int .u8 (p.op : Nat), .string p.name, .slice a1 p.kids.length a2, .int .i64 (psz p : Nat), .int .i64 (pdp p : Nat), .int .u8 (q.op : Nat), .string q.name, .slice a3 q.kids.length a4, .int .i64 (psz q : Nat), .int .i64 (pdp q : Nat)], .agg #[.int .u8 0, .string ⟨#[]⟩, .slice none 0 0, .int .i64 0, .int .i64 0, .int .u8 0, .string ⟨#[]⟩, .slice none 0 0, .int .i64 0, .int .i64 0]] w _
  obtain ⟨pz, epz⟩ : ∃ x, psz p = x := ⟨_, rfl⟩
  obtain ⟨pd, epd⟩ : ∃ x, pdp p = x := ⟨_, rfl⟩
  obtain ⟨qz, eqz⟩ : ∃ x, psz q = x := ⟨_, rfl⟩
  obtain ⟨qd, eqd⟩ : ∃ x, pdp q = x := ⟨_, rfl⟩
  rw [epz, epd, eqz, eqd]
  have HE : Hid (psz p = pz ∧ pdp p = pd ∧ psz q = qz ∧ pdp q = qd) := ⟨epz, epd, eqz, eqd⟩
  clear epz epd eqz eqd
  go_enter Tryd.func140, Tryd.ntmps140
  go_wp2
  refine ret_pr rfl rfl rfl (al2 w _ _ _) ⟨a3, a4, a1, a2, ?_, ⟨(HQ.out _ (HK.out _ _ _)).cells (fun _ h _ => h.1) (fun _ _ _ _ c => c), (HP.out _ (HK.out _ _ _)).cells (fun _ h _ => h.1) (fun _ _ _ _ c => c)⟩, HK.out _ _ _⟩
  obtain ⟨h1, h2, h3, h4⟩ := HE.out
  rw [← h1, ← h2, ← h3, ← h4]; rfl
set_option maxHeartbeats 4000000 in
set_option maxRecDepth 20000 in
theorem col_next (w0 : World) : ColOne 145 #[] 9 w0 := by
  intro X a b a1 a2 a3 a4 w k0 hX ha
  obtain ⟨p, q⟩ := a
  obtain ⟨hp, hq⟩ := ha
  simp only [prA, zeroP]
  dsimp only at hp hq
  obtain ⟨pa, rfl⟩ : ∃ x, x = a1 := ⟨_, rfl⟩
  obtain ⟨pc, rfl⟩ : ∃ x, x = a2 := ⟨_, rfl⟩
  obtain ⟨qa, rfl⟩ : ∃ x, x = a3 := ⟨_, rfl⟩
  obtain ⟨qc, rfl⟩ : ∃ x, x = a4 := ⟨_, rfl⟩
  obtain ⟨pz, epz⟩ : ∃ x, psz p = x := ⟨_, rfl⟩
  obtain ⟨pd, epd⟩ : ∃ x, pdp p = x := ⟨_, rfl⟩
  obtain ⟨qz, eqz⟩ : ∃ x, psz q = x := ⟨_, rfl⟩
  obtain ⟨qd, eqd⟩ : ∃ x, pdp q = x := ⟨_, rfl⟩
  obtain ⟨z0, ez0⟩ : ∃ x, psz (nn1 9 p) = x := ⟨_, rfl⟩
  obtain ⟨d0, ed0⟩ : ∃ x, pdp (nn1 9 p) = x := ⟨_, rfl⟩
  obtain ⟨z1, ez1⟩ : ∃ x, psz (nn1 9 q) = x := ⟨_, rfl⟩
  obtain ⟨d1, ed1⟩ : ∃ x, pdp (nn1 9 q) = x := ⟨_, rfl⟩
  obtain ⟨V, hV⟩ : ∃ V, ((w.alloc (.cells #[.int .u8 (p.op : Nat), .string p.name, .slice pa p.kids.length pc, .int .i64 (pz : Nat), .int .i64 (pd : Nat), .int .u8 (q.op : Nat), .string q.name, .slice qa q.kids.length qc, .int .i64 (qz : Nat), .int .i64 (qd : Nat)] 95)).alloc (.cells #[.int .u8 0, .string ⟨#[]⟩, .slice none 0 0, .int .i64 0, .int .i64 0, .int .u8 0, .string ⟨#[]⟩, .slice none 0 0, .int .i64 0, .int .i64 0] 95)).alloc (.cells #[.int .u8 0, .string ⟨#[]⟩, .slice none 0 0, .int .i64 0, .int .i64 0, .int .u8 0, .string ⟨#[]⟩, .slice none 0 0, .int .i64 0, .int .i64 0] 95) = V := ⟨_, rfl⟩
  have kV : Kept [] w V := by rw [← hV]; exact (((Kept.refl [] w).alloc _).alloc _).alloc _
  have zV : V.heap.size = w.heap.size + 3 := by rw [← hV]; simp
  have v0 : Pr10 V w.heap.size (.int .u8 (p.op : Nat)) (.string p.name) (.slice pa p.kids.length pc) (.int .i64 (pz : Nat)) (.int .i64 (pd : Nat)) (.int .u8 (q.op : Nat)) (.string q.name) (.slice qa q.kids.length qc) (.int .i64 (qz : Nat)) (.int .i64 (qd : Nat)) := by rw [← hV]; exact alUp (alUp (al0 w _) _) _
  have v2 : Pr10 V (w.heap.size + 1 + 1) (.int .u8 0) (.string ⟨#[]⟩) (.slice none 0 0) (.int .i64 0) (.int .i64 0) (.int .u8 0) (.string ⟨#[]⟩) (.slice none 0 0) (.int .i64 0) (.int .i64 0) := by rw [← hV]; exact al2 w _ _ _
  have hY : ∀ k, V.heap.size ≤ k → X k ∧ k ≠ w.heap.size + 1 + 1 := fun k hk => ⟨hX k (by omega), by omega⟩
  have HJ : Hid (∀ (W : World) (B : Nat), Kept [] V W → V.heap.size ≤ B → W.heap[B]? = some (.cells #[.int .u8 (p.op : Nat), .string p.name, .slice pa p.kids.length pc, .int .i64 (pz : Nat), .int .i64 (pd : Nat)] 93 (0, 0)) → Calls Tryd.prog 135 #[.int .u8 9, .slice (some ⟨B, 0, none⟩) 1 1] W fun e w' => e = .returned (.agg #[.int .u8 9, .string nE, .slice (some ⟨B, 0, none⟩) 1 1, .int .i64 (z0 : Nat), .int .i64 (d0 : Nat)]) ∧ IsQ (fun b => X b ∧ b ≠ w.heap.size + 1 + 1) w' (nn1 9 p) (.slice (some ⟨B, 0, none⟩) 1 1) ∧ Kept [] W w') := fun W B kW hB hg => by
    have hQ : IsQ (fun b => X b ∧ b ≠ w.heap.size + 1 + 1) W (nn1 9 p) (.slice (some ⟨B, 0, none⟩) 1 1) := isQ_one (hY B hB) (by rw [epz, epd]; exact hg) (hp.apart (kV.trans kW (by simp) (by simp)) (by omega))
    refine (planOf_any 9 [p] (some ⟨B, 0, none⟩) 1 W hQ.isP (show 1 ≤ 1000 by decide)).mono ?_
    rintro e w' ⟨rfl, k⟩
    exact ⟨by rw [← ez0, ← ed0]; rfl, hQ.kept k, k⟩
  have HJ2 : Hid (∀ (W : World) (B : Nat), Kept [] V W → V.heap.size ≤ B → W.heap[B]? = some (.cells #[.int .u8 (q.op : Nat), .string q.name, .slice qa q.kids.length qc, .int .i64 (qz : Nat), .int .i64 (qd : Nat)] 93 (0, 0)) → Calls Tryd.prog 135 #[.int .u8 9, .slice (some ⟨B, 0, none⟩) 1 1] W fun e w' => e = .returned (.agg #[.int .u8 9, .string nE, .slice (some ⟨B, 0, none⟩) 1 1, .int .i64 (z1 : Nat), .int .i64 (d1 : Nat)]) ∧ IsQ (fun b => X b ∧ b ≠ w.heap.size + 1 + 1) w' (nn1 9 q) (.slice (some ⟨B, 0, none⟩) 1 1) ∧ Kept [] W w') := fun W B kW hB hg => by
    have hQ : IsQ (fun b => X b ∧ b ≠ w.heap.size + 1 + 1) W (nn1 9 q) (.slice (some ⟨B, 0, none⟩) 1 1) := isQ_one (hY B hB) (by rw [eqz, eqd]; exact hg) (hq.apart (kV.trans kW (by simp) (by simp)) (by omega))
    refine (planOf_any 9 [q] (some ⟨B, 0, none⟩) 1 W hQ.isP (show 1 ≤ 1000 by decide)).mono ?_
    rintro e w' ⟨rfl, k⟩
    exact ⟨by rw [← ez1, ← ed1]; rfl, hQ.kept k, k⟩
  have HV : Hid (_ = V) := hV
  have HKV : Hid (Kept [] w V) := kV
  have HE : Hid (psz (nn1 9 p) = z0 ∧ pdp (nn1 9 p) = d0 ∧ psz (nn1 9 q) = z1 ∧ pdp (nn1 9 q) = d1) := ⟨ez0, ed0, ez1, ed1⟩
  obtain ⟨⟨c0, c1, c2, c3, c4⟩, ⟨c5, c6, c7, c8, c9⟩, -⟩ := v0.cells
  have nR0 : w.heap.size ∉ [w.heap.size + 1 + 1] := by simp; omega
  have HS : Hid (∀ w', Kept [w.heap.size + 1 + 1] V w' → w'.cell? ⟨w.heap.size, 0, none⟩ = some (.int .u8 (p.op : Nat)) ∧ w'.cell? ⟨w.heap.size, 1, none⟩ = some (.string p.name) ∧ w'.cell? ⟨w.heap.size, 2, none⟩ = some (.slice pa p.kids.length pc) ∧ w'.cell? ⟨w.heap.size, 3, none⟩ = some (.int .i64 (pz : Nat)) ∧ w'.cell? ⟨w.heap.size, 4, none⟩ = some (.int .i64 (pd : Nat)) ∧ w'.cell? ⟨w.heap.size, 5, none⟩ = some (.int .u8 (q.op : Nat)) ∧ w'.cell? ⟨w.heap.size, 6, none⟩ = some (.string q.name) ∧ w'.cell? ⟨w.heap.size, 7, none⟩ = some (.slice qa q.kids.length qc) ∧ w'.cell? ⟨w.heap.size, 8, none⟩ = some (.int .i64 (qz : Nat)) ∧ w'.cell? ⟨w.heap.size, 9, none⟩ = some (.int .i64 (qd : Nat))) := fun w' k => ⟨cell_keptF k nR0 c0, cell_keptF k nR0 c1, cell_keptF k nR0 c2, cell_keptF k nR0 c3, cell_keptF k nR0 c4, cell_keptF k nR0 c5, cell_keptF k nR0 c6, cell_keptF k nR0 c7, cell_keptF k nR0 c8, cell_keptF k nR0 c9⟩
  have HR : Hid (∀ W, Kept [] V W → Pr10 W (w.heap.size + 1 + 1) (.int .u8 0) (.string ⟨#[]⟩) (.slice none 0 0) (.int .i64 0) (.int .i64 0) (.int .u8 0) (.string ⟨#[]⟩) (.slice none 0 0) (.int .i64 0) (.int .i64 0)) := fun W k => v2.kept k (by simp)
  have T0 : Hid True := trivial
  have T1 : Hid True := trivial
  have HZ : Hid (V.heap.size = w.heap.size + 3) := zV
  clear hp hq k0 hX kV v0 v2 hV hY ez0 ed0 ez1 ed1 zV
  rw [epz, epd, eqz, eqd]
  clear epz epd eqz eqd nR0
  show Calls Tryd.prog 145 #[.agg #[.int .u8 (p.op : Nat), .string p.name, .slice pa p.kids.length pc, .int .i64 (pz : Nat), .int .i64 (pd : Nat), .int .u8 (q.op : Nat), .string q.name, .slice qa q.kids.length qc, .int .i64 (qz : Nat), .int .i64 (qd : Nat)], .agg #[.int .u8 0, .string ⟨#[]⟩, .slice none 0 0, .int .i64 0, .int .i64 0, .int .u8 0, .string ⟨#[]⟩, .slice none 0 0, .int .i64 0, .int .i64 0]] w _
  go_enter Tryd.func145, Tryd.ntmps145
  go_wp2_with fail
  rw [HV.out]
  go_region_held3 (fun w' => w'.cell? ⟨w.heap.size, 0, none⟩ = some (.int .u8 (p.op : Nat)) ∧ w'.cell? ⟨w.heap.size, 1, none⟩ = some (.string p.name) ∧ w'.cell? ⟨w.heap.size, 2, none⟩ = some (.slice pa p.kids.length pc) ∧ w'.cell? ⟨w.heap.size, 3, none⟩ = some (.int .i64 (pz : Nat)) ∧ w'.cell? ⟨w.heap.size, 4, none⟩ = some (.int .i64 (pd : Nat)) ∧ w'.cell? ⟨w.heap.size, 5, none⟩ = some (.int .u8 (q.op : Nat)) ∧ w'.cell? ⟨w.heap.size, 6, none⟩ = some (.string q.name) ∧ w'.cell? ⟨w.heap.size, 7, none⟩ = some (.slice qa q.kids.length qc) ∧ w'.cell? ⟨w.heap.size, 8, none⟩ = some (.int .i64 (qz : Nat)) ∧ w'.cell? ⟨w.heap.size, 9, none⟩ = some (.int .i64 (qd : Nat)))
    ((refine HS.out _ ?_; (repeat (first | (with_reducible exact Kept.refl _ _) | (with_reducible refine Kept.drew ?_) | (with_reducible refine Kept.alloc ?_ _) | (with_reducible refine Kept.setCell ?_ (Or.inl (by simp)) _) | with_reducible refine Kept.trans (F := [w.heap.size + 1 + 1]) (G := []) (H := [w.heap.size + 1 + 1]) ?_ HK1.out (by simp) (by simp) | with_reducible refine Kept.trans (F := [w.heap.size + 1 + 1]) (G := []) (H := [w.heap.size + 1 + 1]) ?_ HK0.out (by simp) (by simp)))))
    (first
    | (clear T0; go_at_call 135; refine (HJ.out _ _ (by repeat (first | with_reducible exact Kept.refl [] _ | with_reducible refine Kept.drew ?_ | with_reducible refine Kept.alloc ?_ _)) (by omega) (by first | exact al0 _ _ | exact al1 _ _ _ | exact alUp (al0 _ _) _)).mono ?_; rintro e W0 ⟨rfl, p0, k0⟩; have HKV0 : Hid (Kept [] V W0) := Kept.trans (F := []) (G := []) (H := []) (by repeat (first | with_reducible exact Kept.refl [] _ | with_reducible refine Kept.drew ?_ | with_reducible refine Kept.alloc ?_ _)) k0 (by simp) (by simp); have HK0 : Hid (Kept [] _ W0) := k0; have hz0 := HKV0.out.size; have HP0 : Hid (IsQ (fun b => X b ∧ b ≠ w.heap.size + 1 + 1) W0 (nn1 9 p) _) := p0; clear p0 k0)
    | (clear T1; go_at_call 135; refine (HJ2.out _ _ (by repeat (first | with_reducible exact HKV0.out | with_reducible refine Kept.alloc ?_ _)) (by omega) (by first | exact al0 _ _ | exact HK0.out.at (al1 _ _ _) (by simp) | exact HK0.out.at (alUp (al0 _ _) _) (by simp))).mono ?_; rintro e W1 ⟨rfl, p1, k1⟩; have HKV1 : Hid (Kept [] V W1) := Kept.trans (F := []) (G := []) (H := []) (by repeat (first | with_reducible exact HKV0.out | with_reducible refine Kept.alloc ?_ _)) k1 (by simp) (by simp); have HK1 : Hid (Kept [] _ W1) := k1; have HP0b : Hid (IsQ (fun b => X b ∧ b ≠ w.heap.size + 1 + 1) W1 (nn1 9 p) _) := IsQ.kept (Kept.trans (F := []) (G := []) (H := []) (by repeat (first | with_reducible exact Kept.refl [] _ | with_reducible refine Kept.alloc ?_ _)) k1 (by simp) (by simp)) HP0.out; have HP1 : Hid (IsQ (fun b => X b ∧ b ≠ w.heap.size + 1 + 1) W1 (nn1 9 q) _) := p1; obtain ⟨⟨r0, r1, r2, r3, r4⟩, ⟨r5, r6, r7, r8, r9⟩, rf⟩ := (HR.out W1 HKV1.out).cells; clear p1 k1 hz0))
  all_goals go_wp2
  all_goals
    refine ret_pr rfl rfl rfl ((HR.out W1 HKV1.out).set (.int .u8 9) (.string nE) _ (.int .i64 (z0 : Nat)) (.int .i64 (d0 : Nat)) (.int .u8 9) (.string nE) _ (.int .i64 (z1 : Nat)) (.int .i64 (d1 : Nat))) ⟨_, 1, _, 1, ?_, ⟨HP0b.out.set10 _ _ _ _ _ _ _ _ _ _, HP1.out.set10 _ _ _ _ _ _ _ _ _ _⟩, kept_set10 (HKV.out.trans HKV1.out (by simp) (by simp)) (.inr (by omega)) _ _ _ _ _ _ _ _ _ _⟩
    obtain ⟨h1, h2, h3, h4⟩ := HE.out
    rw [← h1, ← h2, ← h3, ← h4]; rfl
end Go.Proofs.YtddgciilcghbaaaDoor
