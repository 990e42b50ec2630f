/- The columns N and D of W, M and <->. -/
import Derived.Test.YtddgciilcghbaaaDoorNnColsM
namespace Go.Proofs.YtddgciilcghbaaaDoor
open Go.RowKit Go.Shelf

set_option maxHeartbeats 4000000 in
set_option maxRecDepth 20000 in
theorem col_weak (w0 : World) (Frelease For Funtil Fand : Nat) (hrelease : FnAt w0 Frelease 139) (hor : FnAt w0 For 137) (huntil : FnAt w0 Funtil 138) (hand : FnAt w0 Fand 136) : ColDoes 150 #[.pointer (some ⟨Frelease, 0, none⟩), .pointer (some ⟨For, 0, none⟩), .pointer (some ⟨Funtil, 0, none⟩), .pointer (some ⟨Fand, 0, none⟩)] 14 w0 := by
  intro X a b a1 a2 a3 a4 b1 b2 b3 b4 w k0 hX ha hb
  obtain ⟨p, q⟩ := a
  obtain ⟨r, s⟩ := b
  obtain ⟨hp, hq⟩ := ha
  obtain ⟨hr, hs⟩ := hb
  simp only [prA]
  dsimp only at hp hq hr hs
  obtain ⟨pa, rfl⟩ : ∃ x, x = a1 := ⟨_, rfl⟩
  obtain ⟨pc, rfl⟩ : ∃ x, x = a2 := ⟨_, rfl⟩
  obtain ⟨qa, rfl⟩ : ∃ x, x = a3 := ⟨_, rfl⟩
  obtain ⟨qc, rfl⟩ : ∃ x, x = a4 := ⟨_, rfl⟩
  obtain ⟨ra, rfl⟩ : ∃ x, x = b1 := ⟨_, rfl⟩
  obtain ⟨rc, rfl⟩ : ∃ x, x = b2 := ⟨_, rfl⟩
  obtain ⟨sa, rfl⟩ : ∃ x, x = b3 := ⟨_, rfl⟩
  obtain ⟨sc, rfl⟩ : ∃ x, x = b4 := ⟨_, rfl⟩
  obtain ⟨pz, epz⟩ : ∃ x, psz p = x := ⟨_, rfl⟩
  obtain ⟨pd, epd⟩ : ∃ x, pdp p = x := ⟨_, rfl⟩
  obtain ⟨qz, eqz⟩ : ∃ x, psz q = x := ⟨_, rfl⟩
  obtain ⟨qd, eqd⟩ : ∃ x, pdp q = x := ⟨_, rfl⟩
  obtain ⟨rz, erz⟩ : ∃ x, psz r = x := ⟨_, rfl⟩
  obtain ⟨rd, erd⟩ : ∃ x, pdp r = x := ⟨_, rfl⟩
  obtain ⟨sz, esz⟩ : ∃ x, psz s = x := ⟨_, rfl⟩
  obtain ⟨sd, esd⟩ : ∃ x, pdp s = x := ⟨_, rfl⟩
  obtain ⟨z0, ez0⟩ : ∃ x, psz (nn2 6 p r) = x := ⟨_, rfl⟩
  obtain ⟨d0, ed0⟩ : ∃ x, pdp (nn2 6 p r) = x := ⟨_, rfl⟩
  obtain ⟨z1, ez1⟩ : ∃ x, psz (nn2 13 r (nn2 6 p r)) = x := ⟨_, rfl⟩
  obtain ⟨d1, ed1⟩ : ∃ x, pdp (nn2 13 r (nn2 6 p r)) = x := ⟨_, rfl⟩
  obtain ⟨z2, ez2⟩ : ∃ x, psz (nn2 5 q s) = x := ⟨_, rfl⟩
  obtain ⟨d2, ed2⟩ : ∃ x, pdp (nn2 5 q s) = x := ⟨_, rfl⟩
  obtain ⟨z3, ez3⟩ : ∃ x, psz (nn2 12 s (nn2 5 q s)) = x := ⟨_, rfl⟩
  obtain ⟨d3, ed3⟩ : ∃ x, pdp (nn2 12 s (nn2 5 q s)) = x := ⟨_, rfl⟩
  obtain ⟨V, hV⟩ : ∃ V, ((w.alloc (.cells #[.int .u8 (p.op : Nat), .string p.name, .slice pa p.kids.length pc, .int .i64 (pz : Nat), .int .i64 (pd : Nat), .int .u8 (q.op : Nat), .string q.name, .slice qa q.kids.length qc, .int .i64 (qz : Nat), .int .i64 (qd : Nat)] 95)).alloc (.cells #[.int .u8 (r.op : Nat), .string r.name, .slice ra r.kids.length rc, .int .i64 (rz : Nat), .int .i64 (rd : Nat), .int .u8 (s.op : Nat), .string s.name, .slice sa s.kids.length sc, .int .i64 (sz : Nat), .int .i64 (sd : Nat)] 95)).alloc (.cells #[.int .u8 0, .string ⟨#[]⟩, .slice none 0 0, .int .i64 0, .int .i64 0, .int .u8 0, .string ⟨#[]⟩, .slice none 0 0, .int .i64 0, .int .i64 0] 95) = V := ⟨_, rfl⟩
  have kV : Kept [] w V := by rw [← hV]; exact (((Kept.refl [] w).alloc _).alloc _).alloc _
  have zV : V.heap.size = w.heap.size + 3 := by rw [← hV]; simp
  have v0 : Pr10 V w.heap.size (.int .u8 (p.op : Nat)) (.string p.name) (.slice pa p.kids.length pc) (.int .i64 (pz : Nat)) (.int .i64 (pd : Nat)) (.int .u8 (q.op : Nat)) (.string q.name) (.slice qa q.kids.length qc) (.int .i64 (qz : Nat)) (.int .i64 (qd : Nat)) := by rw [← hV]; exact alUp (alUp (al0 w _) _) _
  have v1 : Pr10 V (w.heap.size + 1) (.int .u8 (r.op : Nat)) (.string r.name) (.slice ra r.kids.length rc) (.int .i64 (rz : Nat)) (.int .i64 (rd : Nat)) (.int .u8 (s.op : Nat)) (.string s.name) (.slice sa s.kids.length sc) (.int .i64 (sz : Nat)) (.int .i64 (sd : Nat)) := by rw [← hV]; exact alUp (al1 w _ _) _
  have v2 : Pr10 V (w.heap.size + 1 + 1) (.int .u8 0) (.string ⟨#[]⟩) (.slice none 0 0) (.int .i64 0) (.int .i64 0) (.int .u8 0) (.string ⟨#[]⟩) (.slice none 0 0) (.int .i64 0) (.int .i64 0) := by rw [← hV]; exact al2 w _ _ _
  have fb_release : V.cell? ⟨Frelease, 0, none⟩ = some (.func (.func 139) #[] #[]) := (hrelease.kept k0).kept kV
  have fb_or : V.cell? ⟨For, 0, none⟩ = some (.func (.func 137) #[] #[]) := (hor.kept k0).kept kV
  have fb_until : V.cell? ⟨Funtil, 0, none⟩ = some (.func (.func 138) #[] #[]) := (huntil.kept k0).kept kV
  have fb_and : V.cell? ⟨Fand, 0, none⟩ = some (.func (.func 136) #[] #[]) := (hand.kept k0).kept kV
  have nrelease : Frelease < w.heap.size := World.block_lt_of_cell? w _ (hrelease.kept k0)
  have nor : For < w.heap.size := World.block_lt_of_cell? w _ (hor.kept k0)
  have nuntil : Funtil < w.heap.size := World.block_lt_of_cell? w _ (huntil.kept k0)
  have nand : Fand < w.heap.size := World.block_lt_of_cell? w _ (hand.kept k0)
  have hY : ∀ W : World, V.heap.size ≤ W.heap.size → ∀ k, W.heap.size ≤ k → (fun b => X b ∧ b ≠ w.heap.size + 1 + 1) k := fun W hz k hk => ⟨hX k (by omega), by omega⟩
  have yp : IsQ (fun b => X b ∧ b ≠ w.heap.size + 1 + 1) V p (.slice pa p.kids.length pc) := hp.apart kV (by omega)
  have yq : IsQ (fun b => X b ∧ b ≠ w.heap.size + 1 + 1) V q (.slice qa q.kids.length qc) := hq.apart kV (by omega)
  have yr : IsQ (fun b => X b ∧ b ≠ w.heap.size + 1 + 1) V r (.slice ra r.kids.length rc) := hr.apart kV (by omega)
  have ys : IsQ (fun b => X b ∧ b ≠ w.heap.size + 1 + 1) V s (.slice sa s.kids.length sc) := hs.apart kV (by omega)
  have HJ0 : Hid (∀ (W : World) , Kept [] V W → Calls Tryd.prog 137 #[.agg #[.int .u8 (p.op : Nat), .string p.name, .slice pa p.kids.length pc, .int .i64 (pz : Nat), .int .i64 (pd : Nat)], .agg #[.int .u8 (r.op : Nat), .string r.name, .slice ra r.kids.length rc, .int .i64 (rz : Nat), .int .i64 (rd : Nat)]] W fun e w' => ∃ g, e = .returned (.agg #[.int .u8 6, .string nE, .slice g 2 2, .int .i64 (z0 : Nat), .int .i64 (d0 : Nat)]) ∧ IsQ (fun b => X b ∧ b ≠ w.heap.size + 1 + 1) w' (nn2 6 p r) (.slice g 2 2) ∧ Kept [] W w') := fun W  kW  => by
    have := join_or (fun b => X b ∧ b ≠ w.heap.size + 1 + 1) p r pa ra pc rc W (hY W kW.size) (yp.kept kW) (yr.kept kW)
    simp only [plA, epz, epd, erz, erd, ez0, ed0] at this
    exact this
  have HJ1 : Hid (∀ (W : World) (g0 : Option Addr), Kept [] V W → IsQ (fun b => X b ∧ b ≠ w.heap.size + 1 + 1) W (nn2 6 p r) (.slice g0 2 2) → Calls Tryd.prog 139 #[.agg #[.int .u8 (r.op : Nat), .string r.name, .slice ra r.kids.length rc, .int .i64 (rz : Nat), .int .i64 (rd : Nat)], .agg #[.int .u8 6, .string nE, .slice g0 2 2, .int .i64 (z0 : Nat), .int .i64 (d0 : Nat)]] W fun e w' => ∃ g, e = .returned (.agg #[.int .u8 13, .string nE, .slice g 2 2, .int .i64 (z1 : Nat), .int .i64 (d1 : Nat)]) ∧ IsQ (fun b => X b ∧ b ≠ w.heap.size + 1 + 1) w' (nn2 13 r (nn2 6 p r)) (.slice g 2 2) ∧ Kept [] W w') := fun W g0 kW h0 => by
    have := join_release (fun b => X b ∧ b ≠ w.heap.size + 1 + 1) r (nn2 6 p r) ra g0 rc 2 W (hY W kW.size) (yr.kept kW) h0
    simp only [plA, erz, erd, ez0, ed0, ez1, ed1] at this
    exact this
  have HJ2 : Hid (∀ (W : World) , Kept [] V W → Calls Tryd.prog 136 #[.agg #[.int .u8 (q.op : Nat), .string q.name, .slice qa q.kids.length qc, .int .i64 (qz : Nat), .int .i64 (qd : Nat)], .agg #[.int .u8 (s.op : Nat), .string s.name, .slice sa s.kids.length sc, .int .i64 (sz : Nat), .int .i64 (sd : Nat)]] W fun e w' => ∃ g, e = .returned (.agg #[.int .u8 5, .string nE, .slice g 2 2, .int .i64 (z2 : Nat), .int .i64 (d2 : Nat)]) ∧ IsQ (fun b => X b ∧ b ≠ w.heap.size + 1 + 1) w' (nn2 5 q s) (.slice g 2 2) ∧ Kept [] W w') := fun W  kW  => by
    have := join_and (fun b => X b ∧ b ≠ w.heap.size + 1 + 1) q s qa sa qc sc W (hY W kW.size) (yq.kept kW) (ys.kept kW)
    simp only [plA, eqz, eqd, esz, esd, ez2, ed2] at this
    exact this
  have HJ3 : Hid (∀ (W : World) (g2 : Option Addr), Kept [] V W → IsQ (fun b => X b ∧ b ≠ w.heap.size + 1 + 1) W (nn2 5 q s) (.slice g2 2 2) → Calls Tryd.prog 138 #[.agg #[.int .u8 (s.op : Nat), .string s.name, .slice sa s.kids.length sc, .int .i64 (sz : Nat), .int .i64 (sd : Nat)], .agg #[.int .u8 5, .string nE, .slice g2 2 2, .int .i64 (z2 : Nat), .int .i64 (d2 : Nat)]] W fun e w' => ∃ g, e = .returned (.agg #[.int .u8 12, .string nE, .slice g 2 2, .int .i64 (z3 : Nat), .int .i64 (d3 : Nat)]) ∧ IsQ (fun b => X b ∧ b ≠ w.heap.size + 1 + 1) w' (nn2 12 s (nn2 5 q s)) (.slice g 2 2) ∧ Kept [] W w') := fun W g2 kW h2 => by
    have := join_until (fun b => X b ∧ b ≠ w.heap.size + 1 + 1) s (nn2 5 q s) sa g2 sc 2 W (hY W kW.size) (ys.kept kW) h2
    simp only [plA, esz, esd, ez2, ed2, ez3, ed3] at this
    exact this
  have HV : Hid (_ = V) := hV
  have HKV : Hid (Kept [] w V) := kV
  have HV0 : Hid (Pr10 V w.heap.size (.int .u8 (p.op : Nat)) (.string p.name) (.slice pa p.kids.length pc) (.int .i64 (pz : Nat)) (.int .i64 (pd : Nat)) (.int .u8 (q.op : Nat)) (.string q.name) (.slice qa q.kids.length qc) (.int .i64 (qz : Nat)) (.int .i64 (qd : Nat))) := v0
  have HV1 : Hid (Pr10 V (w.heap.size + 1) (.int .u8 (r.op : Nat)) (.string r.name) (.slice ra r.kids.length rc) (.int .i64 (rz : Nat)) (.int .i64 (rd : Nat)) (.int .u8 (s.op : Nat)) (.string s.name) (.slice sa s.kids.length sc) (.int .i64 (sz : Nat)) (.int .i64 (sd : Nat))) := v1
  have HV2 : Hid (Pr10 V (w.heap.size + 1 + 1) (.int .u8 0) (.string ⟨#[]⟩) (.slice none 0 0) (.int .i64 0) (.int .i64 0) (.int .u8 0) (.string ⟨#[]⟩) (.slice none 0 0) (.int .i64 0) (.int .i64 0)) := v2
  have HE : Hid (psz (nn2 13 r (nn2 6 p r)) = z1 ∧ pdp (nn2 13 r (nn2 6 p r)) = d1 ∧ psz (nn2 12 s (nn2 5 q s)) = z3 ∧ pdp (nn2 12 s (nn2 5 q s)) = d3) := ⟨ez1, ed1, ez3, ed3⟩
  obtain ⟨⟨c0, c1, c2, c3, c4⟩, ⟨c5, c6, c7, c8, c9⟩, -⟩ := v0.cells
  obtain ⟨⟨e0, e1, e2, e3, e4⟩, ⟨e5, e6, e7, e8, e9⟩, -⟩ := v1.cells
  have nR0 : w.heap.size ∉ [w.heap.size + 1 + 1] := by simp; omega
  have nR1 : w.heap.size + 1 ∉ [w.heap.size + 1 + 1] := by simp
  have HS : Hid (∀ w', Kept [w.heap.size + 1 + 1] V w' → w'.cell? ⟨Frelease, 0, none⟩ = some (.func (.func 139) #[] #[]) ∧ w'.cell? ⟨For, 0, none⟩ = some (.func (.func 137) #[] #[]) ∧ w'.cell? ⟨Funtil, 0, none⟩ = some (.func (.func 138) #[] #[]) ∧ w'.cell? ⟨Fand, 0, none⟩ = some (.func (.func 136) #[] #[]) ∧ w'.cell? ⟨w.heap.size, 0, none⟩ = some (.int .u8 (p.op : Nat)) ∧ w'.cell? ⟨w.heap.size, 1, none⟩ = some (.string p.name) ∧ w'.cell? ⟨w.heap.size, 2, none⟩ = some (.slice pa p.kids.length pc) ∧ w'.cell? ⟨w.heap.size, 3, none⟩ = some (.int .i64 (pz : Nat)) ∧ w'.cell? ⟨w.heap.size, 4, none⟩ = some (.int .i64 (pd : Nat)) ∧ w'.cell? ⟨w.heap.size, 5, none⟩ = some (.int .u8 (q.op : Nat)) ∧ w'.cell? ⟨w.heap.size, 6, none⟩ = some (.string q.name) ∧ w'.cell? ⟨w.heap.size, 7, none⟩ = some (.slice qa q.kids.length qc) ∧ w'.cell? ⟨w.heap.size, 8, none⟩ = some (.int .i64 (qz : Nat)) ∧ w'.cell? ⟨w.heap.size, 9, none⟩ = some (.int .i64 (qd : Nat)) ∧ w'.cell? ⟨w.heap.size + 1, 0, none⟩ = some (.int .u8 (r.op : Nat)) ∧ w'.cell? ⟨w.heap.size + 1, 1, none⟩ = some (.string r.name) ∧ w'.cell? ⟨w.heap.size + 1, 2, none⟩ = some (.slice ra r.kids.length rc) ∧ w'.cell? ⟨w.heap.size + 1, 3, none⟩ = some (.int .i64 (rz : Nat)) ∧ w'.cell? ⟨w.heap.size + 1, 4, none⟩ = some (.int .i64 (rd : Nat)) ∧ w'.cell? ⟨w.heap.size + 1, 5, none⟩ = some (.int .u8 (s.op : Nat)) ∧ w'.cell? ⟨w.heap.size + 1, 6, none⟩ = some (.string s.name) ∧ w'.cell? ⟨w.heap.size + 1, 7, none⟩ = some (.slice sa s.kids.length sc) ∧ w'.cell? ⟨w.heap.size + 1, 8, none⟩ = some (.int .i64 (sz : Nat)) ∧ w'.cell? ⟨w.heap.size + 1, 9, none⟩ = some (.int .i64 (sd : Nat))) := fun w' k => ⟨cell_keptF k (by simp; omega) fb_release, cell_keptF k (by simp; omega) fb_or, cell_keptF k (by simp; omega) fb_until, cell_keptF k (by simp; omega) fb_and, cell_keptF k nR0 c0, cell_keptF k nR0 c1, cell_keptF k nR0 c2, cell_keptF k nR0 c3, cell_keptF k nR0 c4, cell_keptF k nR0 c5, cell_keptF k nR0 c6, cell_keptF k nR0 c7, cell_keptF k nR0 c8, cell_keptF k nR0 c9, cell_keptF k nR1 e0, cell_keptF k nR1 e1, cell_keptF k nR1 e2, cell_keptF k nR1 e3, cell_keptF k nR1 e4, cell_keptF k nR1 e5, cell_keptF k nR1 e6, cell_keptF k nR1 e7, cell_keptF k nR1 e8, cell_keptF k nR1 e9⟩
  have T0 : Hid True := trivial
  have T1 : Hid True := trivial
  have T2 : Hid True := trivial
  have T3 : Hid True := trivial
  have HR : Hid (∀ W, Kept [] V W → Pr10 W (w.heap.size + 1 + 1) (.int .u8 0) (.string ⟨#[]⟩) (.slice none 0 0) (.int .i64 0) (.int .i64 0) (.int .u8 0) (.string ⟨#[]⟩) (.slice none 0 0) (.int .i64 0) (.int .i64 0)) := fun W k => v2.kept k (by simp)
  clear hp hq hr hs k0 hX kV v0 v1 v2 hV hY hrelease hor huntil hand yp yq yr ys ez0 ed0 ez1 ed1 ez2 ed2 ez3 ed3
  rw [epz, epd, eqz, eqd, erz, erd, esz, esd]
  clear epz epd eqz eqd erz erd esz esd nR0 nR1
  show Calls Tryd.prog 150 #[.agg #[.int .u8 (p.op : Nat), .string p.name, .slice pa p.kids.length pc, .int .i64 (pz : Nat), .int .i64 (pd : Nat), .int .u8 (q.op : Nat), .string q.name, .slice qa q.kids.length qc, .int .i64 (qz : Nat), .int .i64 (qd : Nat)], .agg #[.int .u8 (r.op : Nat), .string r.name, .slice ra r.kids.length rc, .int .i64 (rz : Nat), .int .i64 (rd : Nat), .int .u8 (s.op : Nat), .string s.name, .slice sa s.kids.length sc, .int .i64 (sz : Nat), .int .i64 (sd : Nat)], .pointer (some ⟨Frelease, 0, none⟩), .pointer (some ⟨For, 0, none⟩), .pointer (some ⟨Funtil, 0, none⟩), .pointer (some ⟨Fand, 0, none⟩)] w _
  go_enter Tryd.func150, Tryd.ntmps150
  go_wp2_with fail
  rw [HV.out]
  go_region_held3 (fun w' => w'.cell? ⟨Frelease, 0, none⟩ = some (.func (.func 139) #[] #[]) ∧ w'.cell? ⟨For, 0, none⟩ = some (.func (.func 137) #[] #[]) ∧ w'.cell? ⟨Funtil, 0, none⟩ = some (.func (.func 138) #[] #[]) ∧ w'.cell? ⟨Fand, 0, none⟩ = some (.func (.func 136) #[] #[]) ∧ w'.cell? ⟨w.heap.size, 0, none⟩ = some (.int .u8 (p.op : Nat)) ∧ w'.cell? ⟨w.heap.size, 1, none⟩ = some (.string p.name) ∧ w'.cell? ⟨w.heap.size, 2, none⟩ = some (.slice pa p.kids.length pc) ∧ w'.cell? ⟨w.heap.size, 3, none⟩ = some (.int .i64 (pz : Nat)) ∧ w'.cell? ⟨w.heap.size, 4, none⟩ = some (.int .i64 (pd : Nat)) ∧ w'.cell? ⟨w.heap.size, 5, none⟩ = some (.int .u8 (q.op : Nat)) ∧ w'.cell? ⟨w.heap.size, 6, none⟩ = some (.string q.name) ∧ w'.cell? ⟨w.heap.size, 7, none⟩ = some (.slice qa q.kids.length qc) ∧ w'.cell? ⟨w.heap.size, 8, none⟩ = some (.int .i64 (qz : Nat)) ∧ w'.cell? ⟨w.heap.size, 9, none⟩ = some (.int .i64 (qd : Nat)) ∧ w'.cell? ⟨w.heap.size + 1, 0, none⟩ = some (.int .u8 (r.op : Nat)) ∧ w'.cell? ⟨w.heap.size + 1, 1, none⟩ = some (.string r.name) ∧ w'.cell? ⟨w.heap.size + 1, 2, none⟩ = some (.slice ra r.kids.length rc) ∧ w'.cell? ⟨w.heap.size + 1, 3, none⟩ = some (.int .i64 (rz : Nat)) ∧ w'.cell? ⟨w.heap.size + 1, 4, none⟩ = some (.int .i64 (rd : Nat)) ∧ w'.cell? ⟨w.heap.size + 1, 5, none⟩ = some (.int .u8 (s.op : Nat)) ∧ w'.cell? ⟨w.heap.size + 1, 6, none⟩ = some (.string s.name) ∧ w'.cell? ⟨w.heap.size + 1, 7, none⟩ = some (.slice sa s.kids.length sc) ∧ w'.cell? ⟨w.heap.size + 1, 8, none⟩ = some (.int .i64 (sz : Nat)) ∧ w'.cell? ⟨w.heap.size + 1, 9, none⟩ = some (.int .i64 (sd : Nat)))
    ((refine HS.out _ ?_; (repeat (first | (with_reducible exact Kept.refl _ _) | (with_reducible refine Kept.drew ?_) | (with_reducible refine Kept.setCell ?_ (Or.inl (by simp)) _) | with_reducible refine Kept.trans (F := [w.heap.size + 1 + 1]) (G := []) (H := [w.heap.size + 1 + 1]) ?_ HK3.out (by simp) (by simp) | with_reducible refine Kept.trans (F := [w.heap.size + 1 + 1]) (G := []) (H := [w.heap.size + 1 + 1]) ?_ HK2.out (by simp) (by simp) | with_reducible refine Kept.trans (F := [w.heap.size + 1 + 1]) (G := []) (H := [w.heap.size + 1 + 1]) ?_ HK1.out (by simp) (by simp) | with_reducible refine Kept.trans (F := [w.heap.size + 1 + 1]) (G := []) (H := [w.heap.size + 1 + 1]) ?_ HK0.out (by simp) (by simp)))))
    (first | (clear T0; go_at_call 137; refine (HJ0.out _  ((Kept.refl [] V).drew) ).mono ?_; rintro e W0 ⟨g0, rfl, p0, k0⟩; have HKV0 : Hid (Kept [] V W0) := ((Kept.refl [] V).drew).trans k0 (by simp) (by simp); have HK0 : Hid (Kept [] _ W0) := k0; have HP0_0 : Hid (IsQ (fun b => X b ∧ b ≠ w.heap.size + 1 + 1) W0 (nn2 6 p r) (.slice g0 2 2)) := p0; clear p0 k0) | (clear T1; go_at_call 139; refine (HJ1.out _ g0 (HKV0.out) HP0_0.out).mono ?_; rintro e W1 ⟨g1, rfl, p1, k1⟩; have HKV1 : Hid (Kept [] V W1) := (HKV0.out).trans k1 (by simp) (by simp); have HK1 : Hid (Kept [] _ W1) := k1; have HP1_1 : Hid (IsQ (fun b => X b ∧ b ≠ w.heap.size + 1 + 1) W1 (nn2 13 r (nn2 6 p r)) (.slice g1 2 2)) := p1; have HP0_1 : Hid (IsQ (fun b => X b ∧ b ≠ w.heap.size + 1 + 1) W1 (nn2 6 p r) (.slice g0 2 2)) := HP0_0.out.kept k1; clear p1 k1) | (clear T2; go_at_call 136; refine (HJ2.out _  (HKV1.out) ).mono ?_; rintro e W2 ⟨g2, rfl, p2, k2⟩; have HKV2 : Hid (Kept [] V W2) := (HKV1.out).trans k2 (by simp) (by simp); have HK2 : Hid (Kept [] _ W2) := k2; have HP2_2 : Hid (IsQ (fun b => X b ∧ b ≠ w.heap.size + 1 + 1) W2 (nn2 5 q s) (.slice g2 2 2)) := p2; have HP0_2 : Hid (IsQ (fun b => X b ∧ b ≠ w.heap.size + 1 + 1) W2 (nn2 6 p r) (.slice g0 2 2)) := HP0_1.out.kept k2; have HP1_2 : Hid (IsQ (fun b => X b ∧ b ≠ w.heap.size + 1 + 1) W2 (nn2 13 r (nn2 6 p r)) (.slice g1 2 2)) := HP1_1.out.kept k2; clear p2 k2) | (clear T3; go_at_call 138; refine (HJ3.out _ g2 (HKV2.out) HP2_2.out).mono ?_; rintro e W3 ⟨g3, rfl, p3, k3⟩; have HKV3 : Hid (Kept [] V W3) := (HKV2.out).trans k3 (by simp) (by simp); have HK3 : Hid (Kept [] _ W3) := k3; have HP3_3 : Hid (IsQ (fun b => X b ∧ b ≠ w.heap.size + 1 + 1) W3 (nn2 12 s (nn2 5 q s)) (.slice g3 2 2)) := p3; have HP0_3 : Hid (IsQ (fun b => X b ∧ b ≠ w.heap.size + 1 + 1) W3 (nn2 6 p r) (.slice g0 2 2)) := HP0_2.out.kept k3; have HP1_3 : Hid (IsQ (fun b => X b ∧ b ≠ w.heap.size + 1 + 1) W3 (nn2 13 r (nn2 6 p r)) (.slice g1 2 2)) := HP1_2.out.kept k3; have HP2_3 : Hid (IsQ (fun b => X b ∧ b ≠ w.heap.size + 1 + 1) W3 (nn2 5 q s) (.slice g2 2 2)) := HP2_2.out.kept k3; obtain ⟨⟨r0, r1, r2, r3, r4⟩, ⟨r5, r6, r7, r8, r9⟩, rf⟩ := (HR.out W3 HKV3.out).cells; clear p3 k3))
  all_goals go_wp2
  all_goals
    refine ret_pr rfl rfl rfl ((HR.out W3 HKV3.out).set (.int .u8 13) (.string nE) (.slice g1 2 2) (.int .i64 (z1 : Nat)) (.int .i64 (d1 : Nat)) (.int .u8 12) (.string nE) (.slice g3 2 2) (.int .i64 (z3 : Nat)) (.int .i64 (d3 : Nat))) ⟨g1, 2, g3, 2, ?_, ⟨HP1_3.out.set10 _ _ _ _ _ _ _ _ _ _, HP3_3.out.set10 _ _ _ _ _ _ _ _ _ _⟩, kept_set10 (HKV.out.trans HKV3.out (by simp) (by simp)) (.inr (by omega)) _ _ _ _ _ _ _ _ _ _⟩
    obtain ⟨h1, h2, h3, h4⟩ := HE.out
    rw [← h1, ← h2, ← h3, ← h4]; rfl
set_option maxHeartbeats 4000000 in
set_option maxRecDepth 20000 in
theorem col_strong (w0 : World) (Funtil Fand Frelease For : Nat) (huntil : FnAt w0 Funtil 138) (hand : FnAt w0 Fand 136) (hrelease : FnAt w0 Frelease 139) (hor : FnAt w0 For 137) : ColDoes 151 #[.pointer (some ⟨Funtil, 0, none⟩), .pointer (some ⟨Fand, 0, none⟩), .pointer (some ⟨Frelease, 0, none⟩), .pointer (some ⟨For, 0, none⟩)] 15 w0 := by
  intro X a b a1 a2 a3 a4 b1 b2 b3 b4 w k0 hX ha hb
  obtain ⟨p, q⟩ := a
  obtain ⟨r, s⟩ := b
  obtain ⟨hp, hq⟩ := ha
  obtain ⟨hr, hs⟩ := hb
  simp only [prA]
  dsimp only at hp hq hr hs
  obtain ⟨pa, rfl⟩ : ∃ x, x = a1 := ⟨_, rfl⟩
  obtain ⟨pc, rfl⟩ : ∃ x, x = a2 := ⟨_, rfl⟩
  obtain ⟨qa, rfl⟩ : ∃ x, x = a3 := ⟨_, rfl⟩
  obtain ⟨qc, rfl⟩ : ∃ x, x = a4 := ⟨_, rfl⟩
  obtain ⟨ra, rfl⟩ : ∃ x, x = b1 := ⟨_, rfl⟩
  obtain ⟨rc, rfl⟩ : ∃ x, x = b2 := ⟨_, rfl⟩
  obtain ⟨sa, rfl⟩ : ∃ x, x = b3 := ⟨_, rfl⟩
  obtain ⟨sc, rfl⟩ : ∃ x, x = b4 := ⟨_, rfl⟩
  obtain ⟨pz, epz⟩ : ∃ x, psz p = x := ⟨_, rfl⟩
  obtain ⟨pd, epd⟩ : ∃ x, pdp p = x := ⟨_, rfl⟩
  obtain ⟨qz, eqz⟩ : ∃ x, psz q = x := ⟨_, rfl⟩
  obtain ⟨qd, eqd⟩ : ∃ x, pdp q = x := ⟨_, rfl⟩
  obtain ⟨rz, erz⟩ : ∃ x, psz r = x := ⟨_, rfl⟩
  obtain ⟨rd, erd⟩ : ∃ x, pdp r = x := ⟨_, rfl⟩
  obtain ⟨sz, esz⟩ : ∃ x, psz s = x := ⟨_, rfl⟩
  obtain ⟨sd, esd⟩ : ∃ x, pdp s = x := ⟨_, rfl⟩
  obtain ⟨z0, ez0⟩ : ∃ x, psz (nn2 5 p r) = x := ⟨_, rfl⟩
  obtain ⟨d0, ed0⟩ : ∃ x, pdp (nn2 5 p r) = x := ⟨_, rfl⟩
  obtain ⟨z1, ez1⟩ : ∃ x, psz (nn2 12 r (nn2 5 p r)) = x := ⟨_, rfl⟩
  obtain ⟨d1, ed1⟩ : ∃ x, pdp (nn2 12 r (nn2 5 p r)) = x := ⟨_, rfl⟩
  obtain ⟨z2, ez2⟩ : ∃ x, psz (nn2 6 q s) = x := ⟨_, rfl⟩
  obtain ⟨d2, ed2⟩ : ∃ x, pdp (nn2 6 q s) = x := ⟨_, rfl⟩
  obtain ⟨z3, ez3⟩ : ∃ x, psz (nn2 13 s (nn2 6 q s)) = x := ⟨_, rfl⟩
  obtain ⟨d3, ed3⟩ : ∃ x, pdp (nn2 13 s (nn2 6 q s)) = x := ⟨_, rfl⟩
  obtain ⟨V, hV⟩ : ∃ V, ((w.alloc (.cells #[.int .u8 (p.op : Nat), .string p.name, .slice pa p.kids.length pc, .int .i64 (pz : Nat), .int .i64 (pd : Nat), .int .u8 (q.op : Nat), .string q.name, .slice qa q.kids.length qc, .int .i64 (qz : Nat), .int .i64 (qd : Nat)] 95)).alloc (.cells #[.int .u8 (r.op : Nat), .string r.name, .slice ra r.kids.length rc, .int .i64 (rz : Nat), .int .i64 (rd : Nat), .int .u8 (s.op : Nat), .string s.name, .slice sa s.kids.length sc, .int .i64 (sz : Nat), .int .i64 (sd : Nat)] 95)).alloc (.cells #[.int .u8 0, .string ⟨#[]⟩, .slice none 0 0, .int .i64 0, .int .i64 0, .int .u8 0, .string ⟨#[]⟩, .slice none 0 0, .int .i64 0, .int .i64 0] 95) = V := ⟨_, rfl⟩
  have kV : Kept [] w V := by rw [← hV]; exact (((Kept.refl [] w).alloc _).alloc _).alloc _
  have zV : V.heap.size = w.heap.size + 3 := by rw [← hV]; simp
  have v0 : Pr10 V w.heap.size (.int .u8 (p.op : Nat)) (.string p.name) (.slice pa p.kids.length pc) (.int .i64 (pz : Nat)) (.int .i64 (pd : Nat)) (.int .u8 (q.op : Nat)) (.string q.name) (.slice qa q.kids.length qc) (.int .i64 (qz : Nat)) (.int .i64 (qd : Nat)) := by rw [← hV]; exact alUp (alUp (al0 w _) _) _
  have v1 : Pr10 V (w.heap.size + 1) (.int .u8 (r.op : Nat)) (.string r.name) (.slice ra r.kids.length rc) (.int .i64 (rz : Nat)) (.int .i64 (rd : Nat)) (.int .u8 (s.op : Nat)) (.string s.name) (.slice sa s.kids.length sc) (.int .i64 (sz : Nat)) (.int .i64 (sd : Nat)) := by rw [← hV]; exact alUp (al1 w _ _) _
  have v2 : Pr10 V (w.heap.size + 1 + 1) (.int .u8 0) (.string ⟨#[]⟩) (.slice none 0 0) (.int .i64 0) (.int .i64 0) (.int .u8 0) (.string ⟨#[]⟩) (.slice none 0 0) (.int .i64 0) (.int .i64 0) := by rw [← hV]; exact al2 w _ _ _
  have fb_until : V.cell? ⟨Funtil, 0, none⟩ = some (.func (.func 138) #[] #[]) := (huntil.kept k0).kept kV
  have fb_and : V.cell? ⟨Fand, 0, none⟩ = some (.func (.func 136) #[] #[]) := (hand.kept k0).kept kV
  have fb_release : V.cell? ⟨Frelease, 0, none⟩ = some (.func (.func 139) #[] #[]) := (hrelease.kept k0).kept kV
  have fb_or : V.cell? ⟨For, 0, none⟩ = some (.func (.func 137) #[] #[]) := (hor.kept k0).kept kV
  have nuntil : Funtil < w.heap.size := World.block_lt_of_cell? w _ (huntil.kept k0)
  have nand : Fand < w.heap.size := World.block_lt_of_cell? w _ (hand.kept k0)
  have nrelease : Frelease < w.heap.size := World.block_lt_of_cell? w _ (hrelease.kept k0)
  have nor : For < w.heap.size := World.block_lt_of_cell? w _ (hor.kept k0)
  have hY : ∀ W : World, V.heap.size ≤ W.heap.size → ∀ k, W.heap.size ≤ k → (fun b => X b ∧ b ≠ w.heap.size + 1 + 1) k := fun W hz k hk => ⟨hX k (by omega), by omega⟩
  have yp : IsQ (fun b => X b ∧ b ≠ w.heap.size + 1 + 1) V p (.slice pa p.kids.length pc) := hp.apart kV (by omega)
  have yq : IsQ (fun b => X b ∧ b ≠ w.heap.size + 1 + 1) V q (.slice qa q.kids.length qc) := hq.apart kV (by omega)
  have yr : IsQ (fun b => X b ∧ b ≠ w.heap.size + 1 + 1) V r (.slice ra r.kids.length rc) := hr.apart kV (by omega)
  have ys : IsQ (fun b => X b ∧ b ≠ w.heap.size + 1 + 1) V s (.slice sa s.kids.length sc) := hs.apart kV (by omega)
  have HJ0 : Hid (∀ (W : World) , Kept [] V W → Calls Tryd.prog 136 #[.agg #[.int .u8 (p.op : Nat), .string p.name, .slice pa p.kids.length pc, .int .i64 (pz : Nat), .int .i64 (pd : Nat)], .agg #[.int .u8 (r.op : Nat), .string r.name, .slice ra r.kids.length rc, .int .i64 (rz : Nat), .int .i64 (rd : Nat)]] W fun e w' => ∃ g, e = .returned (.agg #[.int .u8 5, .string nE, .slice g 2 2, .int .i64 (z0 : Nat), .int .i64 (d0 : Nat)]) ∧ IsQ (fun b => X b ∧ b ≠ w.heap.size + 1 + 1) w' (nn2 5 p r) (.slice g 2 2) ∧ Kept [] W w') := fun W  kW  => by
    have := join_and (fun b => X b ∧ b ≠ w.heap.size + 1 + 1) p r pa ra pc rc W (hY W kW.size) (yp.kept kW) (yr.kept kW)
    simp only [plA, epz, epd, erz, erd, ez0, ed0] at this
    exact this
  have HJ1 : Hid (∀ (W : World) (g0 : Option Addr), Kept [] V W → IsQ (fun b => X b ∧ b ≠ w.heap.size + 1 + 1) W (nn2 5 p r) (.slice g0 2 2) → Calls Tryd.prog 138 #[.agg #[.int .u8 (r.op : Nat), .string r.name, .slice ra r.kids.length rc, .int .i64 (rz : Nat), .int .i64 (rd : Nat)], .agg #[.int .u8 5, .string nE, .slice g0 2 2, .int .i64 (z0 : Nat), .int .i64 (d0 : Nat)]] W fun e w' => ∃ g, e = .returned (.agg #[.int .u8 12, .string nE, .slice g 2 2, .int .i64 (z1 : Nat), .int .i64 (d1 : Nat)]) ∧ IsQ (fun b => X b ∧ b ≠ w.heap.size + 1 + 1) w' (nn2 12 r (nn2 5 p r)) (.slice g 2 2) ∧ Kept [] W w') := fun W g0 kW h0 => by
    have := join_until (fun b => X b ∧ b ≠ w.heap.size + 1 + 1) r (nn2 5 p r) ra g0 rc 2 W (hY W kW.size) (yr.kept kW) h0
    simp only [plA, erz, erd, ez0, ed0, ez1, ed1] at this
    exact this
  have HJ2 : Hid (∀ (W : World) , Kept [] V W → Calls Tryd.prog 137 #[.agg #[.int .u8 (q.op : Nat), .string q.name, .slice qa q.kids.length qc, .int .i64 (qz : Nat), .int .i64 (qd : Nat)], .agg #[.int .u8 (s.op : Nat), .string s.name, .slice sa s.kids.length sc, .int .i64 (sz : Nat), .int .i64 (sd : Nat)]] W fun e w' => ∃ g, e = .returned (.agg #[.int .u8 6, .string nE, .slice g 2 2, .int .i64 (z2 : Nat), .int .i64 (d2 : Nat)]) ∧ IsQ (fun b => X b ∧ b ≠ w.heap.size + 1 + 1) w' (nn2 6 q s) (.slice g 2 2) ∧ Kept [] W w') := fun W  kW  => by
    have := join_or (fun b => X b ∧ b ≠ w.heap.size + 1 + 1) q s qa sa qc sc W (hY W kW.size) (yq.kept kW) (ys.kept kW)
    simp only [plA, eqz, eqd, esz, esd, ez2, ed2] at this
    exact this
  have HJ3 : Hid (∀ (W : World) (g2 : Option Addr), Kept [] V W → IsQ (fun b => X b ∧ b ≠ w.heap.size + 1 + 1) W (nn2 6 q s) (.slice g2 2 2) → Calls Tryd.prog 139 #[.agg #[.int .u8 (s.op : Nat), .string s.name, .slice sa s.kids.length sc, .int .i64 (sz : Nat), .int .i64 (sd : Nat)], .agg #[.int .u8 6, .string nE, .slice g2 2 2, .int .i64 (z2 : Nat), .int .i64 (d2 : Nat)]] W fun e w' => ∃ g, e = .returned (.agg #[.int .u8 13, .string nE, .slice g 2 2, .int .i64 (z3 : Nat), .int .i64 (d3 : Nat)]) ∧ IsQ (fun b => X b ∧ b ≠ w.heap.size + 1 + 1) w' (nn2 13 s (nn2 6 q s)) (.slice g 2 2) ∧ Kept [] W w') := fun W g2 kW h2 => by
    have := join_release (fun b => X b ∧ b ≠ w.heap.size + 1 + 1) s (nn2 6 q s) sa g2 sc 2 W (hY W kW.size) (ys.kept kW) h2
    simp only [plA, esz, esd, ez2, ed2, ez3, ed3] at this
    exact this
  have HV : Hid (_ = V) := hV
  have HKV : Hid (Kept [] w V) := kV
  have HV0 : Hid (Pr10 V w.heap.size (.int .u8 (p.op : Nat)) (.string p.name) (.slice pa p.kids.length pc) (.int .i64 (pz : Nat)) (.int .i64 (pd : Nat)) (.int .u8 (q.op : Nat)) (.string q.name) (.slice qa q.kids.length qc) (.int .i64 (qz : Nat)) (.int .i64 (qd : Nat))) := v0
  have HV1 : Hid (Pr10 V (w.heap.size + 1) (.int .u8 (r.op : Nat)) (.string r.name) (.slice ra r.kids.length rc) (.int .i64 (rz : Nat)) (.int .i64 (rd : Nat)) (.int .u8 (s.op : Nat)) (.string s.name) (.slice sa s.kids.length sc) (.int .i64 (sz : Nat)) (.int .i64 (sd : Nat))) := v1
  have HV2 : Hid (Pr10 V (w.heap.size + 1 + 1) (.int .u8 0) (.string ⟨#[]⟩) (.slice none 0 0) (.int .i64 0) (.int .i64 0) (.int .u8 0) (.string ⟨#[]⟩) (.slice none 0 0) (.int .i64 0) (.int .i64 0)) := v2
  have HE : Hid (psz (nn2 12 r (nn2 5 p r)) = z1 ∧ pdp (nn2 12 r (nn2 5 p r)) = d1 ∧ psz (nn2 13 s (nn2 6 q s)) = z3 ∧ pdp (nn2 13 s (nn2 6 q s)) = d3) := ⟨ez1, ed1, ez3, ed3⟩
  obtain ⟨⟨c0, c1, c2, c3, c4⟩, ⟨c5, c6, c7, c8, c9⟩, -⟩ := v0.cells
  obtain ⟨⟨e0, e1, e2, e3, e4⟩, ⟨e5, e6, e7, e8, e9⟩, -⟩ := v1.cells
  have nR0 : w.heap.size ∉ [w.heap.size + 1 + 1] := by simp; omega
  have nR1 : w.heap.size + 1 ∉ [w.heap.size + 1 + 1] := by simp
  have HS : Hid (∀ w', Kept [w.heap.size + 1 + 1] V w' → w'.cell? ⟨Funtil, 0, none⟩ = some (.func (.func 138) #[] #[]) ∧ w'.cell? ⟨Fand, 0, none⟩ = some (.func (.func 136) #[] #[]) ∧ w'.cell? ⟨Frelease, 0, none⟩ = some (.func (.func 139) #[] #[]) ∧ w'.cell? ⟨For, 0, none⟩ = some (.func (.func 137) #[] #[]) ∧ w'.cell? ⟨w.heap.size, 0, none⟩ = some (.int .u8 (p.op : Nat)) ∧ w'.cell? ⟨w.heap.size, 1, none⟩ = some (.string p.name) ∧ w'.cell? ⟨w.heap.size, 2, none⟩ = some (.slice pa p.kids.length pc) ∧ w'.cell? ⟨w.heap.size, 3, none⟩ = some (.int .i64 (pz : Nat)) ∧ w'.cell? ⟨w.heap.size, 4, none⟩ = some (.int .i64 (pd : Nat)) ∧ w'.cell? ⟨w.heap.size, 5, none⟩ = some (.int .u8 (q.op : Nat)) ∧ w'.cell? ⟨w.heap.size, 6, none⟩ = some (.string q.name) ∧ w'.cell? ⟨w.heap.size, 7, none⟩ = some (.slice qa q.kids.length qc) ∧ w'.cell? ⟨w.heap.size, 8, none⟩ = some (.int .i64 (qz : Nat)) ∧ w'.cell? ⟨w.heap.size, 9, none⟩ = some (.int .i64 (qd : Nat)) ∧ w'.cell? ⟨w.heap.size + 1, 0, none⟩ = some (.int .u8 (r.op : Nat)) ∧ w'.cell? ⟨w.heap.size + 1, 1, none⟩ = some (.string r.name) ∧ w'.cell? ⟨w.heap.size + 1, 2, none⟩ = some (.slice ra r.kids.length rc) ∧ w'.cell? ⟨w.heap.size + 1, 3, none⟩ = some (.int .i64 (rz : Nat)) ∧ w'.cell? ⟨w.heap.size + 1, 4, none⟩ = some (.int .i64 (rd : Nat)) ∧ w'.cell? ⟨w.heap.size + 1, 5, none⟩ = some (.int .u8 (s.op : Nat)) ∧ w'.cell? ⟨w.heap.size + 1, 6, none⟩ = some (.string s.name) ∧ w'.cell? ⟨w.heap.size + 1, 7, none⟩ = some (.slice sa s.kids.length sc) ∧ w'.cell? ⟨w.heap.size + 1, 8, none⟩ = some (.int .i64 (sz : Nat)) ∧ w'.cell? ⟨w.heap.size + 1, 9, none⟩ = some (.int .i64 (sd : Nat))) := fun w' k => ⟨cell_keptF k (by simp; omega) fb_until, cell_keptF k (by simp; omega) fb_and, cell_keptF k (by simp; omega) fb_release, cell_keptF k (by simp; omega) fb_or, cell_keptF k nR0 c0, cell_keptF k nR0 c1, cell_keptF k nR0 c2, cell_keptF k nR0 c3, cell_keptF k nR0 c4, cell_keptF k nR0 c5, cell_keptF k nR0 c6, cell_keptF k nR0 c7, cell_keptF k nR0 c8, cell_keptF k nR0 c9, cell_keptF k nR1 e0, cell_keptF k nR1 e1, cell_keptF k nR1 e2, cell_keptF k nR1 e3, cell_keptF k nR1 e4, cell_keptF k nR1 e5, cell_keptF k nR1 e6, cell_keptF k nR1 e7, cell_keptF k nR1 e8, cell_keptF k nR1 e9⟩
  have T0 : Hid True := trivial
  have T1 : Hid True := trivial
  have T2 : Hid True := trivial
  have T3 : Hid True := trivial
  have HR : Hid (∀ W, Kept [] V W → Pr10 W (w.heap.size + 1 + 1) (.int .u8 0) (.string ⟨#[]⟩) (.slice none 0 0) (.int .i64 0) (.int .i64 0) (.int .u8 0) (.string ⟨#[]⟩) (.slice none 0 0) (.int .i64 0) (.int .i64 0)) := fun W k => v2.kept k (by simp)
  clear hp hq hr hs k0 hX kV v0 v1 v2 hV hY huntil hand hrelease hor yp yq yr ys ez0 ed0 ez1 ed1 ez2 ed2 ez3 ed3
  rw [epz, epd, eqz, eqd, erz, erd, esz, esd]
  clear epz epd eqz eqd erz erd esz esd nR0 nR1
  show Calls Tryd.prog 151 #[.agg #[.int .u8 (p.op : Nat), .string p.name, .slice pa p.kids.length pc, .int .i64 (pz : Nat), .int .i64 (pd : Nat), .int .u8 (q.op : Nat), .string q.name, .slice qa q.kids.length qc, .int .i64 (qz : Nat), .int .i64 (qd : Nat)], .agg #[.int .u8 (r.op : Nat), .string r.name, .slice ra r.kids.length rc, .int .i64 (rz : Nat), .int .i64 (rd : Nat), .int .u8 (s.op : Nat), .string s.name, .slice sa s.kids.length sc, .int .i64 (sz : Nat), .int .i64 (sd : Nat)], .pointer (some ⟨Funtil, 0, none⟩), .pointer (some ⟨Fand, 0, none⟩), .pointer (some ⟨Frelease, 0, none⟩), .pointer (some ⟨For, 0, none⟩)] w _
  go_enter Tryd.func151, Tryd.ntmps151
  go_wp2_with fail
  rw [HV.out]
  go_region_held3 (fun w' => w'.cell? ⟨Funtil, 0, none⟩ = some (.func (.func 138) #[] #[]) ∧ w'.cell? ⟨Fand, 0, none⟩ = some (.func (.func 136) #[] #[]) ∧ w'.cell? ⟨Frelease, 0, none⟩ = some (.func (.func 139) #[] #[]) ∧ w'.cell? ⟨For, 0, none⟩ = some (.func (.func 137) #[] #[]) ∧ w'.cell? ⟨w.heap.size, 0, none⟩ = some (.int .u8 (p.op : Nat)) ∧ w'.cell? ⟨w.heap.size, 1, none⟩ = some (.string p.name) ∧ w'.cell? ⟨w.heap.size, 2, none⟩ = some (.slice pa p.kids.length pc) ∧ w'.cell? ⟨w.heap.size, 3, none⟩ = some (.int .i64 (pz : Nat)) ∧ w'.cell? ⟨w.heap.size, 4, none⟩ = some (.int .i64 (pd : Nat)) ∧ w'.cell? ⟨w.heap.size, 5, none⟩ = some (.int .u8 (q.op : Nat)) ∧ w'.cell? ⟨w.heap.size, 6, none⟩ = some (.string q.name) ∧ w'.cell? ⟨w.heap.size, 7, none⟩ = some (.slice qa q.kids.length qc) ∧ w'.cell? ⟨w.heap.size, 8, none⟩ = some (.int .i64 (qz : Nat)) ∧ w'.cell? ⟨w.heap.size, 9, none⟩ = some (.int .i64 (qd : Nat)) ∧ w'.cell? ⟨w.heap.size + 1, 0, none⟩ = some (.int .u8 (r.op : Nat)) ∧ w'.cell? ⟨w.heap.size + 1, 1, none⟩ = some (.string r.name) ∧ w'.cell? ⟨w.heap.size + 1, 2, none⟩ = some (.slice ra r.kids.length rc) ∧ w'.cell? ⟨w.heap.size + 1, 3, none⟩ = some (.int .i64 (rz : Nat)) ∧ w'.cell? ⟨w.heap.size + 1, 4, none⟩ = some (.int .i64 (rd : Nat)) ∧ w'.cell? ⟨w.heap.size + 1, 5, none⟩ = some (.int .u8 (s.op : Nat)) ∧ w'.cell? ⟨w.heap.size + 1, 6, none⟩ = some (.string s.name) ∧ w'.cell? ⟨w.heap.size + 1, 7, none⟩ = some (.slice sa s.kids.length sc) ∧ w'.cell? ⟨w.heap.size + 1, 8, none⟩ = some (.int .i64 (sz : Nat)) ∧ w'.cell? ⟨w.heap.size + 1, 9, none⟩ = some (.int .i64 (sd : Nat)))
    ((refine HS.out _ ?_; (repeat (first | (with_reducible exact Kept.refl _ _) | (with_reducible refine Kept.drew ?_) | (with_reducible refine Kept.setCell ?_ (Or.inl (by simp)) _) | with_reducible refine Kept.trans (F := [w.heap.size + 1 + 1]) (G := []) (H := [w.heap.size + 1 + 1]) ?_ HK3.out (by simp) (by simp) | with_reducible refine Kept.trans (F := [w.heap.size + 1 + 1]) (G := []) (H := [w.heap.size + 1 + 1]) ?_ HK2.out (by simp) (by simp) | with_reducible refine Kept.trans (F := [w.heap.size + 1 + 1]) (G := []) (H := [w.heap.size + 1 + 1]) ?_ HK1.out (by simp) (by simp) | with_reducible refine Kept.trans (F := [w.heap.size + 1 + 1]) (G := []) (H := [w.heap.size + 1 + 1]) ?_ HK0.out (by simp) (by simp)))))
    (first | (clear T0; go_at_call 136; refine (HJ0.out _  ((Kept.refl [] V).drew) ).mono ?_; rintro e W0 ⟨g0, rfl, p0, k0⟩; have HKV0 : Hid (Kept [] V W0) := ((Kept.refl [] V).drew).trans k0 (by simp) (by simp); have HK0 : Hid (Kept [] _ W0) := k0; have HP0_0 : Hid (IsQ (fun b => X b ∧ b ≠ w.heap.size + 1 + 1) W0 (nn2 5 p r) (.slice g0 2 2)) := p0; clear p0 k0) | (clear T1; go_at_call 138; refine (HJ1.out _ g0 (HKV0.out) HP0_0.out).mono ?_; rintro e W1 ⟨g1, rfl, p1, k1⟩; have HKV1 : Hid (Kept [] V W1) := (HKV0.out).trans k1 (by simp) (by simp); have HK1 : Hid (Kept [] _ W1) := k1; have HP1_1 : Hid (IsQ (fun b => X b ∧ b ≠ w.heap.size + 1 + 1) W1 (nn2 12 r (nn2 5 p r)) (.slice g1 2 2)) := p1; have HP0_1 : Hid (IsQ (fun b => X b ∧ b ≠ w.heap.size + 1 + 1) W1 (nn2 5 p r) (.slice g0 2 2)) := HP0_0.out.kept k1; clear p1 k1) | (clear T2; go_at_call 137; refine (HJ2.out _  (HKV1.out) ).mono ?_; rintro e W2 ⟨g2, rfl, p2, k2⟩; have HKV2 : Hid (Kept [] V W2) := (HKV1.out).trans k2 (by simp) (by simp); have HK2 : Hid (Kept [] _ W2) := k2; have HP2_2 : Hid (IsQ (fun b => X b ∧ b ≠ w.heap.size + 1 + 1) W2 (nn2 6 q s) (.slice g2 2 2)) := p2; have HP0_2 : Hid (IsQ (fun b => X b ∧ b ≠ w.heap.size + 1 + 1) W2 (nn2 5 p r) (.slice g0 2 2)) := HP0_1.out.kept k2; have HP1_2 : Hid (IsQ (fun b => X b ∧ b ≠ w.heap.size + 1 + 1) W2 (nn2 12 r (nn2 5 p r)) (.slice g1 2 2)) := HP1_1.out.kept k2; clear p2 k2) | (clear T3; go_at_call 139; refine (HJ3.out _ g2 (HKV2.out) HP2_2.out).mono ?_; rintro e W3 ⟨g3, rfl, p3, k3⟩; have HKV3 : Hid (Kept [] V W3) := (HKV2.out).trans k3 (by simp) (by simp); have HK3 : Hid (Kept [] _ W3) := k3; have HP3_3 : Hid (IsQ (fun b => X b ∧ b ≠ w.heap.size + 1 + 1) W3 (nn2 13 s (nn2 6 q s)) (.slice g3 2 2)) := p3; have HP0_3 : Hid (IsQ (fun b => X b ∧ b ≠ w.heap.size + 1 + 1) W3 (nn2 5 p r) (.slice g0 2 2)) := HP0_2.out.kept k3; have HP1_3 : Hid (IsQ (fun b => X b ∧ b ≠ w.heap.size + 1 + 1) W3 (nn2 12 r (nn2 5 p r)) (.slice g1 2 2)) := HP1_2.out.kept k3; have HP2_3 : Hid (IsQ (fun b => X b ∧ b ≠ w.heap.size + 1 + 1) W3 (nn2 6 q s) (.slice g2 2 2)) := HP2_2.out.kept k3; obtain ⟨⟨r0, r1, r2, r3, r4⟩, ⟨r5, r6, r7, r8, r9⟩, rf⟩ := (HR.out W3 HKV3.out).cells; clear p3 k3))
  all_goals go_wp2
  all_goals
    refine ret_pr rfl rfl rfl ((HR.out W3 HKV3.out).set (.int .u8 12) (.string nE) (.slice g1 2 2) (.int .i64 (z1 : Nat)) (.int .i64 (d1 : Nat)) (.int .u8 13) (.string nE) (.slice g3 2 2) (.int .i64 (z3 : Nat)) (.int .i64 (d3 : Nat))) ⟨g1, 2, g3, 2, ?_, ⟨HP1_3.out.set10 _ _ _ _ _ _ _ _ _ _, HP3_3.out.set10 _ _ _ _ _ _ _ _ _ _⟩, kept_set10 (HKV.out.trans HKV3.out (by simp) (by simp)) (.inr (by omega)) _ _ _ _ _ _ _ _ _ _⟩
    obtain ⟨h1, h2, h3, h4⟩ := HE.out
    rw [← h1, ← h2, ← h3, ← h4]; rfl
set_option maxHeartbeats 4000000 in
set_option maxRecDepth 20000 in
theorem col_iff (w0 : World) (For Fand : Nat) (hor : FnAt w0 For 137) (hand : FnAt w0 Fand 136) : ColDoes 144 #[.pointer (some ⟨For, 0, none⟩), .pointer (some ⟨Fand, 0, none⟩)] 8 w0 := by
  intro X a b a1 a2 a3 a4 b1 b2 b3 b4 w k0 hX ha hb
  obtain ⟨p, q⟩ := a
  obtain ⟨r, s⟩ := b
  obtain ⟨hp, hq⟩ := ha
  obtain ⟨hr, hs⟩ := hb
  simp only [prA]
  dsimp only at hp hq hr hs
  obtain ⟨pa, rfl⟩ : ∃ x, x = a1 := ⟨_, rfl⟩
  obtain ⟨pc, rfl⟩ : ∃ x, x = a2 := ⟨_, rfl⟩
  obtain ⟨qa, rfl⟩ : ∃ x, x = a3 := ⟨_, rfl⟩
  obtain ⟨qc, rfl⟩ : ∃ x, x = a4 := ⟨_, rfl⟩
  obtain ⟨ra, rfl⟩ : ∃ x, x = b1 := ⟨_, rfl⟩
  obtain ⟨rc, rfl⟩ : ∃ x, x = b2 := ⟨_, rfl⟩
  obtain ⟨sa, rfl⟩ : ∃ x, x = b3 := ⟨_, rfl⟩
  obtain ⟨sc, rfl⟩ : ∃ x, x = b4 := ⟨_, rfl⟩
  obtain ⟨pz, epz⟩ : ∃ x, psz p = x := ⟨_, rfl⟩
  obtain ⟨pd, epd⟩ : ∃ x, pdp p = x := ⟨_, rfl⟩
  obtain ⟨qz, eqz⟩ : ∃ x, psz q = x := ⟨_, rfl⟩
  obtain ⟨qd, eqd⟩ : ∃ x, pdp q = x := ⟨_, rfl⟩
  obtain ⟨rz, erz⟩ : ∃ x, psz r = x := ⟨_, rfl⟩
  obtain ⟨rd, erd⟩ : ∃ x, pdp r = x := ⟨_, rfl⟩
  obtain ⟨sz, esz⟩ : ∃ x, psz s = x := ⟨_, rfl⟩
  obtain ⟨sd, esd⟩ : ∃ x, pdp s = x := ⟨_, rfl⟩
  obtain ⟨z0, ez0⟩ : ∃ x, psz (nn2 5 p r) = x := ⟨_, rfl⟩
  obtain ⟨d0, ed0⟩ : ∃ x, pdp (nn2 5 p r) = x := ⟨_, rfl⟩
  obtain ⟨z1, ez1⟩ : ∃ x, psz (nn2 5 q s) = x := ⟨_, rfl⟩
  obtain ⟨d1, ed1⟩ : ∃ x, pdp (nn2 5 q s) = x := ⟨_, rfl⟩
  obtain ⟨z2, ez2⟩ : ∃ x, psz (nn2 6 (nn2 5 p r) (nn2 5 q s)) = x := ⟨_, rfl⟩
  obtain ⟨d2, ed2⟩ : ∃ x, pdp (nn2 6 (nn2 5 p r) (nn2 5 q s)) = x := ⟨_, rfl⟩
  obtain ⟨z3, ez3⟩ : ∃ x, psz (nn2 5 p s) = x := ⟨_, rfl⟩
  obtain ⟨d3, ed3⟩ : ∃ x, pdp (nn2 5 p s) = x := ⟨_, rfl⟩
  obtain ⟨z4, ez4⟩ : ∃ x, psz (nn2 5 q r) = x := ⟨_, rfl⟩
  obtain ⟨d4, ed4⟩ : ∃ x, pdp (nn2 5 q r) = x := ⟨_, rfl⟩
  obtain ⟨z5, ez5⟩ : ∃ x, psz (nn2 6 (nn2 5 p s) (nn2 5 q r)) = x := ⟨_, rfl⟩
  obtain ⟨d5, ed5⟩ : ∃ x, pdp (nn2 6 (nn2 5 p s) (nn2 5 q r)) = x := ⟨_, rfl⟩
  obtain ⟨V, hV⟩ : ∃ V, ((w.alloc (.cells #[.int .u8 (p.op : Nat), .string p.name, .slice pa p.kids.length pc, .int .i64 (pz : Nat), .int .i64 (pd : Nat), .int .u8 (q.op : Nat), .string q.name, .slice qa q.kids.length qc, .int .i64 (qz : Nat), .int .i64 (qd : Nat)] 95)).alloc (.cells #[.int .u8 (r.op : Nat), .string r.name, .slice ra r.kids.length rc, .int .i64 (rz : Nat), .int .i64 (rd : Nat), .int .u8 (s.op : Nat), .string s.name, .slice sa s.kids.length sc, .int .i64 (sz : Nat), .int .i64 (sd : Nat)] 95)).alloc (.cells #[.int .u8 0, .string ⟨#[]⟩, .slice none 0 0, .int .i64 0, .int .i64 0, .int .u8 0, .string ⟨#[]⟩, .slice none 0 0, .int .i64 0, .int .i64 0] 95) = V := ⟨_, rfl⟩
  have kV : Kept [] w V := by rw [← hV]; exact (((Kept.refl [] w).alloc _).alloc _).alloc _
  have zV : V.heap.size = w.heap.size + 3 := by rw [← hV]; simp
  have v0 : Pr10 V w.heap.size (.int .u8 (p.op : Nat)) (.string p.name) (.slice pa p.kids.length pc) (.int .i64 (pz : Nat)) (.int .i64 (pd : Nat)) (.int .u8 (q.op : Nat)) (.string q.name) (.slice qa q.kids.length qc) (.int .i64 (qz : Nat)) (.int .i64 (qd : Nat)) := by rw [← hV]; exact alUp (alUp (al0 w _) _) _
  have v1 : Pr10 V (w.heap.size + 1) (.int .u8 (r.op : Nat)) (.string r.name) (.slice ra r.kids.length rc) (.int .i64 (rz : Nat)) (.int .i64 (rd : Nat)) (.int .u8 (s.op : Nat)) (.string s.name) (.slice sa s.kids.length sc) (.int .i64 (sz : Nat)) (.int .i64 (sd : Nat)) := by rw [← hV]; exact alUp (al1 w _ _) _
  have v2 : Pr10 V (w.heap.size + 1 + 1) (.int .u8 0) (.string ⟨#[]⟩) (.slice none 0 0) (.int .i64 0) (.int .i64 0) (.int .u8 0) (.string ⟨#[]⟩) (.slice none 0 0) (.int .i64 0) (.int .i64 0) := by rw [← hV]; exact al2 w _ _ _
  have fb_or : V.cell? ⟨For, 0, none⟩ = some (.func (.func 137) #[] #[]) := (hor.kept k0).kept kV
  have fb_and : V.cell? ⟨Fand, 0, none⟩ = some (.func (.func 136) #[] #[]) := (hand.kept k0).kept kV
  have nor : For < w.heap.size := World.block_lt_of_cell? w _ (hor.kept k0)
  have nand : Fand < w.heap.size := World.block_lt_of_cell? w _ (hand.kept k0)
  have hY : ∀ W : World, V.heap.size ≤ W.heap.size → ∀ k, W.heap.size ≤ k → (fun b => X b ∧ b ≠ w.heap.size + 1 + 1) k := fun W hz k hk => ⟨hX k (by omega), by omega⟩
  have yp : IsQ (fun b => X b ∧ b ≠ w.heap.size + 1 + 1) V p (.slice pa p.kids.length pc) := hp.apart kV (by omega)
  have yq : IsQ (fun b => X b ∧ b ≠ w.heap.size + 1 + 1) V q (.slice qa q.kids.length qc) := hq.apart kV (by omega)
  have yr : IsQ (fun b => X b ∧ b ≠ w.heap.size + 1 + 1) V r (.slice ra r.kids.length rc) := hr.apart kV (by omega)
  have ys : IsQ (fun b => X b ∧ b ≠ w.heap.size + 1 + 1) V s (.slice sa s.kids.length sc) := hs.apart kV (by omega)
  have HJ0 : Hid (∀ (W : World) , Kept [] V W → Calls Tryd.prog 136 #[.agg #[.int .u8 (p.op : Nat), .string p.name, .slice pa p.kids.length pc, .int .i64 (pz : Nat), .int .i64 (pd : Nat)], .agg #[.int .u8 (r.op : Nat), .string r.name, .slice ra r.kids.length rc, .int .i64 (rz : Nat), .int .i64 (rd : Nat)]] W fun e w' => ∃ g, e = .returned (.agg #[.int .u8 5, .string nE, .slice g 2 2, .int .i64 (z0 : Nat), .int .i64 (d0 : Nat)]) ∧ IsQ (fun b => X b ∧ b ≠ w.heap.size + 1 + 1) w' (nn2 5 p r) (.slice g 2 2) ∧ Kept [] W w') := fun W  kW  => by
    have := join_and (fun b => X b ∧ b ≠ w.heap.size + 1 + 1) p r pa ra pc rc W (hY W kW.size) (yp.kept kW) (yr.kept kW)
    simp only [plA, epz, epd, erz, erd, ez0, ed0] at this
    exact this
  have HJ1 : Hid (∀ (W : World) , Kept [] V W → Calls Tryd.prog 136 #[.agg #[.int .u8 (q.op : Nat), .string q.name, .slice qa q.kids.length qc, .int .i64 (qz : Nat), .int .i64 (qd : Nat)], .agg #[.int .u8 (s.op : Nat), .string s.name, .slice sa s.kids.length sc, .int .i64 (sz : Nat), .int .i64 (sd : Nat)]] W fun e w' => ∃ g, e = .returned (.agg #[.int .u8 5, .string nE, .slice g 2 2, .int .i64 (z1 : Nat), .int .i64 (d1 : Nat)]) ∧ IsQ (fun b => X b ∧ b ≠ w.heap.size + 1 + 1) w' (nn2 5 q s) (.slice g 2 2) ∧ Kept [] W w') := fun W  kW  => by
    have := join_and (fun b => X b ∧ b ≠ w.heap.size + 1 + 1) q s qa sa qc sc W (hY W kW.size) (yq.kept kW) (ys.kept kW)
    simp only [plA, eqz, eqd, esz, esd, ez1, ed1] at this
    exact this
  have HJ2 : Hid (∀ (W : World) (g0 : Option Addr) (g1 : Option Addr), Kept [] V W → IsQ (fun b => X b ∧ b ≠ w.heap.size + 1 + 1) W (nn2 5 p r) (.slice g0 2 2) → IsQ (fun b => X b ∧ b ≠ w.heap.size + 1 + 1) W (nn2 5 q s) (.slice g1 2 2) → Calls Tryd.prog 137 #[.agg #[.int .u8 5, .string nE, .slice g0 2 2, .int .i64 (z0 : Nat), .int .i64 (d0 : Nat)], .agg #[.int .u8 5, .string nE, .slice g1 2 2, .int .i64 (z1 : Nat), .int .i64 (d1 : Nat)]] W fun e w' => ∃ g, e = .returned (.agg #[.int .u8 6, .string nE, .slice g 2 2, .int .i64 (z2 : Nat), .int .i64 (d2 : Nat)]) ∧ IsQ (fun b => X b ∧ b ≠ w.heap.size + 1 + 1) w' (nn2 6 (nn2 5 p r) (nn2 5 q s)) (.slice g 2 2) ∧ Kept [] W w') := fun W g0 g1 kW h0 h1 => by
    have := join_or (fun b => X b ∧ b ≠ w.heap.size + 1 + 1) (nn2 5 p r) (nn2 5 q s) g0 g1 2 2 W (hY W kW.size) h0 h1
    simp only [plA, ez0, ed0, ez1, ed1, ez2, ed2] at this
    exact this
  have HJ3 : Hid (∀ (W : World) , Kept [] V W → Calls Tryd.prog 136 #[.agg #[.int .u8 (p.op : Nat), .string p.name, .slice pa p.kids.length pc, .int .i64 (pz : Nat), .int .i64 (pd : Nat)], .agg #[.int .u8 (s.op : Nat), .string s.name, .slice sa s.kids.length sc, .int .i64 (sz : Nat), .int .i64 (sd : Nat)]] W fun e w' => ∃ g, e = .returned (.agg #[.int .u8 5, .string nE, .slice g 2 2, .int .i64 (z3 : Nat), .int .i64 (d3 : Nat)]) ∧ IsQ (fun b => X b ∧ b ≠ w.heap.size + 1 + 1) w' (nn2 5 p s) (.slice g 2 2) ∧ Kept [] W w') := fun W  kW  => by
    have := join_and (fun b => X b ∧ b ≠ w.heap.size + 1 + 1) p s pa sa pc sc W (hY W kW.size) (yp.kept kW) (ys.kept kW)
    simp only [plA, epz, epd, esz, esd, ez3, ed3] at this
    exact this
  have HJ4 : Hid (∀ (W : World) , Kept [] V W → Calls Tryd.prog 136 #[.agg #[.int .u8 (q.op : Nat), .string q.name, .slice qa q.kids.length qc, .int .i64 (qz : Nat), .int .i64 (qd : Nat)], .agg #[.int .u8 (r.op : Nat), .string r.name, .slice ra r.kids.length rc, .int .i64 (rz : Nat), .int .i64 (rd : Nat)]] W fun e w' => ∃ g, e = .returned (.agg #[.int .u8 5, .string nE, .slice g 2 2, .int .i64 (z4 : Nat), .int .i64 (d4 : Nat)]) ∧ IsQ (fun b => X b ∧ b ≠ w.heap.size + 1 + 1) w' (nn2 5 q r) (.slice g 2 2) ∧ Kept [] W w') := fun W  kW  => by
    have := join_and (fun b => X b ∧ b ≠ w.heap.size + 1 + 1) q r qa ra qc rc W (hY W kW.size) (yq.kept kW) (yr.kept kW)
    simp only [plA, eqz, eqd, erz, erd, ez4, ed4] at this
    exact this
  have HJ5 : Hid (∀ (W : World) (g3 : Option Addr) (g4 : Option Addr), Kept [] V W → IsQ (fun b => X b ∧ b ≠ w.heap.size + 1 + 1) W (nn2 5 p s) (.slice g3 2 2) → IsQ (fun b => X b ∧ b ≠ w.heap.size + 1 + 1) W (nn2 5 q r) (.slice g4 2 2) → Calls Tryd.prog 137 #[.agg #[.int .u8 5, .string nE, .slice g3 2 2, .int .i64 (z3 : Nat), .int .i64 (d3 : Nat)], .agg #[.int .u8 5, .string nE, .slice g4 2 2, .int .i64 (z4 : Nat), .int .i64 (d4 : Nat)]] W fun e w' => ∃ g, e = .returned (.agg #[.int .u8 6, .string nE, .slice g 2 2, .int .i64 (z5 : Nat), .int .i64 (d5 : Nat)]) ∧ IsQ (fun b => X b ∧ b ≠ w.heap.size + 1 + 1) w' (nn2 6 (nn2 5 p s) (nn2 5 q r)) (.slice g 2 2) ∧ Kept [] W w') := fun W g3 g4 kW h3 h4 => by
    have := join_or (fun b => X b ∧ b ≠ w.heap.size + 1 + 1) (nn2 5 p s) (nn2 5 q r) g3 g4 2 2 W (hY W kW.size) h3 h4
    simp only [plA, ez3, ed3, ez4, ed4, ez5, ed5] at this
    exact this
  have HV : Hid (_ = V) := hV
  have HKV : Hid (Kept [] w V) := kV
  have HV0 : Hid (Pr10 V w.heap.size (.int .u8 (p.op : Nat)) (.string p.name) (.slice pa p.kids.length pc) (.int .i64 (pz : Nat)) (.int .i64 (pd : Nat)) (.int .u8 (q.op : Nat)) (.string q.name) (.slice qa q.kids.length qc) (.int .i64 (qz : Nat)) (.int .i64 (qd : Nat))) := v0
  have HV1 : Hid (Pr10 V (w.heap.size + 1) (.int .u8 (r.op : Nat)) (.string r.name) (.slice ra r.kids.length rc) (.int .i64 (rz : Nat)) (.int .i64 (rd : Nat)) (.int .u8 (s.op : Nat)) (.string s.name) (.slice sa s.kids.length sc) (.int .i64 (sz : Nat)) (.int .i64 (sd : Nat))) := v1
  have HV2 : Hid (Pr10 V (w.heap.size + 1 + 1) (.int .u8 0) (.string ⟨#[]⟩) (.slice none 0 0) (.int .i64 0) (.int .i64 0) (.int .u8 0) (.string ⟨#[]⟩) (.slice none 0 0) (.int .i64 0) (.int .i64 0)) := v2
  have HE : Hid (psz (nn2 6 (nn2 5 p r) (nn2 5 q s)) = z2 ∧ pdp (nn2 6 (nn2 5 p r) (nn2 5 q s)) = d2 ∧ psz (nn2 6 (nn2 5 p s) (nn2 5 q r)) = z5 ∧ pdp (nn2 6 (nn2 5 p s) (nn2 5 q r)) = d5) := ⟨ez2, ed2, ez5, ed5⟩
  obtain ⟨⟨c0, c1, c2, c3, c4⟩, ⟨c5, c6, c7, c8, c9⟩, -⟩ := v0.cells
  obtain ⟨⟨e0, e1, e2, e3, e4⟩, ⟨e5, e6, e7, e8, e9⟩, -⟩ := v1.cells
  have nR0 : w.heap.size ∉ [w.heap.size + 1 + 1] := by simp; omega
  have nR1 : w.heap.size + 1 ∉ [w.heap.size + 1 + 1] := by simp
  have HS : Hid (∀ w', Kept [w.heap.size + 1 + 1] V w' → w'.cell? ⟨For, 0, none⟩ = some (.func (.func 137) #[] #[]) ∧ w'.cell? ⟨Fand, 0, none⟩ = some (.func (.func 136) #[] #[]) ∧ w'.cell? ⟨w.heap.size, 0, none⟩ = some (.int .u8 (p.op : Nat)) ∧ w'.cell? ⟨w.heap.size, 1, none⟩ = some (.string p.name) ∧ w'.cell? ⟨w.heap.size, 2, none⟩ = some (.slice pa p.kids.length pc) ∧ w'.cell? ⟨w.heap.size, 3, none⟩ = some (.int .i64 (pz : Nat)) ∧ w'.cell? ⟨w.heap.size, 4, none⟩ = some (.int .i64 (pd : Nat)) ∧ w'.cell? ⟨w.heap.size, 5, none⟩ = some (.int .u8 (q.op : Nat)) ∧ w'.cell? ⟨w.heap.size, 6, none⟩ = some (.string q.name) ∧ w'.cell? ⟨w.heap.size, 7, none⟩ = some (.slice qa q.kids.length qc) ∧ w'.cell? ⟨w.heap.size, 8, none⟩ = some (.int .i64 (qz : Nat)) ∧ w'.cell? ⟨w.heap.size, 9, none⟩ = some (.int .i64 (qd : Nat)) ∧ w'.cell? ⟨w.heap.size + 1, 0, none⟩ = some (.int .u8 (r.op : Nat)) ∧ w'.cell? ⟨w.heap.size + 1, 1, none⟩ = some (.string r.name) ∧ w'.cell? ⟨w.heap.size + 1, 2, none⟩ = some (.slice ra r.kids.length rc) ∧ w'.cell? ⟨w.heap.size + 1, 3, none⟩ = some (.int .i64 (rz : Nat)) ∧ w'.cell? ⟨w.heap.size + 1, 4, none⟩ = some (.int .i64 (rd : Nat)) ∧ w'.cell? ⟨w.heap.size + 1, 5, none⟩ = some (.int .u8 (s.op : Nat)) ∧ w'.cell? ⟨w.heap.size + 1, 6, none⟩ = some (.string s.name) ∧ w'.cell? ⟨w.heap.size + 1, 7, none⟩ = some (.slice sa s.kids.length sc) ∧ w'.cell? ⟨w.heap.size + 1, 8, none⟩ = some (.int .i64 (sz : Nat)) ∧ w'.cell? ⟨w.heap.size + 1, 9, none⟩ = some (.int .i64 (sd : Nat))) := fun w' k => ⟨cell_keptF k (by simp; omega) fb_or, cell_keptF k (by simp; omega) fb_and, cell_keptF k nR0 c0, cell_keptF k nR0 c1, cell_keptF k nR0 c2, cell_keptF k nR0 c3, cell_keptF k nR0 c4, cell_keptF k nR0 c5, cell_keptF k nR0 c6, cell_keptF k nR0 c7, cell_keptF k nR0 c8, cell_keptF k nR0 c9, cell_keptF k nR1 e0, cell_keptF k nR1 e1, cell_keptF k nR1 e2, cell_keptF k nR1 e3, cell_keptF k nR1 e4, cell_keptF k nR1 e5, cell_keptF k nR1 e6, cell_keptF k nR1 e7, cell_keptF k nR1 e8, cell_keptF k nR1 e9⟩
  have T0 : Hid True := trivial
  have T1 : Hid True := trivial
  have T2 : Hid True := trivial
  have T3 : Hid True := trivial
  have T4 : Hid True := trivial
  have T5 : Hid True := trivial
  have HR : Hid (∀ W, Kept [] V W → Pr10 W (w.heap.size + 1 + 1) (.int .u8 0) (.string ⟨#[]⟩) (.slice none 0 0) (.int .i64 0) (.int .i64 0) (.int .u8 0) (.string ⟨#[]⟩) (.slice none 0 0) (.int .i64 0) (.int .i64 0)) := fun W k => v2.kept k (by simp)
  clear hp hq hr hs k0 hX kV v0 v1 v2 hV hY hor hand yp yq yr ys ez0 ed0 ez1 ed1 ez2 ed2 ez3 ed3 ez4 ed4 ez5 ed5
  rw [epz, epd, eqz, eqd, erz, erd, esz, esd]
  clear epz epd eqz eqd erz erd esz esd nR0 nR1
  show Calls Tryd.prog 144 #[.agg #[.int .u8 (p.op : Nat), .string p.name, .slice pa p.kids.length pc, .int .i64 (pz : Nat), .int .i64 (pd : Nat), .int .u8 (q.op : Nat), .string q.name, .slice qa q.kids.length qc, .int .i64 (qz : Nat), .int .i64 (qd : Nat)], .agg #[.int .u8 (r.op : Nat), .string r.name, .slice ra r.kids.length rc, .int .i64 (rz : Nat), .int .i64 (rd : Nat), .int .u8 (s.op : Nat), .string s.name, .slice sa s.kids.length sc, .int .i64 (sz : Nat), .int .i64 (sd : Nat)], .pointer (some ⟨For, 0, none⟩), .pointer (some ⟨Fand, 0, none⟩)] w _
  go_enter Tryd.func144, Tryd.ntmps144
  go_wp2_with fail
  rw [HV.out]
  go_region_held3 (fun w' => w'.cell? ⟨For, 0, none⟩ = some (.func (.func 137) #[] #[]) ∧ w'.cell? ⟨Fand, 0, none⟩ = some (.func (.func 136) #[] #[]) ∧ w'.cell? ⟨w.heap.size, 0, none⟩ = some (.int .u8 (p.op : Nat)) ∧ w'.cell? ⟨w.heap.size, 1, none⟩ = some (.string p.name) ∧ w'.cell? ⟨w.heap.size, 2, none⟩ = some (.slice pa p.kids.length pc) ∧ w'.cell? ⟨w.heap.size, 3, none⟩ = some (.int .i64 (pz : Nat)) ∧ w'.cell? ⟨w.heap.size, 4, none⟩ = some (.int .i64 (pd : Nat)) ∧ w'.cell? ⟨w.heap.size, 5, none⟩ = some (.int .u8 (q.op : Nat)) ∧ w'.cell? ⟨w.heap.size, 6, none⟩ = some (.string q.name) ∧ w'.cell? ⟨w.heap.size, 7, none⟩ = some (.slice qa q.kids.length qc) ∧ w'.cell? ⟨w.heap.size, 8, none⟩ = some (.int .i64 (qz : Nat)) ∧ w'.cell? ⟨w.heap.size, 9, none⟩ = some (.int .i64 (qd : Nat)) ∧ w'.cell? ⟨w.heap.size + 1, 0, none⟩ = some (.int .u8 (r.op : Nat)) ∧ w'.cell? ⟨w.heap.size + 1, 1, none⟩ = some (.string r.name) ∧ w'.cell? ⟨w.heap.size + 1, 2, none⟩ = some (.slice ra r.kids.length rc) ∧ w'.cell? ⟨w.heap.size + 1, 3, none⟩ = some (.int .i64 (rz : Nat)) ∧ w'.cell? ⟨w.heap.size + 1, 4, none⟩ = some (.int .i64 (rd : Nat)) ∧ w'.cell? ⟨w.heap.size + 1, 5, none⟩ = some (.int .u8 (s.op : Nat)) ∧ w'.cell? ⟨w.heap.size + 1, 6, none⟩ = some (.string s.name) ∧ w'.cell? ⟨w.heap.size + 1, 7, none⟩ = some (.slice sa s.kids.length sc) ∧ w'.cell? ⟨w.heap.size + 1, 8, none⟩ = some (.int .i64 (sz : Nat)) ∧ w'.cell? ⟨w.heap.size + 1, 9, none⟩ = some (.int .i64 (sd : Nat)))
    ((refine HS.out _ ?_; (repeat (first | (with_reducible exact Kept.refl _ _) | (with_reducible refine Kept.drew ?_) | (with_reducible refine Kept.setCell ?_ (Or.inl (by simp)) _) | with_reducible refine Kept.trans (F := [w.heap.size + 1 + 1]) (G := []) (H := [w.heap.size + 1 + 1]) ?_ HK5.out (by simp) (by simp) | with_reducible refine Kept.trans (F := [w.heap.size + 1 + 1]) (G := []) (H := [w.heap.size + 1 + 1]) ?_ HK4.out (by simp) (by simp) | with_reducible refine Kept.trans (F := [w.heap.size + 1 + 1]) (G := []) (H := [w.heap.size + 1 + 1]) ?_ HK3.out (by simp) (by simp) | with_reducible refine Kept.trans (F := [w.heap.size + 1 + 1]) (G := []) (H := [w.heap.size + 1 + 1]) ?_ HK2.out (by simp) (by simp) | with_reducible refine Kept.trans (F := [w.heap.size + 1 + 1]) (G := []) (H := [w.heap.size + 1 + 1]) ?_ HK1.out (by simp) (by simp) | with_reducible refine Kept.trans (F := [w.heap.size + 1 + 1]) (G := []) (H := [w.heap.size + 1 + 1]) ?_ HK0.out (by simp) (by simp)))))
    (first | (clear T0; go_at_call 136; refine (HJ0.out _  ((Kept.refl [] V).drew) ).mono ?_; rintro e W0 ⟨g0, rfl, p0, k0⟩; have HKV0 : Hid (Kept [] V W0) := ((Kept.refl [] V).drew).trans k0 (by simp) (by simp); have HK0 : Hid (Kept [] _ W0) := k0; have HP0_0 : Hid (IsQ (fun b => X b ∧ b ≠ w.heap.size + 1 + 1) W0 (nn2 5 p r) (.slice g0 2 2)) := p0; clear p0 k0) | (clear T1; go_at_call 136; refine (HJ1.out _  (HKV0.out) ).mono ?_; rintro e W1 ⟨g1, rfl, p1, k1⟩; have HKV1 : Hid (Kept [] V W1) := (HKV0.out).trans k1 (by simp) (by simp); have HK1 : Hid (Kept [] _ W1) := k1; have HP1_1 : Hid (IsQ (fun b => X b ∧ b ≠ w.heap.size + 1 + 1) W1 (nn2 5 q s) (.slice g1 2 2)) := p1; have HP0_1 : Hid (IsQ (fun b => X b ∧ b ≠ w.heap.size + 1 + 1) W1 (nn2 5 p r) (.slice g0 2 2)) := HP0_0.out.kept k1; clear p1 k1) | (clear T2; go_at_call 137; refine (HJ2.out _ g0 g1 (HKV1.out) HP0_1.out HP1_1.out).mono ?_; rintro e W2 ⟨g2, rfl, p2, k2⟩; have HKV2 : Hid (Kept [] V W2) := (HKV1.out).trans k2 (by simp) (by simp); have HK2 : Hid (Kept [] _ W2) := k2; have HP2_2 : Hid (IsQ (fun b => X b ∧ b ≠ w.heap.size + 1 + 1) W2 (nn2 6 (nn2 5 p r) (nn2 5 q s)) (.slice g2 2 2)) := p2; have HP0_2 : Hid (IsQ (fun b => X b ∧ b ≠ w.heap.size + 1 + 1) W2 (nn2 5 p r) (.slice g0 2 2)) := HP0_1.out.kept k2; have HP1_2 : Hid (IsQ (fun b => X b ∧ b ≠ w.heap.size + 1 + 1) W2 (nn2 5 q s) (.slice g1 2 2)) := HP1_1.out.kept k2; clear p2 k2) | (clear T3; go_at_call 136; refine (HJ3.out _  (HKV2.out) ).mono ?_; rintro e W3 ⟨g3, rfl, p3, k3⟩; have HKV3 : Hid (Kept [] V W3) := (HKV2.out).trans k3 (by simp) (by simp); have HK3 : Hid (Kept [] _ W3) := k3; have HP3_3 : Hid (IsQ (fun b => X b ∧ b ≠ w.heap.size + 1 + 1) W3 (nn2 5 p s) (.slice g3 2 2)) := p3; have HP0_3 : Hid (IsQ (fun b => X b ∧ b ≠ w.heap.size + 1 + 1) W3 (nn2 5 p r) (.slice g0 2 2)) := HP0_2.out.kept k3; have HP1_3 : Hid (IsQ (fun b => X b ∧ b ≠ w.heap.size + 1 + 1) W3 (nn2 5 q s) (.slice g1 2 2)) := HP1_2.out.kept k3; have HP2_3 : Hid (IsQ (fun b => X b ∧ b ≠ w.heap.size + 1 + 1) W3 (nn2 6 (nn2 5 p r) (nn2 5 q s)) (.slice g2 2 2)) := HP2_2.out.kept k3; clear p3 k3) | (clear T4; go_at_call 136; refine (HJ4.out _  (HKV3.out) ).mono ?_; rintro e W4 ⟨g4, rfl, p4, k4⟩; have HKV4 : Hid (Kept [] V W4) := (HKV3.out).trans k4 (by simp) (by simp); have HK4 : Hid (Kept [] _ W4) := k4; have HP4_4 : Hid (IsQ (fun b => X b ∧ b ≠ w.heap.size + 1 + 1) W4 (nn2 5 q r) (.slice g4 2 2)) := p4; have HP0_4 : Hid (IsQ (fun b => X b ∧ b ≠ w.heap.size + 1 + 1) W4 (nn2 5 p r) (.slice g0 2 2)) := HP0_3.out.kept k4; have HP1_4 : Hid (IsQ (fun b => X b ∧ b ≠ w.heap.size + 1 + 1) W4 (nn2 5 q s) (.slice g1 2 2)) := HP1_3.out.kept k4; have HP2_4 : Hid (IsQ (fun b => X b ∧ b ≠ w.heap.size + 1 + 1) W4 (nn2 6 (nn2 5 p r) (nn2 5 q s)) (.slice g2 2 2)) := HP2_3.out.kept k4; have HP3_4 : Hid (IsQ (fun b => X b ∧ b ≠ w.heap.size + 1 + 1) W4 (nn2 5 p s) (.slice g3 2 2)) := HP3_3.out.kept k4; clear p4 k4) | (clear T5; go_at_call 137; refine (HJ5.out _ g3 g4 (HKV4.out) HP3_4.out HP4_4.out).mono ?_; rintro e W5 ⟨g5, rfl, p5, k5⟩; have HKV5 : Hid (Kept [] V W5) := (HKV4.out).trans k5 (by simp) (by simp); have HK5 : Hid (Kept [] _ W5) := k5; have HP5_5 : Hid (IsQ (fun b => X b ∧ b ≠ w.heap.size + 1 + 1) W5 (nn2 6 (nn2 5 p s) (nn2 5 q r)) (.slice g5 2 2)) := p5; have HP0_5 : Hid (IsQ (fun b => X b ∧ b ≠ w.heap.size + 1 + 1) W5 (nn2 5 p r) (.slice g0 2 2)) := HP0_4.out.kept k5; have HP1_5 : Hid (IsQ (fun b => X b ∧ b ≠ w.heap.size + 1 + 1) W5 (nn2 5 q s) (.slice g1 2 2)) := HP1_4.out.kept k5; have HP2_5 : Hid (IsQ (fun b => X b ∧ b ≠ w.heap.size + 1 + 1) W5 (nn2 6 (nn2 5 p r) (nn2 5 q s)) (.slice g2 2 2)) := HP2_4.out.kept k5; have HP3_5 : Hid (IsQ (fun b => X b ∧ b ≠ w.heap.size + 1 + 1) W5 (nn2 5 p s) (.slice g3 2 2)) := HP3_4.out.kept k5; have HP4_5 : Hid (IsQ (fun b => X b ∧ b ≠ w.heap.size + 1 + 1) W5 (nn2 5 q r) (.slice g4 2 2)) := HP4_4.out.kept k5; obtain ⟨⟨r0, r1, r2, r3, r4⟩, ⟨r5, r6, r7, r8, r9⟩, rf⟩ := (HR.out W5 HKV5.out).cells; clear p5 k5))
  all_goals go_wp2
  all_goals
    refine ret_pr rfl rfl rfl ((HR.out W5 HKV5.out).set (.int .u8 6) (.string nE) (.slice g2 2 2) (.int .i64 (z2 : Nat)) (.int .i64 (d2 : Nat)) (.int .u8 6) (.string nE) (.slice g5 2 2) (.int .i64 (z5 : Nat)) (.int .i64 (d5 : Nat))) ⟨g2, 2, g5, 2, ?_, ⟨HP2_5.out.set10 _ _ _ _ _ _ _ _ _ _, HP5_5.out.set10 _ _ _ _ _ _ _ _ _ _⟩, kept_set10 (HKV.out.trans HKV5.out (by simp) (by simp)) (.inr (by omega)) _ _ _ _ _ _ _ _ _ _⟩
    obtain ⟨h1, h2, h3, h4⟩ := HE.out
    rw [← h1, ← h2, ← h3, ← h4]; rfl
end Go.Proofs.YtddgciilcghbaaaDoor
