/- The columns N and D of the operators that have two kids, or one: what each function of the table makes of two pairs of plans. -/
import Derived.Test.YtddgciilcghbaaaDoorGK
namespace Go.Proofs.YtddgciilcghbaaaDoor
open Go.RowKit Go.Shelf

/-- A pair of plans in a block of its own. -/
def Pr10 (W : World) (B : Nat) (a b c d e f g h i j : Value) : Prop := W.heap[B]? = some (.cells #[a, b, c, d, e, f, g, h, i, j] 95 (0, 0))
theorem Pr10.cells {W : World} {B : Nat} {a b c d e f g h i j : Value} (q : Pr10 W B a b c d e f g h i j) : (W.cell? ⟨B, 0, none⟩ = some a ∧ W.cell? ⟨B, 1, none⟩ = some b ∧ W.cell? ⟨B, 2, none⟩ = some c ∧ W.cell? ⟨B, 3, none⟩ = some d ∧ W.cell? ⟨B, 4, none⟩ = some e) ∧ (W.cell? ⟨B, 5, none⟩ = some f ∧ W.cell? ⟨B, 6, none⟩ = some g ∧ W.cell? ⟨B, 7, none⟩ = some h ∧ W.cell? ⟨B, 8, none⟩ = some i ∧ W.cell? ⟨B, 9, none⟩ = some j) ∧ ∀ i, W.frozen? ⟨B, i, none⟩ = false :=
  ⟨⟨(cell_of q 0).trans rfl, (cell_of q 1).trans rfl, (cell_of q 2).trans rfl, (cell_of q 3).trans rfl, (cell_of q 4).trans rfl⟩, ⟨(cell_of q 5).trans rfl, (cell_of q 6).trans rfl, (cell_of q 7).trans rfl, (cell_of q 8).trans rfl, (cell_of q 9).trans rfl⟩, fun i => free_of q i⟩
theorem Pr10.kept {F : List Nat} {W W' : World} {B : Nat} {a b c d e f g h i j : Value} (q : Pr10 W B a b c d e f g h i j) (k : Kept F W W') (hF : B ∉ F) : Pr10 W' B a b c d e f g h i j := k.at q hF
theorem cell_keptF {F : List Nat} {W W' : World} (k : Kept F W W') {b o : Nat} {v : Value} (hF : b ∉ F) (h : W.cell? ⟨b, o, none⟩ = some v) : W'.cell? ⟨b, o, none⟩ = some v :=
  (World.cell?_of_block (w := W) (a := ⟨b, o, none⟩) (k.block b (World.block_lt_of_cell? W _ h) hF)).trans h
def set10 (W : World) (B : Nat) (a b c d e f g h i j : Value) : World := (((((((((W.setCell ⟨B, 0, none⟩ a).setCell ⟨B, 1, none⟩ b).setCell ⟨B, 2, none⟩ c).setCell ⟨B, 3, none⟩ d).setCell ⟨B, 4, none⟩ e).setCell ⟨B, 5, none⟩ f).setCell ⟨B, 6, none⟩ g).setCell ⟨B, 7, none⟩ h).setCell ⟨B, 8, none⟩ i).setCell ⟨B, 9, none⟩ j
theorem Pr10.set {W : World} {B : Nat} {a b c d e f g h i j : Value} (q : Pr10 W B a b c d e f g h i j) (a' b' c' d' e' f' g' h' i' j' : Value) : Pr10 (set10 W B a' b' c' d' e' f' g' h' i' j') B a' b' c' d' e' f' g' h' i' j' := by
  unfold Pr10 set10; rw [row_set (row_set (row_set (row_set (row_set (row_set (row_set (row_set (row_set (row_set q a') b') c') d') e') f') g') h') i') j']; simp only [List.setIfInBounds_toArray, List.set_cons_zero, List.set_cons_succ]
theorem kept_set10 {F : List Nat} {w W : World} {B : Nat} (k : Kept F w W) (hB : B ∈ F ∨ w.heap.size ≤ B) (a b c d e f g h i j : Value) : Kept F w (set10 W B a b c d e f g h i j) :=
  (((((((((k.setCell (p := ⟨B, 0, none⟩) hB a).setCell (p := ⟨B, 1, none⟩) hB b).setCell (p := ⟨B, 2, none⟩) hB c).setCell (p := ⟨B, 3, none⟩) hB d).setCell (p := ⟨B, 4, none⟩) hB e).setCell (p := ⟨B, 5, none⟩) hB f).setCell (p := ⟨B, 6, none⟩) hB g).setCell (p := ⟨B, 7, none⟩) hB h).setCell (p := ⟨B, 8, none⟩) hB i).setCell (p := ⟨B, 9, none⟩) hB j
theorem IsQ.set10 {X : Nat → Prop} {W : World} {B : Nat} {t : Tr} {kv : Value} (h : IsQ (fun b => X b ∧ b ≠ B) W t kv) (a b c d e f g h' i j : Value) : IsQ X (set10 W B a b c d e f g h' i j) t kv := by
  have k : Kept [B] W (Go.Proofs.YtddgciilcghbaaaDoor.set10 W B a b c d e f g h' i j) := kept_set10 (Kept.refl [B] W) (.inl (by simp)) _ _ _ _ _ _ _ _ _ _
  exact h.cells (fun _ h _ => h.1) (fun b o v hb c => cell_keptF k (by simpa using hb.2) c)
theorem ret_pr {fn : Func} {p : Tmp} {act : Act} {w : World} {B : Nat} {a b c d e f g h i j : Value} {R : Ending → World → Prop} (hr : fn.results = #[.cell p 95]) (hp : act.tmps.getD p undef = .pointer (some ⟨B, 0, none⟩)) (hd : act.defers = []) (hg : Pr10 w B a b c d e f g h i j) (hR : R (.returned (.agg #[a, b, c, d, e, f, g, h, i, j])) w) : bodyPost Tryd.prog fn R .ret act w :=
  bodyPost_ret (results_cell_row hr _ w B 95 _ _ _ hp hg Tryd.underlying95 rfl (by kernel_rfl)) hd hR
/-- A pair of plans as a value; as it lies in memory. -/
def prA (p : Tr × Tr) (ua : Option Addr) (uc : Nat) (va : Option Addr) (vc : Nat) : Value := .agg #[.int .u8 (p.1.op : Nat), .string p.1.name, .slice ua p.1.kids.length uc, .int .i64 (psz p.1 : Nat), .int .i64 (pdp p.1 : Nat), .int .u8 (p.2.op : Nat), .string p.2.name, .slice va p.2.kids.length vc, .int .i64 (psz p.2 : Nat), .int .i64 (pdp p.2 : Nat)]
def IsR (X : Nat → Prop) (w : World) (p : Tr × Tr) (ua : Option Addr) (uc : Nat) (va : Option Addr) (vc : Nat) : Prop := IsQ X w p.1 (.slice ua p.1.kids.length uc) ∧ IsQ X w p.2 (.slice va p.2.kids.length vc)
def zeroP : Value := .agg #[.int .u8 0, .string ⟨#[]⟩, .slice none 0 0, .int .i64 0, .int .i64 0, .int .u8 0, .string ⟨#[]⟩, .slice none 0 0, .int .i64 0, .int .i64 0]
/-- The box of a function that joins two plans. -/
def FnAt (w : World) (B f : Nat) : Prop := w.cell? ⟨B, 0, none⟩ = some (.func (.func f) #[] #[])
theorem FnAt.kept {w w' : World} {B f : Nat} (h : FnAt w B f) (k : Kept [] w w') : FnAt w' B f := cell_kept0 k h
/-- What a function of the table does, of two pairs (of one). -/
def ColDoes (f : Nat) (lb : Array Value) (o : Nat) (w0 : World) : Prop := ∀ (X : Nat → Prop) (a b : Tr × Tr) (a1 : Option Addr) (a2 : Nat) (a3 : Option Addr) (a4 : Nat) (b1 : Option Addr) (b2 : Nat) (b3 : Option Addr) (b4 : Nat) (w : World), Kept [] w0 w → (∀ k, w.heap.size ≤ k → X k) → IsR X w a a1 a2 a3 a4 → IsR X w b b1 b2 b3 b4 →
  Calls Tryd.prog f (#[prA a a1 a2 a3 a4, prA b b1 b2 b3 b4] ++ lb) w fun e w' => ∃ u1 u2 u3 u4, e = .returned (prA (ndOp o a b) u1 u2 u3 u4) ∧ IsR X w' (ndOp o a b) u1 u2 u3 u4 ∧ Kept [] w w'
def ColOne (f : Nat) (lb : Array Value) (o : Nat) (w0 : World) : Prop := ∀ (X : Nat → Prop) (a b : Tr × Tr) (a1 : Option Addr) (a2 : Nat) (a3 : Option Addr) (a4 : Nat) (w : World), Kept [] w0 w → (∀ k, w.heap.size ≤ k → X k) → IsR X w a a1 a2 a3 a4 →
  Calls Tryd.prog f (#[prA a a1 a2 a3 a4, zeroP] ++ lb) w fun e w' => ∃ u1 u2 u3 u4, e = .returned (prA (ndOp o a b) u1 u2 u3 u4) ∧ IsR X w' (ndOp o a b) u1 u2 u3 u4 ∧ Kept [] w w'
set_option maxHeartbeats 4000000 in
set_option maxRecDepth 20000 in
theorem col_and (w0 : World) (Fand For : Nat) (hand : FnAt w0 Fand 136) (hor : FnAt w0 For 137) : ColDoes 141 #[.pointer (some ⟨Fand, 0, none⟩), .pointer (some ⟨For, 0, none⟩)] 5 w0 := by
  intro X a b a1 a2 a3 a4 b1 b2 b3 b4 w k0 hX ha hb
  obtain ⟨p, q⟩ := a
  obtain ⟨r, s⟩ := b
  obtain ⟨hp, hq⟩ := ha
  obtain ⟨hr, hs⟩ := hb
  simp only [prA]
  dsimp only at hp hq hr hs
  obtain ⟨pa, rfl⟩ : ∃ x, x = a1 := ⟨_, rfl⟩
  obtain ⟨pc, rfl⟩ : ∃ x, x = a2 := ⟨_, rfl⟩
  obtain ⟨qa, rfl⟩ : ∃ x, x = a3 := ⟨_, rfl⟩
  obtain ⟨qc, rfl⟩ : ∃ x, x = a4 := ⟨_, rfl⟩
  obtain ⟨ra, rfl⟩ : ∃ x, x = b1 := ⟨_, rfl⟩
  obtain ⟨rc, rfl⟩ : ∃ x, x = b2 := ⟨_, rfl⟩
  obtain ⟨sa, rfl⟩ : ∃ x, x = b3 := ⟨_, rfl⟩
  obtain ⟨sc, rfl⟩ : ∃ x, x = b4 := ⟨_, rfl⟩
  obtain ⟨pz, epz⟩ : ∃ x, psz p = x := ⟨_, rfl⟩
  obtain ⟨pd, epd⟩ : ∃ x, pdp p = x := ⟨_, rfl⟩
  obtain ⟨qz, eqz⟩ : ∃ x, psz q = x := ⟨_, rfl⟩
  obtain ⟨qd, eqd⟩ : ∃ x, pdp q = x := ⟨_, rfl⟩
  obtain ⟨rz, erz⟩ : ∃ x, psz r = x := ⟨_, rfl⟩
  obtain ⟨rd, erd⟩ : ∃ x, pdp r = x := ⟨_, rfl⟩
  obtain ⟨sz, esz⟩ : ∃ x, psz s = x := ⟨_, rfl⟩
  obtain ⟨sd, esd⟩ : ∃ x, pdp s = x := ⟨_, rfl⟩
  obtain ⟨z0, ez0⟩ : ∃ x, psz (nn2 5 p r) = x := ⟨_, rfl⟩
  obtain ⟨d0, ed0⟩ : ∃ x, pdp (nn2 5 p r) = x := ⟨_, rfl⟩
  obtain ⟨z1, ez1⟩ : ∃ x, psz (nn2 6 q s) = x := ⟨_, rfl⟩
  obtain ⟨d1, ed1⟩ : ∃ x, pdp (nn2 6 q s) = x := ⟨_, rfl⟩
  obtain ⟨V, hV⟩ : ∃ V, ((w.alloc (.cells #[.int .u8 (p.op : Nat), .string p.name, .slice pa p.kids.length pc, .int .i64 (pz : Nat), .int .i64 (pd : Nat), .int .u8 (q.op : Nat), .string q.name, .slice qa q.kids.length qc, .int .i64 (qz : Nat), .int .i64 (qd : Nat)] 95)).alloc (.cells #[.int .u8 (r.op : Nat), .string r.name, .slice ra r.kids.length rc, .int .i64 (rz : Nat), .int .i64 (rd : Nat), .int .u8 (s.op : Nat), .string s.name, .slice sa s.kids.length sc, .int .i64 (sz : Nat), .int .i64 (sd : Nat)] 95)).alloc (.cells #[.int .u8 0, .string ⟨#[]⟩, .slice none 0 0, .int .i64 0, .int .i64 0, .int .u8 0, .string ⟨#[]⟩, .slice none 0 0, .int .i64 0, .int .i64 0] 95) = V := ⟨_, rfl⟩
  have kV : Kept [] w V := by rw [← hV]; exact (((Kept.refl [] w).alloc _).alloc _).alloc _
  have zV : V.heap.size = w.heap.size + 3 := by rw [← hV]; simp
  have v0 : Pr10 V w.heap.size (.int .u8 (p.op : Nat)) (.string p.name) (.slice pa p.kids.length pc) (.int .i64 (pz : Nat)) (.int .i64 (pd : Nat)) (.int .u8 (q.op : Nat)) (.string q.name) (.slice qa q.kids.length qc) (.int .i64 (qz : Nat)) (.int .i64 (qd : Nat)) := by rw [← hV]; exact alUp (alUp (al0 w _) _) _
  have v1 : Pr10 V (w.heap.size + 1) (.int .u8 (r.op : Nat)) (.string r.name) (.slice ra r.kids.length rc) (.int .i64 (rz : Nat)) (.int .i64 (rd : Nat)) (.int .u8 (s.op : Nat)) (.string s.name) (.slice sa s.kids.length sc) (.int .i64 (sz : Nat)) (.int .i64 (sd : Nat)) := by rw [← hV]; exact alUp (al1 w _ _) _
  have v2 : Pr10 V (w.heap.size + 1 + 1) (.int .u8 0) (.string ⟨#[]⟩) (.slice none 0 0) (.int .i64 0) (.int .i64 0) (.int .u8 0) (.string ⟨#[]⟩) (.slice none 0 0) (.int .i64 0) (.int .i64 0) := by rw [← hV]; exact al2 w _ _ _
  have fb_and : V.cell? ⟨Fand, 0, none⟩ = some (.func (.func 136) #[] #[]) := (hand.kept k0).kept kV
  have fb_or : V.cell? ⟨For, 0, none⟩ = some (.func (.func 137) #[] #[]) := (hor.kept k0).kept kV
  have nand : Fand < w.heap.size := World.block_lt_of_cell? w _ (hand.kept k0)
  have nor : For < w.heap.size := World.block_lt_of_cell? w _ (hor.kept k0)
  have hY : ∀ W : World, V.heap.size ≤ W.heap.size → ∀ k, W.heap.size ≤ k → (fun b => X b ∧ b ≠ w.heap.size + 1 + 1) k := fun W hz k hk => ⟨hX k (by omega), by omega⟩
  have yp : IsQ (fun b => X b ∧ b ≠ w.heap.size + 1 + 1) V p (.slice pa p.kids.length pc) := hp.apart kV (by omega)
  have yq : IsQ (fun b => X b ∧ b ≠ w.heap.size + 1 + 1) V q (.slice qa q.kids.length qc) := hq.apart kV (by omega)
  have yr : IsQ (fun b => X b ∧ b ≠ w.heap.size + 1 + 1) V r (.slice ra r.kids.length rc) := hr.apart kV (by omega)
  have ys : IsQ (fun b => X b ∧ b ≠ w.heap.size + 1 + 1) V s (.slice sa s.kids.length sc) := hs.apart kV (by omega)
  have HJ0 : Hid (∀ (W : World) , Kept [] V W → Calls Tryd.prog 136 #[.agg #[.int .u8 (p.op : Nat), .string p.name, .slice pa p.kids.length pc, .int .i64 (pz : Nat), .int .i64 (pd : Nat)], .agg #[.int .u8 (r.op : Nat), .string r.name, .slice ra r.kids.length rc, .int .i64 (rz : Nat), .int .i64 (rd : Nat)]] W fun e w' => ∃ g, e = .returned (.agg #[.int .u8 5, .string nE, .slice g 2 2, .int .i64 (z0 : Nat), .int .i64 (d0 : Nat)]) ∧ IsQ (fun b => X b ∧ b ≠ w.heap.size + 1 + 1) w' (nn2 5 p r) (.slice g 2 2) ∧ Kept [] W w') := fun W  kW  => by
    have := join_and (fun b => X b ∧ b ≠ w.heap.size + 1 + 1) p r pa ra pc rc W (hY W kW.size) (yp.kept kW) (yr.kept kW)
    simp only [plA, epz, epd, erz, erd, ez0, ed0] at this
    exact this
  have HJ1 : Hid (∀ (W : World) , Kept [] V W → Calls Tryd.prog 137 #[.agg #[.int .u8 (q.op : Nat), .string q.name, .slice qa q.kids.length qc, .int .i64 (qz : Nat), .int .i64 (qd : Nat)], .agg #[.int .u8 (s.op : Nat), .string s.name, .slice sa s.kids.length sc, .int .i64 (sz : Nat), .int .i64 (sd : Nat)]] W fun e w' => ∃ g, e = .returned (.agg #[.int .u8 6, .string nE, .slice g 2 2, .int .i64 (z1 : Nat), .int .i64 (d1 : Nat)]) ∧ IsQ (fun b => X b ∧ b ≠ w.heap.size + 1 + 1) w' (nn2 6 q s) (.slice g 2 2) ∧ Kept [] W w') := fun W  kW  => by
    have := join_or (fun b => X b ∧ b ≠ w.heap.size + 1 + 1) q s qa sa qc sc W (hY W kW.size) (yq.kept kW) (ys.kept kW)
    simp only [plA, eqz, eqd, esz, esd, ez1, ed1] at this
    exact this
  have HV : Hid (_ = V) := hV
  have HKV : Hid (Kept [] w V) := kV
  have HV0 : Hid (Pr10 V w.heap.size (.int .u8 (p.op : Nat)) (.string p.name) (.slice pa p.kids.length pc) (.int .i64 (pz : Nat)) (.int .i64 (pd : Nat)) (.int .u8 (q.op : Nat)) (.string q.name) (.slice qa q.kids.length qc) (.int .i64 (qz : Nat)) (.int .i64 (qd : Nat))) := v0
  have HV1 : Hid (Pr10 V (w.heap.size + 1) (.int .u8 (r.op : Nat)) (.string r.name) (.slice ra r.kids.length rc) (.int .i64 (rz : Nat)) (.int .i64 (rd : Nat)) (.int .u8 (s.op : Nat)) (.string s.name) (.slice sa s.kids.length sc) (.int .i64 (sz : Nat)) (.int .i64 (sd : Nat))) := v1
  have HV2 : Hid (Pr10 V (w.heap.size + 1 + 1) (.int .u8 0) (.string ⟨#[]⟩) (.slice none 0 0) (.int .i64 0) (.int .i64 0) (.int .u8 0) (.string ⟨#[]⟩) (.slice none 0 0) (.int .i64 0) (.int .i64 0)) := v2
  have HE : Hid (psz (nn2 5 p r) = z0 ∧ pdp (nn2 5 p r) = d0 ∧ psz (nn2 6 q s) = z1 ∧ pdp (nn2 6 q s) = d1) := ⟨ez0, ed0, ez1, ed1⟩
  obtain ⟨⟨c0, c1, c2, c3, c4⟩, ⟨c5, c6, c7, c8, c9⟩, -⟩ := v0.cells
  obtain ⟨⟨e0, e1, e2, e3, e4⟩, ⟨e5, e6, e7, e8, e9⟩, -⟩ := v1.cells
  have nR0 : w.heap.size ∉ [w.heap.size + 1 + 1] := by simp; omega
  have nR1 : w.heap.size + 1 ∉ [w.heap.size + 1 + 1] := by simp
  have HS : Hid (∀ w', Kept [w.heap.size + 1 + 1] V w' → w'.cell? ⟨Fand, 0, none⟩ = some (.func (.func 136) #[] #[]) ∧ w'.cell? ⟨For, 0, none⟩ = some (.func (.func 137) #[] #[]) ∧ w'.cell? ⟨w.heap.size, 0, none⟩ = some (.int .u8 (p.op : Nat)) ∧ w'.cell? ⟨w.heap.size, 1, none⟩ = some (.string p.name) ∧ w'.cell? ⟨w.heap.size, 2, none⟩ = some (.slice pa p.kids.length pc) ∧ w'.cell? ⟨w.heap.size, 3, none⟩ = some (.int .i64 (pz : Nat)) ∧ w'.cell? ⟨w.heap.size, 4, none⟩ = some (.int .i64 (pd : Nat)) ∧ w'.cell? ⟨w.heap.size, 5, none⟩ = some (.int .u8 (q.op : Nat)) ∧ w'.cell? ⟨w.heap.size, 6, none⟩ = some (.string q.name) ∧ w'.cell? ⟨w.heap.size, 7, none⟩ = some (.slice qa q.kids.length qc) ∧ w'.cell? ⟨w.heap.size, 8, none⟩ = some (.int .i64 (qz : Nat)) ∧ w'.cell? ⟨w.heap.size, 9, none⟩ = some (.int .i64 (qd : Nat)) ∧ w'.cell? ⟨w.heap.size + 1, 0, none⟩ = some (.int .u8 (r.op : Nat)) ∧ w'.cell? ⟨w.heap.size + 1, 1, none⟩ = some (.string r.name) ∧ w'.cell? ⟨w.heap.size + 1, 2, none⟩ = some (.slice ra r.kids.length rc) ∧ w'.cell? ⟨w.heap.size + 1, 3, none⟩ = some (.int .i64 (rz : Nat)) ∧ w'.cell? ⟨w.heap.size + 1, 4, none⟩ = some (.int .i64 (rd : Nat)) ∧ w'.cell? ⟨w.heap.size + 1, 5, none⟩ = some (.int .u8 (s.op : Nat)) ∧ w'.cell? ⟨w.heap.size + 1, 6, none⟩ = some (.string s.name) ∧ w'.cell? ⟨w.heap.size + 1, 7, none⟩ = some (.slice sa s.kids.length sc) ∧ w'.cell? ⟨w.heap.size + 1, 8, none⟩ = some (.int .i64 (sz : Nat)) ∧ w'.cell? ⟨w.heap.size + 1, 9, none⟩ = some (.int .i64 (sd : Nat))) := fun w' k => ⟨cell_keptF k (by simp; omega) fb_and, cell_keptF k (by simp; omega) fb_or, cell_keptF k nR0 c0, cell_keptF k nR0 c1, cell_keptF k nR0 c2, cell_keptF k nR0 c3, cell_keptF k nR0 c4, cell_keptF k nR0 c5, cell_keptF k nR0 c6, cell_keptF k nR0 c7, cell_keptF k nR0 c8, cell_keptF k nR0 c9, cell_keptF k nR1 e0, cell_keptF k nR1 e1, cell_keptF k nR1 e2, cell_keptF k nR1 e3, cell_keptF k nR1 e4, cell_keptF k nR1 e5, cell_keptF k nR1 e6, cell_keptF k nR1 e7, cell_keptF k nR1 e8, cell_keptF k nR1 e9⟩
  have T0 : Hid True := trivial
  have T1 : Hid True := trivial
  have HR : Hid (∀ W, Kept [] V W → Pr10 W (w.heap.size + 1 + 1) (.int .u8 0) (.string ⟨#[]⟩) (.slice none 0 0) (.int .i64 0) (.int .i64 0) (.int .u8 0) (.string ⟨#[]⟩) (.slice none 0 0) (.int .i64 0) (.int .i64 0)) := fun W k => v2.kept k (by simp)
  clear hp hq hr hs k0 hX kV v0 v1 v2 hV hY hand hor yp yq yr ys ez0 ed0 ez1 ed1
  rw [epz, epd, eqz, eqd, erz, erd, esz, esd]
  clear epz epd eqz eqd erz erd esz esd nR0 nR1
  show Calls Tryd.prog 141 #[.agg #[.int .u8 (p.op : Nat), .string p.name, .slice pa p.kids.length pc, .int .i64 (pz : Nat), .int .i64 (pd : Nat), .int .u8 (q.op : Nat), .string q.name, .slice qa q.kids.length qc, .int .i64 (qz : Nat), .int .i64 (qd : Nat)], .agg #[.int .u8 (r.op : Nat), .string r.name, .slice ra r.kids.length rc, .int .i64 (rz : Nat), .int .i64 (rd : Nat), .int .u8 (s.op : Nat), .string s.name, .slice sa s.kids.length sc, .int .i64 (sz : Nat), .int .i64 (sd : Nat)], .pointer (some ⟨Fand, 0, none⟩), .pointer (some ⟨For, 0, none⟩)] w _
  go_enter Tryd.func141, Tryd.ntmps141
  go_wp2_with fail
  rw [HV.out]
  go_region_held3 (fun w' => w'.cell? ⟨Fand, 0, none⟩ = some (.func (.func 136) #[] #[]) ∧ w'.cell? ⟨For, 0, none⟩ = some (.func (.func 137) #[] #[]) ∧ w'.cell? ⟨w.heap.size, 0, none⟩ = some (.int .u8 (p.op : Nat)) ∧ w'.cell? ⟨w.heap.size, 1, none⟩ = some (.string p.name) ∧ w'.cell? ⟨w.heap.size, 2, none⟩ = some (.slice pa p.kids.length pc) ∧ w'.cell? ⟨w.heap.size, 3, none⟩ = some (.int .i64 (pz : Nat)) ∧ w'.cell? ⟨w.heap.size, 4, none⟩ = some (.int .i64 (pd : Nat)) ∧ w'.cell? ⟨w.heap.size, 5, none⟩ = some (.int .u8 (q.op : Nat)) ∧ w'.cell? ⟨w.heap.size, 6, none⟩ = some (.string q.name) ∧ w'.cell? ⟨w.heap.size, 7, none⟩ = some (.slice qa q.kids.length qc) ∧ w'.cell? ⟨w.heap.size, 8, none⟩ = some (.int .i64 (qz : Nat)) ∧ w'.cell? ⟨w.heap.size, 9, none⟩ = some (.int .i64 (qd : Nat)) ∧ w'.cell? ⟨w.heap.size + 1, 0, none⟩ = some (.int .u8 (r.op : Nat)) ∧ w'.cell? ⟨w.heap.size + 1, 1, none⟩ = some (.string r.name) ∧ w'.cell? ⟨w.heap.size + 1, 2, none⟩ = some (.slice ra r.kids.length rc) ∧ w'.cell? ⟨w.heap.size + 1, 3, none⟩ = some (.int .i64 (rz : Nat)) ∧ w'.cell? ⟨w.heap.size + 1, 4, none⟩ = some (.int .i64 (rd : Nat)) ∧ w'.cell? ⟨w.heap.size + 1, 5, none⟩ = some (.int .u8 (s.op : Nat)) ∧ w'.cell? ⟨w.heap.size + 1, 6, none⟩ = some (.string s.name) ∧ w'.cell? ⟨w.heap.size + 1, 7, none⟩ = some (.slice sa s.kids.length sc) ∧ w'.cell? ⟨w.heap.size + 1, 8, none⟩ = some (.int .i64 (sz : Nat)) ∧ w'.cell? ⟨w.heap.size + 1, 9, none⟩ = some (.int .i64 (sd : Nat)))
    ((refine HS.out _ ?_; (repeat (first | (with_reducible exact Kept.refl _ _) | (with_reducible refine Kept.drew ?_) | (with_reducible refine Kept.setCell ?_ (Or.inl (by simp)) _) | with_reducible refine Kept.trans (F := [w.heap.size + 1 + 1]) (G := []) (H := [w.heap.size + 1 + 1]) ?_ HK1.out (by simp) (by simp) | with_reducible refine Kept.trans (F := [w.heap.size + 1 + 1]) (G := []) (H := [w.heap.size + 1 + 1]) ?_ HK0.out (by simp) (by simp)))))
    (first | (clear T0; go_at_call 136; refine (HJ0.out _  ((Kept.refl [] V).drew) ).mono ?_; rintro e W0 ⟨g0, rfl, p0, k0⟩; have HKV0 : Hid (Kept [] V W0) := ((Kept.refl [] V).drew).trans k0 (by simp) (by simp); have HK0 : Hid (Kept [] _ W0) := k0; have HP0_0 : Hid (IsQ (fun b => X b ∧ b ≠ w.heap.size + 1 + 1) W0 (nn2 5 p r) (.slice g0 2 2)) := p0; clear p0 k0) | (clear T1; go_at_call 137; refine (HJ1.out _  (HKV0.out) ).mono ?_; rintro e W1 ⟨g1, rfl, p1, k1⟩; have HKV1 : Hid (Kept [] V W1) := (HKV0.out).trans k1 (by simp) (by simp); have HK1 : Hid (Kept [] _ W1) := k1; have HP1_1 : Hid (IsQ (fun b => X b ∧ b ≠ w.heap.size + 1 + 1) W1 (nn2 6 q s) (.slice g1 2 2)) := p1; have HP0_1 : Hid (IsQ (fun b => X b ∧ b ≠ w.heap.size + 1 + 1) W1 (nn2 5 p r) (.slice g0 2 2)) := HP0_0.out.kept k1; obtain ⟨⟨r0, r1, r2, r3, r4⟩, ⟨r5, r6, r7, r8, r9⟩, rf⟩ := (HR.out W1 HKV1.out).cells; clear p1 k1))
  all_goals go_wp2
  all_goals
    refine ret_pr rfl rfl rfl ((HR.out W1 HKV1.out).set (.int .u8 5) (.string nE) (.slice g0 2 2) (.int .i64 (z0 : Nat)) (.int .i64 (d0 : Nat)) (.int .u8 6) (.string nE) (.slice g1 2 2) (.int .i64 (z1 : Nat)) (.int .i64 (d1 : Nat))) ⟨g0, 2, g1, 2, ?_, ⟨HP0_1.out.set10 _ _ _ _ _ _ _ _ _ _, HP1_1.out.set10 _ _ _ _ _ _ _ _ _ _⟩, kept_set10 (HKV.out.trans HKV1.out (by simp) (by simp)) (.inr (by omega)) _ _ _ _ _ _ _ _ _ _⟩
    obtain ⟨h1, h2, h3, h4⟩ := HE.out
    rw [← h1, ← h2, ← h3, ← h4]; rfl
set_option maxHeartbeats 4000000 in
set_option maxRecDepth 20000 in
theorem col_or (w0 : World) (For Fand : Nat) (hor : FnAt w0 For 137) (hand : FnAt w0 Fand 136) : ColDoes 142 #[.pointer (some ⟨For, 0, none⟩), .pointer (some ⟨Fand, 0, none⟩)] 6 w0 := by
  intro X a b a1 a2 a3 a4 b1 b2 b3 b4 w k0 hX ha hb
  obtain ⟨p, q⟩ := a
  obtain ⟨r, s⟩ := b
  obtain ⟨hp, hq⟩ := ha
  obtain ⟨hr, hs⟩ := hb
  simp only [prA]
  dsimp only at hp hq hr hs
  obtain ⟨pa, rfl⟩ : ∃ x, x = a1 := ⟨_, rfl⟩
  obtain ⟨pc, rfl⟩ : ∃ x, x = a2 := ⟨_, rfl⟩
  obtain ⟨qa, rfl⟩ : ∃ x, x = a3 := ⟨_, rfl⟩
  obtain ⟨qc, rfl⟩ : ∃ x, x = a4 := ⟨_, rfl⟩
  obtain ⟨ra, rfl⟩ : ∃ x, x = b1 := ⟨_, rfl⟩
  obtain ⟨rc, rfl⟩ : ∃ x, x = b2 := ⟨_, rfl⟩
  obtain ⟨sa, rfl⟩ : ∃ x, x = b3 := ⟨_, rfl⟩
  obtain ⟨sc, rfl⟩ : ∃ x, x = b4 := ⟨_, rfl⟩
  obtain ⟨pz, epz⟩ : ∃ x, psz p = x := ⟨_, rfl⟩
  obtain ⟨pd, epd⟩ : ∃ x, pdp p = x := ⟨_, rfl⟩
  obtain ⟨qz, eqz⟩ : ∃ x, psz q = x := ⟨_, rfl⟩
  obtain ⟨qd, eqd⟩ : ∃ x, pdp q = x := ⟨_, rfl⟩
  obtain ⟨rz, erz⟩ : ∃ x, psz r = x := ⟨_, rfl⟩
  obtain ⟨rd, erd⟩ : ∃ x, pdp r = x := ⟨_, rfl⟩
  obtain ⟨sz, esz⟩ : ∃ x, psz s = x := ⟨_, rfl⟩
  obtain ⟨sd, esd⟩ : ∃ x, pdp s = x := ⟨_, rfl⟩
  obtain ⟨z0, ez0⟩ : ∃ x, psz (nn2 6 p r) = x := ⟨_, rfl⟩
  obtain ⟨d0, ed0⟩ : ∃ x, pdp (nn2 6 p r) = x := ⟨_, rfl⟩
  obtain ⟨z1, ez1⟩ : ∃ x, psz (nn2 5 q s) = x := ⟨_, rfl⟩
  obtain ⟨d1, ed1⟩ : ∃ x, pdp (nn2 5 q s) = x := ⟨_, rfl⟩
  obtain ⟨V, hV⟩ : ∃ V, ((w.alloc (.cells #[.int .u8 (p.op : Nat), .string p.name, .slice pa p.kids.length pc, .int .i64 (pz : Nat), .int .i64 (pd : Nat), .int .u8 (q.op : Nat), .string q.name, .slice qa q.kids.length qc, .int .i64 (qz : Nat), .int .i64 (qd : Nat)] 95)).alloc (.cells #[.int .u8 (r.op : Nat), .string r.name, .slice ra r.kids.length rc, .int .i64 (rz : Nat), .int .i64 (rd : Nat), .int .u8 (s.op : Nat), .string s.name, .slice sa s.kids.length sc, .int .i64 (sz : Nat), .int .i64 (sd : Nat)] 95)).alloc (.cells #[.int .u8 0, .string ⟨#[]⟩, .slice none 0 0, .int .i64 0, .int .i64 0, .int .u8 0, .string ⟨#[]⟩, .slice none 0 0, .int .i64 0, .int .i64 0] 95) = V := ⟨_, rfl⟩
  have kV : Kept [] w V := by rw [← hV]; exact (((Kept.refl [] w).alloc _).alloc _).alloc _
  have zV : V.heap.size = w.heap.size + 3 := by rw [← hV]; simp
  have v0 : Pr10 V w.heap.size (.int .u8 (p.op : Nat)) (.string p.name) (.slice pa p.kids.length pc) (.int .i64 (pz : Nat)) (.int .i64 (pd : Nat)) (.int .u8 (q.op : Nat)) (.string q.name) (.slice qa q.kids.length qc) (.int .i64 (qz : Nat)) (.int .i64 (qd : Nat)) := by rw [← hV]; exact alUp (alUp (al0 w _) _) _
  have v1 : Pr10 V (w.heap.size + 1) (.int .u8 (r.op : Nat)) (.string r.name) (.slice ra r.kids.length rc) (.int .i64 (rz : Nat)) (.int .i64 (rd : Nat)) (.int .u8 (s.op : Nat)) (.string s.name) (.slice sa s.kids.length sc) (.int .i64 (sz : Nat)) (.int .i64 (sd : Nat)) := by rw [← hV]; exact alUp (al1 w _ _) _
  have v2 : Pr10 V (w.heap.size + 1 + 1) (.int .u8 0) (.string ⟨#[]⟩) (.slice none 0 0) (.int .i64 0) (.int .i64 0) (.int .u8 0) (.string ⟨#[]⟩) (.slice none 0 0) (.int .i64 0) (.int .i64 0) := by rw [← hV]; exact al2 w _ _ _
  have fb_or : V.cell? ⟨For, 0, none⟩ = some (.func (.func 137) #[] #[]) := (hor.kept k0).kept kV
  have fb_and : V.cell? ⟨Fand, 0, none⟩ = some (.func (.func 136) #[] #[]) := (hand.kept k0).kept kV
  have nor : For < w.heap.size := World.block_lt_of_cell? w _ (hor.kept k0)
  have nand : Fand < w.heap.size := World.block_lt_of_cell? w _ (hand.kept k0)
  have hY : ∀ W : World, V.heap.size ≤ W.heap.size → ∀ k, W.heap.size ≤ k → (fun b => X b ∧ b ≠ w.heap.size + 1 + 1) k := fun W hz k hk => ⟨hX k (by omega), by omega⟩
  have yp : IsQ (fun b => X b ∧ b ≠ w.heap.size + 1 + 1) V p (.slice pa p.kids.length pc) := hp.apart kV (by omega)
  have yq : IsQ (fun b => X b ∧ b ≠ w.heap.size + 1 + 1) V q (.slice qa q.kids.length qc) := hq.apart kV (by omega)
  have yr : IsQ (fun b => X b ∧ b ≠ w.heap.size + 1 + 1) V r (.slice ra r.kids.length rc) := hr.apart kV (by omega)
  have ys : IsQ (fun b => X b ∧ b ≠ w.heap.size + 1 + 1) V s (.slice sa s.kids.length sc) := hs.apart kV (by omega)
  have HJ0 : Hid (∀ (W : World) , Kept [] V W → Calls Tryd.prog 137 #[.agg #[.int .u8 (p.op : Nat), .string p.name, .slice pa p.kids.length pc, .int .i64 (pz : Nat), .int .i64 (pd : Nat)], .agg #[.int .u8 (r.op : Nat), .string r.name, .slice ra r.kids.length rc, .int .i64 (rz : Nat), .int .i64 (rd : Nat)]] W fun e w' => ∃ g, e = .returned (.agg #[.int .u8 6, .string nE, .slice g 2 2, .int .i64 (z0 : Nat), .int .i64 (d0 : Nat)]) ∧ IsQ (fun b => X b ∧ b ≠ w.heap.size + 1 + 1) w' (nn2 6 p r) (.slice g 2 2) ∧ Kept [] W w') := fun W  kW  => by
    have := join_or (fun b => X b ∧ b ≠ w.heap.size + 1 + 1) p r pa ra pc rc W (hY W kW.size) (yp.kept kW) (yr.kept kW)
    simp only [plA, epz, epd, erz, erd, ez0, ed0] at this
    exact this
  have HJ1 : Hid (∀ (W : World) , Kept [] V W → Calls Tryd.prog 136 #[.agg #[.int .u8 (q.op : Nat), .string q.name, .slice qa q.kids.length qc, .int .i64 (qz : Nat), .int .i64 (qd : Nat)], .agg #[.int .u8 (s.op : Nat), .string s.name, .slice sa s.kids.length sc, .int .i64 (sz : Nat), .int .i64 (sd : Nat)]] W fun e w' => ∃ g, e = .returned (.agg #[.int .u8 5, .string nE, .slice g 2 2, .int .i64 (z1 : Nat), .int .i64 (d1 : Nat)]) ∧ IsQ (fun b => X b ∧ b ≠ w.heap.size + 1 + 1) w' (nn2 5 q s) (.slice g 2 2) ∧ Kept [] W w') := fun W  kW  => by
    have := join_and (fun b => X b ∧ b ≠ w.heap.size + 1 + 1) q s qa sa qc sc W (hY W kW.size) (yq.kept kW) (ys.kept kW)
    simp only [plA, eqz, eqd, esz, esd, ez1, ed1] at this
    exact this
  have HV : Hid (_ = V) := hV
  have HKV : Hid (Kept [] w V) := kV
  have HV0 : Hid (Pr10 V w.heap.size (.int .u8 (p.op : Nat)) (.string p.name) (.slice pa p.kids.length pc) (.int .i64 (pz : Nat)) (.int .i64 (pd : Nat)) (.int .u8 (q.op : Nat)) (.string q.name) (.slice qa q.kids.length qc) (.int .i64 (qz : Nat)) (.int .i64 (qd : Nat))) := v0
  have HV1 : Hid (Pr10 V (w.heap.size + 1) (.int .u8 (r.op : Nat)) (.string r.name) (.slice ra r.kids.length rc) (.int .i64 (rz : Nat)) (.int .i64 (rd : Nat)) (.int .u8 (s.op : Nat)) (.string s.name) (.slice sa s.kids.length sc) (.int .i64 (sz : Nat)) (.int .i64 (sd : Nat))) := v1
  have HV2 : Hid (Pr10 V (w.heap.size + 1 + 1) (.int .u8 0) (.string ⟨#[]⟩) (.slice none 0 0) (.int .i64 0) (.int .i64 0) (.int .u8 0) (.string ⟨#[]⟩) (.slice none 0 0) (.int .i64 0) (.int .i64 0)) := v2
  have HE : Hid (psz (nn2 6 p r) = z0 ∧ pdp (nn2 6 p r) = d0 ∧ psz (nn2 5 q s) = z1 ∧ pdp (nn2 5 q s) = d1) := ⟨ez0, ed0, ez1, ed1⟩
  obtain ⟨⟨c0, c1, c2, c3, c4⟩, ⟨c5, c6, c7, c8, c9⟩, -⟩ := v0.cells
  obtain ⟨⟨e0, e1, e2, e3, e4⟩, ⟨e5, e6, e7, e8, e9⟩, -⟩ := v1.cells
  have nR0 : w.heap.size ∉ [w.heap.size + 1 + 1] := by simp; omega
  have nR1 : w.heap.size + 1 ∉ [w.heap.size + 1 + 1] := by simp
  have HS : Hid (∀ w', Kept [w.heap.size + 1 + 1] V w' → w'.cell? ⟨For, 0, none⟩ = some (.func (.func 137) #[] #[]) ∧ w'.cell? ⟨Fand, 0, none⟩ = some (.func (.func 136) #[] #[]) ∧ w'.cell? ⟨w.heap.size, 0, none⟩ = some (.int .u8 (p.op : Nat)) ∧ w'.cell? ⟨w.heap.size, 1, none⟩ = some (.string p.name) ∧ w'.cell? ⟨w.heap.size, 2, none⟩ = some (.slice pa p.kids.length pc) ∧ w'.cell? ⟨w.heap.size, 3, none⟩ = some (.int .i64 (pz : Nat)) ∧ w'.cell? ⟨w.heap.size, 4, none⟩ = some (.int .i64 (pd : Nat)) ∧ w'.cell? ⟨w.heap.size, 5, none⟩ = some (.int .u8 (q.op : Nat)) ∧ w'.cell? ⟨w.heap.size, 6, none⟩ = some (.string q.name) ∧ w'.cell? ⟨w.heap.size, 7, none⟩ = some (.slice qa q.kids.length qc) ∧ w'.cell? ⟨w.heap.size, 8, none⟩ = some (.int .i64 (qz : Nat)) ∧ w'.cell? ⟨w.heap.size, 9, none⟩ = some (.int .i64 (qd : Nat)) ∧ w'.cell? ⟨w.heap.size + 1, 0, none⟩ = some (.int .u8 (r.op : Nat)) ∧ w'.cell? ⟨w.heap.size + 1, 1, none⟩ = some (.string r.name) ∧ w'.cell? ⟨w.heap.size + 1, 2, none⟩ = some (.slice ra r.kids.length rc) ∧ w'.cell? ⟨w.heap.size + 1, 3, none⟩ = some (.int .i64 (rz : Nat)) ∧ w'.cell? ⟨w.heap.size + 1, 4, none⟩ = some (.int .i64 (rd : Nat)) ∧ w'.cell? ⟨w.heap.size + 1, 5, none⟩ = some (.int .u8 (s.op : Nat)) ∧ w'.cell? ⟨w.heap.size + 1, 6, none⟩ = some (.string s.name) ∧ w'.cell? ⟨w.heap.size + 1, 7, none⟩ = some (.slice sa s.kids.length sc) ∧ w'.cell? ⟨w.heap.size + 1, 8, none⟩ = some (.int .i64 (sz : Nat)) ∧ w'.cell? ⟨w.heap.size + 1, 9, none⟩ = some (.int .i64 (sd : Nat))) := fun w' k => ⟨cell_keptF k (by simp; omega) fb_or, cell_keptF k (by simp; omega) fb_and, cell_keptF k nR0 c0, cell_keptF k nR0 c1, cell_keptF k nR0 c2, cell_keptF k nR0 c3, cell_keptF k nR0 c4, cell_keptF k nR0 c5, cell_keptF k nR0 c6, cell_keptF k nR0 c7, cell_keptF k nR0 c8, cell_keptF k nR0 c9, cell_keptF k nR1 e0, cell_keptF k nR1 e1, cell_keptF k nR1 e2, cell_keptF k nR1 e3, cell_keptF k nR1 e4, cell_keptF k nR1 e5, cell_keptF k nR1 e6, cell_keptF k nR1 e7, cell_keptF k nR1 e8, cell_keptF k nR1 e9⟩
  have T0 : Hid True := trivial
  have T1 : Hid True := trivial
  have HR : Hid (∀ W, Kept [] V W → Pr10 W (w.heap.size + 1 + 1) (.int .u8 0) (.string ⟨#[]⟩) (.slice none 0 0) (.int .i64 0) (.int .i64 0) (.int .u8 0) (.string ⟨#[]⟩) (.slice none 0 0) (.int .i64 0) (.int .i64 0)) := fun W k => v2.kept k (by simp)
  clear hp hq hr hs k0 hX kV v0 v1 v2 hV hY hor hand yp yq yr ys ez0 ed0 ez1 ed1
  rw [epz, epd, eqz, eqd, erz, erd, esz, esd]
  clear epz epd eqz eqd erz erd esz esd nR0 nR1
  show Calls Tryd.prog 142 #[.agg #[.int .u8 (p.op : Nat), .string p.name, .slice pa p.kids.length pc, .int .i64 (pz : Nat), .int .i64 (pd : Nat), .int .u8 (q.op : Nat), .string q.name, .slice qa q.kids.length qc, .int .i64 (qz : Nat), .int .i64 (qd : Nat)], .agg #[.int .u8 (r.op : Nat), .string r.name, .slice ra r.kids.length rc, .int .i64 (rz : Nat), .int .i64 (rd : Nat), .int .u8 (s.op : Nat), .string s.name, .slice sa s.kids.length sc, .int .i64 (sz : Nat), .int .i64 (sd : Nat)], .pointer (some ⟨For, 0, none⟩), .pointer (some ⟨Fand, 0, none⟩)] w _
  go_enter Tryd.func142, Tryd.ntmps142
  go_wp2_with fail
  rw [HV.out]
  go_region_held3 (fun w' => w'.cell? ⟨For, 0, none⟩ = some (.func (.func 137) #[] #[]) ∧ w'.cell? ⟨Fand, 0, none⟩ = some (.func (.func 136) #[] #[]) ∧ w'.cell? ⟨w.heap.size, 0, none⟩ = some (.int .u8 (p.op : Nat)) ∧ w'.cell? ⟨w.heap.size, 1, none⟩ = some (.string p.name) ∧ w'.cell? ⟨w.heap.size, 2, none⟩ = some (.slice pa p.kids.length pc) ∧ w'.cell? ⟨w.heap.size, 3, none⟩ = some (.int .i64 (pz : Nat)) ∧ w'.cell? ⟨w.heap.size, 4, none⟩ = some (.int .i64 (pd : Nat)) ∧ w'.cell? ⟨w.heap.size, 5, none⟩ = some (.int .u8 (q.op : Nat)) ∧ w'.cell? ⟨w.heap.size, 6, none⟩ = some (.string q.name) ∧ w'.cell? ⟨w.heap.size, 7, none⟩ = some (.slice qa q.kids.length qc) ∧ w'.cell? ⟨w.heap.size, 8, none⟩ = some (.int .i64 (qz : Nat)) ∧ w'.cell? ⟨w.heap.size, 9, none⟩ = some (.int .i64 (qd : Nat)) ∧ w'.cell? ⟨w.heap.size + 1, 0, none⟩ = some (.int .u8 (r.op : Nat)) ∧ w'.cell? ⟨w.heap.size + 1, 1, none⟩ = some (.string r.name) ∧ w'.cell? ⟨w.heap.size + 1, 2, none⟩ = some (.slice ra r.kids.length rc) ∧ w'.cell? ⟨w.heap.size + 1, 3, none⟩ = some (.int .i64 (rz : Nat)) ∧ w'.cell? ⟨w.heap.size + 1, 4, none⟩ = some (.int .i64 (rd : Nat)) ∧ w'.cell? ⟨w.heap.size + 1, 5, none⟩ = some (.int .u8 (s.op : Nat)) ∧ w'.cell? ⟨w.heap.size + 1, 6, none⟩ = some (.string s.name) ∧ w'.cell? ⟨w.heap.size + 1, 7, none⟩ = some (.slice sa s.kids.length sc) ∧ w'.cell? ⟨w.heap.size + 1, 8, none⟩ = some (.int .i64 (sz : Nat)) ∧ w'.cell? ⟨w.heap.size + 1, 9, none⟩ = some (.int .i64 (sd : Nat)))
    ((refine HS.out _ ?_; (repeat (first | (with_reducible exact Kept.refl _ _) | (with_reducible refine Kept.drew ?_) | (with_reducible refine Kept.setCell ?_ (Or.inl (by simp)) _) | with_reducible refine Kept.trans (F := [w.heap.size + 1 + 1]) (G := []) (H := [w.heap.size + 1 + 1]) ?_ HK1.out (by simp) (by simp) | with_reducible refine Kept.trans (F := [w.heap.size + 1 + 1]) (G := []) (H := [w.heap.size + 1 + 1]) ?_ HK0.out (by simp) (by simp)))))
    (first | (clear T0; go_at_call 137; refine (HJ0.out _  ((Kept.refl [] V).drew) ).mono ?_; rintro e W0 ⟨g0, rfl, p0, k0⟩; have HKV0 : Hid (Kept [] V W0) := ((Kept.refl [] V).drew).trans k0 (by simp) (by simp); have HK0 : Hid (Kept [] _ W0) := k0; have HP0_0 : Hid (IsQ (fun b => X b ∧ b ≠ w.heap.size + 1 + 1) W0 (nn2 6 p r) (.slice g0 2 2)) := p0; clear p0 k0) | (clear T1; go_at_call 136; refine (HJ1.out _  (HKV0.out) ).mono ?_; rintro e W1 ⟨g1, rfl, p1, k1⟩; have HKV1 : Hid (Kept [] V W1) := (HKV0.out).trans k1 (by simp) (by simp); have HK1 : Hid (Kept [] _ W1) := k1; have HP1_1 : Hid (IsQ (fun b => X b ∧ b ≠ w.heap.size + 1 + 1) W1 (nn2 5 q s) (.slice g1 2 2)) := p1; have HP0_1 : Hid (IsQ (fun b => X b ∧ b ≠ w.heap.size + 1 + 1) W1 (nn2 6 p r) (.slice g0 2 2)) := HP0_0.out.kept k1; obtain ⟨⟨r0, r1, r2, r3, r4⟩, ⟨r5, r6, r7, r8, r9⟩, rf⟩ := (HR.out W1 HKV1.out).cells; clear p1 k1))
  all_goals go_wp2
  all_goals
    refine ret_pr rfl rfl rfl ((HR.out W1 HKV1.out).set (.int .u8 6) (.string nE) (.slice g0 2 2) (.int .i64 (z0 : Nat)) (.int .i64 (d0 : Nat)) (.int .u8 5) (.string nE) (.slice g1 2 2) (.int .i64 (z1 : Nat)) (.int .i64 (d1 : Nat))) ⟨g0, 2, g1, 2, ?_, ⟨HP0_1.out.set10 _ _ _ _ _ _ _ _ _ _, HP1_1.out.set10 _ _ _ _ _ _ _ _ _ _⟩, kept_set10 (HKV.out.trans HKV1.out (by simp) (by simp)) (.inr (by omega)) _ _ _ _ _ _ _ _ _ _⟩
    obtain ⟨h1, h2, h3, h4⟩ := HE.out
    rw [← h1, ← h2, ← h3, ← h4]; rfl
set_option maxHeartbeats 4000000 in
set_option maxRecDepth 20000 in
theorem col_imp (w0 : World) (For Fand : Nat) (hor : FnAt w0 For 137) (hand : FnAt w0 Fand 136) : ColDoes 143 #[.pointer (some ⟨For, 0, none⟩), .pointer (some ⟨Fand, 0, none⟩)] 7 w0 := by
  intro X a b a1 a2 a3 a4 b1 b2 b3 b4 w k0 hX ha hb
  obtain ⟨p, q⟩ := a
  obtain ⟨r, s⟩ := b
  obtain ⟨hp, hq⟩ := ha
  obtain ⟨hr, hs⟩ := hb
  simp only [prA]
  dsimp only at hp hq hr hs
  obtain ⟨pa, rfl⟩ : ∃ x, x = a1 := ⟨_, rfl⟩
  obtain ⟨pc, rfl⟩ : ∃ x, x = a2 := ⟨_, rfl⟩
  obtain ⟨qa, rfl⟩ : ∃ x, x = a3 := ⟨_, rfl⟩
  obtain ⟨qc, rfl⟩ : ∃ x, x = a4 := ⟨_, rfl⟩
  obtain ⟨ra, rfl⟩ : ∃ x, x = b1 := ⟨_, rfl⟩
  obtain ⟨rc, rfl⟩ : ∃ x, x = b2 := ⟨_, rfl⟩
  obtain ⟨sa, rfl⟩ : ∃ x, x = b3 := ⟨_, rfl⟩
  obtain ⟨sc, rfl⟩ : ∃ x, x = b4 := ⟨_, rfl⟩
  obtain ⟨pz, epz⟩ : ∃ x, psz p = x := ⟨_, rfl⟩
  obtain ⟨pd, epd⟩ : ∃ x, pdp p = x := ⟨_, rfl⟩
  obtain ⟨qz, eqz⟩ : ∃ x, psz q = x := ⟨_, rfl⟩
  obtain ⟨qd, eqd⟩ : ∃ x, pdp q = x := ⟨_, rfl⟩
  obtain ⟨rz, erz⟩ : ∃ x, psz r = x := ⟨_, rfl⟩
  obtain ⟨rd, erd⟩ : ∃ x, pdp r = x := ⟨_, rfl⟩
  obtain ⟨sz, esz⟩ : ∃ x, psz s = x := ⟨_, rfl⟩
  obtain ⟨sd, esd⟩ : ∃ x, pdp s = x := ⟨_, rfl⟩
  obtain ⟨z0, ez0⟩ : ∃ x, psz (nn2 6 q r) = x := ⟨_, rfl⟩
  obtain ⟨d0, ed0⟩ : ∃ x, pdp (nn2 6 q r) = x := ⟨_, rfl⟩
  obtain ⟨z1, ez1⟩ : ∃ x, psz (nn2 5 p s) = x := ⟨_, rfl⟩
  obtain ⟨d1, ed1⟩ : ∃ x, pdp (nn2 5 p s) = x := ⟨_, rfl⟩
  obtain ⟨V, hV⟩ : ∃ V, ((w.alloc (.cells #[.int .u8 (p.op : Nat), .string p.name, .slice pa p.kids.length pc, .int .i64 (pz : Nat), .int .i64 (pd : Nat), .int .u8 (q.op : Nat), .string q.name, .slice qa q.kids.length qc, .int .i64 (qz : Nat), .int .i64 (qd : Nat)] 95)).alloc (.cells #[.int .u8 (r.op : Nat), .string r.name, .slice ra r.kids.length rc, .int .i64 (rz : Nat), .int .i64 (rd : Nat), .int .u8 (s.op : Nat), .string s.name, .slice sa s.kids.length sc, .int .i64 (sz : Nat), .int .i64 (sd : Nat)] 95)).alloc (.cells #[.int .u8 0, .string ⟨#[]⟩, .slice none 0 0, .int .i64 0, .int .i64 0, .int .u8 0, .string ⟨#[]⟩, .slice none 0 0, .int .i64 0, .int .i64 0] 95) = V := ⟨_, rfl⟩
  have kV : Kept [] w V := by rw [← hV]; exact (((Kept.refl [] w).alloc _).alloc _).alloc _
  have zV : V.heap.size = w.heap.size + 3 := by rw [← hV]; simp
  have v0 : Pr10 V w.heap.size (.int .u8 (p.op : Nat)) (.string p.name) (.slice pa p.kids.length pc) (.int .i64 (pz : Nat)) (.int .i64 (pd : Nat)) (.int .u8 (q.op : Nat)) (.string q.name) (.slice qa q.kids.length qc) (.int .i64 (qz : Nat)) (.int .i64 (qd : Nat)) := by rw [← hV]; exact alUp (alUp (al0 w _) _) _
  have v1 : Pr10 V (w.heap.size + 1) (.int .u8 (r.op : Nat)) (.string r.name) (.slice ra r.kids.length rc) (.int .i64 (rz : Nat)) (.int .i64 (rd : Nat)) (.int .u8 (s.op : Nat)) (.string s.name) (.slice sa s.kids.length sc) (.int .i64 (sz : Nat)) (.int .i64 (sd : Nat)) := by rw [← hV]; exact alUp (al1 w _ _) _
  have v2 : Pr10 V (w.heap.size + 1 + 1) (.int .u8 0) (.string ⟨#[]⟩) (.slice none 0 0) (.int .i64 0) (.int .i64 0) (.int .u8 0) (.string ⟨#[]⟩) (.slice none 0 0) (.int .i64 0) (.int .i64 0) := by rw [← hV]; exact al2 w _ _ _
  have fb_or : V.cell? ⟨For, 0, none⟩ = some (.func (.func 137) #[] #[]) := (hor.kept k0).kept kV
  have fb_and : V.cell? ⟨Fand, 0, none⟩ = some (.func (.func 136) #[] #[]) := (hand.kept k0).kept kV
  have nor : For < w.heap.size := World.block_lt_of_cell? w _ (hor.kept k0)
  have nand : Fand < w.heap.size := World.block_lt_of_cell? w _ (hand.kept k0)
  have hY : ∀ W : World, V.heap.size ≤ W.heap.size → ∀ k, W.heap.size ≤ k → (fun b => X b ∧ b ≠ w.heap.size + 1 + 1) k := fun W hz k hk => ⟨hX k (by omega), by omega⟩
  have yp : IsQ (fun b => X b ∧ b ≠ w.heap.size + 1 + 1) V p (.slice pa p.kids.length pc) := hp.apart kV (by omega)
  have yq : IsQ (fun b => X b ∧ b ≠ w.heap.size + 1 + 1) V q (.slice qa q.kids.length qc) := hq.apart kV (by omega)
  have yr : IsQ (fun b => X b ∧ b ≠ w.heap.size + 1 + 1) V r (.slice ra r.kids.length rc) := hr.apart kV (by omega)
  have ys : IsQ (fun b => X b ∧ b ≠ w.heap.size + 1 + 1) V s (.slice sa s.kids.length sc) := hs.apart kV (by omega)
  have HJ0 : Hid (∀ (W : World) , Kept [] V W → Calls Tryd.prog 137 #[.agg #[.int .u8 (q.op : Nat), .string q.name, .slice qa q.kids.length qc, .int .i64 (qz : Nat), .int .i64 (qd : Nat)], .agg #[.int .u8 (r.op : Nat), .string r.name, .slice ra r.kids.length rc, .int .i64 (rz : Nat), .int .i64 (rd : Nat)]] W fun e w' => ∃ g, e = .returned (.agg #[.int .u8 6, .string nE, .slice g 2 2, .int .i64 (z0 : Nat), .int .i64 (d0 : Nat)]) ∧ IsQ (fun b => X b ∧ b ≠ w.heap.size + 1 + 1) w' (nn2 6 q r) (.slice g 2 2) ∧ Kept [] W w') := fun W  kW  => by
    have := join_or (fun b => X b ∧ b ≠ w.heap.size + 1 + 1) q r qa ra qc rc W (hY W kW.size) (yq.kept kW) (yr.kept kW)
    simp only [plA, eqz, eqd, erz, erd, ez0, ed0] at this
    exact this
  have HJ1 : Hid (∀ (W : World) , Kept [] V W → Calls Tryd.prog 136 #[.agg #[.int .u8 (p.op : Nat), .string p.name, .slice pa p.kids.length pc, .int .i64 (pz : Nat), .int .i64 (pd : Nat)], .agg #[.int .u8 (s.op : Nat), .string s.name, .slice sa s.kids.length sc, .int .i64 (sz : Nat), .int .i64 (sd : Nat)]] W fun e w' => ∃ g, e = .returned (.agg #[.int .u8 5, .string nE, .slice g 2 2, .int .i64 (z1 : Nat), .int .i64 (d1 : Nat)]) ∧ IsQ (fun b => X b ∧ b ≠ w.heap.size + 1 + 1) w' (nn2 5 p s) (.slice g 2 2) ∧ Kept [] W w') := fun W  kW  => by
    have := join_and (fun b => X b ∧ b ≠ w.heap.size + 1 + 1) p s pa sa pc sc W (hY W kW.size) (yp.kept kW) (ys.kept kW)
    simp only [plA, epz, epd, esz, esd, ez1, ed1] at this
    exact this
  have HV : Hid (_ = V) := hV
  have HKV : Hid (Kept [] w V) := kV
  have HV0 : Hid (Pr10 V w.heap.size (.int .u8 (p.op : Nat)) (.string p.name) (.slice pa p.kids.length pc) (.int .i64 (pz : Nat)) (.int .i64 (pd : Nat)) (.int .u8 (q.op : Nat)) (.string q.name) (.slice qa q.kids.length qc) (.int .i64 (qz : Nat)) (.int .i64 (qd : Nat))) := v0
  have HV1 : Hid (Pr10 V (w.heap.size + 1) (.int .u8 (r.op : Nat)) (.string r.name) (.slice ra r.kids.length rc) (.int .i64 (rz : Nat)) (.int .i64 (rd : Nat)) (.int .u8 (s.op : Nat)) (.string s.name) (.slice sa s.kids.length sc) (.int .i64 (sz : Nat)) (.int .i64 (sd : Nat))) := v1
  have HV2 : Hid (Pr10 V (w.heap.size + 1 + 1) (.int .u8 0) (.string ⟨#[]⟩) (.slice none 0 0) (.int .i64 0) (.int .i64 0) (.int .u8 0) (.string ⟨#[]⟩) (.slice none 0 0) (.int .i64 0) (.int .i64 0)) := v2
  have HE : Hid (psz (nn2 6 q r) = z0 ∧ pdp (nn2 6 q r) = d0 ∧ psz (nn2 5 p s) = z1 ∧ pdp (nn2 5 p s) = d1) := ⟨ez0, ed0, ez1, ed1⟩
  obtain ⟨⟨c0, c1, c2, c3, c4⟩, ⟨c5, c6, c7, c8, c9⟩, -⟩ := v0.cells
  obtain ⟨⟨e0, e1, e2, e3, e4⟩, ⟨e5, e6, e7, e8, e9⟩, -⟩ := v1.cells
  have nR0 : w.heap.size ∉ [w.heap.size + 1 + 1] := by simp; omega
  have nR1 : w.heap.size + 1 ∉ [w.heap.size + 1 + 1] := by simp
  have HS : Hid (∀ w', Kept [w.heap.size + 1 + 1] V w' → w'.cell? ⟨For, 0, none⟩ = some (.func (.func 137) #[] #[]) ∧ w'.cell? ⟨Fand, 0, none⟩ = some (.func (.func 136) #[] #[]) ∧ w'.cell? ⟨w.heap.size, 0, none⟩ = some (.int .u8 (p.op : Nat)) ∧ w'.cell? ⟨w.heap.size, 1, none⟩ = some (.string p.name) ∧ w'.cell? ⟨w.heap.size, 2, none⟩ = some (.slice pa p.kids.length pc) ∧ w'.cell? ⟨w.heap.size, 3, none⟩ = some (.int .i64 (pz : Nat)) ∧ w'.cell? ⟨w.heap.size, 4, none⟩ = some (.int .i64 (pd : Nat)) ∧ w'.cell? ⟨w.heap.size, 5, none⟩ = some (.int .u8 (q.op : Nat)) ∧ w'.cell? ⟨w.heap.size, 6, none⟩ = some (.string q.name) ∧ w'.cell? ⟨w.heap.size, 7, none⟩ = some (.slice qa q.kids.length qc) ∧ w'.cell? ⟨w.heap.size, 8, none⟩ = some (.int .i64 (qz : Nat)) ∧ w'.cell? ⟨w.heap.size, 9, none⟩ = some (.int .i64 (qd : Nat)) ∧ w'.cell? ⟨w.heap.size + 1, 0, none⟩ = some (.int .u8 (r.op : Nat)) ∧ w'.cell? ⟨w.heap.size + 1, 1, none⟩ = some (.string r.name) ∧ w'.cell? ⟨w.heap.size + 1, 2, none⟩ = some (.slice ra r.kids.length rc) ∧ w'.cell? ⟨w.heap.size + 1, 3, none⟩ = some (.int .i64 (rz : Nat)) ∧ w'.cell? ⟨w.heap.size + 1, 4, none⟩ = some (.int .i64 (rd : Nat)) ∧ w'.cell? ⟨w.heap.size + 1, 5, none⟩ = some (.int .u8 (s.op : Nat)) ∧ w'.cell? ⟨w.heap.size + 1, 6, none⟩ = some (.string s.name) ∧ w'.cell? ⟨w.heap.size + 1, 7, none⟩ = some (.slice sa s.kids.length sc) ∧ w'.cell? ⟨w.heap.size + 1, 8, none⟩ = some (.int .i64 (sz : Nat)) ∧ w'.cell? ⟨w.heap.size + 1, 9, none⟩ = some (.int .i64 (sd : Nat))) := fun w' k => ⟨cell_keptF k (by simp; omega) fb_or, cell_keptF k (by simp; omega) fb_and, cell_keptF k nR0 c0, cell_keptF k nR0 c1, cell_keptF k nR0 c2, cell_keptF k nR0 c3, cell_keptF k nR0 c4, cell_keptF k nR0 c5, cell_keptF k nR0 c6, cell_keptF k nR0 c7, cell_keptF k nR0 c8, cell_keptF k nR0 c9, cell_keptF k nR1 e0, cell_keptF k nR1 e1, cell_keptF k nR1 e2, cell_keptF k nR1 e3, cell_keptF k nR1 e4, cell_keptF k nR1 e5, cell_keptF k nR1 e6, cell_keptF k nR1 e7, cell_keptF k nR1 e8, cell_keptF k nR1 e9⟩
  have T0 : Hid True := trivial
  have T1 : Hid True := trivial
  have HR : Hid (∀ W, Kept [] V W → Pr10 W (w.heap.size + 1 + 1) (.int .u8 0) (.string ⟨#[]⟩) (.slice none 0 0) (.int .i64 0) (.int .i64 0) (.int .u8 0) (.string ⟨#[]⟩) (.slice none 0 0) (.int .i64 0) (.int .i64 0)) := fun W k => v2.kept k (by simp)
  clear hp hq hr hs k0 hX kV v0 v1 v2 hV hY hor hand yp yq yr ys ez0 ed0 ez1 ed1
  rw [epz, epd, eqz, eqd, erz, erd, esz, esd]
  clear epz epd eqz eqd erz erd esz esd nR0 nR1
  show Calls Tryd.prog 143 #[.agg #[.int .u8 (p.op : Nat), .string p.name, .slice pa p.kids.length pc, .int .i64 (pz : Nat), .int .i64 (pd : Nat), .int .u8 (q.op : Nat), .string q.name, .slice qa q.kids.length qc, .int .i64 (qz : Nat), .int .i64 (qd : Nat)], .agg #[.int .u8 (r.op : Nat), .string r.name, .slice ra r.kids.length rc, .int .i64 (rz : Nat), .int .i64 (rd : Nat), .int .u8 (s.op : Nat), .string s.name, .slice sa s.kids.length sc, .int .i64 (sz : Nat), .int .i64 (sd : Nat)], .pointer (some ⟨For, 0, none⟩), .pointer (some ⟨Fand, 0, none⟩)] w _
  go_enter Tryd.func143, Tryd.ntmps143
  go_wp2_with fail
  rw [HV.out]
  go_region_held3 (fun w' => w'.cell? ⟨For, 0, none⟩ = some (.func (.func 137) #[] #[]) ∧ w'.cell? ⟨Fand, 0, none⟩ = some (.func (.func 136) #[] #[]) ∧ w'.cell? ⟨w.heap.size, 0, none⟩ = some (.int .u8 (p.op : Nat)) ∧ w'.cell? ⟨w.heap.size, 1, none⟩ = some (.string p.name) ∧ w'.cell? ⟨w.heap.size, 2, none⟩ = some (.slice pa p.kids.length pc) ∧ w'.cell? ⟨w.heap.size, 3, none⟩ = some (.int .i64 (pz : Nat)) ∧ w'.cell? ⟨w.heap.size, 4, none⟩ = some (.int .i64 (pd : Nat)) ∧ w'.cell? ⟨w.heap.size, 5, none⟩ = some (.int .u8 (q.op : Nat)) ∧ w'.cell? ⟨w.heap.size, 6, none⟩ = some (.string q.name) ∧ w'.cell? ⟨w.heap.size, 7, none⟩ = some (.slice qa q.kids.length qc) ∧ w'.cell? ⟨w.heap.size, 8, none⟩ = some (.int .i64 (qz : Nat)) ∧ w'.cell? ⟨w.heap.size, 9, none⟩ = some (.int .i64 (qd : Nat)) ∧ w'.cell? ⟨w.heap.size + 1, 0, none⟩ = some (.int .u8 (r.op : Nat)) ∧ w'.cell? ⟨w.heap.size + 1, 1, none⟩ = some (.string r.name) ∧ w'.cell? ⟨w.heap.size + 1, 2, none⟩ = some (.slice ra r.kids.length rc) ∧ w'.cell? ⟨w.heap.size + 1, 3, none⟩ = some (.int .i64 (rz : Nat)) ∧ w'.cell? ⟨w.heap.size + 1, 4, none⟩ = some (.int .i64 (rd : Nat)) ∧ w'.cell? ⟨w.heap.size + 1, 5, none⟩ = some (.int .u8 (s.op : Nat)) ∧ w'.cell? ⟨w.heap.size + 1, 6, none⟩ = some (.string s.name) ∧ w'.cell? ⟨w.heap.size + 1, 7, none⟩ = some (.slice sa s.kids.length sc) ∧ w'.cell? ⟨w.heap.size + 1, 8, none⟩ = some (.int .i64 (sz : Nat)) ∧ w'.cell? ⟨w.heap.size + 1, 9, none⟩ = some (.int .i64 (sd : Nat)))
    ((refine HS.out _ ?_; (repeat (first | (with_reducible exact Kept.refl _ _) | (with_reducible refine Kept.drew ?_) | (with_reducible refine Kept.setCell ?_ (Or.inl (by simp)) _) | with_reducible refine Kept.trans (F := [w.heap.size + 1 + 1]) (G := []) (H := [w.heap.size + 1 + 1]) ?_ HK1.out (by simp) (by simp) | with_reducible refine Kept.trans (F := [w.heap.size + 1 + 1]) (G := []) (H := [w.heap.size + 1 + 1]) ?_ HK0.out (by simp) (by simp)))))
    (first | (clear T0; go_at_call 137; refine (HJ0.out _  ((Kept.refl [] V).drew) ).mono ?_; rintro e W0 ⟨g0, rfl, p0, k0⟩; have HKV0 : Hid (Kept [] V W0) := ((Kept.refl [] V).drew).trans k0 (by simp) (by simp); have HK0 : Hid (Kept [] _ W0) := k0; have HP0_0 : Hid (IsQ (fun b => X b ∧ b ≠ w.heap.size + 1 + 1) W0 (nn2 6 q r) (.slice g0 2 2)) := p0; clear p0 k0) | (clear T1; go_at_call 136; refine (HJ1.out _  (HKV0.out) ).mono ?_; rintro e W1 ⟨g1, rfl, p1, k1⟩; have HKV1 : Hid (Kept [] V W1) := (HKV0.out).trans k1 (by simp) (by simp); have HK1 : Hid (Kept [] _ W1) := k1; have HP1_1 : Hid (IsQ (fun b => X b ∧ b ≠ w.heap.size + 1 + 1) W1 (nn2 5 p s) (.slice g1 2 2)) := p1; have HP0_1 : Hid (IsQ (fun b => X b ∧ b ≠ w.heap.size + 1 + 1) W1 (nn2 6 q r) (.slice g0 2 2)) := HP0_0.out.kept k1; obtain ⟨⟨r0, r1, r2, r3, r4⟩, ⟨r5, r6, r7, r8, r9⟩, rf⟩ := (HR.out W1 HKV1.out).cells; clear p1 k1))
  all_goals go_wp2
  all_goals
    refine ret_pr rfl rfl rfl ((HR.out W1 HKV1.out).set (.int .u8 6) (.string nE) (.slice g0 2 2) (.int .i64 (z0 : Nat)) (.int .i64 (d0 : Nat)) (.int .u8 5) (.string nE) (.slice g1 2 2) (.int .i64 (z1 : Nat)) (.int .i64 (d1 : Nat))) ⟨g0, 2, g1, 2, ?_, ⟨HP0_1.out.set10 _ _ _ _ _ _ _ _ _ _, HP1_1.out.set10 _ _ _ _ _ _ _ _ _ _⟩, kept_set10 (HKV.out.trans HKV1.out (by simp) (by simp)) (.inr (by omega)) _ _ _ _ _ _ _ _ _ _⟩
    obtain ⟨h1, h2, h3, h4⟩ := HE.out
    rw [← h1, ← h2, ← h3, ← h4]; rfl
set_option maxHeartbeats 4000000 in
set_option maxRecDepth 20000 in
theorem col_until (w0 : World) (Funtil Frelease : Nat) (huntil : FnAt w0 Funtil 138) (hrelease : FnAt w0 Frelease 139) : ColDoes 148 #[.pointer (some ⟨Funtil, 0, none⟩), .pointer (some ⟨Frelease, 0, none⟩)] 12 w0 := by
  intro X a b a1 a2 a3 a4 b1 b2 b3 b4 w k0 hX ha hb
  obtain ⟨p, q⟩ := a
  obtain ⟨r, s⟩ := b
  obtain ⟨hp, hq⟩ := ha
  obtain ⟨hr, hs⟩ := hb
  simp only [prA]
  dsimp only at hp hq hr hs
  obtain ⟨pa, rfl⟩ : ∃ x, x = a1 := ⟨_, rfl⟩
  obtain ⟨pc, rfl⟩ : ∃ x, x = a2 := ⟨_, rfl⟩
  obtain ⟨qa, rfl⟩ : ∃ x, x = a3 := ⟨_, rfl⟩
  obtain ⟨qc, rfl⟩ : ∃ x, x = a4 := ⟨_, rfl⟩
  obtain ⟨ra, rfl⟩ : ∃ x, x = b1 := ⟨_, rfl⟩
  obtain ⟨rc, rfl⟩ : ∃ x, x = b2 := ⟨_, rfl⟩
  obtain ⟨sa, rfl⟩ : ∃ x, x = b3 := ⟨_, rfl⟩
  obtain ⟨sc, rfl⟩ : ∃ x, x = b4 := ⟨_, rfl⟩
  obtain ⟨pz, epz⟩ : ∃ x, psz p = x := ⟨_, rfl⟩
  obtain ⟨pd, epd⟩ : ∃ x, pdp p = x := ⟨_, rfl⟩
  obtain ⟨qz, eqz⟩ : ∃ x, psz q = x := ⟨_, rfl⟩
  obtain ⟨qd, eqd⟩ : ∃ x, pdp q = x := ⟨_, rfl⟩
  obtain ⟨rz, erz⟩ : ∃ x, psz r = x := ⟨_, rfl⟩
  obtain ⟨rd, erd⟩ : ∃ x, pdp r = x := ⟨_, rfl⟩
  obtain ⟨sz, esz⟩ : ∃ x, psz s = x := ⟨_, rfl⟩
  obtain ⟨sd, esd⟩ : ∃ x, pdp s = x := ⟨_, rfl⟩
  obtain ⟨z0, ez0⟩ : ∃ x, psz (nn2 12 p r) = x := ⟨_, rfl⟩
  obtain ⟨d0, ed0⟩ : ∃ x, pdp (nn2 12 p r) = x := ⟨_, rfl⟩
  obtain ⟨z1, ez1⟩ : ∃ x, psz (nn2 13 q s) = x := ⟨_, rfl⟩
  obtain ⟨d1, ed1⟩ : ∃ x, pdp (nn2 13 q s) = x := ⟨_, rfl⟩
  obtain ⟨V, hV⟩ : ∃ V, ((w.alloc (.cells #[.int .u8 (p.op : Nat), .string p.name, .slice pa p.kids.length pc, .int .i64 (pz : Nat), .int .i64 (pd : Nat), .int .u8 (q.op : Nat), .string q.name, .slice qa q.kids.length qc, .int .i64 (qz : Nat), .int .i64 (qd : Nat)] 95)).alloc (.cells #[.int .u8 (r.op : Nat), .string r.name, .slice ra r.kids.length rc, .int .i64 (rz : Nat), .int .i64 (rd : Nat), .int .u8 (s.op : Nat), .string s.name, .slice sa s.kids.length sc, .int .i64 (sz : Nat), .int .i64 (sd : Nat)] 95)).alloc (.cells #[.int .u8 0, .string ⟨#[]⟩, .slice none 0 0, .int .i64 0, .int .i64 0, .int .u8 0, .string ⟨#[]⟩, .slice none 0 0, .int .i64 0, .int .i64 0] 95) = V := ⟨_, rfl⟩
  have kV : Kept [] w V := by rw [← hV]; exact (((Kept.refl [] w).alloc _).alloc _).alloc _
  have zV : V.heap.size = w.heap.size + 3 := by rw [← hV]; simp
  have v0 : Pr10 V w.heap.size (.int .u8 (p.op : Nat)) (.string p.name) (.slice pa p.kids.length pc) (.int .i64 (pz : Nat)) (.int .i64 (pd : Nat)) (.int .u8 (q.op : Nat)) (.string q.name) (.slice qa q.kids.length qc) (.int .i64 (qz : Nat)) (.int .i64 (qd : Nat)) := by rw [← hV]; exact alUp (alUp (al0 w _) _) _
  have v1 : Pr10 V (w.heap.size + 1) (.int .u8 (r.op : Nat)) (.string r.name) (.slice ra r.kids.length rc) (.int .i64 (rz : Nat)) (.int .i64 (rd : Nat)) (.int .u8 (s.op : Nat)) (.string s.name) (.slice sa s.kids.length sc) (.int .i64 (sz : Nat)) (.int .i64 (sd : Nat)) := by rw [← hV]; exact alUp (al1 w _ _) _
  have v2 : Pr10 V (w.heap.size + 1 + 1) (.int .u8 0) (.string ⟨#[]⟩) (.slice none 0 0) (.int .i64 0) (.int .i64 0) (.int .u8 0) (.string ⟨#[]⟩) (.slice none 0 0) (.int .i64 0) (.int .i64 0) := by rw [← hV]; exact al2 w _ _ _
  have fb_until : V.cell? ⟨Funtil, 0, none⟩ = some (.func (.func 138) #[] #[]) := (huntil.kept k0).kept kV
  have fb_release : V.cell? ⟨Frelease, 0, none⟩ = some (.func (.func 139) #[] #[]) := (hrelease.kept k0).kept kV
  have nuntil : Funtil < w.heap.size := World.block_lt_of_cell? w _ (huntil.kept k0)
  have nrelease : Frelease < w.heap.size := World.block_lt_of_cell? w _ (hrelease.kept k0)
  have hY : ∀ W : World, V.heap.size ≤ W.heap.size → ∀ k, W.heap.size ≤ k → (fun b => X b ∧ b ≠ w.heap.size + 1 + 1) k := fun W hz k hk => ⟨hX k (by omega), by omega⟩
  have yp : IsQ (fun b => X b ∧ b ≠ w.heap.size + 1 + 1) V p (.slice pa p.kids.length pc) := hp.apart kV (by omega)
  have yq : IsQ (fun b => X b ∧ b ≠ w.heap.size + 1 + 1) V q (.slice qa q.kids.length qc) := hq.apart kV (by omega)
  have yr : IsQ (fun b => X b ∧ b ≠ w.heap.size + 1 + 1) V r (.slice ra r.kids.length rc) := hr.apart kV (by omega)
  have ys : IsQ (fun b => X b ∧ b ≠ w.heap.size + 1 + 1) V s (.slice sa s.kids.length sc) := hs.apart kV (by omega)
  have HJ0 : Hid (∀ (W : World) , Kept [] V W → Calls Tryd.prog 138 #[.agg #[.int .u8 (p.op : Nat), .string p.name, .slice pa p.kids.length pc, .int .i64 (pz : Nat), .int .i64 (pd : Nat)], .agg #[.int .u8 (r.op : Nat), .string r.name, .slice ra r.kids.length rc, .int .i64 (rz : Nat), .int .i64 (rd : Nat)]] W fun e w' => ∃ g, e = .returned (.agg #[.int .u8 12, .string nE, .slice g 2 2, .int .i64 (z0 : Nat), .int .i64 (d0 : Nat)]) ∧ IsQ (fun b => X b ∧ b ≠ w.heap.size + 1 + 1) w' (nn2 12 p r) (.slice g 2 2) ∧ Kept [] W w') := fun W  kW  => by
    have := join_until (fun b => X b ∧ b ≠ w.heap.size + 1 + 1) p r pa ra pc rc W (hY W kW.size) (yp.kept kW) (yr.kept kW)
    simp only [plA, epz, epd, erz, erd, ez0, ed0] at this
    exact this
  have HJ1 : Hid (∀ (W : World) , Kept [] V W → Calls Tryd.prog 139 #[.agg #[.int .u8 (q.op : Nat), .string q.name, .slice qa q.kids.length qc, .int .i64 (qz : Nat), .int .i64 (qd : Nat)], .agg #[.int .u8 (s.op : Nat), .string s.name, .slice sa s.kids.length sc, .int .i64 (sz : Nat), .int .i64 (sd : Nat)]] W fun e w' => ∃ g, e = .returned (.agg #[.int .u8 13, .string nE, .slice g 2 2, .int .i64 (z1 : Nat), .int .i64 (d1 : Nat)]) ∧ IsQ (fun b => X b ∧ b ≠ w.heap.size + 1 + 1) w' (nn2 13 q s) (.slice g 2 2) ∧ Kept [] W w') := fun W  kW  => by
    have := join_release (fun b => X b ∧ b ≠ w.heap.size + 1 + 1) q s qa sa qc sc W (hY W kW.size) (yq.kept kW) (ys.kept kW)
    simp only [plA, eqz, eqd, esz, esd, ez1, ed1] at this
    exact this
  have HV : Hid (_ = V) := hV
  have HKV : Hid (Kept [] w V) := kV
  have HV0 : Hid (Pr10 V w.heap.size (.int .u8 (p.op : Nat)) (.string p.name) (.slice pa p.kids.length pc) (.int .i64 (pz : Nat)) (.int .i64 (pd : Nat)) (.int .u8 (q.op : Nat)) (.string q.name) (.slice qa q.kids.length qc) (.int .i64 (qz : Nat)) (.int .i64 (qd : Nat))) := v0
  have HV1 : Hid (Pr10 V (w.heap.size + 1) (.int .u8 (r.op : Nat)) (.string r.name) (.slice ra r.kids.length rc) (.int .i64 (rz : Nat)) (.int .i64 (rd : Nat)) (.int .u8 (s.op : Nat)) (.string s.name) (.slice sa s.kids.length sc) (.int .i64 (sz : Nat)) (.int .i64 (sd : Nat))) := v1
  have HV2 : Hid (Pr10 V (w.heap.size + 1 + 1) (.int .u8 0) (.string ⟨#[]⟩) (.slice none 0 0) (.int .i64 0) (.int .i64 0) (.int .u8 0) (.string ⟨#[]⟩) (.slice none 0 0) (.int .i64 0) (.int .i64 0)) := v2
  have HE : Hid (psz (nn2 12 p r) = z0 ∧ pdp (nn2 12 p r) = d0 ∧ psz (nn2 13 q s) = z1 ∧ pdp (nn2 13 q s) = d1) := ⟨ez0, ed0, ez1, ed1⟩
  obtain ⟨⟨c0, c1, c2, c3, c4⟩, ⟨c5, c6, c7, c8, c9⟩, -⟩ := v0.cells
  obtain ⟨⟨e0, e1, e2, e3, e4⟩, ⟨e5, e6, e7, e8, e9⟩, -⟩ := v1.cells
  have nR0 : w.heap.size ∉ [w.heap.size + 1 + 1] := by simp; omega
  have nR1 : w.heap.size + 1 ∉ [w.heap.size + 1 + 1] := by simp
  have HS : Hid (∀ w', Kept [w.heap.size + 1 + 1] V w' → w'.cell? ⟨Funtil, 0, none⟩ = some (.func (.func 138) #[] #[]) ∧ w'.cell? ⟨Frelease, 0, none⟩ = some (.func (.func 139) #[] #[]) ∧ w'.cell? ⟨w.heap.size, 0, none⟩ = some (.int .u8 (p.op : Nat)) ∧ w'.cell? ⟨w.heap.size, 1, none⟩ = some (.string p.name) ∧ w'.cell? ⟨w.heap.size, 2, none⟩ = some (.slice pa p.kids.length pc) ∧ w'.cell? ⟨w.heap.size, 3, none⟩ = some (.int .i64 (pz : Nat)) ∧ w'.cell? ⟨w.heap.size, 4, none⟩ = some (.int .i64 (pd : Nat)) ∧ w'.cell? ⟨w.heap.size, 5, none⟩ = some (.int .u8 (q.op : Nat)) ∧ w'.cell? ⟨w.heap.size, 6, none⟩ = some (.string q.name) ∧ w'.cell? ⟨w.heap.size, 7, none⟩ = some (.slice qa q.kids.length qc) ∧ w'.cell? ⟨w.heap.size, 8, none⟩ = some (.int .i64 (qz : Nat)) ∧ w'.cell? ⟨w.heap.size, 9, none⟩ = some (.int .i64 (qd : Nat)) ∧ w'.cell? ⟨w.heap.size + 1, 0, none⟩ = some (.int .u8 (r.op : Nat)) ∧ w'.cell? ⟨w.heap.size + 1, 1, none⟩ = some (.string r.name) ∧ w'.cell? ⟨w.heap.size + 1, 2, none⟩ = some (.slice ra r.kids.length rc) ∧ w'.cell? ⟨w.heap.size + 1, 3, none⟩ = some (.int .i64 (rz : Nat)) ∧ w'.cell? ⟨w.heap.size + 1, 4, none⟩ = some (.int .i64 (rd : Nat)) ∧ w'.cell? ⟨w.heap.size + 1, 5, none⟩ = some (.int .u8 (s.op : Nat)) ∧ w'.cell? ⟨w.heap.size + 1, 6, none⟩ = some (.string s.name) ∧ w'.cell? ⟨w.heap.size + 1, 7, none⟩ = some (.slice sa s.kids.length sc) ∧ w'.cell? ⟨w.heap.size + 1, 8, none⟩ = some (.int .i64 (sz : Nat)) ∧ w'.cell? ⟨w.heap.size + 1, 9, none⟩ = some (.int .i64 (sd : Nat))) := fun w' k => ⟨cell_keptF k (by simp; omega) fb_until, cell_keptF k (by simp; omega) fb_release, cell_keptF k nR0 c0, cell_keptF k nR0 c1, cell_keptF k nR0 c2, cell_keptF k nR0 c3, cell_keptF k nR0 c4, cell_keptF k nR0 c5, cell_keptF k nR0 c6, cell_keptF k nR0 c7, cell_keptF k nR0 c8, cell_keptF k nR0 c9, cell_keptF k nR1 e0, cell_keptF k nR1 e1, cell_keptF k nR1 e2, cell_keptF k nR1 e3, cell_keptF k nR1 e4, cell_keptF k nR1 e5, cell_keptF k nR1 e6, cell_keptF k nR1 e7, cell_keptF k nR1 e8, cell_keptF k nR1 e9⟩
  have T0 : Hid True := trivial
  have T1 : Hid True := trivial
  have HR : Hid (∀ W, Kept [] V W → Pr10 W (w.heap.size + 1 + 1) (.int .u8 0) (.string ⟨#[]⟩) (.slice none 0 0) (.int .i64 0) (.int .i64 0) (.int .u8 0) (.string ⟨#[]⟩) (.slice none 0 0) (.int .i64 0) (.int .i64 0)) := fun W k => v2.kept k (by simp)
  clear hp hq hr hs k0 hX kV v0 v1 v2 hV hY huntil hrelease yp yq yr ys ez0 ed0 ez1 ed1
  rw [epz, epd, eqz, eqd, erz, erd, esz, esd]
  clear epz epd eqz eqd erz erd esz esd nR0 nR1
  show Calls Tryd.prog 148 #[.agg #[.int .u8 (p.op : Nat), .string p.name, .slice pa p.kids.length pc, .int .i64 (pz : Nat), .int .i64 (pd : Nat), .int .u8 (q.op : Nat), .string q.name, .slice qa q.kids.length qc, .int .i64 (qz : Nat), .int .i64 (qd : Nat)], .agg #[.int .u8 (r.op : Nat), .string r.name, .slice ra r.kids.length rc, .int .i64 (rz : Nat), .int .i64 (rd : Nat), .int .u8 (s.op : Nat), .string s.name, .slice sa s.kids.length sc, .int .i64 (sz : Nat), .int .i64 (sd : Nat)], .pointer (some ⟨Funtil, 0, none⟩), .pointer (some ⟨Frelease, 0, none⟩)] w _
  go_enter Tryd.func148, Tryd.ntmps148
  go_wp2_with fail
  rw [HV.out]
  go_region_held3 (fun w' => w'.cell? ⟨Funtil, 0, none⟩ = some (.func (.func 138) #[] #[]) ∧ w'.cell? ⟨Frelease, 0, none⟩ = some (.func (.func 139) #[] #[]) ∧ w'.cell? ⟨w.heap.size, 0, none⟩ = some (.int .u8 (p.op : Nat)) ∧ w'.cell? ⟨w.heap.size, 1, none⟩ = some (.string p.name) ∧ w'.cell? ⟨w.heap.size, 2, none⟩ = some (.slice pa p.kids.length pc) ∧ w'.cell? ⟨w.heap.size, 3, none⟩ = some (.int .i64 (pz : Nat)) ∧ w'.cell? ⟨w.heap.size, 4, none⟩ = some (.int .i64 (pd : Nat)) ∧ w'.cell? ⟨w.heap.size, 5, none⟩ = some (.int .u8 (q.op : Nat)) ∧ w'.cell? ⟨w.heap.size, 6, none⟩ = some (.string q.name) ∧ w'.cell? ⟨w.heap.size, 7, none⟩ = some (.slice qa q.kids.length qc) ∧ w'.cell? ⟨w.heap.size, 8, none⟩ = some (.int .i64 (qz : Nat)) ∧ w'.cell? ⟨w.heap.size, 9, none⟩ = some (.int .i64 (qd : Nat)) ∧ w'.cell? ⟨w.heap.size + 1, 0, none⟩ = some (.int .u8 (r.op : Nat)) ∧ w'.cell? ⟨w.heap.size + 1, 1, none⟩ = some (.string r.name) ∧ w'.cell? ⟨w.heap.size + 1, 2, none⟩ = some (.slice ra r.kids.length rc) ∧ w'.cell? ⟨w.heap.size + 1, 3, none⟩ = some (.int .i64 (rz : Nat)) ∧ w'.cell? ⟨w.heap.size + 1, 4, none⟩ = some (.int .i64 (rd : Nat)) ∧ w'.cell? ⟨w.heap.size + 1, 5, none⟩ = some (.int .u8 (s.op : Nat)) ∧ w'.cell? ⟨w.heap.size + 1, 6, none⟩ = some (.string s.name) ∧ w'.cell? ⟨w.heap.size + 1, 7, none⟩ = some (.slice sa s.kids.length sc) ∧ w'.cell? ⟨w.heap.size + 1, 8, none⟩ = some (.int .i64 (sz : Nat)) ∧ w'.cell? ⟨w.heap.size + 1, 9, none⟩ = some (.int .i64 (sd : Nat)))
    ((refine HS.out _ ?_; (repeat (first | (with_reducible exact Kept.refl _ _) | (with_reducible refine Kept.drew ?_) | (with_reducible refine Kept.setCell ?_ (Or.inl (by simp)) _) | with_reducible refine Kept.trans (F := [w.heap.size + 1 + 1]) (G := []) (H := [w.heap.size + 1 + 1]) ?_ HK1.out (by simp) (by simp) | with_reducible refine Kept.trans (F := [w.heap.size + 1 + 1]) (G := []) (H := [w.heap.size + 1 + 1]) ?_ HK0.out (by simp) (by simp)))))
    (first | (clear T0; go_at_call 138; refine (HJ0.out _  ((Kept.refl [] V).drew) ).mono ?_; rintro e W0 ⟨g0, rfl, p0, k0⟩; have HKV0 : Hid (Kept [] V W0) := ((Kept.refl [] V).drew).trans k0 (by simp) (by simp); have HK0 : Hid (Kept [] _ W0) := k0; have HP0_0 : Hid (IsQ (fun b => X b ∧ b ≠ w.heap.size + 1 + 1) W0 (nn2 12 p r) (.slice g0 2 2)) := p0; clear p0 k0) | (clear T1; go_at_call 139; refine (HJ1.out _  (HKV0.out) ).mono ?_; rintro e W1 ⟨g1, rfl, p1, k1⟩; have HKV1 : Hid (Kept [] V W1) := (HKV0.out).trans k1 (by simp) (by simp); have HK1 : Hid (Kept [] _ W1) := k1; have HP1_1 : Hid (IsQ (fun b => X b ∧ b ≠ w.heap.size + 1 + 1) W1 (nn2 13 q s) (.slice g1 2 2)) := p1; have HP0_1 : Hid (IsQ (fun b => X b ∧ b ≠ w.heap.size + 1 + 1) W1 (nn2 12 p r) (.slice g0 2 2)) := HP0_0.out.kept k1; obtain ⟨⟨r0, r1, r2, r3, r4⟩, ⟨r5, r6, r7, r8, r9⟩, rf⟩ := (HR.out W1 HKV1.out).cells; clear p1 k1))
  all_goals go_wp2
  all_goals
    refine ret_pr rfl rfl rfl ((HR.out W1 HKV1.out).set (.int .u8 12) (.string nE) (.slice g0 2 2) (.int .i64 (z0 : Nat)) (.int .i64 (d0 : Nat)) (.int .u8 13) (.string nE) (.slice g1 2 2) (.int .i64 (z1 : Nat)) (.int .i64 (d1 : Nat))) ⟨g0, 2, g1, 2, ?_, ⟨HP0_1.out.set10 _ _ _ _ _ _ _ _ _ _, HP1_1.out.set10 _ _ _ _ _ _ _ _ _ _⟩, kept_set10 (HKV.out.trans HKV1.out (by simp) (by simp)) (.inr (by omega)) _ _ _ _ _ _ _ _ _ _⟩
    obtain ⟨h1, h2, h3, h4⟩ := HE.out
    rw [← h1, ← h2, ← h3, ← h4]; rfl
set_option maxHeartbeats 4000000 in
set_option maxRecDepth 20000 in
theorem col_release (w0 : World) (Frelease Funtil : Nat) (hrelease : FnAt w0 Frelease 139) (huntil : FnAt w0 Funtil 138) : ColDoes 149 #[.pointer (some ⟨Frelease, 0, none⟩), .pointer (some ⟨Funtil, 0, none⟩)] 13 w0 := by
  intro X a b a1 a2 a3 a4 b1 b2 b3 b4 w k0 hX ha hb
  obtain ⟨p, q⟩ := a
  obtain ⟨r, s⟩ := b
  obtain ⟨hp, hq⟩ := ha
  obtain ⟨hr, hs⟩ := hb
  simp only [prA]
  dsimp only at hp hq hr hs
  obtain ⟨pa, rfl⟩ : ∃ x, x = a1 := ⟨_, rfl⟩
  obtain ⟨pc, rfl⟩ : ∃ x, x = a2 := ⟨_, rfl⟩
  obtain ⟨qa, rfl⟩ : ∃ x, x = a3 := ⟨_, rfl⟩
  obtain ⟨qc, rfl⟩ : ∃ x, x = a4 := ⟨_, rfl⟩
  obtain ⟨ra, rfl⟩ : ∃ x, x = b1 := ⟨_, rfl⟩
  obtain ⟨rc, rfl⟩ : ∃ x, x = b2 := ⟨_, rfl⟩
  obtain ⟨sa, rfl⟩ : ∃ x, x = b3 := ⟨_, rfl⟩
  obtain ⟨sc, rfl⟩ : ∃ x, x = b4 := ⟨_, rfl⟩
  obtain ⟨pz, epz⟩ : ∃ x, psz p = x := ⟨_, rfl⟩
  obtain ⟨pd, epd⟩ : ∃ x, pdp p = x := ⟨_, rfl⟩
  obtain ⟨qz, eqz⟩ : ∃ x, psz q = x := ⟨_, rfl⟩
  obtain ⟨qd, eqd⟩ : ∃ x, pdp q = x := ⟨_, rfl⟩
  obtain ⟨rz, erz⟩ : ∃ x, psz r = x := ⟨_, rfl⟩
  obtain ⟨rd, erd⟩ : ∃ x, pdp r = x := ⟨_, rfl⟩
  obtain ⟨sz, esz⟩ : ∃ x, psz s = x := ⟨_, rfl⟩
  obtain ⟨sd, esd⟩ : ∃ x, pdp s = x := ⟨_, rfl⟩
  obtain ⟨z0, ez0⟩ : ∃ x, psz (nn2 13 p r) = x := ⟨_, rfl⟩
  obtain ⟨d0, ed0⟩ : ∃ x, pdp (nn2 13 p r) = x := ⟨_, rfl⟩
  obtain ⟨z1, ez1⟩ : ∃ x, psz (nn2 12 q s) = x := ⟨_, rfl⟩
  obtain ⟨d1, ed1⟩ : ∃ x, pdp (nn2 12 q s) = x := ⟨_, rfl⟩
  obtain ⟨V, hV⟩ : ∃ V, ((w.alloc (.cells #[.int .u8 (p.op : Nat), .string p.name, .slice pa p.kids.length pc, .int .i64 (pz : Nat), .int .i64 (pd : Nat), .int .u8 (q.op : Nat), .string q.name, .slice qa q.kids.length qc, .int .i64 (qz : Nat), .int .i64 (qd : Nat)] 95)).alloc (.cells #[.int .u8 (r.op : Nat), .string r.name, .slice ra r.kids.length rc, .int .i64 (rz : Nat), .int .i64 (rd : Nat), .int .u8 (s.op : Nat), .string s.name, .slice sa s.kids.length sc, .int .i64 (sz : Nat), .int .i64 (sd : Nat)] 95)).alloc (.cells #[.int .u8 0, .string ⟨#[]⟩, .slice none 0 0, .int .i64 0, .int .i64 0, .int .u8 0, .string ⟨#[]⟩, .slice none 0 0, .int .i64 0, .int .i64 0] 95) = V := ⟨_, rfl⟩
  have kV : Kept [] w V := by rw [← hV]; exact (((Kept.refl [] w).alloc _).alloc _).alloc _
  have zV : V.heap.size = w.heap.size + 3 := by rw [← hV]; simp
  have v0 : Pr10 V w.heap.size (.int .u8 (p.op : Nat)) (.string p.name) (.slice pa p.kids.length pc) (.int .i64 (pz : Nat)) (.int .i64 (pd : Nat)) (.int .u8 (q.op : Nat)) (.string q.name) (.slice qa q.kids.length qc) (.int .i64 (qz : Nat)) (.int .i64 (qd : Nat)) := by rw [← hV]; exact alUp (alUp (al0 w _) _) _
  have v1 : Pr10 V (w.heap.size + 1) (.int .u8 (r.op : Nat)) (.string r.name) (.slice ra r.kids.length rc) (.int .i64 (rz : Nat)) (.int .i64 (rd : Nat)) (.int .u8 (s.op : Nat)) (.string s.name) (.slice sa s.kids.length sc) (.int .i64 (sz : Nat)) (.int .i64 (sd : Nat)) := by rw [← hV]; exact alUp (al1 w _ _) _
  have v2 : Pr10 V (w.heap.size + 1 + 1) (.int .u8 0) (.string ⟨#[]⟩) (.slice none 0 0) (.int .i64 0) (.int .i64 0) (.int .u8 0) (.string ⟨#[]⟩) (.slice none 0 0) (.int .i64 0) (.int .i64 0) := by rw [← hV]; exact al2 w _ _ _
  have fb_release : V.cell? ⟨Frelease, 0, none⟩ = some (.func (.func 139) #[] #[]) := (hrelease.kept k0).kept kV
  have fb_until : V.cell? ⟨Funtil, 0, none⟩ = some (.func (.func 138) #[] #[]) := (huntil.kept k0).kept kV
  have nrelease : Frelease < w.heap.size := World.block_lt_of_cell? w _ (hrelease.kept k0)
  have nuntil : Funtil < w.heap.size := World.block_lt_of_cell? w _ (huntil.kept k0)
  have hY : ∀ W : World, V.heap.size ≤ W.heap.size → ∀ k, W.heap.size ≤ k → (fun b => X b ∧ b ≠ w.heap.size + 1 + 1) k := fun W hz k hk => ⟨hX k (by omega), by omega⟩
  have yp : IsQ (fun b => X b ∧ b ≠ w.heap.size + 1 + 1) V p (.slice pa p.kids.length pc) := hp.apart kV (by omega)
  have yq : IsQ (fun b => X b ∧ b ≠ w.heap.size + 1 + 1) V q (.slice qa q.kids.length qc) := hq.apart kV (by omega)
  have yr : IsQ (fun b => X b ∧ b ≠ w.heap.size + 1 + 1) V r (.slice ra r.kids.length rc) := hr.apart kV (by omega)
  have ys : IsQ (fun b => X b ∧ b ≠ w.heap.size + 1 + 1) V s (.slice sa s.kids.length sc) := hs.apart kV (by omega)
  have HJ0 : Hid (∀ (W : World) , Kept [] V W → Calls Tryd.prog 139 #[.agg #[.int .u8 (p.op : Nat), .string p.name, .slice pa p.kids.length pc, .int .i64 (pz : Nat), .int .i64 (pd : Nat)], .agg #[.int .u8 (r.op : Nat), .string r.name, .slice ra r.kids.length rc, .int .i64 (rz : Nat), .int .i64 (rd : Nat)]] W fun e w' => ∃ g, e = .returned (.agg #[.int .u8 13, .string nE, .slice g 2 2, .int .i64 (z0 : Nat), .int .i64 (d0 : Nat)]) ∧ IsQ (fun b => X b ∧ b ≠ w.heap.size + 1 + 1) w' (nn2 13 p r) (.slice g 2 2) ∧ Kept [] W w') := fun W  kW  => by
    have := join_release (fun b => X b ∧ b ≠ w.heap.size + 1 + 1) p r pa ra pc rc W (hY W kW.size) (yp.kept kW) (yr.kept kW)
    simp only [plA, epz, epd, erz, erd, ez0, ed0] at this
    exact this
  have HJ1 : Hid (∀ (W : World) , Kept [] V W → Calls Tryd.prog 138 #[.agg #[.int .u8 (q.op : Nat), .string q.name, .slice qa q.kids.length qc, .int .i64 (qz : Nat), .int .i64 (qd : Nat)], .agg #[.int .u8 (s.op : Nat), .string s.name, .slice sa s.kids.length sc, .int .i64 (sz : Nat), .int .i64 (sd : Nat)]] W fun e w' => ∃ g, e = .returned (.agg #[.int .u8 12, .string nE, .slice g 2 2, .int .i64 (z1 : Nat), .int .i64 (d1 : Nat)]) ∧ IsQ (fun b => X b ∧ b ≠ w.heap.size + 1 + 1) w' (nn2 12 q s) (.slice g 2 2) ∧ Kept [] W w') := fun W  kW  => by
    have := join_until (fun b => X b ∧ b ≠ w.heap.size + 1 + 1) q s qa sa qc sc W (hY W kW.size) (yq.kept kW) (ys.kept kW)
    simp only [plA, eqz, eqd, esz, esd, ez1, ed1] at this
    exact this
  have HV : Hid (_ = V) := hV
  have HKV : Hid (Kept [] w V) := kV
  have HV0 : Hid (Pr10 V w.heap.size (.int .u8 (p.op : Nat)) (.string p.name) (.slice pa p.kids.length pc) (.int .i64 (pz : Nat)) (.int .i64 (pd : Nat)) (.int .u8 (q.op : Nat)) (.string q.name) (.slice qa q.kids.length qc) (.int .i64 (qz : Nat)) (.int .i64 (qd : Nat))) := v0
  have HV1 : Hid (Pr10 V (w.heap.size + 1) (.int .u8 (r.op : Nat)) (.string r.name) (.slice ra r.kids.length rc) (.int .i64 (rz : Nat)) (.int .i64 (rd : Nat)) (.int .u8 (s.op : Nat)) (.string s.name) (.slice sa s.kids.length sc) (.int .i64 (sz : Nat)) (.int .i64 (sd : Nat))) := v1
  have HV2 : Hid (Pr10 V (w.heap.size + 1 + 1) (.int .u8 0) (.string ⟨#[]⟩) (.slice none 0 0) (.int .i64 0) (.int .i64 0) (.int .u8 0) (.string ⟨#[]⟩) (.slice none 0 0) (.int .i64 0) (.int .i64 0)) := v2
  have HE : Hid (psz (nn2 13 p r) = z0 ∧ pdp (nn2 13 p r) = d0 ∧ psz (nn2 12 q s) = z1 ∧ pdp (nn2 12 q s) = d1) := ⟨ez0, ed0, ez1, ed1⟩
  obtain ⟨⟨c0, c1, c2, c3, c4⟩, ⟨c5, c6, c7, c8, c9⟩, -⟩ := v0.cells
  obtain ⟨⟨e0, e1, e2, e3, e4⟩, ⟨e5, e6, e7, e8, e9⟩, -⟩ := v1.cells
  have nR0 : w.heap.size ∉ [w.heap.size + 1 + 1] := by simp; omega
  have nR1 : w.heap.size + 1 ∉ [w.heap.size + 1 + 1] := by simp
  have HS : Hid (∀ w', Kept [w.heap.size + 1 + 1] V w' → w'.cell? ⟨Frelease, 0, none⟩ = some (.func (.func 139) #[] #[]) ∧ w'.cell? ⟨Funtil, 0, none⟩ = some (.func (.func 138) #[] #[]) ∧ w'.cell? ⟨w.heap.size, 0, none⟩ = some (.int .u8 (p.op : Nat)) ∧ w'.cell? ⟨w.heap.size, 1, none⟩ = some (.string p.name) ∧ w'.cell? ⟨w.heap.size, 2, none⟩ = some (.slice pa p.kids.length pc) ∧ w'.cell? ⟨w.heap.size, 3, none⟩ = some (.int .i64 (pz : Nat)) ∧ w'.cell? ⟨w.heap.size, 4, none⟩ = some (.int .i64 (pd : Nat)) ∧ w'.cell? ⟨w.heap.size, 5, none⟩ = some (.int .u8 (q.op : Nat)) ∧ w'.cell? ⟨w.heap.size, 6, none⟩ = some (.string q.name) ∧ w'.cell? ⟨w.heap.size, 7, none⟩ = some (.slice qa q.kids.length qc) ∧ w'.cell? ⟨w.heap.size, 8, none⟩ = some (.int .i64 (qz : Nat)) ∧ w'.cell? ⟨w.heap.size, 9, none⟩ = some (.int .i64 (qd : Nat)) ∧ w'.cell? ⟨w.heap.size + 1, 0, none⟩ = some (.int .u8 (r.op : Nat)) ∧ w'.cell? ⟨w.heap.size + 1, 1, none⟩ = some (.string r.name) ∧ w'.cell? ⟨w.heap.size + 1, 2, none⟩ = some (.slice ra r.kids.length rc) ∧ w'.cell? ⟨w.heap.size + 1, 3, none⟩ = some (.int .i64 (rz : Nat)) ∧ w'.cell? ⟨w.heap.size + 1, 4, none⟩ = some (.int .i64 (rd : Nat)) ∧ w'.cell? ⟨w.heap.size + 1, 5, none⟩ = some (.int .u8 (s.op : Nat)) ∧ w'.cell? ⟨w.heap.size + 1, 6, none⟩ = some (.string s.name) ∧ w'.cell? ⟨w.heap.size + 1, 7, none⟩ = some (.slice sa s.kids.length sc) ∧ w'.cell? ⟨w.heap.size + 1, 8, none⟩ = some (.int .i64 (sz : Nat)) ∧ w'.cell? ⟨w.heap.size + 1, 9, none⟩ = some (.int .i64 (sd : Nat))) := fun w' k => ⟨cell_keptF k (by simp; omega) fb_release, cell_keptF k (by simp; omega) fb_until, cell_keptF k nR0 c0, cell_keptF k nR0 c1, cell_keptF k nR0 c2, cell_keptF k nR0 c3, cell_keptF k nR0 c4, cell_keptF k nR0 c5, cell_keptF k nR0 c6, cell_keptF k nR0 c7, cell_keptF k nR0 c8, cell_keptF k nR0 c9, cell_keptF k nR1 e0, cell_keptF k nR1 e1, cell_keptF k nR1 e2, cell_keptF k nR1 e3, cell_keptF k nR1 e4, cell_keptF k nR1 e5, cell_keptF k nR1 e6, cell_keptF k nR1 e7, cell_keptF k nR1 e8, cell_keptF k nR1 e9⟩
  have T0 : Hid True := trivial
  have T1 : Hid True := trivial
  have HR : Hid (∀ W, Kept [] V W → Pr10 W (w.heap.size + 1 + 1) (.int .u8 0) (.string ⟨#[]⟩) (.slice none 0 0) (.int .i64 0) (.int .i64 0) (.int .u8 0) (.string ⟨#[]⟩) (.slice none 0 0) (.int .i64 0) (.int .i64 0)) := fun W k => v2.kept k (by simp)
  clear hp hq hr hs k0 hX kV v0 v1 v2 hV hY hrelease huntil yp yq yr ys ez0 ed0 ez1 ed1
  rw [epz, epd, eqz, eqd, erz, erd, esz, esd]
  clear epz epd eqz eqd erz erd esz esd nR0 nR1
  show Calls Tryd.prog 149 #[.agg #[.int .u8 (p.op : Nat), .string p.name, .slice pa p.kids.length pc, .int .i64 (pz : Nat), .int .i64 (pd : Nat), .int .u8 (q.op : Nat), .string q.name, .slice qa q.kids.length qc, .int .i64 (qz : Nat), .int .i64 (qd : Nat)], .agg #[.int .u8 (r.op : Nat), .string r.name, .slice ra r.kids.length rc, .int .i64 (rz : Nat), .int .i64 (rd : Nat), .int .u8 (s.op : Nat), .string s.name, .slice sa s.kids.length sc, .int .i64 (sz : Nat), .int .i64 (sd : Nat)], .pointer (some ⟨Frelease, 0, none⟩), .pointer (some ⟨Funtil, 0, none⟩)] w _
  go_enter Tryd.func149, Tryd.ntmps149
  go_wp2_with fail
  rw [HV.out]
  go_region_held3 (fun w' => w'.cell? ⟨Frelease, 0, none⟩ = some (.func (.func 139) #[] #[]) ∧ w'.cell? ⟨Funtil, 0, none⟩ = some (.func (.func 138) #[] #[]) ∧ w'.cell? ⟨w.heap.size, 0, none⟩ = some (.int .u8 (p.op : Nat)) ∧ w'.cell? ⟨w.heap.size, 1, none⟩ = some (.string p.name) ∧ w'.cell? ⟨w.heap.size, 2, none⟩ = some (.slice pa p.kids.length pc) ∧ w'.cell? ⟨w.heap.size, 3, none⟩ = some (.int .i64 (pz : Nat)) ∧ w'.cell? ⟨w.heap.size, 4, none⟩ = some (.int .i64 (pd : Nat)) ∧ w'.cell? ⟨w.heap.size, 5, none⟩ = some (.int .u8 (q.op : Nat)) ∧ w'.cell? ⟨w.heap.size, 6, none⟩ = some (.string q.name) ∧ w'.cell? ⟨w.heap.size, 7, none⟩ = some (.slice qa q.kids.length qc) ∧ w'.cell? ⟨w.heap.size, 8, none⟩ = some (.int .i64 (qz : Nat)) ∧ w'.cell? ⟨w.heap.size, 9, none⟩ = some (.int .i64 (qd : Nat)) ∧ w'.cell? ⟨w.heap.size + 1, 0, none⟩ = some (.int .u8 (r.op : Nat)) ∧ w'.cell? ⟨w.heap.size + 1, 1, none⟩ = some (.string r.name) ∧ w'.cell? ⟨w.heap.size + 1, 2, none⟩ = some (.slice ra r.kids.length rc) ∧ w'.cell? ⟨w.heap.size + 1, 3, none⟩ = some (.int .i64 (rz : Nat)) ∧ w'.cell? ⟨w.heap.size + 1, 4, none⟩ = some (.int .i64 (rd : Nat)) ∧ w'.cell? ⟨w.heap.size + 1, 5, none⟩ = some (.int .u8 (s.op : Nat)) ∧ w'.cell? ⟨w.heap.size + 1, 6, none⟩ = some (.string s.name) ∧ w'.cell? ⟨w.heap.size + 1, 7, none⟩ = some (.slice sa s.kids.length sc) ∧ w'.cell? ⟨w.heap.size + 1, 8, none⟩ = some (.int .i64 (sz : Nat)) ∧ w'.cell? ⟨w.heap.size + 1, 9, none⟩ = some (.int .i64 (sd : Nat)))
    ((refine HS.out _ ?_; (repeat (first | (with_reducible exact Kept.refl _ _) | (with_reducible refine Kept.drew ?_) | (with_reducible refine Kept.setCell ?_ (Or.inl (by simp)) _) | with_reducible refine Kept.trans (F := [w.heap.size + 1 + 1]) (G := []) (H := [w.heap.size + 1 + 1]) ?_ HK1.out (by simp) (by simp) | with_reducible refine Kept.trans (F := [w.heap.size + 1 + 1]) (G := []) (H := [w.heap.size + 1 + 1]) ?_ HK0.out (by simp) (by simp)))))
    (first | (clear T0; go_at_call 139; refine (HJ0.out _  ((Kept.refl [] V).drew) ).mono ?_; rintro e W0 ⟨g0, rfl, p0, k0⟩; have HKV0 : Hid (Kept [] V W0) := ((Kept.refl [] V).drew).trans k0 (by simp) (by simp); have HK0 : Hid (Kept [] _ W0) := k0; have HP0_0 : Hid (IsQ (fun b => X b ∧ b ≠ w.heap.size + 1 + 1) W0 (nn2 13 p r) (.slice g0 2 2)) := p0; clear p0 k0) | (clear T1; go_at_call 138; refine (HJ1.out _  (HKV0.out) ).mono ?_; rintro e W1 ⟨g1, rfl, p1, k1⟩; have HKV1 : Hid (Kept [] V W1) := (HKV0.out).trans k1 (by simp) (by simp); have HK1 : Hid (Kept [] _ W1) := k1; have HP1_1 : Hid (IsQ (fun b => X b ∧ b ≠ w.heap.size + 1 + 1) W1 (nn2 12 q s) (.slice g1 2 2)) := p1; have HP0_1 : Hid (IsQ (fun b => X b ∧ b ≠ w.heap.size + 1 + 1) W1 (nn2 13 p r) (.slice g0 2 2)) := HP0_0.out.kept k1; obtain ⟨⟨r0, r1, r2, r3, r4⟩, ⟨r5, r6, r7, r8, r9⟩, rf⟩ := (HR.out W1 HKV1.out).cells; clear p1 k1))
  all_goals go_wp2
  all_goals
    refine ret_pr rfl rfl rfl ((HR.out W1 HKV1.out).set (.int .u8 13) (.string nE) (.slice g0 2 2) (.int .i64 (z0 : Nat)) (.int .i64 (d0 : Nat)) (.int .u8 12) (.string nE) (.slice g1 2 2) (.int .i64 (z1 : Nat)) (.int .i64 (d1 : Nat))) ⟨g0, 2, g1, 2, ?_, ⟨HP0_1.out.set10 _ _ _ _ _ _ _ _ _ _, HP1_1.out.set10 _ _ _ _ _ _ _ _ _ _⟩, kept_set10 (HKV.out.trans HKV1.out (by simp) (by simp)) (.inr (by omega)) _ _ _ _ _ _ _ _ _ _⟩
    obtain ⟨h1, h2, h3, h4⟩ := HE.out
    rw [← h1, ← h2, ← h3, ← h4]; rfl
end Go.Proofs.YtddgciilcghbaaaDoor
