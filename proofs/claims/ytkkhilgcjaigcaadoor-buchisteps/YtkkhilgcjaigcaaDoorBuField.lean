/- package buchi: newField over one state with one edge, at loops of one and of two letters. -/
import Derived.Test.YtkkhilgcjaigcaaDoorBuJoin
import Derived.Test.YtkkhilgcjaigcaaDoorBuStep
import Derived.Deep.RegionHeld3
namespace Go.Proofs.YtkkhilgcjaigcaaDoor
open Go.RowKit Go.Shelf
attribute [local go_sem] Oper.semAt_some

theorem bx_turn {W W' : World} {base : Nat} {e : TypeId} {size : Nat} {v : Value} {n : Nat} {xs : List Value} {row : Option Nat} (h : W.ownsRow base e size v n xs) (hg : W.grownBy W' row) (hne : ∀ g, v.ownBlock = some g → row ≠ some g) : W'.ownsRow base e size v n xs := by
  refine h.kept hg ?_
  rcases h.2 with ⟨rfl, _⟩ | ⟨g, cap, cur, rfl, _⟩
  · exact .inl rfl
  · exact .inr (fun q => hne g rfl q.symm)
/-- A field and the box that points to it, beside the blocks X of an iterator. -/
structure NfG (w W : World) (F M Bf : Nat) (X : Nat → Prop) (es : Array MapEntry) (ck : Nat) (vs : List Value) (rs : List (Option Rw)) : Prop where
  m : MBox w W F M es ck 102 vs rs
  bx : Boxed W Bf 95 (.pointer (some ⟨F, 0, none⟩))
  nf : ¬ X F
  nm : ¬ X M
  nb : ¬ X Bf
  nr : ∀ (i : Nat) (r : Rw) (v : Value), rs[i]? = some (some r) → vs[i]? = some v → ∀ g, v.ownBlock = some g → ¬ X g
  lo : ∀ k, X k → w.heap.size ≤ k
theorem NfG.more {w W : World} {F M Bf : Nat} {X X' : Nat → Prop} {es : Array MapEntry} {ck : Nat} {vs : List Value} {rs : List (Option Rw)} (h : NfG w W F M Bf X es ck vs rs) (hX : ∀ k, X' k → X k ∨ W.heap.size ≤ k) : NfG w W F M Bf X' es ck vs rs := by
  have l1 := lt_of h.m.f.box
  have l2 := lt_of h.m.m
  have l3 := h.bx.lt
  refine ⟨h.m, h.bx, fun q => (hX _ q).elim h.nf (by omega), fun q => (hX _ q).elim h.nm (by omega), fun q => (hX _ q).elim h.nb (by omega), fun i r v h1 h2 g e q => ?_, fun k q => (hX k q).elim (h.lo k) (fun p => Nat.le_trans h.m.f.kept.size p)⟩
  have l4 := (bx_base (h.m.f.own i r v h1 h2) e).2
  exact (hX _ q).elim (h.nr i r v h1 h2 g e) (by omega)
theorem NfG.turn {w W W' : World} {F M Bf : Nat} {X : Nat → Prop} {es : Array MapEntry} {ck : Nat} {vs : List Value} {rs : List (Option Rw)} {row : Option Nat} (h : NfG w W F M Bf X es ck vs rs) (hg : W.grownBy W' row) (hr : ∀ r, row = some r → X r) : NfG w W' F M Bf X es ck vs rs := by
  have hne : ∀ k, ¬ X k → row ≠ some k := fun k hk e => hk (hr k e)
  refine ⟨⟨⟨h.m.f.base, h.m.f.kept.grown hg (fun k e => .inr (h.lo k (hr k e))), (hg.block _ (lt_of h.m.f.box) (fun e => hne _ h.nf e.symm)).trans h.m.f.box, fun i r v h1 h2 => bx_turn (h.m.f.own i r v h1 h2) hg (fun g e => hne g (h.nr i r v h1 h2 g e)), h.m.f.apart⟩, (hg.block _ (lt_of h.m.m) (fun e => hne _ h.nm e.symm)).trans h.m.m, h.m.m0⟩, h.bx.kept hg (fun e => hne _ h.nb e.symm), h.nf, h.nm, h.nb, h.nr, h.lo⟩

/-- What the loop over the first states carries: nothing yet, or the one state. -/
def NfI (w : World) (F M Bf : Nat) (X : Nat → Prop) (pre : List Nat) (W : World) : Prop :=
  (pre = [] ∧ NfG w W F M Bf X ents0 0 (fldV M (.slice none 0 0) (.slice none 0 0) (.slice none 0 0) (.slice none 0 0) (.slice none 0 0)) (fldR 0 [] [] [] [] [])) ∨
  (pre = [0] ∧ ∃ kv av lv iv yv, NfG w W F M Bf X (ents1 0) 1 (fldV M kv av lv iv yv) (fldR 1 [.int .i64 0, .int .i64 0] [.slice none 0 0] [.int .i64 0] [.bool true] [.int .i64 0]))
theorem nfI_abide (w : World) (F M Bf : Nat) : Abide (NfI w F M Bf) :=
  ⟨fun h hX => h.imp (fun q => ⟨q.1, q.2.more hX⟩) (fun ⟨q, kv, av, lv, iv, yv, p⟩ => ⟨q, kv, av, lv, iv, yv, p.more hX⟩),
   fun h hg hr => h.imp (fun q => ⟨q.1, q.2.turn hg hr⟩) (fun ⟨q, kv, av, lv, iv, yv, p⟩ => ⟨q, kv, av, lv, iv, yv, p.turn hg hr⟩)⟩
theorem vals5 {M : Nat} {kv av lv iv yv : Value} {n : Nat} {ks ah lf inn wy : List Value} {i : Nat} {r : Rw} {v : Value} (h1 : (fldR n ks ah lf inn wy)[i]? = some (some r)) (h2 : (fldV M kv av lv iv yv)[i]? = some v) : v ∈ [kv, av, lv, iv, yv] := by
  match i, h1, h2 with
  | 0, h1, _ => cases h1
  | 1, _, h2 => cases h2; simp
  | 2, _, h2 => cases h2; simp
  | 3, _, h2 => cases h2; simp
  | 4, _, h2 => cases h2; simp
  | 5, _, h2 => cases h2; simp
  | i + 6, _, h2 => simp [fldV] at h2
theorem bx_not {W : World} {base : Nat} {e : TypeId} {size : Nat} {v : Value} {n b : Nat} {o : Obj} {xs : List Value} (h : W.ownsRow base e size v n xs) (hb : W.heap[b]? = some o) (hne : ∀ cs, o ≠ .cells cs e (0, 0)) : v.ownBlock ≠ some b := by
  rcases h.2 with ⟨rfl, _⟩ | ⟨g, cap, cur, rfl, _, hw, _⟩
  · intro q; cases q
  · intro q; cases q; rw [hw] at hb; cases hb; exact hne _ rfl
theorem MBox.putD {w W : World} {F M D : Nat} {es : Array MapEntry} {ck : Nat} {T : TypeId} {vs : List Value} {rs : List (Option Rw)} (h : MBox w W F M es ck T vs rs) (hD : W.heap[D]? = some (.deferred (some []))) (hw : w.heap.size ≤ D) (o : Obj) : MBox w (W.putObj D o) F M es ck T vs rs := by
  have hg := grownBy_putObj' W D o
  refine ⟨⟨h.f.base, h.f.kept.grown hg (fun k e => by cases e; exact .inr hw), (hg.block _ (lt_of h.f.box) (fun e => ?_)).trans h.f.box, fun i r v h1 h2 => bx_turn (h.f.own i r v h1 h2) hg (fun g e q => ?_), h.f.apart⟩, (hg.block _ (lt_of h.m) (fun e => ?_)).trans h.m, h.m0⟩
  · cases e; have := h.f.box; rw [hD] at this; cases this
  · cases q; exact bx_not (h.f.own i r v h1 h2) hD (by simp) e
  · cases e; have := h.m; rw [hD] at this; cases this
theorem cell_turnA {W : World} {l : Nat} {ob ob' : Obj} (hl : W.heap[l]? = some ob) (hc : ob.isCells = false) {b o : Nat} {v : Value} (h : W.cell? ⟨b, o, none⟩ = some v) : (W.putObj l ob').cell? ⟨b, o, none⟩ = some v := by
  have hne : b ≠ l := by
    rintro rfl
    simp only [World.cell?, hl] at h
    cases ob <;> first | (simp at h; done) | (cases hc; done)
  exact (World.cell?_of_block (w := W) (a := ⟨b, o, none⟩) (World.putObj_heap_other hne)).trans h
theorem heap_ne {W : World} {a b : Nat} {o o' : Obj} (h : W.heap[a]? = some o) (h' : W.heap[b]? = some o') (hn : o ≠ o') : a ≠ b := by
  rintro rfl
  rw [h] at h'
  exact hn (Option.some.inj h')
/-- Both blocks that newField leans on besides. -/
def NfB (F Bf D : Nat) (W : World) : Prop := W.heap[Bf]? = some (.cells #[.pointer (some ⟨F, 0, none⟩)] 95 (0, 0)) ∧ W.heap[D]? = some (.deferred (some []))
def P2 (w : World) (F M Bf D : Nat) (W : World) : Prop := ∃ kv av lv iv yv, Hid (MBox w W F M (ents2 0 1) 2 102 (fldV M kv av lv iv yv) (fldR 2 [.int .i64 0, .int .i64 0, .int .i64 0, .int .i64 1] [.slice none 0 0, .slice none 0 0] [.int .i64 0, .int .i64 1] [.bool true, .bool true] [.int .i64 0, .int .i64 0])) ∧ Hid (NfB F Bf D W)
def P4 (w : World) (F M Bf D : Nat) (W : World) : Prop := ∃ kv av lv iv yv B bc, Hid (MBox w W F M (ents2 0 1) 2 102 (fldV M kv av lv iv yv) (fldR 2 [.int .i64 0, .int .i64 0, .int .i64 0, .int .i64 1] [.slice none 0 0, .slice (some ⟨B, 0, none⟩) 1 bc] [.int .i64 0, .int .i64 1] [.bool true, .bool true] [.int .i64 1, .int .i64 0])) ∧ Hid ((∃ cur, W.heap[B]? = some (.cells cur 3 (0, 0)) ∧ cur[0]? = some (.int .i64 0)) ∧ ∀ v ∈ fldV M kv av lv iv yv, v.ownBlock ≠ some B) ∧ Hid (NfB F Bf D W)
theorem off_rows {w W : World} {F M b : Nat} {o : Obj} {es : Array MapEntry} {ck : Nat} {T : TypeId} {kv av lv iv yv : Value} {n : Nat} {ks ah lf inn wy : List Value} (h : MBox w W F M es ck T (fldV M kv av lv iv yv) (fldR n ks ah lf inn wy)) (hb : W.heap[b]? = some o) (hne : ∀ cs e, e = 114 ∨ e = 23 ∨ e = 3 ∨ e = 4 → o ≠ .cells cs e (0, 0)) : ∀ v ∈ [kv, av, lv, iv, yv], v.ownBlock ≠ some b := by
  intro v hv
  simp only [List.mem_cons, List.not_mem_nil, or_false] at hv
  rcases hv with rfl | rfl | rfl | rfl | rfl
  · exact bx_not (h.f.own 1 _ _ rfl rfl) hb (fun cs => hne cs _ (by simp))
  · exact bx_not (h.f.own 2 _ _ rfl rfl) hb (fun cs => hne cs _ (by simp))
  · exact bx_not (h.f.own 3 _ _ rfl rfl) hb (fun cs => hne cs _ (by simp))
  · exact bx_not (h.f.own 4 _ _ rfl rfl) hb (fun cs => hne cs _ (by simp))
  · exact bx_not (h.f.own 5 _ _ rfl rfl) hb (fun cs => hne cs _ (by simp))
theorem NfB.off {w W : World} {F M Bf D : Nat} {es : Array MapEntry} {ck : Nat} {kv av lv iv yv : Value} {n : Nat} {ks ah lf inn wy : List Value} (hB : NfB F Bf D W) (h : MBox w W F M es ck 102 (fldV M kv av lv iv yv) (fldR n ks ah lf inn wy)) :
    (Bf ≠ F ∧ Bf ≠ M ∧ ∀ v ∈ [kv, av, lv, iv, yv], v.ownBlock ≠ some Bf) ∧ D ≠ F ∧ D ≠ M ∧ ∀ v ∈ [kv, av, lv, iv, yv], v.ownBlock ≠ some D := by
  refine ⟨⟨heap_ne hB.1 h.f.box (by intro q; cases q), heap_ne hB.1 h.m (by intro q; cases q), off_rows h hB.1 ?_⟩, heap_ne hB.2 h.f.box (by intro q; cases q), heap_ne hB.2 h.m (by intro q; cases q), off_rows h hB.2 ?_⟩
  · rintro cs e (rfl | rfl | rfl | rfl) q <;> cases q
  · rintro cs e _ q
    cases q
/-- The second spot. -/
theorem nf_put2 {w W : World} {F M Bf D : Nat} {kv av lv iv yv : Value} (h : MBox w W F M (ents1 0) 1 102 (fldV M kv av lv iv yv) (fldR 1 [.int .i64 0, .int .i64 0] [.slice none 0 0] [.int .i64 0] [.bool true] [.int .i64 0])) (hB : NfB F Bf D W) :
    Calls Tryd.prog 82 #[.pointer (some ⟨F, 0, none⟩), .agg #[.int .i64 0, .int .i64 1]] W fun e w' => e = .returned (.int .i64 1) ∧ P2 w F M Bf D w' := by
  refine (put_new 1 (by omega) (ents1 0) (ents2 0 1) 1 F M 102 w W _ _ _ _ _ _ _ _ _ _ (fun W hW => look_two W M 1 0 hW) (fun W hW => upd_one W M 1 0 hW) h).mono ?_
  rintro e w' ⟨rfl, kv', av', lv', iv', yv', h1, h2, _⟩
  obtain ⟨⟨n1, n2, n3⟩, n4, n5, n6⟩ := hB.off h
  exact ⟨rfl, kv', av', lv', iv', yv', h1, ⟨h2.out _ _ hB.1 n1 n2 n3, h2.out _ _ hB.2 n4 n5 n6⟩⟩
theorem nf_join2 {w W : World} {F M Bf D : Nat} (h : P2 w F M Bf D W) :
    Calls Tryd.prog 83 #[.pointer (some ⟨F, 0, none⟩), .int .i64 0, .int .i64 1] W fun e w' => e = .returned (.tuple #[]) ∧ P4 w F M Bf D w' := by
  obtain ⟨kv, av, lv, iv, yv, h, hB⟩ := h
  refine (join_new 2 0 1 (by omega) (by omega) (by omega) (ents2 0 1) 2 F M 102 w W _ _ _ _ _ _ _ _ _ _ h.out rfl rfl).mono ?_
  rintro e w' ⟨rfl, B, bc, h1, h2, h3⟩
  obtain ⟨⟨_, _, n3⟩, _, _, n6⟩ := hB.out.off h.out
  obtain ⟨g1, _, cur, g2, g3⟩ := h2.out
  have hlt : ∀ v ∈ [kv, av, lv, iv, yv], v.ownBlock ≠ some B := by
    intro v hv e
    have : B < W.heap.size := by
      simp only [List.mem_cons, List.not_mem_nil, or_false] at hv
      rcases hv with rfl | rfl | rfl | rfl | rfl
      · exact (bx_base (h.out.f.own 1 _ _ rfl rfl) e).2
      · exact (bx_base (h.out.f.own 2 _ _ rfl rfl) e).2
      · exact (bx_base (h.out.f.own 3 _ _ rfl rfl) e).2
      · exact (bx_base (h.out.f.own 4 _ _ rfl rfl) e).2
      · exact (bx_base (h.out.f.own 5 _ _ rfl rfl) e).2
    omega
  refine ⟨rfl, kv, av, lv, iv, yv, B, bc, h1, ⟨⟨cur, g2, g3⟩, fun v hv => ?_⟩, ⟨h3.out _ _ hB.out.1 (fun v hv => n3 v (by simp at hv ⊢; rcases hv with h | h <;> simp [h])), h3.out _ _ hB.out.2 (fun v hv => n6 v (by simp at hv ⊢; rcases hv with h | h <;> simp [h]))⟩⟩
  rcases List.mem_cons.1 hv with rfl | hv
  · intro e; cases e
  · exact hlt v hv
theorem p2_cell {w W : World} {F M Bf D : Nat} (h : P2 w F M Bf D W) : W.cell? ⟨Bf, 0, none⟩ = some (.pointer (some ⟨F, 0, none⟩)) := by
  obtain ⟨_, _, _, _, _, _, hB⟩ := h
  exact (cell_of hB.out.1 0).trans rfl
/-- All orders of a region meet in one frame. -/
def mPost (fr : Act) (J : World → Prop) : Exit → Act → World → Prop
  | .normal, a, w => a = fr ∧ J w
  | _, _, _ => False
theorem mPost_in {fr a : Act} {J : World → Prop} {w : World} (h : a = fr) (hJ : J w) : mPost fr J .normal a w := ⟨h, hJ⟩
theorem wp_merge {P : Program} {c : Code} {Q : Exit → Act → World → Prop} {a : Act} {w : World} (fr : Act) (J : World → Prop) (h1 : c.wp P (mPost fr J) a w) (h2 : ∀ wx, J wx → Q .normal fr wx) : c.wp P Q a w :=
  Code.wp_mono (fun e a' w' h => by
    cases e with
    | normal => obtain ⟨rfl, hJ⟩ := h; exact h2 _ hJ
    | _ => exact (h : False).elim) h1
/-- The first spot. -/
theorem put_first {F M : Nat} {w0 w : World} (h : MBox w0 w F M ents0 0 102 (fldV M (.slice none 0 0) (.slice none 0 0) (.slice none 0 0) (.slice none 0 0) (.slice none 0 0)) (fldR 0 [] [] [] [] [])) :
    Calls Tryd.prog 82 #[.pointer (some ⟨F, 0, none⟩), .agg #[.int .i64 0, .int .i64 0]] w fun e w' => e = .returned (.int .i64 0) ∧ ∃ kv' av' lv' iv' yv', Hid (MBox w0 w' F M (ents1 0) 1 102 (fldV M kv' av' lv' iv' yv') (fldR 1 [.int .i64 0, .int .i64 0] [.slice none 0 0] [.int .i64 0] [.bool true] [.int .i64 0])) ∧ Hid (∀ b o, w.heap[b]? = some o → b ≠ F → b ≠ M → w'.heap[b]? = some o) ∧ Hid ((∀ v' ∈ [kv', av', lv', iv', yv'], ∀ g, v'.ownBlock = some g → w.heap.size ≤ g) ∧ w.heap.size ≤ w'.heap.size) := by
  refine (put_new 0 (by omega) ents0 (ents1 0) 0 F M 102 w0 w _ _ _ _ _ [] [] [] [] [] (fun W hW => look_none W M 0 hW) (fun W hW => upd_none W M 0 hW) h).mono ?_
  rintro e w' ⟨rfl, kv, av, lv, iv, yv, h1, h2, h3⟩
  refine ⟨rfl, kv, av, lv, iv, yv, h1, fun b o hb q1 q2 => h2.out b o hb q1 q2 (by simp [Value.ownBlock]), ⟨fun v hv g e => ?_, h3.out.2⟩⟩
  rcases h3.out.1 v hv g e with ⟨u, hu, q⟩ | q
  · simp at hu; subst hu; cases q
  · exact q
/-- The blocks that newField lays first. -/
def nfW (w : World) : World := ((w.alloc (.map #[] 0)).alloc (.cells #[.map (some w.heap.size), .slice none 0 0, .slice none 0 0, .slice none 0 0, .slice none 0 0, .slice none 0 0] 102)).alloc (.cells #[.pointer (some ⟨w.heap.size + 1, 0, none⟩)] 95)
theorem nf_rows {M : Nat} {i : Nat} {r : Rw} {v : Value} (h1 : (fldR 0 [] [] [] [] [])[i]? = some (some r)) (h2 : (fldV M (.slice none 0 0) (.slice none 0 0) (.slice none 0 0) (.slice none 0 0) (.slice none 0 0))[i]? = some v) : v = .slice none 0 0 ∧ r.n = 0 ∧ r.xs = [] := by
  match i, h1, h2 with
  | 0, h1, _ => cases h1
  | 1, h1, h2 => cases h1; cases h2; exact ⟨rfl, rfl, rfl⟩
  | 2, h1, h2 => cases h1; cases h2; exact ⟨rfl, rfl, rfl⟩
  | 3, h1, h2 => cases h1; cases h2; exact ⟨rfl, rfl, rfl⟩
  | 4, h1, h2 => cases h1; cases h2; exact ⟨rfl, rfl, rfl⟩
  | 5, h1, h2 => cases h1; cases h2; exact ⟨rfl, rfl, rfl⟩
  | i + 6, _, h2 => simp [fldV] at h2
theorem nf_first (w : World) : NfG w (nfW w) (w.heap.size + 1) w.heap.size (w.heap.size + 1 + 1) (fun _ => False) ents0 0 (fldV w.heap.size (.slice none 0 0) (.slice none 0 0) (.slice none 0 0) (.slice none 0 0) (.slice none 0 0)) (fldR 0 [] [] [] [] []) := by
  refine ⟨⟨⟨by omega, (((Kept.refl [] w).alloc _).alloc _).alloc _, alUp (al1 _ _ _) _, fun i r v h1 h2 => ?_, fun i j r q v u g _ h1 _ h2 _ e => ?_⟩, alUp (alUp (al0 _ _) _) _, by omega⟩, al2 _ _ _ _, id, id, id, fun _ _ _ _ _ _ _ h => h, fun _ h => h.elim⟩
  · obtain ⟨q1, q2, q3⟩ := nf_rows h1 h2
    rw [q1, q2, q3]
    exact World.ownsRow_nil _ _ _ _
  · obtain ⟨q1, _, _⟩ := nf_rows h1 h2
    rw [q1] at e
    cases e
/-- What newField leaves. -/
def NfEnds (ln : Nat) (w : World) (e : Ending) (w' : World) : Prop :=
  ∃ F M es ck kv av lv iv yv B bc, e = .returned (.pointer (some ⟨F, 0, none⟩)) ∧
    (ln = 1 → MBox w w' F M es ck 102 (fldV M kv av lv iv yv) (fldR 1 [.int .i64 0, .int .i64 0] [.slice (some ⟨B, 0, none⟩) 1 bc] [.int .i64 0] [.bool true] [.int .i64 1]) ∧ w'.cell? ⟨B, 0, none⟩ = some (.int .i64 0)) ∧
    (ln = 2 → MBox w w' F M es ck 102 (fldV M kv av lv iv yv) (fldR 2 [.int .i64 0, .int .i64 0, .int .i64 0, .int .i64 1] [.slice none 0 0, .slice (some ⟨B, 0, none⟩) 1 bc] [.int .i64 0, .int .i64 1] [.bool true, .bool true] [.int .i64 1, .int .i64 0]) ∧ (∃ cur, w'.heap[B]? = some (.cells cur 3 (0, 0)) ∧ cur[0]? = some (.int .i64 0)) ∧ ∀ v ∈ fldV M kv av lv iv yv, v.ownBlock ≠ some B)
end Go.Proofs.YtkkhilgcjaigcaaDoor
