/- The laws' formulas: what they mean on a word. Plain maths. -/
import Derived.Test.YtddgciilcghbaaaDoorEvLike
import Derived.Test.YtddgciilcghbaaaDoorEvAwk
namespace Go.Proofs.YtddgciilcghbaaaDoor
open Go.RowKit Go.Shelf

theorem until_step (b a : Nat → Prop) (i : Nat) : untilP b a i ↔ a i ∨ (b i ∧ untilP b a (i + 1)) := by
  constructor
  · rintro ⟨k, ha, hb⟩
    cases k with
    | zero => exact .inl ha
    | succ k =>
      refine .inr ⟨hb 0 (by omega), k, ?_, fun j hj => ?_⟩
      · have : i + 1 + k = i + (k + 1) := by omega
        rw [this]; exact ha
      · have : i + 1 + j = i + (j + 1) := by omega
        rw [this]; exact hb _ (by omega)
  · rintro (h | ⟨h, k, ha, hb⟩)
    · exact ⟨0, h, fun j hj => absurd hj (by omega)⟩
    · refine ⟨k + 1, ?_, fun j hj => ?_⟩
      · have : i + 1 + k = i + (k + 1) := by omega
        rw [← this]; exact ha
      · cases j with
        | zero => exact h
        | succ j =>
          have : i + 1 + j = i + (j + 1) := by omega
          rw [← this]; exact hb _ (by omega)
theorem sat_one (σ : Nat → Nat) (xs : List ByteArray) (o : Nat) (s : ByteArray) (t : Tr) : sat σ xs ⟨o, s, [t]⟩ = satOp σ xs o s (sat σ xs t) (sat σ xs t) := sat_eq σ xs _
theorem sat_two (σ : Nat → Nat) (xs : List ByteArray) (o : Nat) (s : ByteArray) (t u : Tr) : sat σ xs ⟨o, s, [t, u]⟩ = satOp σ xs o s (sat σ xs t) (sat σ xs u) := sat_eq σ xs _
theorem check_loop {q : Wd} {n : Nat} (h : checkE q n = 0) : 0 < q.loop.length := by
  unfold checkE at h
  apply Nat.pos_of_ne_zero
  intro h0
  simp [h0] at h
  split at h <;> omega
/-- Two formulas that mean the same are alike. -/
theorem alike_of {xs : List ByteArray} {q : Wd} {t u : Tr} (gt : t.Good) (gu : u.Good) (nt : t.Named xs) (nu : u.Named xs) (hl : listBool xs = true) (hc : checkE q xs.length = 0) (h : ∀ i, sat q.at xs t i ↔ sat q.at xs u i) : Alike xs q t u := by
  intro rt ru
  have h0 := check_loop hc
  have al : ∀ x : Tr, x.Named xs → rightN pastB x = 0 → alongE x xs q = 0 := fun x nx rx => by
    have hf : fitsN x xs = 0 := by
      unfold fitsN
      rw [if_neg (by simp [rx]), lack_of_named nx]; rfl
    unfold alongE
    rw [if_neg (by simp [hf]), if_neg (by simp [hl]), if_neg (by simp [hc])]
  refine ⟨al t nt rt, al u nu ru, fun i hi => ?_⟩
  have := plc_of_lt hi
  rw [Bool.eq_iff_iff, ← this, row_sat h0 xs t gt, row_sat h0 xs u gu, h]
theorem good_one {o : Nat} {t : Tr} (h1 : 1 ≤ o) (h2 : o ≤ 15) (h3 : o ≠ 3) (h4 : kidsN o = 1) (h : t.Good) : (⟨o, b0, [t]⟩ : Tr).Good := one_all ⟨formed_of h1 (by show o ≤ 21; omega) h3 h4.symm, h2⟩ h
theorem good_two {o : Nat} {t u : Tr} (h1 : 1 ≤ o) (h2 : o ≤ 15) (h3 : o ≠ 3) (h4 : kidsN o = 2) (h : t.Good) (k : u.Good) : (⟨o, b0, [t, u]⟩ : Tr).Good := two_all ⟨formed_of h1 (by show o ≤ 21; omega) h3 h4.symm, h2⟩ h k
theorem named_one {o : Nat} {t : Tr} {xs : List ByteArray} (h3 : o ≠ 3) (h : t.Named xs) : (⟨o, b0, [t]⟩ : Tr).Named xs := one_all (fun e => absurd e h3) h
theorem named_two {o : Nat} {t u : Tr} {xs : List ByteArray} (h3 : o ≠ 3) (h : t.Named xs) (k : u.Named xs) : (⟨o, b0, [t, u]⟩ : Tr).Named xs := two_all (fun e => absurd e h3) h k
theorem fine_one {o : Nat} {t : Tr} (h1 : o ≤ 255) (h : t.Fine) : (⟨o, b0, [t]⟩ : Tr).Fine := one_all ⟨by show o < 256; omega, max_small (show b0.size ≤ 1 by decide)⟩ h
theorem fine_two {o : Nat} {t u : Tr} (h1 : o ≤ 255) (h : t.Fine) (k : u.Fine) : (⟨o, b0, [t, u]⟩ : Tr).Fine := two_all ⟨by show o < 256; omega, max_small (show b0.size ≤ 1 by decide)⟩ h k

/-- Until, and what it unfolds to: the outer operator m, the inner n. -/
def stepL (o : Nat) (f g : Tr) : Tr := ⟨o, b0, [f, g]⟩
def stepX (o : Nat) (f g : Tr) : Tr := ⟨9, b0, [stepL o f g]⟩
def stepR (m n o : Nat) (f g : Tr) : Tr := ⟨m, b0, [g, ⟨n, b0, [f, stepX o f g]⟩]⟩
theorem step_sat (σ : Nat → Nat) (xs : List ByteArray) {m n o : Nat} (h : ((o = 12 ∨ o = 14) ∧ m = 6 ∧ n = 5) ∨ ((o = 13 ∨ o = 15) ∧ m = 5 ∧ n = 6)) (f g : Tr) (i : Nat) : sat σ xs (stepL o f g) i ↔ sat σ xs (stepR m n o f g) i := by
  unfold stepR stepX stepL
  rw [sat_two σ xs m, sat_two σ xs n, sat_one σ xs 9, sat_two σ xs o]
  generalize sat σ xs f = F
  generalize sat σ xs g = G
  have e9 : ∀ (a b : Nat → Prop) j, satOp σ xs 9 b0 a b j = a (j + 1) := fun _ _ _ => rfl
  have e5 : ∀ (a b : Nat → Prop) j, satOp σ xs 5 b0 a b j = (a j ∧ b j) := fun _ _ _ => rfl
  have e6 : ∀ (a b : Nat → Prop) j, satOp σ xs 6 b0 a b j = (a j ∨ b j) := fun _ _ _ => rfl
  have e12 : ∀ (a b : Nat → Prop) j, satOp σ xs 12 b0 a b j = untilP a b j := fun _ _ _ => rfl
  have e13 : ∀ (a b : Nat → Prop) j, satOp σ xs 13 b0 a b j = ¬ untilP (fun j => ¬ a j) (fun j => ¬ b j) j := fun _ _ _ => rfl
  have e14 : ∀ (a b : Nat → Prop) j, satOp σ xs 14 b0 a b j = ¬ untilP (fun j => ¬ b j) (fun j => ¬ (a j ∨ b j)) j := fun _ _ _ => rfl
  have e15 : ∀ (a b : Nat → Prop) j, satOp σ xs 15 b0 a b j = untilP b (fun j => a j ∧ b j) j := fun _ _ _ => rfl
  rcases h with ⟨rfl | rfl, rfl, rfl⟩ | ⟨rfl | rfl, rfl, rfl⟩
  · rw [e6, e5, e9, e12, e12, until_step F G i]
  · rw [e6, e5, e9, e14, e14, until_step _ _ i]
    by_cases hF : F i <;> by_cases hG : G i <;> simp [hF, hG]
  · rw [e5, e6, e9, e13, e13, until_step _ _ i]
    by_cases hF : F i <;> by_cases hG : G i <;> simp [hF, hG]
  · rw [e5, e6, e9, e15, e15, until_step _ _ i]
    by_cases hF : F i <;> by_cases hG : G i <;> simp [hF, hG]
theorem step_alike {f g : Tr} {xs : List ByteArray} {q : Wd} (hf : askB f xs q = true) (hg : askB g xs q = true) {m n o : Nat} (h : ((o = 12 ∨ o = 14) ∧ m = 6 ∧ n = 5) ∨ ((o = 13 ∨ o = 15) ∧ m = 5 ∧ n = 6)) : Alike xs q (stepL o f g) (stepR m n o f g) := by
  obtain ⟨f1, f2, hl, hc, _⟩ := ask_along hf
  obtain ⟨g1, g2, _⟩ := ask_along hg
  have k : kidsN o = 2 ∧ kidsN m = 2 ∧ kidsN n = 2 := by rcases h with ⟨rfl | rfl, rfl, rfl⟩ | ⟨rfl | rfl, rfl, rfl⟩ <;> decide
  have gl : (stepL o f g).Good := good_two (by omega) (by omega) (by omega) k.1 f1 g1
  have nl : (stepL o f g).Named xs := named_two (by omega) f2 g2
  exact alike_of gl (good_two (by omega) (by omega) (by omega) k.2.1 g1 (good_two (by omega) (by omega) (by omega) k.2.2 f1 (good_one (by omega) (by omega) (by omega) (by decide) gl))) nl (named_two (by omega) g2 (named_two (by omega) f2 (named_one (by omega) nl))) hl hc (step_sat q.at xs h f g)
theorem step_fine {f g : Tr} (hf : f.Fine) (hg : g.Fine) {m n o : Nat} (ho : o ≤ 255) (hm : m ≤ 255) (hn : n ≤ 255) : (stepL o f g).Fine ∧ (stepR m n o f g).Fine := by
  have hl : (stepL o f g).Fine := fine_two ho hf hg
  exact ⟨hl, fine_two hm hg (fine_two hn hf (fine_one (by omega) hl))⟩
theorem step_size (f g : Tr) (m n o : Nat) : (stepL o f g).size = 1 + (f.size + g.size) ∧ (stepR m n o f g).size = 4 + 2 * f.size + 2 * g.size := by
  have h1 : (stepL o f g).size = 1 + (f.size + g.size) := (s_two _ _ _ _).1
  refine ⟨h1, ?_⟩
  unfold stepR
  rw [(s_two _ _ _ _).1, (s_two _ _ _ _).1, show (stepX o f g).size = 1 + (stepL o f g).size from (s_one _ _ _).1, h1]
  omega
end Go.Proofs.YtddgciilcghbaaaDoor

/- The law's one and two, by what they leave in memory; a box that is filled behind a call. -/
namespace Go.Proofs.YtddgciilcghbaaaDoor
open Go.RowKit Go.Shelf

set_option maxHeartbeats 400000 in
theorem lawOneC (o a1 : Int) (s1 : ByteArray) (ad1 : Option Addr) (n1 c1 : Nat) (w : World) : Calls Tryd.prog 9 #[.int .u8 o, .agg #[.int .u8 a1, .string s1, .slice ad1 n1 c1]] w fun e w' => ∃ b, e = .returned (.agg #[.int .u8 o, .string ⟨#[]⟩, .slice (some ⟨b, 0, none⟩) 1 1]) ∧ w.heap.size ≤ b ∧ b < w'.heap.size ∧ w'.heap[b]? = some (.cells #[.int .u8 a1, .string s1, .slice ad1 n1 c1] 25 (0, 0)) ∧ Kept [] w w' := by
  go_enter Tryd.func9, Tryd.ntmps9
  go_wp2
  exact ret_for rfl rfl rfl (show For3 _ (w.heap.size + 1) _ _ _ from alUp (al1 _ _ _) _) ⟨_, rfl, by omega, by simp only [World.size_alloc]; omega, al2 _ _ _ _, (((Kept.refl [] w).alloc _).alloc _).alloc _⟩
set_option maxHeartbeats 400000 in
theorem lawTwoC (o a1 a2 : Int) (s1 s2 : ByteArray) (ad1 ad2 : Option Addr) (n1 c1 n2 c2 : Nat) (w : World) : Calls Tryd.prog 10 #[.int .u8 o, .agg #[.int .u8 a1, .string s1, .slice ad1 n1 c1], .agg #[.int .u8 a2, .string s2, .slice ad2 n2 c2]] w fun e w' => ∃ b, e = .returned (.agg #[.int .u8 o, .string ⟨#[]⟩, .slice (some ⟨b, 0, none⟩) 2 2]) ∧ w.heap.size ≤ b ∧ b < w'.heap.size ∧ w'.heap[b]? = some (.cells #[.int .u8 a1, .string s1, .slice ad1 n1 c1, .int .u8 a2, .string s2, .slice ad2 n2 c2] 25 (0, 0)) ∧ Kept [] w w' := by
  go_enter Tryd.func10, Tryd.ntmps10
  go_wp2
  exact ret_for rfl rfl rfl (show For3 _ (w.heap.size + 1 + 1) _ _ _ from alUp (al2 _ _ _ _) _) ⟨_, rfl, by omega, by simp only [World.size_alloc]; omega, al3 _ _ _ _ _, ((((Kept.refl [] w).alloc _).alloc _).alloc _).alloc _⟩
theorem kA (W : World) (o : Obj) : Kept [] W (W.alloc o) := (Kept.refl [] W).alloc o
theorem box_cells {V W : World} {B : Nat} {a b c : Value} (h : For3 V B a b c) (k : Kept [] V W) : W.cell? ⟨B, 0, none⟩ = some a ∧ W.cell? ⟨B, 1, none⟩ = some b ∧ W.cell? ⟨B, 2, none⟩ = some c := ⟨(h.kept k).cells.1, (h.kept k).cells.2.1, (h.kept k).cells.2.2.1⟩
theorem For3.drew {W : World} {B : Nat} {a b c : Value} (h : For3 W B a b c) : For3 W.drew B a b c := h
theorem For3.up1 {W : World} {B : Nat} {a b c : Value} (h : For3 W B a b c) (o : Obj) : For3 (W.alloc o) B a b c := alUp h o
theorem For3.new (W : World) (a b c : Value) : For3 (W.alloc (.cells #[a, b, c] 25)) W.heap.size a b c := al0 _ _
/-- A box filled, and what stood beside it. -/
def Filled (V Wf : World) (B : Nat) (x y z : Value) (L : List (Nat × Obj)) : Prop := V.heap.size ≤ B ∧ Kept [] V Wf ∧ For3 Wf B x y z ∧ ∀ p ∈ L, Wf.heap[p.1]? = some p.2
theorem filled_new {V Wc : World} {x y z : Value} {L : List (Nat × Obj)} (k : Kept [] V Wc) (hL : ∀ p ∈ L, Wc.heap[p.1]? = some p.2) : Filled V (Wc.alloc (.cells #[x, y, z] 25)) Wc.heap.size x y z L :=
  ⟨k.size, k.alloc _, al0 _ _, fun p hp => (kA Wc _).at (hL p hp) (by simp)⟩
theorem filled_set {V Wc : World} {B : Nat} {x y z x0 y0 z0 : Value} {L : List (Nat × Obj)} (k : Kept [] V Wc) (hV : V.heap.size ≤ B) (f : For3 Wc B x0 y0 z0) (hL : ∀ p ∈ L, Wc.heap[p.1]? = some p.2) (hB : ∀ p ∈ L, p.1 ≠ B) : Filled V (((Wc.setCell ⟨B, 0, none⟩ x).setCell ⟨B, 1, none⟩ y).setCell ⟨B, 2, none⟩ z) B x y z L := by
  refine ⟨hV, kept_set3 k hV _ _ _, f.set _ _ _, fun p hp => ?_⟩
  have kB : Kept [B] Wc (((Wc.setCell ⟨B, 0, none⟩ x).setCell ⟨B, 1, none⟩ y).setCell ⟨B, 2, none⟩ z) := (((Kept.refl [B] Wc).setCell (.inl (by simp)) _).setCell (.inl (by simp)) _).setCell (.inl (by simp)) _
  exact kB.at (hL p hp) (by simpa using hB p hp)
theorem Filled.pair {V Wf : World} {B b c : Nat} {x y z : Value} {C D : Obj} (h : Filled V Wf B x y z [(b, C), (c, D)]) : Wf.heap[b]? = some C ∧ Wf.heap[c]? = some D := ⟨h.2.2.2 (b, C) (by simp), h.2.2.2 (c, D) (by simp)⟩
theorem Filled.go {V Wf W : World} {B : Nat} {x y z : Value} {L : List (Nat × Obj)} (h : Filled V Wf B x y z L) (k : Kept [] Wf W) : Filled V W B x y z L := ⟨h.1, h.2.1.trans k (by simp) (by simp), h.2.2.1.kept k, fun p hp => k.at (h.2.2.2 p hp) (by simp)⟩
theorem one_in {W : World} {b : Nat} {C : Obj} (h : W.heap[b]? = some C) : ∀ p ∈ [(b, C)], W.heap[p.1]? = some p.2 := fun p hp => by
  rw [List.mem_singleton.1 hp]; exact h
theorem two_in {W : World} {b c : Nat} {C D : Obj} (h : W.heap[b]? = some C) (k : W.heap[c]? = some D) : ∀ p ∈ [(b, C), (c, D)], W.heap[p.1]? = some p.2 := fun p hp => by
  rcases List.mem_cons.1 hp with e | hp
  · rw [e]; exact h
  · rw [List.mem_singleton.1 hp]; exact k
theorem one_ne {b B : Nat} {C : Obj} (h : b ≠ B) : ∀ p ∈ [(b, C)], p.1 ≠ B := fun p hp => by
  rw [List.mem_singleton.1 hp]; exact h
theorem two_ne {b c B : Nat} {C D : Obj} (h : b ≠ B) (k : c ≠ B) : ∀ p ∈ [(b, C), (c, D)], p.1 ≠ B := fun p hp => by
  rcases List.mem_cons.1 hp with e | hp
  · rw [e]; exact h
  · rw [List.mem_singleton.1 hp]; exact k
theorem isN0 {W : World} {t : Tr} {kv : Value} (h : IsF W t kv) : IsN 0 W t kv := IsT.cells (fun _ _ => Nat.zero_le _) (fun _ _ _ _ c => c) h
/-- The blocks of a law's formula. -/
def twoO (a1 : Int) (s1 : ByteArray) (k1 : Value) (a2 : Int) (s2 : ByteArray) (k2 : Value) : Obj := .cells #[.int .u8 a1, .string s1, k1, .int .u8 a2, .string s2, k2] 25 (0, 0)
def oneO (a1 : Int) (s1 : ByteArray) (k1 : Value) : Obj := .cells #[.int .u8 a1, .string s1, k1] 25 (0, 0)
abbrev sl (b n : Nat) : Value := .slice (some ⟨b, 0, none⟩) n n
theorem step_trees {W : World} {f g : Tr} {fv gv : Value} {bu bn b1 b2 m n o : Nat} (hf : IsF W f fv) (hg : IsF W g gv) (hu : W.heap[bu]? = some (twoO (f.op : Nat) f.name fv (g.op : Nat) g.name gv)) (hn : W.heap[bn]? = some (oneO (o : Nat) ⟨#[]⟩ (sl bu 2))) (h1 : W.heap[b1]? = some (twoO (f.op : Nat) f.name fv 9 ⟨#[]⟩ (sl bn 1))) (h2 : W.heap[b2]? = some (twoO (g.op : Nat) g.name gv (n : Nat) ⟨#[]⟩ (sl b1 2))) :
    IsF W (stepL o f g) (sl bu 2) ∧ IsF W (stepR m n o f g) (sl b2 2) := by
  have u : IsN 0 W (stepL o f g) (sl bu 2) := isN_two hu (isN0 hf) (isN0 hg) (Nat.zero_le _)
  have x : IsN 0 W (stepX o f g) (sl bn 1) := isN_one (t := stepL o f g) hn u (Nat.zero_le _)
  have y : IsN 0 W (⟨n, b0, [f, stepX o f g]⟩ : Tr) (sl b1 2) := isN_two (u := stepX o f g) h1 (isN0 hf) x (Nat.zero_le _)
  exact ⟨u.isF, (isN_two (u := ⟨n, b0, [f, stepX o f g]⟩) h2 (isN0 hg) y (Nat.zero_le _) : IsN 0 W (stepR m n o f g) (sl b2 2)).isF⟩
end Go.Proofs.YtddgciilcghbaaaDoor
