/- words.Normal. -/
import Derived.Test.YtnpeghaficghaaaGreatDoorGM
namespace Go.Proofs.YtnpeghaficghaaaGreatDoor
open Go.RowKit
attribute [local go_sem ↓] Go.wp_at_zero Go.wp_at_succ

theorem owns_keptF {F : List Nat} {W W' : World} {base : Nat} {e : TypeId} {size : Nat} {v : Value} {n : Nat} {xs : List Value} (h : W.ownsRow base e size v n xs) (k : Kept F W W') (hF : ∀ g, v.ownBlock = some g → g ∉ F) : W'.ownsRow base e size v n xs := by
  refine ⟨h.1, ?_⟩
  rcases h.2 with hn | ⟨g, cap, cur, rfl, hb, hgg, rest⟩
  · exact .inl hn
  · exact .inr ⟨g, cap, cur, rfl, hb, k.at hgg (hF g rfl), rest⟩
theorem owns_low {W : World} {base base' : Nat} {e : TypeId} {size : Nat} {v : Value} {n : Nat} {xs : List Value} (h : W.ownsRow base e size v n xs) (hb : base' ≤ base) : W.ownsRow base' e size v n xs := by
  refine ⟨h.1, ?_⟩
  rcases h.2 with hn | ⟨g, cap, cur, rfl, hb', rest⟩
  · exact .inl hn
  · exact .inr ⟨g, cap, cur, rfl, Nat.le_trans hb hb', rest⟩
theorem owns_lt {W : World} {base : Nat} {e : TypeId} {size : Nat} {v : Value} {n g : Nat} {xs : List Value} (h : W.ownsRow base e size v n xs) (hg : v.ownBlock = some g) : g < W.heap.size := by
  rcases h.2 with ⟨rfl, _⟩ | ⟨g', cap, cur, rfl, hb, hc, _⟩
  · cases hg
  · cases hg; exact lt_of hc
theorem own_form {W : World} {base : Nat} {e : TypeId} {size : Nat} {v : Value} {n : Nat} {xs : List Value} (h : W.ownsRow base e size v n xs) : ∃ ad c, v = .slice ad n c := by
  rcases h.2 with ⟨rfl, h0⟩ | ⟨g', cap, cur, rfl, _⟩
  · exact ⟨none, 0, by rw [h0]⟩
  · exact ⟨_, _, rfl⟩
/-- A word that a call has made: its letters lie in two rows of its own. -/
structure NewW (n₀ : Nat) (w' : World) (sv lv : Value) (r : Wd) : Prop where
  own1 : w'.ownsRow n₀ 90 1 sv r.stem.length (u16s r.stem)
  own2 : w'.ownsRow n₀ 90 1 lv r.loop.length (u16s r.loop)
  apart : ∀ g, sv.ownBlock = some g → lv.ownBlock ≠ some g
  small1 : ∀ x ∈ r.stem, x < 65536
  small2 : ∀ x ∈ r.loop, x < 65536
  few1 : r.stem.length ≤ 70368744177664
  few2 : r.loop.length ≤ 70368744177664
theorem NewW.lets1 {n₀ : Nat} {w' : World} {sv lv : Value} {r : Wd} (h : NewW n₀ w' sv lv r) : Lets w' sv r.stem := lets_own h.own1 h.small1 h.few1
theorem NewW.lets2 {n₀ : Nat} {w' : World} {sv lv : Value} {r : Wd} (h : NewW n₀ w' sv lv r) : Lets w' lv r.loop := lets_own h.own2 h.small2 h.few2
theorem NewW.keptF {n₀ : Nat} {F : List Nat} {W W' : World} {sv lv : Value} {r : Wd} (h : NewW n₀ W sv lv r) (k : Kept F W W') (hF : ∀ x ∈ F, x < n₀) : NewW n₀ W' sv lv r :=
  ⟨owns_keptF h.own1 k (fun g e hg => by have := own_base h.own1 e; have := hF g hg; omega), owns_keptF h.own2 k (fun g e hg => by have := own_base h.own2 e; have := hF g hg; omega), h.apart, h.small1, h.small2, h.few1, h.few2⟩
theorem NewW.kept {n₀ : Nat} {W W' : World} {sv lv : Value} {r : Wd} (h : NewW n₀ W sv lv r) (k : Kept [] W W') : NewW n₀ W' sv lv r := h.keptF k (by simp)
theorem NewW.low {n₀ n₁ : Nat} {W : World} {sv lv : Value} {r : Wd} (h : NewW n₀ W sv lv r) (hn : n₁ ≤ n₀) : NewW n₁ W sv lv r := ⟨owns_low h.own1 hn, owns_low h.own2 hn, h.apart, h.small1, h.small2, h.few1, h.few2⟩
/-- What Normal makes of a word. -/
def NormOf (q r : Wd) : Prop := (q.loop = [] → r = ⟨[], []⟩) ∧ (q.loop ≠ [] → r.Norm ∧ ∀ i, r.at i = q.at i)
def MadeNorm (w : World) (q : Wd) (e : Ending) (w' : World) : Prop :=
  ∃ sv lv r, e = .returned (.agg #[sv, lv]) ∧ NewW w.heap.size w' sv lv r ∧ NormOf q r ∧ Kept [] w w'
theorem new_zero (n₀ : Nat) (w : World) : NewW n₀ w (.slice none 0 0) (.slice none 0 0) ⟨[], []⟩ :=
  ⟨own_nil _ _, own_nil _ _, (fun g e => by cases e), by simp, by simp, by simp, by simp⟩

theorem two_new (w : World) (a b : Obj) : ((w.alloc a).alloc b).heap[w.heap.size]? = some a ∧ ((w.alloc a).alloc b).heap[w.heap.size + 1]? = some b := by
  refine ⟨by rw [Below.heap_alloc _ _ _ (by simp)]; exact heap_alloc_new _ _, ?_⟩
  have := heap_alloc_new (w.alloc a) b
  rwa [World.size_alloc] at this
/-- A word in a block of its own. -/
def Wd2 (W : World) (B : Nat) (a b : Value) : Prop := W.heap[B]? = some (.cells #[a, b] 29 (0, 0))
theorem Wd2.cells {W : World} {B : Nat} {a b : Value} (h : Wd2 W B a b) : W.cell? ⟨B, 0, none⟩ = some a ∧ W.cell? ⟨B, 1, none⟩ = some b ∧ W.frozen? ⟨B, 0, none⟩ = false ∧ W.frozen? ⟨B, 1, none⟩ = false :=
  ⟨(cell_of h 0).trans rfl, (cell_of h 1).trans rfl, free_of h 0, free_of h 1⟩
theorem Wd2.kept {W W' : World} {B : Nat} {a b : Value} (h : Wd2 W B a b) (k : Kept [] W W') : Wd2 W' B a b := k.at h (by simp)
theorem Wd2.set {W : World} {B : Nat} {a b : Value} (h : Wd2 W B a b) (a' b' : Value) : Wd2 ((W.setCell ⟨B, 0, none⟩ a').setCell ⟨B, 1, none⟩ b') B a' b' := by
  unfold Wd2; rw [row_set (row_set h a') b']; rfl
theorem ret_word {fn : Func} {p : Tmp} {a : Act} {w : World} {g : Nat} {x y : Value} {R : Ending → World → Prop} (h : fn.results = #[.cell p 29]) (hp : a.tmps.getD p undef = .pointer (some ⟨g, 0, none⟩)) (hd : a.defers = []) (hg : Wd2 w g x y) (hR : R (.returned (.agg #[x, y])) w) : bodyPost Tryz.prog fn R .ret a w :=
  bodyPost_ret (results_cell_row h _ w g 29 #[x, y] _ _ hp hg Tryz.underlying29 rfl (by kernel_rfl)) hd hR
theorem kept_set2 {w W : World} {B : Nat} (k : Kept [] w W) (hB : w.heap.size ≤ B) (a b : Value) : Kept [] w ((W.setCell ⟨B, 0, none⟩ a).setCell ⟨B, 1, none⟩ b) := (k.setCell (.inr hB) _).setCell (.inr hB) _
def slLen (v : Value) : Nat := match v with | .slice _ n _ => n | _ => 0
theorem Lets.takeA {W : World} {ads : Option Addr} {cs : Nat} {st : List Nat} (h : Lets W (.slice ads st.length cs) st) (m : Nat) (hm : m ≤ st.length) : Lets W (.slice ads m cs) (st.take m) := by
  rcases h.lie with ⟨e, rfl⟩ | ⟨b, o, c, e, _⟩
  · obtain rfl : m = 0 := by simpa using hm
    cases e
    exact Lets.nil W
  · cases e
    exact h.take m hm
theorem new_of {n₁ : Nat} {w2 w3 : World} {sv lv : Value} {r : Wd} (h1 : w2.ownsRow n₁ 90 1 sv r.stem.length (u16s r.stem)) (k : Kept [] w2 w3) (h2 : w3.ownsRow (w2.heap.size + 1) 90 1 lv r.loop.length (u16s r.loop)) (hn : n₁ ≤ w2.heap.size) (s1 : ∀ x ∈ r.stem, x < 65536) (s2 : ∀ x ∈ r.loop, x < 65536) (f1 : r.stem.length ≤ 70368744177664) (f2 : r.loop.length ≤ 70368744177664) : NewW n₁ w3 sv lv r :=
  ⟨owns_keptF h1 k (by simp), owns_low h2 (by omega), fun g e e2 => by have := owns_lt h1 e; have := own_base h2 e2; omega, s1, s2, f1, f2⟩
theorem rot_small {l : List Nat} {n : Nat} (h : ∀ x ∈ l, x < 65536) : ∀ x ∈ rot l n, x < 65536 := by
  intro x hx
  unfold rot at hx
  rcases List.mem_append.1 hx with h1 | h1
  · exact h x (List.mem_of_mem_drop h1)
  · exact h x (List.mem_of_mem_take h1)
/-- What the walk has come to at its end. -/
theorem made_norm {w wr w2 w3 : World} {st lp lq : List Nat} {m first : Nat} {sv lv : Value} (hC1 : ∀ i, (Wd.mk st lq).at i = (Wd.mk st lp).at i) (hC3 : Least (cyc lq) 0 lq.length) (h0 : 0 < lp.length) (hS : StripInv st lq m first) (he : m = 0 ∨ st.getD (m - 1) 0 ≠ lq.getD ((first + lq.length - 1) % lq.length) 0)
    (hk : Kept [] w wr) (hB : Wd2 wr (w.heap.size + 1) (.slice none 0 0) (.slice none 0 0)) (o1 : w2.ownsRow wr.heap.size 90 1 sv (st.take m).length (u16s (st.take m))) (k1 : Kept [] wr w2) (o2 : w3.ownsRow (w2.heap.size + 1) 90 1 lv (rot lq first).length (u16s (rot lq first))) (k2 : Kept [] w2 w3)
    (s1 : ∀ x ∈ st, x < 65536) (s2 : ∀ x ∈ lq, x < 65536) (f1 : st.length ≤ 70368744177664) (f2 : lq.length ≤ 70368744177664) :
    MadeNorm w ⟨st, lp⟩ (.returned (.agg #[sv, lv])) ((w3.setCell ⟨w.heap.size + 1, 0, none⟩ sv).setCell ⟨w.heap.size + 1, 1, none⟩ lv) ∧ Wd2 ((w3.setCell ⟨w.heap.size + 1, 0, none⟩ sv).setCell ⟨w.heap.size + 1, 1, none⟩ lv) (w.heap.size + 1) sv lv := by
  have k3 : Kept [] wr w3 := k1.trans k2 (by simp) (by simp)
  have hB3 := hB.kept k3
  have hlt : w.heap.size + 1 < wr.heap.size := lt_of hB
  have hn := new_of (r := ⟨st.take m, rot lq first⟩) o1 k2 o2 k1.size (fun x hx => s1 x (List.mem_of_mem_take hx)) (rot_small s2) (by show (st.take m).length ≤ _; rw [List.length_take]; omega) (by show (rot lq first).length ≤ _; rw [rot_length]; exact f2)
  have kF : Kept [w.heap.size + 1] w3 ((w3.setCell ⟨w.heap.size + 1, 0, none⟩ sv).setCell ⟨w.heap.size + 1, 1, none⟩ lv) := ((Kept.refl _ w3).setCell (.inl (by simp)) _).setCell (.inl (by simp)) _
  refine ⟨⟨sv, lv, ⟨st.take m, rot lq first⟩, rfl, (hn.keptF kF (by simpa using hlt)).low hk.size, ⟨fun e => ?_, fun _ => ⟨hS.norm hC3 he, fun i => (hS.same i).trans (hC1 i)⟩⟩, ?_⟩, hB3.set _ _⟩
  · have e' : lp = [] := e
    rw [e'] at h0; simp at h0
  · exact kept_set2 (hk.trans k3 (by simp) (by simp)) (by simp) _ _
theorem rem_last {first d : Nat} (h : first < d) : ∃ la : Nat, la = (first + d - 1) % d ∧ la < d ∧ ((first : Int) + (d : Int) - 1).tmod (d : Int) = (la : Int) ∧ ((first : Int) + (d : Int) - 1) % (d : Int) = (la : Int) := by
  refine ⟨(first + d - 1) % d, rfl, Nat.mod_lt _ (by omega), ?_, ?_⟩
  · rw [Int.tmod_eq_emod_of_nonneg (by omega)]; rw [show (first : Int) + (d : Int) - 1 = ((first + d - 1 : Nat) : Int) by omega]; rfl
  · rw [show (first : Int) + (d : Int) - 1 = ((first + d - 1 : Nat) : Int) by omega]; rfl
end Go.Proofs.YtnpeghaficghaaaGreatDoor

/- words.Places, Behind, At. -/
namespace Go.Proofs.YtnpeghaficghaaaGreatDoor
open Go.RowKit
attribute [local go_sem ↓] Go.wp_at_zero Go.wp_at_succ

/-- A word that is handed in. -/
structure IsW (W : World) (sv lv : Value) (q : Wd) : Prop where
  st : Lets W sv q.stem
  lp : Lets W lv q.loop
  few : q.stem.length + q.loop.length ≤ 70368744177664
theorem IsW.kept {W W' : World} {sv lv : Value} {q : Wd} (h : IsW W sv lv q) (k : Kept [] W W') : IsW W' sv lv q := ⟨h.st.kept k, h.lp.kept k, h.few⟩
def placesN (q : Wd) : Nat := if q.loop.length = 0 then 0 else q.stem.length + q.loop.length
theorem one_new (w : World) (a : Obj) : (w.alloc a).heap[w.heap.size]? = some a := heap_alloc_new w a

set_option maxHeartbeats 800000 in
theorem places_any (sv lv : Value) (q : Wd) (w : World) (h : IsW w sv lv q) :
    Calls Tryz.prog 114 #[.agg #[sv, lv]] w fun e w' => e = .returned (.int .i64 (placesN q : Nat)) ∧ Kept [] w w' := by
  obtain ⟨st, lp⟩ := q
  have hf := h.few
  obtain ⟨ast, cs, rfl, _, _⟩ := h.st.form
  obtain ⟨al, cl, rfl, _, _⟩ := h.lp.form
  simp only at hf ⊢
  have HN : Hid (Wd2 (w.alloc (.cells #[.slice ast st.length cs, .slice al lp.length cl] 29)) w.heap.size (.slice ast st.length cs) (.slice al lp.length cl)) := heap_alloc_new w _
  clear h
  by_cases h0 : 0 < lp.length
  · have b4 : decide (0 < lp.length) = true := by simpa using h0
    have HP : Hid (placesN ⟨st, lp⟩ = st.length + lp.length) := by show placesN _ = _; unfold placesN; rw [if_neg (by show ¬ lp.length = 0; omega)]
    go_enter Tryz.func114, Tryz.ntmps114
    go_wp2_with (go_at_call 99; refine (endless_any _ _ _ _ _).mono ?_; rintro e w1 ⟨rfl, hk⟩; rw [b4]; obtain ⟨c0, c1, _, _⟩ := (HN.out.kept hk).cells; have HK : Hid (Kept [] w w1) := Kept.trans (F := []) (G := []) (H := []) ((Kept.refl [] w).alloc _) hk (by simp) (by simp); clear hk)
    go_ret
    exact ⟨ret_int (by rw [HP.out]; omega), HK.out⟩
  · have b4 : decide (0 < lp.length) = false := by simpa using h0
    have HP : Hid (placesN ⟨st, lp⟩ = 0) := by show placesN _ = _; unfold placesN; rw [if_pos (by show lp.length = 0; omega)]
    go_enter Tryz.func114, Tryz.ntmps114
    go_wp2_with (go_at_call 99; refine (endless_any _ _ _ _ _).mono ?_; rintro e w1 ⟨rfl, hk⟩; rw [b4]; have HK : Hid (Kept [] w w1) := Kept.trans (F := []) (G := []) (H := []) ((Kept.refl [] w).alloc _) hk (by simp) (by simp); clear hk)
    go_ret
    exact ⟨ret_int (by rw [HP.out]; rfl), HK.out⟩

def behindI (q : Wd) (i : Int) : Int := if i < 0 ∨ (placesN q : Int) ≤ i then -1 else if i = (placesN q : Int) - 1 then q.stem.length else i + 1
set_option maxHeartbeats 800000 in
theorem behind_any (sv lv : Value) (q : Wd) (i : Int) (w : World) (h : IsW w sv lv q) :
    Calls Tryz.prog 106 #[.agg #[sv, lv], .int .i64 i] w fun e w' => e = .returned (.int .i64 (behindI q i)) ∧ Kept [] w w' := by
  have HP : Hid (∀ W, Kept [] w W → Calls Tryz.prog 114 #[.agg #[sv, lv]] W fun e w' => e = .returned (.int .i64 (placesN q : Nat)) ∧ Kept [] W w') := fun W k => places_any sv lv q W (h.kept k)
  obtain ⟨st, lp⟩ := q
  have hf := h.few
  obtain ⟨ast, cs, rfl, _, _⟩ := h.st.form
  obtain ⟨al, cl, rfl, _, _⟩ := h.lp.form
  simp only at hf HP ⊢
  have HN : Hid (Wd2 (w.alloc (.cells #[.slice ast st.length cs, .slice al lp.length cl] 29)) w.heap.size (.slice ast st.length cs) (.slice al lp.length cl)) := heap_alloc_new w _
  have hp : placesN ⟨st, lp⟩ ≤ 70368744177664 := by unfold placesN; split <;> simp only at * <;> omega
  unfold behindI
  generalize placesN ⟨st, lp⟩ = p at HP hp
  clear h
  by_cases h1 : i < 0
  · rw [if_pos (.inl h1)]
    go_enter Tryz.func106, Tryz.ntmps106
    go_wp2_with (go_at_call 114; refine (HP.out _ ((Kept.refl [] w).alloc _)).mono ?_; rintro e w1 ⟨rfl, hk⟩; have HK : Hid (Kept [] w w1) := Kept.trans (F := []) (G := []) (H := []) ((Kept.refl [] w).alloc _) hk (by simp) (by simp); clear hk)
    go_ret
    exact ⟨rfl, HK.out⟩
  · by_cases h2 : (p : Int) ≤ i
    · rw [if_pos (.inr h2)]
      go_enter Tryz.func106, Tryz.ntmps106
      go_wp2_with (go_at_call 114; refine (HP.out _ ((Kept.refl [] w).alloc _)).mono ?_; rintro e w1 ⟨rfl, hk⟩; have HK : Hid (Kept [] w w1) := Kept.trans (F := []) (G := []) (H := []) ((Kept.refl [] w).alloc _) hk (by simp) (by simp); clear hk)
      go_ret
      exact ⟨rfl, HK.out⟩
    · rw [if_neg (by omega)]
      have h3 : i < (p : Int) := by omega
      have h4 : 0 ≤ i := by omega
      by_cases h5 : i = (p : Int) - 1
      · rw [if_pos h5]
        have h6 : (i == (p : Int) - 1) = true := by simpa using h5
        clear h5
        go_enter Tryz.func106, Tryz.ntmps106
        go_wp2_with (go_at_call 114; refine (HP.out _ ((Kept.refl [] w).alloc _)).mono ?_; rintro e w1 ⟨rfl, hk⟩; obtain ⟨c0, c1, _, _⟩ := (HN.out.kept hk).cells; have HK : Hid (Kept [] w w1) := Kept.trans (F := []) (G := []) (H := []) ((Kept.refl [] w).alloc _) hk (by simp) (by simp); clear hk)
        go_ret
        exact ⟨rfl, HK.out⟩
      · rw [if_neg h5]
        have h6 : (i == (p : Int) - 1) = false := by simpa using h5
        clear h5
        go_enter Tryz.func106, Tryz.ntmps106
        go_wp2_with (go_at_call 114; refine (HP.out _ ((Kept.refl [] w).alloc _)).mono ?_; rintro e w1 ⟨rfl, hk⟩; have HK : Hid (Kept [] w w1) := Kept.trans (F := []) (G := []) (H := []) ((Kept.refl [] w).alloc _) hk (by simp) (by simp); clear hk)
        go_ret
        exact ⟨rfl, HK.out⟩

def atI (q : Wd) (i : Int) : Nat := if i < 0 ∨ q.loop.length = 0 then 0 else q.at i.toNat
set_option maxHeartbeats 800000 in
theorem at_out (sv lv : Value) (q : Wd) (i : Int) (w : World) (h : IsW w sv lv q) (ho : i < 0 ∨ q.loop.length = 0) :
    Calls Tryz.prog 104 #[.agg #[sv, lv], .int .i64 i] w fun e w' => e = .returned (.int .u16 0) ∧ Kept [] w w' := by
  obtain ⟨st, lp⟩ := q
  obtain ⟨ast, cs, rfl, _, _⟩ := h.st.form
  obtain ⟨al, cl, rfl, _, _⟩ := h.lp.form
  simp only at ho ⊢
  clear h
  by_cases h1 : i < 0
  · clear ho
    go_enter Tryz.func104, Tryz.ntmps104
    go_wp2
    go_ret
    exact ⟨rfl, (Kept.refl [] w).alloc _⟩
  · have b4 : decide (0 < lp.length) = false := decide_eq_false (by omega)
    clear ho
    go_enter Tryz.func104, Tryz.ntmps104
    go_wp2_with (go_at_call 99; refine (endless_any _ _ _ _ _).mono ?_; rintro e w1 ⟨rfl, hk⟩; rw [b4]; have HK : Hid (Kept [] w w1) := Kept.trans (F := []) (G := []) (H := []) ((Kept.refl [] w).alloc _) hk (by simp) (by simp); clear hk)
    go_ret
    exact ⟨rfl, HK.out⟩
set_option maxHeartbeats 800000 in
theorem at_lo (sv lv : Value) (q : Wd) (i : Nat) (w : World) (h : IsW w sv lv q) (h0 : 0 < q.loop.length) (hi : i < q.stem.length) :
    Calls Tryz.prog 104 #[.agg #[sv, lv], .int .i64 i] w fun e w' => e = .returned (.int .u16 (q.stem.getD i 0 : Nat)) ∧ Kept [] w w' := by
  obtain ⟨st, lp⟩ := q
  have hf := h.few
  simp only at h0 hi hf ⊢
  obtain ⟨b, o, cs, rfl, _, _, hc⟩ := h.st.there (by show 0 < st.length; omega)
  obtain ⟨al, cl, rfl, _, _⟩ := h.lp.form
  have HN : Hid (Wd2 (w.alloc (.cells #[.slice (some ⟨b, o, none⟩) st.length cs, .slice al lp.length cl] 29)) w.heap.size (.slice (some ⟨b, o, none⟩) st.length cs) (.slice al lp.length cl)) := heap_alloc_new w _
  have HC : Hid (w.cell? ⟨b, o + i, none⟩ = some (.int .u16 (st.getD i 0 : Nat))) := hc i hi
  have b4 : decide (0 < lp.length) = true := by simpa using h0
  have b1 : ¬ ((i : Int) < 0) := by omega
  have b2 : (i : Int) < (st.length : Int) := by omega
  have b3 : (0 : Int) ≤ (i : Int) := by omega
  clear h hc
  generalize st.getD i 0 = x at HC
  go_enter Tryz.func104, Tryz.ntmps104
  go_wp2_with (go_at_call 99; refine (endless_any _ _ _ _ _).mono ?_; rintro e w1 ⟨rfl, hk⟩; rw [b4]; obtain ⟨c0, c1, _, _⟩ := (HN.out.kept hk).cells; have HK : Hid (Kept [] w w1) := Kept.trans (F := []) (G := []) (H := []) ((Kept.refl [] w).alloc _) hk (by simp) (by simp); have c2 := cell_kept0 HK.out HC.out; clear hk)
  go_ret
  exact ⟨rfl, HK.out⟩
set_option maxHeartbeats 800000 in
theorem at_hi (sv lv : Value) (q : Wd) (i : Nat) (w : World) (h : IsW w sv lv q) (h0 : 0 < q.loop.length) (hi : q.stem.length ≤ i) (hb : i ≤ 9223372036854775807) :
    Calls Tryz.prog 104 #[.agg #[sv, lv], .int .i64 i] w fun e w' => e = .returned (.int .u16 (cyc q.loop (i - q.stem.length) : Nat)) ∧ Kept [] w w' := by
  obtain ⟨st, lp⟩ := q
  have hf := h.few
  simp only at h0 hi hf ⊢
  obtain ⟨b, o, cl, rfl, _, _, hc⟩ := h.lp.there h0
  obtain ⟨ast, cs, rfl, _, _⟩ := h.st.form
  have HN : Hid (Wd2 (w.alloc (.cells #[.slice ast st.length cs, .slice (some ⟨b, o, none⟩) lp.length cl] 29)) w.heap.size (.slice ast st.length cs) (.slice (some ⟨b, o, none⟩) lp.length cl)) := heap_alloc_new w _
  obtain ⟨r, hr⟩ : ∃ r, (i - st.length) % lp.length = r := ⟨_, rfl⟩
  have hrl : r < lp.length := by rw [← hr]; exact Nat.mod_lt _ h0
  have HC : Hid (w.cell? ⟨b, o + r, none⟩ = some (.int .u16 (cyc lp (i - st.length) : Nat))) := by
    have := hc r hrl
    unfold cyc
    simp only at this
    rw [hr]
    exact this
  have x1 : ((i : Int) - (st.length : Int)).tmod (lp.length : Int) = (r : Int) := by
    rw [Int.tmod_eq_emod_of_nonneg (by omega), ← hr, show (i : Int) - (st.length : Int) = ((i - st.length : Nat) : Int) by omega]; rfl
  have x2 : ((i : Int) - (st.length : Int)) % (lp.length : Int) = (r : Int) := by
    rw [← hr, show (i : Int) - (st.length : Int) = ((i - st.length : Nat) : Int) by omega]; rfl
  have b4 : decide (0 < lp.length) = true := by simpa using h0
  have b1 : ¬ ((i : Int) < 0) := by omega
  have b2 : ¬ ((i : Int) < (st.length : Int)) := by omega
  have b3 : (0 : Int) ≤ (r : Int) := by omega
  have b5 : (r : Int) < (lp.length : Int) := by omega
  have b6 : ¬ ((lp.length : Int) = 0) := by omega
  have b7 : ¬ (lp.length = 0) := by omega
  have b8 : ¬ (lp = []) := fun e => by rw [e] at h0; simp at h0
  have b9 : IntKind.i64.wrap ((i : Int) - (st.length : Int)) = (i : Int) - (st.length : Int) := by rw [IntKind.wrap_i64]; omega
  clear h hc hr
  generalize cyc lp (i - st.length) = x at HC
  go_enter Tryz.func104, Tryz.ntmps104
  go_wp2_with (go_at_call 99; refine (endless_any _ _ _ _ _).mono ?_; rintro e w1 ⟨rfl, hk⟩; rw [b4]; obtain ⟨c0, c1, _, _⟩ := (HN.out.kept hk).cells; have HK : Hid (Kept [] w w1) := Kept.trans (F := []) (G := []) (H := []) ((Kept.refl [] w).alloc _) hk (by simp) (by simp); have c2 := cell_kept0 HK.out HC.out; clear hk)
  go_quiet (fail)
  go_wp2
  go_ret
  exact ⟨rfl, HK.out.drewN _⟩
/-- words.At, of whatever word and number. -/
theorem at_any (sv lv : Value) (q : Wd) (i : Int) (w : World) (h : IsW w sv lv q) (hb : i ≤ 9223372036854775807) :
    Calls Tryz.prog 104 #[.agg #[sv, lv], .int .i64 i] w fun e w' => e = .returned (.int .u16 (atI q i : Nat)) ∧ Kept [] w w' := by
  unfold atI
  by_cases ho : i < 0 ∨ q.loop.length = 0
  · rw [if_pos ho]; exact at_out sv lv q i w h ho
  · rw [if_neg ho]
    obtain ⟨k, rfl⟩ : ∃ k : Nat, i = (k : Int) := ⟨i.toNat, by omega⟩
    rw [Int.toNat_natCast]
    rcases Nat.lt_or_ge k q.stem.length with hk | hk
    · rw [Wd.at_lo hk]; exact at_lo sv lv q k w h (by omega) hk
    · rw [Wd.at_hi hk]; exact at_hi sv lv q k w h (by omega) hk (by omega)
end Go.Proofs.YtnpeghaficghaaaGreatDoor
