/- words.Normal. -/
import Derived.Test.YtepooofiadlceaaDoorWdTurn
namespace Go.Proofs.YtepooofiadlceaaDoor
open Go.RowKit
attribute [local go_sem ↓] Go.wp_at_zero Go.wp_at_succ

theorem owns_keptF {F : List Nat} {W W' : World} {base : Nat} {e : TypeId} {size : Nat} {v : Value} {n : Nat} {xs : List Value} (h : W.ownsRow base e size v n xs) (k : Kept F W W') (hF : ∀ g, v.ownBlock = some g → g ∉ F) : W'.ownsRow base e size v n xs := by
  refine ⟨h.1, ?_⟩
  rcases h.2 with hn | ⟨g, cap, cur, rfl, hb, hgg, rest⟩
  · exact .inl hn
  · exact .inr ⟨g, cap, cur, rfl, hb, k.at hgg (hF g rfl), rest⟩
theorem owns_low {W : World} {base base' : Nat} {e : TypeId} {size : Nat} {v : Value} {n : Nat} {xs : List Value} (h : W.ownsRow base e size v n xs) (hb : base' ≤ base) : W.ownsRow base' e size v n xs := by
  refine ⟨h.1, ?_⟩
  rcases h.2 with hn | ⟨g, cap, cur, rfl, hb', rest⟩
  · exact .inl hn
  · exact .inr ⟨g, cap, cur, rfl, Nat.le_trans hb hb', rest⟩
theorem owns_lt {W : World} {base : Nat} {e : TypeId} {size : Nat} {v : Value} {n g : Nat} {xs : List Value} (h : W.ownsRow base e size v n xs) (hg : v.ownBlock = some g) : g < W.heap.size := by
  rcases h.2 with ⟨rfl, _⟩ | ⟨g', cap, cur, rfl, hb, hc, _⟩
  · cases hg
  · cases hg; exact lt_of hc
theorem own_form {W : World} {base : Nat} {e : TypeId} {size : Nat} {v : Value} {n : Nat} {xs : List Value} (h : W.ownsRow base e size v n xs) : ∃ ad c, v = .slice ad n c := by
  rcases h.2 with ⟨rfl, h0⟩ | ⟨g', cap, cur, rfl, _⟩
  · exact ⟨none, 0, by rw [h0]⟩
  · exact ⟨_, _, rfl⟩
/-- A word that a call has made: its letters lie in two rows of its own. -/
structure NewW (n₀ : Nat) (w' : World) (sv lv : Value) (r : Wd) : Prop where
  own1 : w'.ownsRow n₀ 23 1 sv r.stem.length (u16s r.stem)
  own2 : w'.ownsRow n₀ 23 1 lv r.loop.length (u16s r.loop)
  apart : ∀ g, sv.ownBlock = some g → lv.ownBlock ≠ some g
  small1 : ∀ x ∈ r.stem, x < 65536
  small2 : ∀ x ∈ r.loop, x < 65536
  few1 : r.stem.length ≤ 70368744177664
  few2 : r.loop.length ≤ 70368744177664
theorem NewW.lets1 {n₀ : Nat} {w' : World} {sv lv : Value} {r : Wd} (h : NewW n₀ w' sv lv r) : Lets w' sv r.stem := lets_own h.own1 h.small1 h.few1
theorem NewW.lets2 {n₀ : Nat} {w' : World} {sv lv : Value} {r : Wd} (h : NewW n₀ w' sv lv r) : Lets w' lv r.loop := lets_own h.own2 h.small2 h.few2
theorem NewW.keptF {n₀ : Nat} {F : List Nat} {W W' : World} {sv lv : Value} {r : Wd} (h : NewW n₀ W sv lv r) (k : Kept F W W') (hF : ∀ x ∈ F, x < n₀) : NewW n₀ W' sv lv r :=
  ⟨owns_keptF h.own1 k (fun g e hg => by have := own_base h.own1 e; have := hF g hg; omega), owns_keptF h.own2 k (fun g e hg => by have := own_base h.own2 e; have := hF g hg; omega), h.apart, h.small1, h.small2, h.few1, h.few2⟩
theorem NewW.kept {n₀ : Nat} {W W' : World} {sv lv : Value} {r : Wd} (h : NewW n₀ W sv lv r) (k : Kept [] W W') : NewW n₀ W' sv lv r := h.keptF k (by simp)
theorem NewW.low {n₀ n₁ : Nat} {W : World} {sv lv : Value} {r : Wd} (h : NewW n₀ W sv lv r) (hn : n₁ ≤ n₀) : NewW n₁ W sv lv r := ⟨owns_low h.own1 hn, owns_low h.own2 hn, h.apart, h.small1, h.small2, h.few1, h.few2⟩
/-- What Normal makes of a word. -/
def NormOf (q r : Wd) : Prop := (q.loop = [] → r = ⟨[], []⟩) ∧ (q.loop ≠ [] → r.Norm ∧ ∀ i, r.at i = q.at i)
def MadeNorm (w : World) (q : Wd) (e : Ending) (w' : World) : Prop :=
  ∃ sv lv r, e = .returned (.agg #[sv, lv]) ∧ NewW w.heap.size w' sv lv r ∧ NormOf q r ∧ Kept [] w w'
theorem new_zero (n₀ : Nat) (w : World) : NewW n₀ w (.slice none 0 0) (.slice none 0 0) ⟨[], []⟩ :=
  ⟨own_nil _ _, own_nil _ _, (fun g e => by cases e), by simp, by simp, by simp, by simp⟩

theorem two_new (w : World) (a b : Obj) : ((w.alloc a).alloc b).heap[w.heap.size]? = some a ∧ ((w.alloc a).alloc b).heap[w.heap.size + 1]? = some b := by
  refine ⟨by rw [Below.heap_alloc _ _ _ (by simp)]; exact heap_alloc_new _ _, ?_⟩
  have := heap_alloc_new (w.alloc a) b
  rwa [World.size_alloc] at this
/-- A word in a block of its own. -/
def Wd2 (W : World) (B : Nat) (a b : Value) : Prop := W.heap[B]? = some (.cells #[a, b] 41 (0, 0))
theorem Wd2.cells {W : World} {B : Nat} {a b : Value} (h : Wd2 W B a b) : W.cell? ⟨B, 0, none⟩ = some a ∧ W.cell? ⟨B, 1, none⟩ = some b ∧ W.frozen? ⟨B, 0, none⟩ = false ∧ W.frozen? ⟨B, 1, none⟩ = false :=
  ⟨(cell_of h 0).trans rfl, (cell_of h 1).trans rfl, free_of h 0, free_of h 1⟩
theorem Wd2.kept {W W' : World} {B : Nat} {a b : Value} (h : Wd2 W B a b) (k : Kept [] W W') : Wd2 W' B a b := k.at h (by simp)
theorem Wd2.set {W : World} {B : Nat} {a b : Value} (h : Wd2 W B a b) (a' b' : Value) : Wd2 ((W.setCell ⟨B, 0, none⟩ a').setCell ⟨B, 1, none⟩ b') B a' b' := by
  unfold Wd2; rw [row_set (row_set h a') b']; rfl
theorem ret_word {fn : Func} {p : Tmp} {a : Act} {w : World} {g : Nat} {x y : Value} {R : Ending → World → Prop} (h : fn.results = #[.cell p 41]) (hp : a.tmps.getD p undef = .pointer (some ⟨g, 0, none⟩)) (hd : a.defers = []) (hg : Wd2 w g x y) (hR : R (.returned (.agg #[x, y])) w) : bodyPost Tryd.prog fn R .ret a w :=
  bodyPost_ret (results_cell_row h _ w g 41 #[x, y] _ _ hp hg Tryd.underlying41 rfl (by kernel_rfl)) hd hR
theorem kept_set2 {w W : World} {B : Nat} (k : Kept [] w W) (hB : w.heap.size ≤ B) (a b : Value) : Kept [] w ((W.setCell ⟨B, 0, none⟩ a).setCell ⟨B, 1, none⟩ b) := (k.setCell (.inr hB) _).setCell (.inr hB) _
set_option maxHeartbeats 800000 in
theorem normal_none (sv : Value) (ad : Option Addr) (c : Nat) (st : List Nat) (w : World) (hs : Lets w sv st) :
    Calls Tryd.prog 28 #[.agg #[sv, .slice ad 0 c]] w (MadeNorm w ⟨st, []⟩) := by
  obtain ⟨ads, cs, rfl, _, _⟩ := hs.form
  clear hs
  have hN := two_new w (.cells #[.slice ads st.length cs, .slice ad 0 c] 41) (.cells #[.slice none 0 0, .slice none 0 0] 41)
  have HN : Hid _ := hN
  clear hN
  go_enter Tryd.func28, Tryd.ntmps28
  go_wp2_with (go_at_call 26; refine (endless_any _ _ _ _ _).mono ?_; rintro e w1 ⟨rfl, hk⟩; have hR : Wd2 w1 (w.heap.size + 1) (.slice none 0 0) (.slice none 0 0) := hk.at HN.out.2 (by simp); obtain ⟨c0, c1, f0, f1⟩ := hR.cells; have HR : Hid (Wd2 w1 (w.heap.size + 1) (.slice none 0 0) (.slice none 0 0)) := hR; have HK : Hid _ := hk; clear hk hR)
  refine ret_word rfl rfl rfl (HR.out.set _ _) ⟨_, _, ⟨[], []⟩, rfl, new_zero _ _, ⟨fun _ => rfl, fun h => absurd rfl h⟩, ?_⟩
  exact kept_set2 (Kept.trans (F := []) (G := []) (H := []) (((Kept.refl [] w).alloc _).alloc _) HK.out (by simp) (by simp)) (by simp) _ _

def slLen (v : Value) : Nat := match v with | .slice _ n _ => n | _ => 0
theorem Lets.takeA {W : World} {ads : Option Addr} {cs : Nat} {st : List Nat} (h : Lets W (.slice ads st.length cs) st) (m : Nat) (hm : m ≤ st.length) : Lets W (.slice ads m cs) (st.take m) := by
  rcases h.lie with ⟨e, rfl⟩ | ⟨b, o, c, e, _⟩
  · obtain rfl : m = 0 := by simpa using hm
    cases e
    exact Lets.nil W
  · cases e
    exact h.take m hm
theorem new_of {n₁ : Nat} {w2 w3 : World} {sv lv : Value} {r : Wd} (h1 : w2.ownsRow n₁ 23 1 sv r.stem.length (u16s r.stem)) (k : Kept [] w2 w3) (h2 : w3.ownsRow (w2.heap.size + 1) 23 1 lv r.loop.length (u16s r.loop)) (hn : n₁ ≤ w2.heap.size) (s1 : ∀ x ∈ r.stem, x < 65536) (s2 : ∀ x ∈ r.loop, x < 65536) (f1 : r.stem.length ≤ 70368744177664) (f2 : r.loop.length ≤ 70368744177664) : NewW n₁ w3 sv lv r :=
  ⟨owns_keptF h1 k (by simp), owns_low h2 (by omega), fun g e e2 => by have := owns_lt h1 e; have := own_base h2 e2; omega, s1, s2, f1, f2⟩
theorem turned_at {w W : World} {bl ol cl d first : Nat} {lq : List Nat} (k : Kept [] w W) (hl : Lets w (.slice (some ⟨bl, ol, none⟩) d cl) lq) (hd : lq.length = d) (hf : first ≤ d) :
    Calls Tryd.prog 44 #[.slice (some ⟨bl, ol, none⟩) d cl, .int .i64 first] W fun e w' => ∃ v', e = .returned v' ∧ w'.ownsRow (W.heap.size + 1) 23 1 v' (rot lq first).length (u16s (rot lq first)) ∧ Kept [] W w' := by
  subst hd
  exact turned_any bl ol cl first lq W (hl.kept k) hf
theorem rot_small {l : List Nat} {n : Nat} (h : ∀ x ∈ l, x < 65536) : ∀ x ∈ rot l n, x < 65536 := by
  intro x hx
  unfold rot at hx
  rcases List.mem_append.1 hx with h1 | h1
  · exact h x (List.mem_of_mem_drop h1)
  · exact h x (List.mem_of_mem_take h1)
/-- What the walk has come to at its end. -/
theorem made_norm {w wr w2 w3 : World} {st lp lq : List Nat} {m first : Nat} {sv lv : Value} (hC1 : ∀ i, (Wd.mk st lq).at i = (Wd.mk st lp).at i) (hC3 : Least (cyc lq) 0 lq.length) (h0 : 0 < lp.length) (hS : StripInv st lq m first) (he : m = 0 ∨ st.getD (m - 1) 0 ≠ lq.getD ((first + lq.length - 1) % lq.length) 0)
    (hk : Kept [] w wr) (hB : Wd2 wr (w.heap.size + 1) (.slice none 0 0) (.slice none 0 0)) (o1 : w2.ownsRow wr.heap.size 23 1 sv (st.take m).length (u16s (st.take m))) (k1 : Kept [] wr w2) (o2 : w3.ownsRow (w2.heap.size + 1) 23 1 lv (rot lq first).length (u16s (rot lq first))) (k2 : Kept [] w2 w3)
    (s1 : ∀ x ∈ st, x < 65536) (s2 : ∀ x ∈ lq, x < 65536) (f1 : st.length ≤ 70368744177664) (f2 : lq.length ≤ 70368744177664) :
    MadeNorm w ⟨st, lp⟩ (.returned (.agg #[sv, lv])) ((w3.setCell ⟨w.heap.size + 1, 0, none⟩ sv).setCell ⟨w.heap.size + 1, 1, none⟩ lv) ∧ Wd2 ((w3.setCell ⟨w.heap.size + 1, 0, none⟩ sv).setCell ⟨w.heap.size + 1, 1, none⟩ lv) (w.heap.size + 1) sv lv := by
  have k3 : Kept [] wr w3 := k1.trans k2 (by simp) (by simp)
  have hB3 := hB.kept k3
  have hlt : w.heap.size + 1 < wr.heap.size := lt_of hB
  have hn := new_of (r := ⟨st.take m, rot lq first⟩) o1 k2 o2 k1.size (fun x hx => s1 x (List.mem_of_mem_take hx)) (rot_small s2) (by show (st.take m).length ≤ _; rw [List.length_take]; omega) (by show (rot lq first).length ≤ _; rw [rot_length]; exact f2)
  have kF : Kept [w.heap.size + 1] w3 ((w3.setCell ⟨w.heap.size + 1, 0, none⟩ sv).setCell ⟨w.heap.size + 1, 1, none⟩ lv) := ((Kept.refl _ w3).setCell (.inl (by simp)) _).setCell (.inl (by simp)) _
  refine ⟨⟨sv, lv, ⟨st.take m, rot lq first⟩, rfl, (hn.keptF kF (by simpa using hlt)).low hk.size, ⟨fun e => ?_, fun _ => ⟨hS.norm hC3 he, fun i => (hS.same i).trans (hC1 i)⟩⟩, ?_⟩, hB3.set _ _⟩
  · have e' : lp = [] := e
    rw [e'] at h0; simp at h0
  · exact kept_set2 (hk.trans k3 (by simp) (by simp)) (by simp) _ _
theorem rem_last {first d : Nat} (h : first < d) : ∃ la : Nat, la = (first + d - 1) % d ∧ la < d ∧ ((first : Int) + (d : Int) - 1).tmod (d : Int) = (la : Int) ∧ ((first : Int) + (d : Int) - 1) % (d : Int) = (la : Int) := by
  refine ⟨(first + d - 1) % d, rfl, Nat.mod_lt _ (by omega), ?_, ?_⟩
  · rw [Int.tmod_eq_emod_of_nonneg (by omega)]; rw [show (first : Int) + (d : Int) - 1 = ((first + d - 1 : Nat) : Int) by omega]; rfl
  · rw [show (first : Int) + (d : Int) - 1 = ((first + d - 1 : Nat) : Int) by omega]; rfl
set_option maxHeartbeats 4000000 in
set_option maxRecDepth 10000 in
theorem normal_some (ads : Option Addr) (cs bl ol cl : Nat) (st lp : List Nat) (w : World) (hs : Lets w (.slice ads st.length cs) st) (hl : Lets w (.slice (some ⟨bl, ol, none⟩) lp.length cl) lp) (h0 : 0 < lp.length) (hf : st.length + lp.length ≤ 70368744177664) :
    Calls Tryd.prog 28 #[.agg #[.slice ads st.length cs, .slice (some ⟨bl, ol, none⟩) lp.length cl]] w (MadeNorm w ⟨st, lp⟩) := by
  obtain ⟨d, hd⟩ := least_some lp.length h0 (cyc_per lp)
  obtain ⟨hc1, hc2, hc3⟩ := at_cut (st := st) h0 hd
  have hdl : d ≤ lp.length := Nat.le_of_dvd h0 (hd.dvd (cyc_per lp))
  have hd0 := hd.1
  obtain ⟨lq, hlq⟩ : ∃ lq, lp.take d = lq := ⟨_, rfl⟩
  rw [hlq] at hc1 hc2 hc3
  have hN := two_new w (.cells #[.slice ads st.length cs, .slice (some ⟨bl, ol, none⟩) lp.length cl] 41) (.cells #[.slice none 0 0, .slice none 0 0] 41)
  obtain ⟨_, fl1, fl2⟩ := lets_form hl
  have fs : st.length ≤ cs ∧ cs ≤ 9223372036854775807 := by
    obtain ⟨_, _, e, h1, h2⟩ := hs.form
    cases e
    unfold maxLen at h2
    exact ⟨h1, by omega⟩
  obtain ⟨fs1, fs2⟩ := fs
  have HS : Hid (Lets w (.slice ads st.length cs) st) := hs
  have HL : Hid (Lets w (.slice (some ⟨bl, ol, none⟩) lp.length cl) lp) := hl
  have HN : Hid _ := hN
  have HD : Hid (Least (cyc lp) 0 d) := hd
  have HC1 : Hid (∀ i, (Wd.mk st lq).at i = (Wd.mk st lp).at i) := hc1
  have HC2 : Hid (lq.length = d) := hc2
  have HC3 : Hid (Least (cyc lq) 0 lq.length) := hc3
  have HLQ : Hid (lp.take d = lq) := hlq
  have HST : Hid (StripInv st lq st.length 0) := StripInv.start st lq (by rw [hc2]; exact hd0)
  have b1 : (0 : Int) < (lp.length : Int) := by omega
  have b2 : (0 : Int) ≤ (d : Int) := by omega
  have b3 : (d : Int) ≤ (cl : Int) := by omega
  have b4 : decide (0 < lp.length) = true := by simpa using h0
  clear hs hl hN hd hc1 hc2 hc3 hlq
  go_enter Tryd.func28, Tryd.ntmps28
  go_wp2_with (go_at_call 26; refine (endless_any _ _ _ _ _).mono ?_; rintro e w1 ⟨rfl, hk⟩; rw [b4]; have hR := hk.at HN.out.1 (by simp); have c0 : w1.cell? ⟨w.heap.size, 0, none⟩ = some (.slice ads st.length cs) := (cell_of hR 0).trans rfl; have c1 : w1.cell? ⟨w.heap.size, 1, none⟩ = some (.slice (some ⟨bl, ol, none⟩) lp.length cl) := (cell_of hR 1).trans rfl; have HK : Hid (Kept [] w w1) := Kept.trans (F := []) (G := []) (H := []) (((Kept.refl [] w).alloc _).alloc _) hk (by simp) (by simp); have HB : Hid (Wd2 w1 (w.heap.size + 1) (.slice none 0 0) (.slice none 0 0)) := hk.at HN.out.2 (by simp); clear hk hR)
  have HP : Hid (∀ q, Calls Tryd.prog 42 #[.slice (some ⟨bl, ol, none⟩) lp.length cl] (w1.drewN q) fun e w' => e = .returned (.int .i64 (d : Nat)) ∧ ∃ k, w' = (w1.drewN q).drewN k) := fun q => period_any bl ol cl d lp _ (HL.out.kept (HK.out.drewN q)) h0 HD.out
  go_quiet ((go_at_call 42; exact Calls.quiet_of (HP.out _)))
  clear c0 c1 HP
  go_wp2_with fail
  go_loopw [3, 5, 6] (fun s f _ wr => ∃ m first : Nat, s = .slice ads m cs ∧ f = .int .i64 first ∧ Hid (StripInv st lq m first) ∧ Hid (Kept [] w wr) ∧ Hid (Wd2 wr (w.heap.size + 1) (.slice none 0 0) (.slice none 0 0))) (fun s _ _ _ => slLen s)
  case atStart => exact ⟨_, 0, rfl, rfl, HST.out, HK.out.drewN _, HB.out.kept ((Kept.refl [] w1).drewN _)⟩
  case round =>
    obtain ⟨m, first, rfl, rfl, HI, HK2, HB2⟩ := hrel
    have hm := HI.out.le
    have hfl := HI.out.lt
    rw [HC2.out] at hfl
    clear HK HB HST HN
    by_cases h1 : 0 < m
    · obtain ⟨k, rfl⟩ : ∃ k, m = k + 1 := ⟨m - 1, by omega⟩
      obtain ⟨la, hla, hla2, x1, x2⟩ := rem_last hfl
      obtain ⟨bs, os, cs', e, _, _, hcells⟩ := HS.out.there (by omega)
      simp only [Value.slice.injEq] at e
      obtain ⟨e1, _, e2⟩ := e
      subst e1 e2
      have y1 : wr.cell? ⟨bs, os + k, none⟩ = some (.int .u16 (st.getD k 0 : Nat)) := cell_kept0 HK2.out (hcells k (by omega))
      have y2 : wr.cell? ⟨bl, ol + la, none⟩ = some (.int .u16 (lq.getD la 0 : Nat)) := by
        obtain ⟨_, _, _, e, _, _, hc⟩ := HL.out.there h0
        cases e
        rw [← HLQ.out, getD_take _ _ _ hla2]
        exact cell_kept0 HK2.out (hc la (by omega))
      have HLA : Hid (la = (first + lq.length - 1) % lq.length) := by show la = _; rw [HC2.out]; exact hla
      clear hla hcells
      have z1 : (0 : Int) ≤ (k : Int) := by omega
      have z2 : (k : Int) < ((k + 1 : Nat) : Int) := by omega
      have z3 : (0 : Int) ≤ (la : Int) := by omega
      have z4 : (la : Int) < (d : Int) := by omega
      have z5 : (0 : Int) < ((k + 1 : Nat) : Int) := by omega
      have z6 : ¬ ((d : Int) = 0) := by omega
      have z7 : ¬ (d = 0) := by omega
      have z8 : (k : Int) ≤ (cs : Int) := by omega
      by_cases hc : st.getD k 0 = lq.getD la 0
      · have HSN : Hid (StripInv st lq k la) := by
          have := HI.out.step (by omega) (by rw [← HLA.out]; exact hc)
          rw [← HLA.out] at this
          exact this
        rw [← hc] at y2
        generalize st.getD k 0 = x at y1 y2
        have hne : ((x : Int) != (x : Int)) = false := by simp
        clear hc
        go_wp2_with fail
        go_quiet (fail)
        go_wp2
        go_roundw
        case rel => exact ⟨k, la, rfl, rfl, HSN.out, HK2.out.drewN _, HB2.out.kept ((Kept.refl [] wr).drewN _)⟩
        case measure => simp [slLen]
      · have HSE : Hid (st.getD (k + 1 - 1) 0 ≠ lq.getD ((first + lq.length - 1) % lq.length) 0) := by
          show st.getD k 0 ≠ _
          rw [← HLA.out]; exact hc
        generalize st.getD k 0 = x at y1 hc
        generalize lq.getD la 0 = y at y2 hc
        have hne : ((x : Int) != (y : Int)) = true := by simp; omega
        clear hc
        go_wp2_with fail
        go_quiet (fail)
        have HK5 : Hid (Kept [] w (wr.drewN nq)) := HK2.out.drewN nq
        have HB5 : Hid (Wd2 (wr.drewN nq) (w.heap.size + 1) (.slice none 0 0) (.slice none 0 0)) := HB2.out.kept ((Kept.refl [] wr).drewN nq)
        have HE : Hid (Lets (wr.drewN nq) (.slice (some ⟨bs, os, none⟩) (k + 1) cs) (st.take (k + 1))) := (HS.out.takeA (k + 1) (by omega)).kept HK5.out
        go_wp2_with (first | (go_at_call 43; refine (copied_any _ _ _ HE.out).mono ?_; rintro e w2 ⟨v2, rfl, o1, k1, _⟩; obtain ⟨a2, c2, hv2⟩ := own_form o1; subst hv2; have HO1 : Hid _ := o1; have HK1 : Hid (Kept [] (wr.drewN nq) w2) := k1; clear o1 k1) | (go_at_call 44; refine (turned_at (w := w) (lq := lq) (HK5.out.trans HK1.out (by simp) (by simp)) ?_ HC2.out (by omega)).mono ?_; (· rw [← HLQ.out]; exact HL.out.take d (by omega)); rintro e w3 ⟨v3, rfl, o2, k2⟩; obtain ⟨a3, c3, hv3⟩ := own_form o2; subst hv3; have HO2 : Hid _ := o2; have HK3 : Hid (Kept [] w2 w3) := k2; clear o2 k2; obtain ⟨d0, d1, f0, f1⟩ := ((HB5.out.kept HK1.out).kept HK3.out).cells))
        obtain ⟨q1, q2⟩ := made_norm (m := k + 1) HC1.out HC3.out h0 HI.out (.inr HSE.out) HK5.out HB5.out HO1.out HK1.out HO2.out HK3.out HS.out.small (fun x hx => HL.out.small x (by rw [← HLQ.out] at hx; exact List.mem_of_mem_take hx)) (by omega) (by rw [HC2.out]; omega)
        rw [show (st.take (k + 1)).length = k + 1 by rw [List.length_take]; omega] at q1 q2
        exact ret_word rfl rfl rfl q2 q1
    · obtain rfl : m = 0 := by omega
      have HE : Hid (Lets wr (.slice ads 0 cs) (st.take 0)) := (HS.out.takeA 0 (by omega)).kept HK2.out
      go_wp2_with (first | (go_at_call 43; refine (copied_any _ _ _ HE.out).mono ?_; rintro e w2 ⟨v2, rfl, o1, k1, _⟩; obtain ⟨a2, c2, hv2⟩ := own_form o1; subst hv2; have HO1 : Hid _ := o1; have HK1 : Hid (Kept [] wr w2) := k1; clear o1 k1) | (go_at_call 44; refine (turned_at (w := w) (lq := lq) (HK2.out.trans HK1.out (by simp) (by simp)) ?_ HC2.out (by omega)).mono ?_; (· rw [← HLQ.out]; exact HL.out.take d (by omega)); rintro e w3 ⟨v3, rfl, o2, k2⟩; obtain ⟨a3, c3, hv3⟩ := own_form o2; subst hv3; have HO2 : Hid _ := o2; have HK3 : Hid (Kept [] w2 w3) := k2; clear o2 k2; obtain ⟨d0, d1, f0, f1⟩ := ((HB2.out.kept HK1.out).kept HK3.out).cells))
      obtain ⟨q1, q2⟩ := made_norm (m := 0) HC1.out HC3.out h0 HI.out (.inl rfl) HK2.out HB2.out HO1.out HK1.out HO2.out HK3.out HS.out.small (fun x hx => HL.out.small x (by rw [← HLQ.out] at hx; exact List.mem_of_mem_take hx)) (by omega) (by rw [HC2.out]; omega)
      exact ret_word rfl rfl rfl q2 q1

/-- words.Normal, of whatever word. -/
theorem normal_any (sv lv : Value) (q : Wd) (w : World) (hs : Lets w sv q.stem) (hl : Lets w lv q.loop) (hf : q.stem.length + q.loop.length ≤ 70368744177664) :
    Calls Tryd.prog 28 #[.agg #[sv, lv]] w (MadeNorm w q) := by
  obtain ⟨st, lp⟩ := q
  by_cases h0 : 0 < lp.length
  · obtain ⟨b, o, c, rfl, _⟩ := hl.there h0
    obtain ⟨ad, cs, rfl, _⟩ := hs.form
    exact normal_some ad cs b o c st lp w hs hl h0 hf
  · obtain rfl : lp = [] := List.length_eq_zero_iff.1 (by omega)
    obtain ⟨ad, c, rfl, _⟩ := hl.form
    exact normal_none sv ad c st w hs
end Go.Proofs.YtepooofiadlceaaDoor
