/- words.All: the iterator. -/
import Derived.Test.YtamfnefnaelgfaaDoorWdShapeX
namespace Go.Proofs.YtamfnefnaelgfaaDoor
open Go.RowKit Go.Shelf
attribute [local go_sem ↓] Go.wp_at_zero Go.wp_at_succ

theorem YieldAt.anyDepth {F : Fence} (hd : F.depth = none) {m : Nat} (m' : Nat) {P : Program} {l : Nat} {args : Array Value} {W : World} {R : Ending → World → Prop} (h : YieldAt F m P l args W R) : YieldAt F m' P l args W R := by
  obtain ⟨fn, tmps, assign, body, hy, h1, h2⟩ := h
  exact ⟨fn, tmps, assign, body, hy, h1, fun c cs _ => h2 c cs (fun d h => by rw [hd] at h; cases h)⟩
/-- All normal words of so many places. -/
def ofPlaces (below p : Nat) (s : Nat) : List Wd := (List.range s).flatMap fun s => ext below s p []
def allTo (below n : Nat) : List Wd := (List.range n).flatMap fun p => ofPlaces below (p + 1) (p + 1)
def allW (props size : Nat) : List Wd := allTo (2 ^ props) size
theorem ofPlaces_succ (below p s : Nat) : ofPlaces below p (s + 1) = ofPlaces below p s ++ ext below s p [] := by
  unfold ofPlaces; rw [List.range_succ, List.flatMap_append]; simp
theorem allTo_succ (below n : Nat) : allTo below (n + 1) = allTo below n ++ ofPlaces below (n + 1) (n + 1) := by
  unfold allTo; rw [List.range_succ, List.flatMap_append]; simp
theorem ofPlaces_prefix (below p s t : Nat) (h : s ≤ t) : ofPlaces below p s <+: ofPlaces below p t := by
  obtain ⟨m, rfl⟩ : ∃ m, t = s + m := ⟨t - s, by omega⟩
  unfold ofPlaces; rw [List.range_add, List.flatMap_append]; exact List.prefix_append _ _
theorem allTo_prefix (below n m : Nat) (h : n ≤ m) : allTo below n <+: allTo below m := by
  obtain ⟨k, rfl⟩ : ∃ k, m = n + k := ⟨m - n, by omega⟩
  unfold allTo; rw [List.range_add, List.flatMap_append]; exact List.prefix_append _ _
theorem step_prefix (below n p s : Nat) (hp : p < n) (hs : s ≤ p) : allTo below p ++ ofPlaces below (p + 1) s ++ ext below s (p + 1) [] <+: allTo below n := by
  refine List.IsPrefix.trans ?_ (allTo_prefix below (p + 1) n hp)
  rw [allTo_succ, List.append_assoc, List.prefix_append_right_inj, ← ofPlaces_succ]
  exact ofPlaces_prefix below (p + 1) (s + 1) (p + 1) (by omega)
/-- What All's function value leans on. -/
structure AllAt (Bz Bq size props : Nat) (W : World) : Prop where
  bz : Boxed W Bz 3 (.int .i64 (size : Nat))
  bq : Boxed W Bq 3 (.int .i64 (props : Nat))
theorem AllAt.kpx {Bz Bq size props : Nat} {W W' : World} (h : AllAt Bz Bq size props W) (k : KpX (fun k => k = Bz ∨ k = Bq) W W') : AllAt Bz Bq size props W' := ⟨k.own _ _ (.inl rfl) h.bz, k.own _ _ (.inr rfl) h.bq⟩
/-- How far the loops have come. -/
def AllSo (Bz Bq : Nat) (J : (Nat → Prop) → List Nw → World → Prop) (X : Nat → Prop) (W : World) (lst : List Wd) (wr : World) : Prop :=
  ∃ X' xs, (∀ k, X k → X' k) ∧ KpX (fun k => k = Bz ∨ k = Bq) W wr ∧ J X' xs wr ∧ (∀ k, X' k → k < wr.heap.size) ∧ xs.map Nw.q = lst
set_option maxHeartbeats 4000000 in
set_option maxRecDepth 20000 in
theorem all_goes (m Bz Bq size props : Nat) (w : World) (hA : AllAt Bz Bq size props w) (hs : size ≤ 1000) (hp : props ≤ 8) :
    GoesAtX Fence.wide m Tryd.prog 24 #[.pointer (some ⟨Bz, 0, none⟩), .pointer (some ⟨Bq, 0, none⟩)] nwV (NwAt (allW props size)) (fun k => k = Bz ∨ k = Bq) (fun _ => False) (fun xs => xs.map Nw.q = allW props size) (fun pre => pre.map Nw.q <+: allW props size) (allW props size).length w := by
  have hbl : 2 ^ props ≤ 256 := Nat.le_trans (Nat.pow_le_pow_right (by omega) hp) (by decide)
  unfold allW
  obtain ⟨b, hb⟩ : ∃ b, 2 ^ props = b := ⟨_, rfl⟩
  have z4 : IntKind.u16.wrap ((2 : Int) ^ props) = (b : Int) := by
    have e : (2 : Int) ^ props = (b : Int) := by rw [← hb, Int.natCast_pow]; rfl
    rw [e]
    simp only [IntKind.wrap, IntKind.bits, IntKind.signed]
    simp
    omega
  rw [hb] at hbl ⊢
  clear hb
  intro l J Jx X W hW hJ hJx hY h0 hX0 hX
  have hAW : AllAt Bz Bq size props W := ⟨(hW.block _ hA.bz.lt).trans hA.bz, (hW.block _ hA.bq.lt).trans hA.bq⟩
  have HA : Hid (AllAt Bz Bq size props W) := hAW
  have HSH : Hid (∀ (stem places : Nat) (X : Nat → Prop) (pre : List Nw) (W1 : World), stem < places → places ≤ 1000 → AllAt Bz Bq size props W1 → J X pre W1 → (∀ k, X k → k < W1.heap.size) → pre.length + (ext b stem places []).length ≤ (allTo b size).length → (∀ y ∈ ext b stem places [], y ∈ allTo b size) →
      Calls Tryd.prog 25 #[.int .i64 (stem : Nat), .int .i64 (places : Nat), .int .u16 (b : Nat), .func (.yield l) #[] #[]] W1 (ShapeEnds (fun k => k = Bz ∨ k = Bq) J Jx (ext b stem places []) pre X W1)) := fun stem places X pre W1 h1 h2 h3 h4 h5 h6 h7 =>
    shape_any (L := allTo b size) hJ (fun m' X pre x W1 a b c d _ => YieldAt.anyDepth rfl m' (hY X pre x W1 a b c d)) h1 h2 hbl X pre W1 (fun k hk => by rcases hk with rfl | rfl; exact h3.bz.lt; exact h3.bq.lt) h4 h5 h6 h7
  have H0 : Hid (AllSo Bz Bq J X W (allTo b 0) W) := ⟨X, [], fun _ h => h, KpX.refl _ _, h0, hX, rfl⟩
  clear hJ hJx hY h0 hX0 hX hA hW hAW
  refine callsIn_wide.2 ?_
  go_enter Tryd.func24, Tryd.ntmps24
  go_wp2_with fail
  go_loopw [4, 5, 12] (fun a _ _ wr => ∃ P : Nat, a = .int .i64 (P : Nat) ∧ 1 ≤ P ∧ P ≤ size + 1 ∧ Hid (AllSo Bz Bq J X W (allTo b (P - 1)) wr)) (fun a _ _ _ => size + 1 - (intOf a).toNat)
  case atStart => exact ⟨1, rfl, by omega, by omega, H0.out⟩
  case round =>
    obtain ⟨P, rfl, hP1, hP2, HSO⟩ := hrel
    have hAr : AllAt Bz Bq size props wr := by obtain ⟨_, _, _, q, _⟩ := HSO.out; exact HA.out.kpx q
    have c1 := hAr.bz.cell
    have c2 := hAr.bq.cell
    clear hAr
    by_cases hlt : P ≤ size
    · have z1 : (P : Int) ≤ (size : Int) := by omega
      go_wp2_with fail
      go_loopw [5, 12] (fun _ q w2 => ∃ s : Nat, q = .int .i64 (s : Nat) ∧ s ≤ P ∧ Hid (AllSo Bz Bq J X W (allTo b (P - 1) ++ ofPlaces b P s) w2)) (fun _ q _ => P - (intOf q).toNat)
      case atStart => exact ⟨0, rfl, Nat.zero_le _, by rw [show ofPlaces b P 0 = [] from rfl, List.append_nil]; exact HSO.out⟩
      case round =>
        obtain ⟨s, rfl, hs2, HSO2⟩ := hrel
        clear c1 c2
        obtain ⟨X2, xs, hX2, hT2, hJ2, hXL2, hxs⟩ := HSO2.out
        have hAr := HA.out.kpx hT2
        have c1 := hAr.bz.cell
        have c2 := hAr.bq.cell
        by_cases hlt2 : s < P
        · have z2 : (s : Int) < (P : Int) := by omega
          have z3 : (0 : Int) ≤ (props : Int) := by omega
          obtain ⟨p, hp'⟩ : ∃ p, P = p + 1 := ⟨P - 1, by omega⟩
          have hpre : allTo b (P - 1) ++ ofPlaces b P s ++ ext b s P [] <+: allTo b size := by
            rw [hp', show p + 1 - 1 = p by omega]
            exact step_prefix b size p s (by omega) (by omega)
          have hlen4 : xs.length + (ext b s P []).length ≤ (allTo b size).length := by
            have q1 := hpre.length_le
            rw [List.length_append, ← hxs, List.length_map] at q1
            exact q1
          have HC : Hid (Calls Tryd.prog 25 #[.int .i64 (s : Nat), .int .i64 (P : Nat), .int .u16 (b : Nat), .func (.yield l) #[] #[]] wr (ShapeEnds (fun k => k = Bz ∨ k = Bq) J Jx (ext b s P []) xs X2 wr)) := HSH.out s P X2 xs wr hlt2 (by omega) hAr hJ2 hXL2 hlen4 (fun y hy => hpre.subset (List.mem_append_right _ hy))
          have HPRE : Hid (allTo b (P - 1) ++ ofPlaces b P s ++ ext b s P [] <+: allTo b size) := hpre
          have HXS : Hid (xs.map Nw.q = allTo b (P - 1) ++ ofPlaces b P s) := hxs
          have HX2 : Hid _ := hX2
          have HT2 : Hid (KpX (fun k => k = Bz ∨ k = Bq) W wr) := hT2
          clear hX2 hT2 hJ2 hXL2 hxs hAr hpre hlen4 hp'
          go_wp2_with fail
          refine HC.out.mono ?_
          rintro e W5 (⟨rfl, X5, ys, hX5, hT5, hJ5, hXL5, hys⟩ | ⟨rfl, X5, ys, hJx5, hys⟩)
          · have HREL : Hid (AllSo Bz Bq J X W (allTo b (P - 1) ++ ofPlaces b P (s + 1)) W5) := by
              refine ⟨X5, xs ++ ys, fun k h => hX5 k (HX2.out k h), HT2.out.trans hT5, hJ5, hXL5, ?_⟩
              rw [List.map_append, HXS.out, hys, ofPlaces_succ, List.append_assoc]
            clear hX5 hT5 hJ5 hXL5 hys
            go_wp2
            go_roundw
            case rel => exact ⟨s + 1, by go_num, by omega, HREL.out⟩
            case measure => simp [intOf]; omega
          · have HPF : Hid ((xs ++ ys).map Nw.q <+: allTo b size) := by
              refine List.IsPrefix.trans ?_ HPRE.out
              rw [List.map_append, HXS.out, List.prefix_append_right_inj]
              exact hys
            have HJX : Hid (Jx X5 (xs ++ ys) W5) := hJx5
            clear hys hJx5
            go_wp2
            refine bodyPost_ret (results_none rfl _ _ _) rfl ?_
            exact ⟨⟨_, rfl⟩, .inr ⟨xs ++ ys, X5, HPF.out, HJX.out⟩⟩
        · obtain rfl : s = P := by omega
          have z2 : ¬ ((s : Int) < (s : Int)) := by omega
          have HREL : Hid (AllSo Bz Bq J X W (allTo b (s + 1 - 1)) wr) := by
            have e : allTo b (s + 1 - 1) = allTo b (s - 1) ++ ofPlaces b s s := by
              obtain ⟨p, rfl⟩ : ∃ p, s = p + 1 := ⟨s - 1, by omega⟩
              rw [show p + 1 + 1 - 1 = p + 1 by omega, show p + 1 - 1 = p by omega, allTo_succ]
            rw [e]
            exact HSO2.out
          clear hX2 hT2 hJ2 hXL2 hxs hAr
          go_wp2
          go_roundw
          case rel => exact ⟨s + 1, by go_num, by omega, by omega, HREL.out⟩
          case measure => simp [intOf]; omega
    · obtain rfl : P = size + 1 := by omega
      have z1 : ¬ (((size + 1 : Nat) : Int) ≤ (size : Int)) := by omega
      obtain ⟨X2, xs, _, _, hJ2, _, hxs⟩ := HSO.out
      have HJ2 : Hid (J X2 xs wr) := hJ2
      have HXS : Hid (xs.map Nw.q = allTo b size) := hxs
      clear hJ2 hxs
      go_wp2
      go_end0
      exact ⟨⟨_, rfl⟩, .inl ⟨xs, HXS.out, X2, HJ2.out⟩⟩
end Go.Proofs.YtamfnefnaelgfaaDoor

/- words.All. -/
namespace Go.Proofs.YtamfnefnaelgfaaDoor
open Go.RowKit Go.Shelf
attribute [local go_sem ↓] Go.wp_at_zero Go.wp_at_succ

set_option maxHeartbeats 800000 in
theorem all_any (props size : Nat) (w : World) (hp : props ≤ 8) (h1 : 1 ≤ size) (_hs : size ≤ 1000) :
    Calls Tryd.prog 7 #[.int .i64 (props : Nat), .int .i64 (size : Nat)] w fun e w' => e = .returned (.func (.func 24) #[] #[.pointer (some ⟨w.heap.size + 1, 0, none⟩), .pointer (some ⟨w.heap.size, 0, none⟩)]) ∧ Hid (AllAt (w.heap.size + 1) w.heap.size (if props = 0 then 1 else size) props w') ∧ Hid (Kept [] w w') := by
  have hb : (decide (0 ≤ (props : Int)) && decide ((props : Int) ≤ 8)) = true := by simp; omega
  have HG : Hid (∀ W, Calls Tryd.prog 23 #[.int .i64 props] W fun e w' => e = .returned (.bool true) ∧ w' = W) := fun W => by have := goodProps_any props W; rw [hb] at this; exact this
  clear hb
  by_cases h0 : props = 0
  · subst h0
    rw [if_pos rfl]
    have z1 : ¬ ((size : Int) < 1) := by omega
    have z2 : (1 : Int) ≤ (size : Int) := by omega
    go_enter Tryd.func7, Tryd.ntmps7
    go_wp2_with (go_at_call 23; refine (HG.out _).mono ?_; rintro e w1 ⟨rfl, rfl⟩)
    have hN := two_new w (.cells #[.int .i64 0] 3) (.cells #[.int .i64 (min (size : Int) 1)] 3)
    go_ret
    have e : min (size : Int) 1 = ((1 : Nat) : Int) := by omega
    rw [e] at hN ⊢
    exact ⟨rfl, ⟨hN.2, hN.1⟩, ((Kept.refl [] w).alloc _).alloc _⟩
  · rw [if_neg h0]
    have z1 : ((props : Int) == 0) = false := by simp; exact h0
    clear h0
    go_enter Tryd.func7, Tryd.ntmps7
    go_wp2_with (go_at_call 23; refine (HG.out _).mono ?_; rintro e w1 ⟨rfl, rfl⟩)
    go_ret
    have hN := two_new w (.cells #[.int .i64 (props : Nat)] 3) (.cells #[.int .i64 (size : Nat)] 3)
    exact ⟨rfl, ⟨hN.2, hN.1⟩, ((Kept.refl [] w).alloc _).alloc _⟩
end Go.Proofs.YtamfnefnaelgfaaDoor

/- The chapter's examples, call by call. -/
namespace Go.Proofs.YtamfnefnaelgfaaDoor
open Go.RowKit Go.Shelf Go.Lib

theorem norm_is {q r c : Wd} (h : NormOf q r) (hq : 0 < q.loop.length) (hc0 : 0 < c.loop.length) (hc : normB c = true) (hs : sameB c q = true) : r = c := by
  obtain ⟨h1, h2⟩ := h.2 (fun e => by rw [e] at hq; simp at hq)
  refine h1.unique ((normB_iff hc0).1 hc) (fun i => ?_)
  rw [h2, ← (sameB_iff hc0 hq).1 hs]
/-- Letters that a text lays. -/
theorem lets_lit {W : World} {b : Nat} {xs : List Nat} (h : W.heap[b]? = some (.cells (u16s xs).toArray 51 (0, 0))) (hs : ∀ x ∈ xs, x < 65536) (hl : xs.length ≤ 100) : Lets W (.slice (some ⟨b, 0, none⟩) xs.length xs.length) xs := by
  refine ⟨hs, by omega, .inr ⟨b, 0, xs.length, rfl, Nat.le_refl _, by unfold maxLen; omega, fun i hi => ?_⟩⟩
  rw [Nat.zero_add, cell_of h i]
  simp [u16s, hi]
/-- A word that comes back, known. -/
def Gives (W : World) (c : Wd) (e : Ending) (w' : World) : Prop := ∃ a1 c1 a2 c2, e = .returned (.agg #[.slice a1 c.stem.length c1, .slice a2 c.loop.length c2]) ∧ IsW w' (.slice a1 c.stem.length c1) (.slice a2 c.loop.length c2) c ∧ Kept [] W w'
theorem gives_of {W : World} {q c : Wd} {f : Nat} {args : Array Value} (h : Calls Tryd.prog f args W (MadeNorm W q)) (hq : 0 < q.loop.length) (hc0 : 0 < c.loop.length) (hc : normB c = true) (hs : sameB c q = true) (hl : c.stem.length + c.loop.length ≤ 100) : Calls Tryd.prog f args W (Gives W c) := by
  refine h.mono ?_
  rintro e w' ⟨sv, lv, r, rfl, hn, ho, hk⟩
  obtain rfl := norm_is ho hq hc0 hc hs
  obtain ⟨a1, c1, e1⟩ := own_form hn.own1
  obtain ⟨a2, c2, e2⟩ := own_form hn.own2
  subst e1 e2
  exact ⟨a1, c1, a2, c2, rfl, ⟨hn.lets1, hn.lets2, by omega⟩, hk⟩
theorem showB_1 : showB ⟨[1], [2, 3]⟩ = [49, 32, 40, 50, 32, 51, 41] := by simp [showB, stemB, loopB, sepB, decDigits_one, List.range_succ]
theorem showB_2 : showB ⟨[], [4, 3]⟩ = [40, 52, 32, 51, 41] := by simp [showB, stemB, loopB, sepB, decDigits_one, List.range_succ]
theorem readF_1 : readF [32, 49, 32, 50, 40, 51, 32, 32, 52, 32, 41, 32] = (some ⟨[1, 2], [3, 4]⟩, 0) := by kernel_rfl
theorem readF_2 : readF [40, 48, 49, 41] = (none, 2) := by kernel_rfl
end Go.Proofs.YtamfnefnaelgfaaDoor

/- The chapter's examples: the calls, and the loop over words. -/
namespace Go.Proofs.YtamfnefnaelgfaaDoor
open Go.RowKit Go.Shelf Go.Lib
attribute [local go_sem] Oper.semAt_some

theorem isW_lit (w : World) (xs ys : List Nat) (hx : ∀ x ∈ xs, x < 65536) (hy : ∀ x ∈ ys, x < 65536) (lx : xs.length ≤ 100) (ly : ys.length ≤ 100) : IsW ((w.alloc (.cells (u16s xs).toArray 51)).alloc (.cells (u16s ys).toArray 51)) (.slice (some ⟨w.heap.size, 0, none⟩) xs.length xs.length) (.slice (some ⟨w.heap.size + 1, 0, none⟩) ys.length ys.length) ⟨xs, ys⟩ :=
  ⟨lets_lit (alUp (al0 w _) _) hx lx, lets_lit (al1 w _ _) hy ly, by show xs.length + ys.length ≤ _; omega⟩
theorem tab_below {w W : World} (h : PowTab w) (hB : Below w.heap.size w W) : PowTab W := Go.Joins.tab_stays Tryd.globPow h hB (Nat.le_refl _)
def c12 (w : World) : World := (w.alloc (.cells #[.int .u16 1, .int .u16 2] 51)).alloc (.cells #[.int .u16 3, .int .u16 2, .int .u16 3, .int .u16 2] 51)
theorem wk_normal (w W : World) (k : Kept [] (c12 w) W) : Calls Tryd.prog 11 #[.agg #[.slice (some ⟨w.heap.size, 0, none⟩) 2 2, .slice (some ⟨w.heap.size + 1, 0, none⟩) 4 4]] W fun e w1 => ∃ a1 c1 a2 c2, e = .returned (.agg #[.slice a1 1 c1, .slice a2 2 c2]) ∧ Hid (IsW w1 (.slice a1 1 c1) (.slice a2 2 c2) ⟨[1], [2, 3]⟩) ∧ Hid (Kept [] W w1) := by
  have h : IsW W (.slice (some ⟨w.heap.size, 0, none⟩) 2 2) (.slice (some ⟨w.heap.size + 1, 0, none⟩) 4 4) ⟨[1, 2], [3, 2, 3, 2]⟩ := (isW_lit w [1, 2] [3, 2, 3, 2] (by decide) (by decide) (by decide) (by decide)).kept k
  exact (gives_of (c := ⟨[1], [2, 3]⟩) (normal_any _ _ ⟨[1, 2], [3, 2, 3, 2]⟩ W h.st h.lp h.few) (by decide) (by decide) (by decide) (by decide) (by decide)).mono fun e w1 h => h
theorem wk_show1 {w1 : World} {a1 a2 : Option Addr} {c1 c2 : Nat} (h : IsW w1 (.slice a1 1 c1) (.slice a2 2 c2) ⟨[1], [2, 3]⟩) (W : World) (k : Kept [] w1 W) (ht : PowTab W) : Calls Tryd.prog 12 #[.agg #[.slice a1 1 c1, .slice a2 2 c2]] W fun e W' => e = .returned (.string ⟨#[49, 32, 40, 50, 32, 51, 41]⟩) ∧ Hid (Kept [] W W') := by
  have := show_any _ _ _ W (h.kept k) (by decide) ht
  rw [showB_1] at this
  exact this
theorem wk_show2 {w1 : World} {a1 a2 : Option Addr} {c1 c2 : Nat} (h : IsW w1 (.slice a1 0 c1) (.slice a2 2 c2) ⟨[], [4, 3]⟩) (W : World) (k : Kept [] w1 W) (ht : PowTab W) : Calls Tryd.prog 12 #[.agg #[.slice a1 0 c1, .slice a2 2 c2]] W fun e W' => e = .returned (.string ⟨#[40, 52, 32, 51, 41]⟩) ∧ Hid (Kept [] W W') := by
  have := show_any _ _ _ W (h.kept k) (by decide) ht
  rw [showB_2] at this
  exact this
def c34 (w : World) : World := (w.alloc (.cells #[.int .u16 1, .int .u16 2] 51)).alloc (.cells #[.int .u16 3, .int .u16 4] 51)
theorem wk_suffix (w W : World) (k : Kept [] (c34 w) W) : Calls Tryd.prog 13 #[.agg #[.slice (some ⟨w.heap.size, 0, none⟩) 2 2, .slice (some ⟨w.heap.size + 1, 0, none⟩) 2 2], .int .i64 3] W fun e w1 => ∃ a1 c1 a2 c2, e = .returned (.agg #[.slice a1 0 c1, .slice a2 2 c2]) ∧ Hid (IsW w1 (.slice a1 0 c1) (.slice a2 2 c2) ⟨[], [4, 3]⟩) ∧ Hid (Kept [] W w1) := by
  have h : IsW W (.slice (some ⟨w.heap.size, 0, none⟩) 2 2) (.slice (some ⟨w.heap.size + 1, 0, none⟩) 2 2) ⟨[1, 2], [3, 4]⟩ := (isW_lit w [1, 2] [3, 4] (by decide) (by decide) (by decide) (by decide)).kept k
  exact (gives_of (c := ⟨[], [4, 3]⟩) (suffix_any _ _ ⟨[1, 2], [3, 4]⟩ 3 W h (by decide)) (by decide) (by decide) (by decide) (by decide) (by decide)).mono fun e w1 h => h
/-- The word that is read, in memory. -/
structure CAt (W : World) (B : Nat) (x y : Value) : Prop where
  box : Wd2 W B x y
  isw : IsW W x y ⟨[1, 2], [3, 4]⟩
theorem CAt.kept {W W' : World} {B : Nat} {x y : Value} (h : CAt W B x y) (k : Kept [] W W') : CAt W' B x y := ⟨h.box.kept k, h.isw.kept k⟩
theorem CAt.new {W : World} {x y : Value} (h : IsW W x y ⟨[1, 2], [3, 4]⟩) : CAt (W.alloc (.cells #[x, y] 47)) W.heap.size x y := ⟨heap_alloc_new W _, h.kept ((Kept.refl [] W).alloc _)⟩
theorem wk_read1 (W : World) : Calls Tryd.prog 14 #[.string ⟨#[32, 49, 32, 50, 40, 51, 32, 32, 52, 32, 41, 32]⟩] W fun e w1 => ∃ a1 c1 a2 c2, e = .returned (.tuple #[.agg #[.slice a1 2 c1, .slice a2 2 c2], .int .i64 0, .int .i64 0]) ∧ Hid (IsW w1 (.slice a1 2 c1) (.slice a2 2 c2) ⟨[1, 2], [3, 4]⟩) ∧ Hid (Kept [] W w1) := by
  refine (read_any _ W).mono ?_
  rintro e w1 ⟨a1, n1, c1, a2, n2, c2, rfl, hk, hn⟩
  have e1 : readF (⟨#[32, 49, 32, 50, 40, 51, 32, 32, 52, 32, 41, 32]⟩ : ByteArray).data.toList = (some ⟨[1, 2], [3, 4]⟩, 0) := readF_1
  rw [e1] at hn ⊢
  obtain ⟨b1, d1, q1⟩ := own_form hn.own1
  obtain ⟨b2, d2, q2⟩ := own_form hn.own2
  cases q1
  cases q2
  exact ⟨_, _, _, _, rfl, ⟨hn.lets1, hn.lets2, by decide⟩, hk⟩
theorem wk_read2 (W : World) : Calls Tryd.prog 14 #[.string ⟨#[40, 48, 49, 41]⟩] W fun e w1 => ∃ a1 n1 c1 a2 n2 c2, e = .returned (.tuple #[.agg #[.slice a1 n1 c1, .slice a2 n2 c2], .int .i64 51, .int .i64 2]) ∧ Hid (Kept [] W w1) := by
  refine (read_any _ W).mono ?_
  rintro e w1 ⟨a1, n1, c1, a2, n2, c2, rfl, hk, hn⟩
  have e1 : readF (⟨#[40, 48, 49, 41]⟩ : ByteArray).data.toList = (none, 2) := readF_2
  rw [e1]
  exact ⟨a1, n1, c1, a2, n2, c2, rfl, hk⟩
theorem wk_behind {W : World} {B : Nat} {x y : Value} (h : CAt W B x y) : Calls Tryd.prog 15 #[.agg #[x, y], .int .i64 3] W fun e w1 => e = .returned (.int .i64 2) ∧ Hid (Kept [] W w1) := by
  have := behind_any x y ⟨[1, 2], [3, 4]⟩ 3 W h.isw
  rw [show behindI ⟨[1, 2], [3, 4]⟩ 3 = 2 by rfl] at this
  exact this
theorem wk_check1 {W : World} {B : Nat} {x y : Value} (h : CAt W B x y) : Calls Tryd.prog 16 #[.agg #[x, y], .int .i64 3] W fun e w1 => e = .returned (.int .i64 0) ∧ Hid (Kept [] W w1) := by
  have := check_good x y ⟨[1, 2], [3, 4]⟩ 3 W h.isw (by decide)
  rw [show checkE ⟨[1, 2], [3, 4]⟩ (3 : Nat) = 0 by decide] at this
  exact this
theorem wk_check2 {W : World} {B : Nat} {x y : Value} (h : CAt W B x y) : Calls Tryd.prog 16 #[.agg #[x, y], .int .i64 2] W fun e w1 => e = .returned (.int .i64 50) ∧ Hid (Kept [] W w1) := by
  have := check_good x y ⟨[1, 2], [3, 4]⟩ 2 W h.isw (by decide)
  rw [show checkE ⟨[1, 2], [3, 4]⟩ (2 : Nat) = 50 by decide] at this
  exact this
theorem wk_places {W : World} {B : Nat} {x y : Value} (h : CAt W B x y) : Calls Tryd.prog 17 #[.agg #[x, y]] W fun e w1 => e = .returned (.int .i64 4) ∧ Hid (Kept [] W w1) := by
  have := places_any x y ⟨[1, 2], [3, 4]⟩ W h.isw
  rw [show placesN ⟨[1, 2], [3, 4]⟩ = 4 by rfl] at this
  exact this
theorem wk_at {W : World} {B : Nat} {x y : Value} (h : CAt W B x y) : Calls Tryd.prog 18 #[.agg #[x, y], .int .i64 5] W fun e w1 => e = .returned (.int .u16 4) ∧ Hid (Kept [] W w1) := by
  have := at_any x y ⟨[1, 2], [3, 4]⟩ 5 W h.isw (by decide)
  rw [show atI ⟨[1, 2], [3, 4]⟩ 5 = 4 by rfl] at this
  exact this
def c43 (w : World) : World := (w.alloc (.cells #[.int .u16 1, .int .u16 2, .int .u16 3] 51)).alloc (.cells #[.int .u16 4, .int .u16 3] 51)
theorem wk_same {w : World} {B : Nat} {x y : Value} (h : CAt w B x y) (W : World) (k : Kept [] (c43 w) W) : Calls Tryd.prog 19 #[.agg #[x, y], .agg #[.slice (some ⟨w.heap.size, 0, none⟩) 3 3, .slice (some ⟨w.heap.size + 1, 0, none⟩) 2 2]] W fun e w1 => e = .returned (.bool true) ∧ Hid (Kept [] W w1) := by
  have h2 : IsW W (.slice (some ⟨w.heap.size, 0, none⟩) 3 3) (.slice (some ⟨w.heap.size + 1, 0, none⟩) 2 2) ⟨[1, 2, 3], [4, 3]⟩ := (isW_lit w [1, 2, 3] [4, 3] (by decide) (by decide) (by decide) (by decide)).kept k
  have := same_any x y _ _ ⟨[1, 2], [3, 4]⟩ ⟨[1, 2, 3], [4, 3]⟩ W ((h.isw.kept (((Kept.refl [] w).alloc _).alloc _)).kept k) h2
  rw [show sameB ⟨[1, 2], [3, 4]⟩ ⟨[1, 2, 3], [4, 3]⟩ = true by decide] at this
  exact this
def c4 (w : World) : World := (w.alloc (.cells #[.int .u16 4] 51)).alloc (.cells #[.int .u16 3, .int .u16 4] 51)
theorem wk_join (w W : World) (k : Kept [] (c4 w) W) : Calls Tryd.prog 20 #[.slice (some ⟨w.heap.size, 0, none⟩) 1 1, .agg #[.slice none 0 0, .slice (some ⟨w.heap.size + 1, 0, none⟩) 2 2]] W fun e w1 => ∃ a1 c1 a2 c2, e = .returned (.agg #[.slice a1 0 c1, .slice a2 2 c2]) ∧ Hid (IsW w1 (.slice a1 0 c1) (.slice a2 2 c2) ⟨[], [4, 3]⟩) ∧ Hid (Kept [] W w1) := by
  have h : IsW W (.slice (some ⟨w.heap.size, 0, none⟩) 1 1) (.slice (some ⟨w.heap.size + 1, 0, none⟩) 2 2) ⟨[4], [3, 4]⟩ := (isW_lit w [4] [3, 4] (by decide) (by decide) (by decide) (by decide)).kept k
  have h0 : IsW W (.slice none 0 0) (.slice (some ⟨w.heap.size + 1, 0, none⟩) 2 2) ⟨[], [3, 4]⟩ := ⟨(new_zero 0 W).lets1, h.lp, by decide⟩
  exact (gives_of (c := ⟨[], [4, 3]⟩) (join_any _ _ _ [4] ⟨[], [3, 4]⟩ W h.st h0 (by decide)) (by decide) (by decide) (by decide) (by decide) (by decide)).mono fun e w1 h => h
theorem wk_prefix {W : World} {B : Nat} {x y : Value} (h : CAt W B x y) : Calls Tryd.prog 21 #[.agg #[x, y], .int .i64 3] W fun e w1 => ∃ g cur, e = .returned (.slice (some ⟨g, 0, none⟩) 3 3) ∧ Hid (w1.heap[g]? = some (.cells cur 51 (0, 0)) ∧ cur[2]? = some (.int .u16 3)) ∧ Hid (Kept [] W w1) := by
  refine (prefix_some x y ⟨[1, 2], [3, 4]⟩ 3 W h.isw (by decide) (by decide)).mono ?_
  rintro e w1 ⟨g, rfl, ho, hk⟩
  rcases ho.2 with ⟨hh, _⟩ | ⟨g', cap, cur, hh, _, hc, _, _, _, ht⟩
  · cases hh
  · cases hh
    refine ⟨g, cur, rfl, ⟨hc, ?_⟩, hk⟩
    have : (cur.toList.take (3 * 1))[2]? = some (.int .u16 3) := by
      have e3 : (prefN ⟨[1, 2], [3, 4]⟩ 3) = [1, 2, 3] := by decide
      rw [e3] at ht
      have ht' : cur.toList.take (3 * 1) = u16s [1, 2, 3] := ht
      rw [ht']; rfl
    rw [List.getElem?_take, if_pos (by decide), Array.getElem?_toList] at this
    exact this

def nwC (x : Nw) : Array Value := #[.slice x.a1 x.q.stem.length x.c1, .slice x.a2 x.q.loop.length x.c2]
section
variable {F : Fence} {n : Nat} {P : Program}
theorem rangeWord {g : Operand} {ps : Array Tmp} {assign body : Code} {Q : Exit → Act → World → Prop} {a : Act} {w : World}
    (hro : F.round = none) (h1 : 1 ≤ n) {gf : Nat} {lb : Array Value} (hg : a.eval g = .func (.func gf) #[] lb) (hFg : F.fn gf) (eg : ∀ args w, (callFunc gf args).run P w = .ok (.enter gf args) w)
    {encs : Nw → Array Value} {At : (Nat → Prop) → Nw → World → Prop} {T X₀ : Nat → Prop} {S Sp : List Nw → Prop} {N : Nat} (hseq : GoesAtX F (n - 1) P gf lb encs At T X₀ S Sp N w) (hAt : AtKeptX At) (hT : ∀ k, T k → k < w.heap.size) (hX₀ : ∀ k, X₀ k → k < w.heap.size) (hps : ∀ x, (encs x).size = ps.size)
    (I : (Nat → Prop) → List Nw → World → Prop) (Ix : Code → (Nat → Prop) → List Nw → World → Prop) (hI : Abide I) (hIx : ∀ c, Abide (Ix c)) (h0 : I X₀ [] w) (a₁ : Nw → Nat → Act)
    (hassign : ∀ (l : Nat) (x : Nw) (W : World) (Bx : Nat) (K : Act → World → Prop), W.heap.size = Bx → K (a₁ x Bx) (W.alloc (.cells (nwC x) 47)) →
      assign.wpIn (F.inRound l) (n - 1 - 1) P (Exit.then K (fun _ _ _ => False)) { tmps := (ps.zip (encs x)).foldl (fun t (p, v) => t.setIfInBounds p v) a.tmps, defers := [] } W)
    (hbody : ∀ (l : Nat) (X : Nat → Prop) (pre : List Nw) (x : Nw) (Bx : Nat) (W : World), (∃ r, W.heap[l]? = some (.loop r)) → X l → (∀ k, X k → k < W.heap.size) → I X pre W → w.heap.size ≤ Bx → W.heap[Bx]? = some (.cells (nwC x) 47 (0, 0)) → At X x W → pre.length < N →
      body.wpIn (F.inRound l) (n - 1 - 1) P (bodyOwesT T X I Ix (pre ++ [x]) W) (a₁ x Bx) W)
    (hdone : ∀ (D : Nat) (X : Nat → Prop) (xs : List Nw) (W : World), w.heap.size ≤ D → X D → S xs → I X xs W → W.heap[D]? = some (.deferred (some [])) → Q .normal { a with defers := { target := .collected D, args := #[] } :: a.defers } W)
    (hstop : ∀ (D : Nat) (X : Nat → Prop) (c : Code) (pre : List Nw) (W : World), w.heap.size ≤ D → X D → Sp pre → Ix c X pre W → W.heap[D]? = some (.deferred (some [])) → c.wpIn F n P Q { a with defers := { target := .collected D, args := #[] } :: a.defers } W) :
    (Code.rangeFunc g ps assign body).wpIn F n P Q a w :=
  rangeAtX hro h1 hg hFg eg hseq hAt hT hX₀ hps I Ix hI hIx h0 (fun x a' W => ∃ Bx, w.heap.size ≤ Bx ∧ W.heap[Bx]? = some (.cells (nwC x) 47 (0, 0)) ∧ a' = a₁ x Bx)
    (fun x a' W l o o' hl hc ⟨Bx, q1, q2, q3⟩ => ⟨Bx, q1, (World.putObj_heap_other (fun e => by subst e; rw [q2] at hl; cases hl; cases hc)).trans q2, q3⟩)
    (fun l X pre x W K hi _ hw hK => hassign l x W _ K rfl (hK _ _ ((Kept.refl [] W).alloc _) ⟨W.heap.size, hw, heap_alloc_new W _, rfl⟩))
    (fun l X pre x a' W hr hl hX hi hx hat hN => by obtain ⟨Bx, q1, q2, q3⟩ := hx; subst q3; exact hbody l X pre x Bx W hr hl hX hi q1 q2 hat hN) hdone hstop
end
theorem eql_nil (fn : Fn) (f c : Array Value) (w : World) : (binOp .eql 27 (.func fn f c) .nilFunc).run Tryd.prog w = .ok (.bool false) w := by
  have h : ∀ d, (Op.equalIn (d + 1) 27 (.func fn f c) .nilFunc).run Tryd.prog w = .ok false w := fun d => by simp [Op.equalIn, run_underlying Tryd.underlying27]
  simp only [binOp]
  simp [Op.equal, Op.maxDepth, h 9999]
/-- What is written so far. -/
def texts (l : List Wd) : List UInt8 := (l.map showB).flatten
theorem all12 : allW 1 2 = [⟨[], [0]⟩, ⟨[], [1]⟩, ⟨[], [0, 1]⟩, ⟨[], [1, 0]⟩, ⟨[0], [1]⟩, ⟨[1], [0]⟩] := by kernel_rfl
theorem texts12 : texts (allW 1 2) = [40, 48, 41, 40, 49, 41, 40, 48, 32, 49, 41, 40, 49, 32, 48, 41, 48, 32, 40, 49, 41, 49, 32, 40, 48, 41] := by
  rw [all12]
  simp [texts, showB, stemB, loopB, sepB, decDigits_one, List.range_succ]
theorem texts_snoc (l : List Wd) (q : Wd) : texts (l ++ [q]) = texts l ++ showB q := by simp [texts]
end Go.Proofs.YtamfnefnaelgfaaDoor
