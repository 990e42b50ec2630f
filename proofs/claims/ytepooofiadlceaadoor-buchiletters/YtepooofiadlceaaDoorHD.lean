/- package buchi: Letters and its iterator. -/
import Derived.Test.YtepooofiadlceaaDoorBuCheck
import Derived.Test.YtepooofiadlceaaDoorHC
import Derived.Test.YtepooofiadlceaaDoorBuDel
import Derived.Deep.AppendLies
import Derived.Deep.RegionLaw
import Derived.Test.YtepooofiadlceaaDoorBuKnown
namespace Go.Proofs.YtepooofiadlceaaDoor
open Go.RowKit Go.Shelf
attribute [local go_sem] Oper.semAt_some

/-- The letters below k with which an edge goes; all of them. -/
def letsTo (mu no k : Nat) : List Nat := (List.range k).filter (goesB ⟨0, 0, mu, no⟩)
def letsOf (mu no : Nat) (props : Int) : List Nat := if 0 ≤ props ∧ props ≤ 8 then letsTo mu no (2 ^ props.toNat) else []
theorem letsTo_yes {mu no k : Nat} (h : goesB ⟨0, 0, mu, no⟩ k = true) : letsTo mu no (k + 1) = letsTo mu no k ++ [k] := by
  unfold letsTo
  rw [List.range_succ, List.filter_append]
  simp [h]
theorem letsTo_no {mu no k : Nat} (h : goesB ⟨0, 0, mu, no⟩ k = false) : letsTo mu no (k + 1) = letsTo mu no k := by
  unfold letsTo
  rw [List.range_succ, List.filter_append]
  simp [h]
theorem letsTo_pre {mu no k : Nat} : ∀ d, letsTo mu no k <+: letsTo mu no (k + d)
  | 0 => List.prefix_refl _
  | d + 1 => by
    refine (letsTo_pre d).trans ?_
    rw [← Nat.add_assoc]
    cases h : goesB ⟨0, 0, mu, no⟩ (k + d) with
    | true => rw [letsTo_yes h]; exact List.prefix_append _ _
    | false => rw [letsTo_no h]; exact List.prefix_refl _
theorem letsTo_len (mu no k : Nat) : (letsTo mu no k).length ≤ k := by
  unfold letsTo
  have := List.length_filter_le (goesB ⟨0, 0, mu, no⟩) (List.range k)
  simpa using this
theorem letsTo_lt {mu no k x : Nat} (h : x ∈ letsTo mu no k) : x < k := by
  unfold letsTo at h
  simp at h
  exact h.1
/-- What the iterator leans on. -/
structure LetAt (Bp Bm Bn : Nat) (props : Int) (mu no : Nat) (W : World) : Prop where
  p : Boxed W Bp 3 (.int .i64 props)
  m : Boxed W Bm 23 (.int .u16 (mu : Nat))
  n : Boxed W Bn 23 (.int .u16 (no : Nat))
def letB (Bp Bm Bn k : Nat) : Prop := k = Bp ∨ k = Bm ∨ k = Bn
theorem LetAt.kpx {Bp Bm Bn : Nat} {props : Int} {mu no : Nat} {W W' : World} (h : LetAt Bp Bm Bn props mu no W) (k : KpX (letB Bp Bm Bn) W W') : LetAt Bp Bm Bn props mu no W' :=
  ⟨k.own _ _ (.inl rfl) h.p, k.own _ _ (.inr (.inl rfl)) h.m, k.own _ _ (.inr (.inr rfl)) h.n⟩
theorem LetAt.lt {Bp Bm Bn : Nat} {props : Int} {mu no : Nat} {W : World} (h : LetAt Bp Bm Bn props mu no W) : ∀ k, letB Bp Bm Bn k → k < W.heap.size := by
  rintro k (rfl | rfl | rfl)
  · exact h.p.lt
  · exact h.m.lt
  · exact h.n.lt
theorem KpX.of_belowL {T : Nat → Prop} {W W' : World} {n : Nat} (h : Below n W W') (hT : ∀ k, T k → k < n) : KpX T W W' :=
  ⟨h.size, fun k _ hk ho => (h.block k (hT k hk)).trans ho⟩

def LetEnds (L : List Nat) (J Jx : (Nat → Prop) → List Nat → World → Prop) (e : Ending) (W' : World) : Prop := (∃ v, e = .returned v) ∧ ((∃ ys X', ys = L ∧ J X' ys W') ∨ (∃ pre X', pre <+: L ∧ Jx X' pre W'))
def leftL (tp : Nat) (v : Value) : Nat := tp - (intOf v).toNat
theorem leftL_nat (tp k : Nat) : leftL tp (.int .u16 (k : Nat)) = tp - k := rfl
set_option maxRecDepth 100000 in
set_option maxHeartbeats 1600000 in
theorem letters1_at (m : Nat) (hm : 1 ≤ m) (l Bp Bm Bn mu no p tp : Nat) (htp : 2 ^ p = tp) (hp : p ≤ 8) (hmu : mu < 65536) (hno : no < 65536) (X : Nat → Prop) (J Jx : (Nat → Prop) → List Nat → World → Prop)
    (hJ : Abide J)
    (hY : ∀ X pre x W, J X pre W → x ∈ letsTo mu no tp → (∀ k, X k → k < W.heap.size) → pre.length < (letsTo mu no tp).length → YieldAt Fence.wide (m - 1) Tryd.prog l #[.int .u16 (x : Nat)] W fun e W' =>
      (e = .returned (.bool true) ∧ J X (pre ++ [x]) W' ∧ KpX (orT (letB Bp Bm Bn) X) W W') ∨ (e = .returned (.bool false) ∧ Jx X (pre ++ [x]) W' ∧ KpX (orT (letB Bp Bm Bn) X) W W'))
    (W : World) (hA : LetAt Bp Bm Bn (p : Nat) mu no W) (hX : ∀ k, X k → k < W.heap.size) (h0 : J X [] W) :
    CallsIn Fence.wide m Tryd.prog 11 #[.func (.yield l) #[] #[], .pointer (some ⟨Bp, 0, none⟩), .pointer (some ⟨Bm, 0, none⟩), .pointer (some ⟨Bn, 0, none⟩)] W (LetEnds (letsTo mu no tp) J Jx) := by
  have cp := hA.p.cell
  have cm := hA.m.cell
  have cn := hA.n.cell
  have cpa := fun o => cell_kept0 ((Kept.refl [] W).alloc o) cp
  refine callsIn_of_wp Tryd.func11 rfl trivial ?_ rfl
  simp only [Tryd.ntmps11, List.size_toArray, List.length_cons, List.length_nil, Nat.reduceAdd, Nat.reduceSub, Array.replicate_succ, Array.replicate_zero, List.push_toArray, List.append_toArray, List.nil_append, List.cons_append]
  have z1 : ¬ ((p : Int) < 0) := by omega
  have z2 : ¬ ((8 : Int) < (p : Int)) := by omega
  gi_wp2_with fail
  have htb : tp ≤ 256 := by rw [← htp]; exact Nat.pow_le_pow_right (by omega) hp
  have hwr : IntKind.u16.wrap ((2 : Int) ^ p) = (tp : Int) := by
    rw [show ((2 : Int) ^ p) = ((2 ^ p : Nat) : Int) by norm_cast, htp, IntKind.wrap_u16]
    omega
  rw [hwr]
  obtain ⟨W1, hW1⟩ : ∃ W1, W.alloc (.cells #[.int .i64 0, .int .i64 0, .int .u16 (mu : Nat), .int .u16 (no : Nat)] 33) = W1 := ⟨_, rfl⟩
  have k1 : Kept [] W W1 := by rw [← hW1]; exact (Kept.refl [] W).alloc _
  have b1 : W1.heap[W.heap.size]? = some (.cells #[.int .i64 0, .int .i64 0, .int .u16 (mu : Nat), .int .u16 (no : Nat)] 33 (0, 0)) := by rw [← hW1]; exact al0 _ _
  have z3 : W1.heap.size = W.heap.size + 1 := by rw [← hW1]; simp
  rw [hW1]
  obtain ⟨eb, heb⟩ : ∃ eb, W.heap.size = eb := ⟨_, rfl⟩
  have hJ1 : J (fun i => X i ∨ Between W W1 i) [] W1 := hJ.lay h0 k1
  obtain ⟨X', hX'⟩ : ∃ X' : Nat → Prop, (fun i => X i ∨ Between W W1 i) = X' := ⟨_, rfl⟩
  have HXe : Hid (X' eb ∧ ∀ k, X' k → k < W1.heap.size) := by
    refine ⟨?_, ?_⟩
    · rw [← hX']; exact .inr ⟨by omega, by omega⟩
    · rw [← hX']
      rintro k (h | h)
      · have := hX k h; omega
      · exact h.2
  rw [hX'] at hJ1
  rw [heb] at b1 ⊢
  have HY : Hid (∀ X pre x W, J X pre W → x ∈ letsTo mu no tp → (∀ k, X k → k < W.heap.size) → pre.length < (letsTo mu no tp).length → YieldAt Fence.wide (m - 1) Tryd.prog l #[.int .u16 (x : Nat)] W fun e W' =>
      (e = .returned (.bool true) ∧ J X (pre ++ [x]) W' ∧ KpX (orT (letB Bp Bm Bn) X) W W') ∨ (e = .returned (.bool false) ∧ Jx X (pre ++ [x]) W' ∧ KpX (orT (letB Bp Bm Bn) X) W W')) := hY
  have HJ : Hid (∀ pre V V', J X' pre V → Kept [] V V' → J X' pre V') := fun pre V V' h k => hJ.kept h k
  have HB1 : Hid (W1.heap[eb]? = some (.cells #[.int .i64 0, .int .i64 0, .int .u16 (mu : Nat), .int .u16 (no : Nat)] 33 (0, 0))) := b1
  have HGO : Hid (∀ (k : Nat) V, k < 65536 → Calls Tryd.prog 12 #[.agg #[.int .i64 0, .int .i64 0, .int .u16 (mu : Nat), .int .u16 (no : Nat)], .int .u16 (k : Nat)] V fun e' w' => e' = .returned (.bool (goesB ⟨0, 0, mu, no⟩ k)) ∧ Kept [] V w') := fun k V h => goes_any ⟨0, 0, mu, no⟩ k V ⟨hmu, hno⟩ h
  clear cp cm cn cpa hA hY hJ h0 k1 z3 hW1 heb hX' hX hwr b1
  gi_loopw [18] (fun i wr => ∃ k : Nat, i = .int .u16 (k : Nat) ∧ k ≤ tp ∧ J X' (letsTo mu no k) wr ∧ KpX X' W1 wr) (fun i _ => leftL tp i)
  case atStart => exact ⟨0, rfl, Nat.zero_le _, hJ1, KpX.refl _ _⟩
  case round =>
    obtain ⟨k, rfl, hk, hJk, hkp⟩ := hrel
    have hbw := hkp.own _ _ HXe.out.1 HB1.out
    have e0 : wr.cell? ⟨eb, 0, none⟩ = some (.int .i64 0) := (cell_of hbw 0).trans rfl
    have e1 : wr.cell? ⟨eb, 1, none⟩ = some (.int .i64 0) := (cell_of hbw 1).trans rfl
    have e2 : wr.cell? ⟨eb, 2, none⟩ = some (.int .u16 (mu : Nat)) := (cell_of hbw 2).trans rfl
    have e3 : wr.cell? ⟨eb, 3, none⟩ = some (.int .u16 (no : Nat)) := (cell_of hbw 3).trans rfl
    rcases Nat.lt_or_ge k tp with hlt | hge
    · have y1 : (k : Int) < (tp : Int) := by omega
      obtain ⟨mm, hmm⟩ : ∃ mm : Nat, (k : Int) + 1 = mm := ⟨k + 1, by omega⟩
      have hmk : k + 1 = mm := by omega
      have hw1 : IntKind.u16.wrap ((k : Int) + 1) = (mm : Int) := by rw [hmm, IntKind.wrap_u16]; omega
      have HMM : Hid (k + 1 = mm) := hmk
      have HJK : Hid (J X' (letsTo mu no k) wr) := hJk
      have HKP : Hid (KpX X' W1 wr) := hkp
      clear hJk hkp hbw hJ1 hmk hmm
      cases hg : goesB ⟨0, 0, mu, no⟩ k with
      | false =>
        have HG : Hid (∀ V, Calls Tryd.prog 12 #[.agg #[.int .i64 0, .int .i64 0, .int .u16 (mu : Nat), .int .u16 (no : Nat)], .int .u16 (k : Nat)] V fun e' w' => e' = .returned (.bool false) ∧ Kept [] V w') := fun V => by have := HGO.out k V (by omega); rw [hg] at this; exact this
        gi_wp2_with (refine ⟨trivial, ?_⟩; gi_at_call 12; refine (callsIn_wide.2 (HG.out wr)).mono ?_; rintro e w2 ⟨rfl, hk2⟩; have HK2 : Hid (Kept [] wr w2) := hk2; clear hk2)
        refine ⟨fun f h => (by cases h), ?_⟩
        gi_wp2_with fail
        go_roundw
        case rel =>
          have hq := HMM.out
          subst hq
          exact ⟨k + 1, rfl, by omega, by rw [letsTo_no hg]; exact HJ.out _ _ _ HJK.out HK2.out, HKP.out.trans (KpX.of_kept HK2.out)⟩
        case measure =>
          have hq := HMM.out
          rw [leftL_nat, leftL_nat]; omega
      | true =>
        have HG : Hid (∀ V, Calls Tryd.prog 12 #[.agg #[.int .i64 0, .int .i64 0, .int .u16 (mu : Nat), .int .u16 (no : Nat)], .int .u16 (k : Nat)] V fun e' w' => e' = .returned (.bool true) ∧ Kept [] V w') := fun V => by have := HGO.out k V (by omega); rw [hg] at this; exact this
        have hpre : letsTo mu no (k + 1) <+: letsTo mu no tp := by
          have := letsTo_pre (mu := mu) (no := no) (k := k + 1) (tp - (k + 1))
          rwa [show k + 1 + (tp - (k + 1)) = tp by omega] at this
        have HPR : Hid (letsTo mu no k ++ [k] <+: letsTo mu no tp) := by rw [letsTo_yes hg] at hpre; exact hpre
        have HYK : Hid (∀ w2, Kept [] wr w2 → YieldAt Fence.wide (m - 1) Tryd.prog l #[.int .u16 (k : Nat)] w2 fun e W' =>
            (e = .returned (.bool true) ∧ J X' (letsTo mu no k ++ [k]) W' ∧ KpX (orT (letB Bp Bm Bn) X') w2 W') ∨ (e = .returned (.bool false) ∧ Jx X' (letsTo mu no k ++ [k]) W' ∧ KpX (orT (letB Bp Bm Bn) X') w2 W')) := fun w2 k2 =>
          HY.out X' _ k w2 (HJ.out _ _ _ HJK.out k2) (HPR.out.subset (by simp)) (fun i hi => Nat.lt_of_lt_of_le (HXe.out.2 i hi) (Nat.le_trans HKP.out.size k2.size)) (by have := HPR.out.length_le; simp at this; omega)
        clear hpre
        gi_wp2_with (first
          | (refine ⟨trivial, ?_⟩; gi_at_call 12; refine (callsIn_wide.2 (HG.out wr)).mono ?_; rintro e w2 ⟨rfl, hk2⟩; have HK2 : Hid (Kept [] wr w2) := hk2; obtain ⟨fn, tmps, assign, body, hy, hR⟩ := HYK.out w2 hk2; clear hk2))
        refine hR.mono ?_
        rintro e W3 (⟨rfl, hJ3, hk3⟩ | ⟨rfl, hJx3, _⟩)
        · have HJ3 : Hid (J X' (letsTo mu no k ++ [k]) W3) := hJ3
          have HK3 : Hid (KpX X' wr W3) := (KpX.of_kept HK2.out).trans (hk3.mono (fun _ h => .inl h))
          clear hJ3 hk3 hy hR
          gi_wp2
          go_roundw
          case rel =>
            have hq := HMM.out
            subst hq
            exact ⟨k + 1, rfl, by omega, by rw [letsTo_yes hg]; exact HJ3.out, HKP.out.trans HK3.out⟩
          case measure =>
            have hq := HMM.out
            rw [leftL_nat, leftL_nat]; omega
        · have HJX : Hid (Jx X' (letsTo mu no k ++ [k]) W3) := hJx3
          clear hJx3 hy hR
          gi_wp2
          refine bodyPost_ret (results_none rfl _ _ _) rfl ?_
          exact ⟨⟨_, rfl⟩, .inr ⟨_, X', HPR.out, HJX.out⟩⟩
    · obtain rfl : k = tp := by omega
      have y1 : ¬ ((k : Int) < (k : Int)) := by omega
      gi_wp2
      go_end0
      exact ⟨⟨_, rfl⟩, .inl ⟨_, X', rfl, hJk⟩⟩
set_option maxRecDepth 100000 in
set_option maxHeartbeats 1600000 in
theorem letters1_none (m : Nat) (l Bp Bm Bn mu no : Nat) (props : Int) (hp : ¬ (0 ≤ props ∧ props ≤ 8)) (X : Nat → Prop) (J Jx : (Nat → Prop) → List Nat → World → Prop) (W : World) (hA : LetAt Bp Bm Bn props mu no W) (h0 : J X [] W) :
    CallsIn Fence.wide m Tryd.prog 11 #[.func (.yield l) #[] #[], .pointer (some ⟨Bp, 0, none⟩), .pointer (some ⟨Bm, 0, none⟩), .pointer (some ⟨Bn, 0, none⟩)] W (LetEnds [] J Jx) := by
  have cp := hA.p.cell
  refine callsIn_of_wp Tryd.func11 rfl trivial ?_ rfl
  simp only [Tryd.ntmps11, List.size_toArray, List.length_cons, List.length_nil, Nat.reduceAdd, Nat.reduceSub, Array.replicate_succ, Array.replicate_zero, List.push_toArray, List.append_toArray, List.nil_append, List.cons_append]
  by_cases h1 : props < 0
  · gi_wp2_with fail
    refine bodyPost_ret (results_none rfl _ _ _) rfl ?_
    exact ⟨⟨_, rfl⟩, .inl ⟨[], X, rfl, h0⟩⟩
  · have h2 : 8 < props := by omega
    gi_wp2_with fail
    refine bodyPost_ret (results_none rfl _ _ _) rfl ?_
    exact ⟨⟨_, rfl⟩, .inl ⟨[], X, rfl, h0⟩⟩
/-- The iterator goes through the letters. -/
theorem letters_goes (m : Nat) (hm : 1 ≤ m) (Bp Bm Bn mu no : Nat) (props : Int) (hmu : mu < 65536) (hno : no < 65536) (w : World) (hA : LetAt Bp Bm Bn props mu no w) :
    GoesAtL Fence.wide m Tryd.prog 11 #[.pointer (some ⟨Bp, 0, none⟩), .pointer (some ⟨Bm, 0, none⟩), .pointer (some ⟨Bn, 0, none⟩)] (fun x : Nat => #[Value.int .u16 (x : Nat)]) (fun _ x _ => x ∈ letsOf mu no props) (fun _ _ => True) (letB Bp Bm Bn) (fun _ => False) (fun ys => ys = letsOf mu no props) (fun pre => pre <+: letsOf mu no props) (letsOf mu no props).length (fun _ => True) w := by
  intro l J Jx X W hW hJ _ hY h0 _ _ hX
  have hAW := hA.kpx (KpX.of_belowL hW hA.lt)
  by_cases hp : 0 ≤ props ∧ props ≤ 8
  · have e : letsOf mu no props = letsTo mu no (2 ^ props.toNat) := if_pos hp
    rw [e] at hY ⊢
    obtain ⟨p, rfl⟩ : ∃ p : Nat, props = p := ⟨props.toNat, by omega⟩
    exact letters1_at m hm l Bp Bm Bn mu no p _ rfl (by omega) hmu hno X J Jx hJ (fun X pre x W1 h1 h2 h3 h4 => hY X pre x W1 h1 h2 h3 h4 ⟨W1, h1, trivial⟩) W hAW hX h0
  · have e : letsOf mu no props = [] := if_neg hp
    rw [e]
    exact letters1_none m l Bp Bm Bn mu no props hp X J Jx W hAW h0
theorem letAt_kept (mu no : Nat) (props : Int) : AtKeptX (fun (_ : Nat → Prop) (x : Nat) (_ : World) => x ∈ letsOf mu no props) := ⟨fun _ h => h, fun _ _ h => h, fun _ _ h => h, fun _ h => h⟩
theorem letters_any (mu no : Nat) (props : Int) (w : World) : Calls Tryd.prog 7 #[.int .u16 (mu : Nat), .int .u16 (no : Nat), .int .i64 props] w fun e w' => e = .returned (.func (.func 11) #[] #[.pointer (some ⟨w.heap.size + 1 + 1, 0, none⟩), .pointer (some ⟨w.heap.size, 0, none⟩), .pointer (some ⟨w.heap.size + 1, 0, none⟩)]) ∧ Hid (LetAt (w.heap.size + 1 + 1) w.heap.size (w.heap.size + 1) props mu no w') ∧ Hid (Kept [] w w' ∧ w'.heap.size = w.heap.size + 3) := by
  go_enter Tryd.func7, Tryd.ntmps7
  go_wp2_with fail
  go_ret
  exact ⟨rfl, ⟨al2 _ _ _ _, alUp (alUp (al0 _ _) _) _, alUp (al1 _ _ _) _⟩, (((Kept.refl [] w).alloc _).alloc _).alloc _, by simp⟩
end Go.Proofs.YtepooofiadlceaaDoor

/- The document's Letters. -/
namespace Go.Proofs.YtepooofiadlceaaDoor
open Go.RowKit Go.Shelf

set_option maxHeartbeats 1000000 in
theorem refGoes_any (e : Edg) (c : Nat) (w : World) (he : e.mu < 65536 ∧ e.no < 65536) (hc : c < 65536) :
    Calls Tryd.prog 10 #[edgV e, .int .u16 (c : Nat)] w fun e' w' => e' = .returned (.bool (goesB e c)) ∧ Kept [] w w' := by
  obtain ⟨e1, e2, e3, e4⟩ := e
  obtain ⟨h3, h4⟩ := he
  unfold edgV goesB
  dsimp only at h3 h4 ⊢
  obtain ⟨x, hx⟩ : ∃ x : Nat, c &&& e3 = x := ⟨_, rfl⟩
  obtain ⟨y, hy⟩ : ∃ y : Nat, c &&& e4 = y := ⟨_, rfl⟩
  have b1 : bits .and .u16 (c : Int) (e3 : Int) = (x : Int) := by rw [u16_and_nat c e3 hc h3, hx]
  have b2 : bits .and .u16 (c : Int) (e4 : Int) = (y : Int) := by rw [u16_and_nat c e4 hc h4, hy]
  rw [hx, hy]
  clear hx hy
  by_cases h1 : x = e3
  · subst h1
    by_cases h2 : y = 0
    · subst h2
      rw [decide_eq_true rfl]
      go_enter Tryd.func10, Tryd.ntmps10
      go_wp2
      go_ret
      exact ⟨by simp, (Kept.refl [] w).alloc _⟩
    · have z : ((y : Int) == 0) = false := by rw [beq_eq_false_iff_ne]; omega
      rw [decide_eq_true rfl, decide_eq_false h2]
      go_enter Tryd.func10, Tryd.ntmps10
      go_wp2
      go_ret
      exact ⟨by simp, (Kept.refl [] w).alloc _⟩
  · have z : ((x : Int) == (e3 : Int)) = false := by rw [beq_eq_false_iff_ne]; omega
    rw [decide_eq_false h1, Bool.false_and]
    go_enter Tryd.func10, Tryd.ntmps10
    go_wp2
    go_ret
    exact ⟨by simp, (Kept.refl [] w).alloc _⟩
theorem bx_append_listL {P : Program} {ops : Array Oper} {rest : List Oper} {o : Oper} {a : Act} {w : World} {Q : Exit → Act → World → Prop}
    (hg : o.guard = none) (s x : Operand) (t : TypeId) (hop : o.op = Op.call { callee := Callee.builtin Builtin.append, args := #[s, x], argTypes := #[t, t] })
    (v u v' : Value) (w' : World) (hs : a.eval s = v) (hx : a.eval x = u) (hrun : (Builtin.append_ #[t, t] o.type #[v, u]).run P w = .ok v' w') (hK : wpList P ops Q rest (a.put o.dst v') w') : wpList P ops Q (o :: rest) a w :=
  wpList_plain hg fun K hk => by
    unfold Oper.wp
    simp [execOp, hop, resolve, invoke, builtin, hs, hx, hrun, Result.andThen]
    exact hk _ _ hK
set_option maxRecDepth 10000 in
theorem u16_push (w0 W : World) (v : Value) (xs : List Nat) (x : Nat) (k0 : Kept [] w0 W) (h : W.ownsRow w0.heap.size 23 1 v xs.length (u16s xs)) (hl : xs.length ≤ 100000) :
    ∃ g cap w2, (∀ ty, (Builtin.append_ #[24, 24] ty #[v, .slice (some ⟨W.heap.size, 0, none⟩) 1 1]).run Tryd.prog (W.alloc (.cells #[.int .u16 (x : Nat)] 23)) = .ok (.slice (some ⟨g, 0, none⟩) (xs.length + 1) cap) w2) ∧ w2.ownsRow w0.heap.size 23 1 (.slice (some ⟨g, 0, none⟩) (xs.length + 1) cap) (xs ++ [x]).length (u16s (xs ++ [x])) ∧ Kept [] w0 w2 := by
  have kQ : Kept [] W (W.alloc (.cells #[.int .u16 (x : Nat)] 23)) := (Kept.refl [] W).alloc _
  have hbQ : (W.alloc (.cells #[.int .u16 (x : Nat)] 23)).heap[W.heap.size]? = some (.cells #[.int .u16 (x : Nat)] 23 (0, 0)) := al0 W _
  have ho : (W.alloc (.cells #[.int .u16 (x : Nat)] 23)).ownsRow w0.heap.size 23 1 v xs.length (u16s xs) := h.alloc _
  obtain ⟨g, cap, w2, g1, g2, g3, g4, g5⟩ := run_append_lies (P := Tryd.prog) (W.alloc (.cells #[.int .u16 (x : Nat)] 23)) 24 0 w0.heap.size 23 _ (.int .u16 0) 1 2 Tryd.underlying24 rfl rfl rfl rfl rfl (by decide) v xs.length (u16s xs) ho ⟨W.heap.size, 0, none⟩ 1 1 [.int .u16 (x : Nat)] rfl (fun j u hu => by
      rw [show (Addr.add ⟨W.heap.size, 0, none⟩ j) = ⟨W.heap.size, j, none⟩ from by simp [Addr.add]; exact fun e => e.symm]
      rw [cell_of hbQ]
      simpa using hu) (by intro u hu; simp at hu; subst hu; rfl) (by decide) (by unfold maxLen; omega) (by omega) (Nat.le_trans k0.size kQ.size) _ rfl
  refine ⟨g, cap, w2, fun ty => g1, ?_, (keptB k0 kQ).grown g3 (fun k e => .inr ?_)⟩
  · rw [List.length_append, show u16s (xs ++ [x]) = u16s xs ++ [.int .u16 (x : Nat)] by simp [u16s]]
    exact g2
  · exact (own_lt ho e).1
set_option maxHeartbeats 1000000 in
set_option maxRecDepth 10000 in
theorem refLetters_some (mu no p tp : Nat) (htp : 2 ^ p = tp) (hp : p ≤ 8) (hmu : mu < 65536) (hno : no < 65536) (w : World) :
    Calls Tryd.prog 6 #[.int .u16 (mu : Nat), .int .u16 (no : Nat), .int .i64 (p : Nat)] w fun e w' => ∃ v, e = .returned v ∧ Hid (w'.ownsRow w.heap.size 23 1 v (letsTo mu no tp).length (u16s (letsTo mu no tp))) ∧ Hid (Kept [] w w') := by
  have HGO : Hid (∀ (k : Nat) V, k < 65536 → Calls Tryd.prog 10 #[.agg #[.int .i64 0, .int .i64 0, .int .u16 (mu : Nat), .int .u16 (no : Nat)], .int .u16 (k : Nat)] V fun e' w' => e' = .returned (.bool (goesB ⟨0, 0, mu, no⟩ k)) ∧ Kept [] V w') := fun k V h => refGoes_any ⟨0, 0, mu, no⟩ k V ⟨hmu, hno⟩ h
  have htb : tp ≤ 256 := by rw [← htp]; exact Nat.pow_le_pow_right (by omega) hp
  have hwr : IntKind.i64.wrap ((2 : Int) ^ p) = (tp : Int) := by
    rw [show ((2 : Int) ^ p) = ((2 ^ p : Nat) : Int) by norm_cast, htp, IntKind.wrap_i64]
    omega
  have z1 : ¬ ((p : Int) < 0) := by omega
  have z2 : ¬ ((8 : Int) < (p : Int)) := by omega
  clear htp
  go_enter Tryd.func6, Tryd.ntmps6
  go_wp2_with fail
  go_loopw [7, 8] (fun v i wr => ∃ k : Nat, i = .int .i64 (k : Nat) ∧ k ≤ tp ∧ wr.ownsRow w.heap.size 23 1 v (letsTo mu no k).length (u16s (letsTo mu no k)) ∧ Kept [] w wr) (fun _ i _ => tp - (intOf i).toNat)
  case atStart => exact ⟨0, rfl, Nat.zero_le _, World.ownsRow_nil _ _ _ _, Kept.refl [] w⟩
  case round =>
    obtain ⟨k, rfl, hk, hown, hkw⟩ := hrel
    obtain ⟨va, vc, rfl⟩ : ∃ ad c, u7 = .slice ad (letsTo mu no k).length c := by
      rcases hown.2 with ⟨rfl, h0⟩ | ⟨g, cap, cur, rfl, _⟩
      · exact ⟨none, 0, by rw [h0]⟩
      · exact ⟨_, _, rfl⟩
    have HOW : Hid (wr.ownsRow w.heap.size 23 1 (.slice va (letsTo mu no k).length vc) (letsTo mu no k).length (u16s (letsTo mu no k))) := hown
    have HKW : Hid (Kept [] w wr) := hkw
    have hlen := letsTo_len mu no k
    obtain ⟨xs, hxs⟩ : ∃ xs, letsTo mu no k = xs := ⟨_, rfl⟩
    rw [hxs] at HOW hlen ⊢
    have HXS : Hid (letsTo mu no k = xs) := hxs
    clear hown hkw hxs
    rcases Nat.lt_or_ge k tp with hlt | hge
    · have y1 : (k : Int) < (tp : Int) := by omega
      have hwk : IntKind.u16.wrap (k : Int) = (k : Int) := by rw [IntKind.wrap_u16]; omega
      obtain ⟨mm, hmm⟩ : ∃ mm : Nat, (k : Int) + 1 = mm := ⟨k + 1, by omega⟩
      have hmk : k + 1 = mm := by omega
      have HMM : Hid (k + 1 = mm) := hmk
      clear hmk
      cases hg : goesB ⟨0, 0, mu, no⟩ k with
      | false =>
        have HG : Hid (∀ V, Calls Tryd.prog 10 #[.agg #[.int .i64 0, .int .i64 0, .int .u16 (mu : Nat), .int .u16 (no : Nat)], .int .u16 (k : Nat)] V fun e' w' => e' = .returned (.bool false) ∧ Kept [] V w') := fun V => by have := HGO.out k V (by omega); rw [hg] at this; exact this
        go_wp2_with (go_at_call 10; refine (HG.out wr).mono ?_; rintro e w2 ⟨rfl, hk2⟩; have HK2 : Hid (Kept [] wr w2) := hk2; clear hk2)
        go_roundw
        case rel =>
          have hq := HMM.out
          subst hq
          refine ⟨k + 1, rfl, by omega, ?_, keptB HKW.out HK2.out⟩
          rw [letsTo_no hg, HXS.out]
          exact HOW.out.kept (grownBy_of_kept HK2.out) (by
            rcases HOW.out.2 with ⟨h, _⟩ | ⟨g, cap, cur, h, _⟩
            · rw [h]; exact .inl rfl
            · rw [h]; exact .inr (by simp [Value.ownBlock]))
        case measure =>
          have hq := HMM.out
          show tp - mm < tp - k
          omega
      | true =>
        have HG : Hid (∀ V, Calls Tryd.prog 10 #[.agg #[.int .i64 0, .int .i64 0, .int .u16 (mu : Nat), .int .u16 (no : Nat)], .int .u16 (k : Nat)] V fun e' w' => e' = .returned (.bool true) ∧ Kept [] V w') := fun V => by have := HGO.out k V (by omega); rw [hg] at this; exact this
        have HOK : Hid (∀ w2, Kept [] wr w2 → w2.ownsRow w.heap.size 23 1 (.slice va xs.length vc) xs.length (u16s xs)) := fun w2 k2 => HOW.out.kept (grownBy_of_kept k2) (by
            rcases HOW.out.2 with ⟨h, _⟩ | ⟨g, cap, cur, h, _⟩
            · rw [h]; exact .inl rfl
            · rw [h]; exact .inr (by simp [Value.ownBlock]))
        go_wp2_with (first
          | (go_at_call 10; refine (HG.out wr).mono ?_; rintro e w2 ⟨rfl, hk2⟩; obtain ⟨g, cap, w3, hrun, hown3, hkw3⟩ := u16_push w w2 (.slice va xs.length vc) xs k (keptB HKW.out hk2) (HOK.out w2 hk2) (by omega); have HR : Hid (∀ ty, (Builtin.append_ #[24, 24] ty #[.slice va xs.length vc, .slice (some ⟨w2.heap.size, 0, none⟩) 1 1]).run Tryd.prog (w2.alloc (.cells #[.int .u16 (k : Nat)] 23)) = .ok (.slice (some ⟨g, 0, none⟩) (xs.length + 1) cap) w3) := hrun; have HO3 : Hid (w3.ownsRow w.heap.size 23 1 (.slice (some ⟨g, 0, none⟩) (xs.length + 1) cap) (xs ++ [k]).length (u16s (xs ++ [k]))) := hown3; have HK3 : Hid (Kept [] w w3) := hkw3; clear hk2 hrun hown3 hkw3)
          | (refine bx_append_listL rfl _ _ _ rfl _ _ _ _ rfl rfl (HR.out _) ?_))
        go_roundw
        case rel =>
          have hq := HMM.out
          subst hq
          refine ⟨k + 1, rfl, by omega, ?_, HK3.out⟩
          rw [letsTo_yes hg, HXS.out]
          exact HO3.out
        case measure =>
          have hq := HMM.out
          show tp - mm < tp - k
          omega
    · obtain rfl : k = tp := by omega
      have y1 : ¬ ((k : Int) < (k : Int)) := by omega
      go_wp2_with fail
      go_ret
      exact ⟨_, rfl, by show World.ownsRow _ _ _ _ _ _ _; rw [HXS.out]; exact HOW.out, HKW.out⟩
set_option maxHeartbeats 1000000 in
theorem refLetters_none (mu no : Nat) (props : Int) (hp : ¬ (0 ≤ props ∧ props ≤ 8)) (w : World) :
    Calls Tryd.prog 6 #[.int .u16 (mu : Nat), .int .u16 (no : Nat), .int .i64 props] w fun e w' => e = .returned (.slice none 0 0) ∧ w' = w := by
  by_cases h1 : props < 0
  · go_enter Tryd.func6, Tryd.ntmps6
    go_wp2_with fail
    go_ret
    exact ⟨rfl, rfl⟩
  · have h2 : 8 < props := by omega
    go_enter Tryd.func6, Tryd.ntmps6
    go_wp2_with fail
    go_ret
    exact ⟨rfl, rfl⟩
/-- The document's Letters, of any numbers. -/
theorem refLetters_any (mu no : Nat) (props : Int) (hmu : mu < 65536) (hno : no < 65536) (w : World) :
    Calls Tryd.prog 6 #[.int .u16 (mu : Nat), .int .u16 (no : Nat), .int .i64 props] w fun e w' => ∃ v, e = .returned v ∧ Hid (w'.ownsRow w.heap.size 23 1 v (letsOf mu no props).length (u16s (letsOf mu no props))) ∧ Hid (Kept [] w w') := by
  by_cases hp : 0 ≤ props ∧ props ≤ 8
  · obtain ⟨p, rfl⟩ : ∃ p : Nat, props = p := ⟨props.toNat, by omega⟩
    rw [show letsOf mu no (p : Int) = letsTo mu no (2 ^ p) from if_pos hp]
    exact refLetters_some mu no p _ rfl (by omega) hmu hno w
  · rw [show letsOf mu no props = [] from if_neg hp]
    refine (refLetters_none mu no props hp w).mono ?_
    rintro e w' ⟨rfl, rfl⟩
    exact ⟨_, rfl, World.ownsRow_nil _ _ _ _, Kept.refl [] w'⟩
end Go.Proofs.YtepooofiadlceaaDoor

/- BuchiLetters: what its loops carry. -/
namespace Go.Proofs.YtepooofiadlceaaDoor
open Go.RowKit Go.Shelf

/-- Blocks that stay as they are (Fx), the wanted letters (v), how many have come (in B11). -/
structure LtS (w : World) (Fx : List (Nat × Obj)) (v : Value) (L : List Nat) (B11 n : Nat) (X : Nat → Prop) (W : World) : Prop where
  fx : ∀ p ∈ Fx, W.heap[p.1]? = some p.2 ∧ ¬ X p.1
  wt : W.ownsRow w.heap.size 23 1 v L.length (u16s L)
  wx : ∀ g, v.ownBlock = some g → ¬ X g
  nb : Boxed W B11 3 (.int .i64 (n : Nat))
  nx : ¬ X B11
  kept : Kept [] w W
  lo : ∀ k, X k → w.heap.size ≤ k
theorem LtS.more {w W : World} {Fx : List (Nat × Obj)} {v : Value} {L : List Nat} {B11 n : Nat} {X X' : Nat → Prop} (h : LtS w Fx v L B11 n X W) (hX : ∀ k, X' k → X k ∨ W.heap.size ≤ k) : LtS w Fx v L B11 n X' W := by
  have l1 := h.nb.lt
  refine ⟨fun p hp => ⟨(h.fx p hp).1, fun q => (hX _ q).elim (h.fx p hp).2 (by have := lt_of (h.fx p hp).1; omega)⟩, h.wt, fun g e q => (hX _ q).elim (h.wx g e) (by have := (own_lt h.wt e).2; omega), h.nb, fun q => (hX _ q).elim h.nx (by omega), h.kept, fun k q => (hX k q).elim (h.lo k) (fun p => Nat.le_trans h.kept.size p)⟩
theorem LtS.turn {w W W' : World} {Fx : List (Nat × Obj)} {v : Value} {L : List Nat} {B11 n : Nat} {X : Nat → Prop} {row : Option Nat} (h : LtS w Fx v L B11 n X W) (hg : W.grownBy W' row) (hr : ∀ r, row = some r → X r) : LtS w Fx v L B11 n X W' := by
  have hne : ∀ k, ¬ X k → row ≠ some k := fun k hk e => hk (hr k e)
  exact ⟨fun p hp => ⟨(hg.block _ (lt_of (h.fx p hp).1) (fun e => hne _ (h.fx p hp).2 e.symm)).trans (h.fx p hp).1, (h.fx p hp).2⟩, bx_turn h.wt hg (fun g e => hne g (h.wx g e)), h.wx, h.nb.kept hg (fun e => hne _ h.nx e.symm), h.nx, h.kept.grown hg (fun k e => .inr (h.lo k (hr k e))), h.lo⟩
theorem LtS.go {w W W' : World} {Fx : List (Nat × Obj)} {v : Value} {L : List Nat} {B11 n : Nat} {X : Nat → Prop} (h : LtS w Fx v L B11 n X W) (k : Kept [] W W') : LtS w Fx v L B11 n X W' := h.turn (grownBy_of_kept k) (fun r e => by cases e)
/-- Another X, and memory behind a loop that kept all of it. -/
theorem LtS.change {w W W' : World} {Fx : List (Nat × Obj)} {v : Value} {L : List Nat} {B11 n m : Nat} {X X' : Nat → Prop} (h : LtS w Fx v L B11 n X W) (h2 : LtS w Fx v L B11 m X' W') : LtS w Fx v L B11 m X W' :=
  ⟨fun p hp => ⟨(h2.fx p hp).1, (h.fx p hp).2⟩, h2.wt, h.wx, h2.nb, h.nx, h2.kept, h.lo⟩
theorem LtS.inc {w W : World} {Fx : List (Nat × Obj)} {v : Value} {L : List Nat} {B11 n m : Nat} {X : Nat → Prop} (h : LtS w Fx v L B11 n X W) (hB : w.heap.size ≤ B11) (hF : ∀ p ∈ Fx, p.1 ≠ B11) : LtS w Fx v L B11 m X (W.setCell ⟨B11, 0, none⟩ (.int .i64 (m : Nat))) := by
  have hset : Kept [B11] W (W.setCell ⟨B11, 0, none⟩ (.int .i64 (m : Nat))) := (Kept.refl [B11] W).setCell (.inl (by simp)) _
  refine ⟨fun p hp => ⟨hset.at (h.fx p hp).1 (by simpa using hF p hp), (h.fx p hp).2⟩, bx_kept h.wt hset (fun g e hg => ?_), h.wx, Boxed.set _ h.nb, h.nx, h.kept.setCell (.inr hB) _, h.lo⟩
  simp at hg
  subst hg
  exact bx_not h.wt h.nb (by intro cs q; cases q) e
theorem LtS.put {w W : World} {Fx : List (Nat × Obj)} {v : Value} {L : List Nat} {B11 n B : Nat} {t : TypeId} {u : Value} {X : Nat → Prop} (h : LtS w Fx v L B11 n X W) (hb : Boxed W B t u) (ht : t ≠ 23) (hB : w.heap.size ≤ B) (hne : B ≠ B11) (hF : ∀ p ∈ Fx, p.1 ≠ B) (x : Value) : LtS w Fx v L B11 n X (W.setCell ⟨B, 0, none⟩ x) := by
  have hset : Kept [B] W (W.setCell ⟨B, 0, none⟩ x) := (Kept.refl [B] W).setCell (.inl (by simp)) _
  refine ⟨fun p hp => ⟨hset.at (h.fx p hp).1 (by simpa using hF p hp), (h.fx p hp).2⟩, bx_kept h.wt hset (fun g e hg => ?_), h.wx, hset.at h.nb (by simpa using hne.symm), h.nx, h.kept.setCell (.inr hB) _, h.lo⟩
  simp at hg
  subst hg
  exact bx_not h.wt hb (by intro cs q; cases q; exact ht rfl) e
theorem LtS.get {w W : World} {Fx : List (Nat × Obj)} {va : Option Addr} {vc : Nat} {L : List Nat} {B11 n : Nat} {X : Nat → Prop} (h : LtS w Fx (.slice va L.length vc) L B11 n X W) {i : Nat} (hi : i < L.length) : ∃ b, va = some ⟨b, 0, none⟩ ∧ W.cell? ⟨b, i, none⟩ = some (.int .u16 (L[i] : Nat)) := by
  obtain ⟨g, c, e, _, hc⟩ := own_there h.wt (by omega)
  cases e
  exact ⟨g, rfl, hc i _ (by simp [u16s, hi])⟩
theorem eqlSeq (fn : Fn) (f c : Array Value) (w : World) : (binOp .eql 27 (.func fn f c) .nilFunc).run Tryd.prog w = .ok (.bool false) w := by
  have h : ∀ d, (Op.equalIn (d + 1) 27 (.func fn f c) .nilFunc).run Tryd.prog w = .ok false w := fun d => by simp [Op.equalIn, run_underlying Tryd.underlying27]
  simp only [binOp]
  simp [Op.equal, Op.maxDepth, h 9999]
section
variable {F : Fence} {n : Nat} {P : Program}
theorem rangeAtL1 {α : Type} {g : Operand} {ps : Array Tmp} {assign body : Code} {Q : Exit → Act → World → Prop} {a : Act} {w : World}
    (hro : F.round = none) (h1 : 1 ≤ n) {gf : Nat} {lb : Array Value} (hg : a.eval g = .func (.func gf) #[] lb) (hFg : F.fn gf) (eg : ∀ args w, (callFunc gf args).run P w = .ok (.enter gf args) w)
    {encs : α → Array Value} {At : (Nat → Prop) → α → World → Prop} {Fr : Nat → α → Prop} {T X₀ : Nat → Prop} {S Sp : List α → Prop} {N : Nat} {Lm : List α → Prop} (hseq : GoesAtL F (n - 1) P gf lb encs At Fr T X₀ S Sp N Lm w) (hAt : AtKeptX At) (hT : ∀ k, T k → k < w.heap.size) (hX₀ : ∀ k, X₀ k → k < w.heap.size) (hps : ∀ x, (encs x).size = ps.size)
    (I : (Nat → Prop) → List α → World → Prop) (Ix : Code → (Nat → Prop) → List α → World → Prop) (hI : Abide I) (hIx : ∀ c, Abide (Ix c)) (h0 : I X₀ [] w) (hLm : ∀ X pre W, I X pre W → Lm pre) (a₁ : α → Act)
    (hassign : ∀ (l : Nat) (x : α) (W : World) (K : Act → World → Prop), K (a₁ x) W →
      assign.wpIn (F.inRound l) (n - 1 - 1) P (Exit.then K (fun _ _ _ => False)) { tmps := (ps.zip (encs x)).foldl (fun t (p, v) => t.setIfInBounds p v) a.tmps, defers := [] } W)
    (hbody : ∀ (l : Nat) (X : Nat → Prop) (pre : List α) (x : α) (W : World), (∃ r, W.heap[l]? = some (.loop r)) → X l → (∀ k, X k → k < W.heap.size) → I X pre W → At X x W → pre.length < N → body.wpIn (F.inRound l) (n - 1 - 1) P (bodyOwesT T X I Ix (pre ++ [x]) W) (a₁ x) W)
    (hdone : ∀ (D : Nat) (X : Nat → Prop) (xs : List α) (W : World), w.heap.size ≤ D → X D → S xs → I X xs W → W.heap[D]? = some (.deferred (some [])) → Q .normal { a with defers := { target := .collected D, args := #[] } :: a.defers } W)
    (hstop : ∀ (D : Nat) (X : Nat → Prop) (c : Code) (pre : List α) (W : World), w.heap.size ≤ D → X D → Sp pre → Ix c X pre W → W.heap[D]? = some (.deferred (some [])) → c.wpIn F n P Q { a with defers := { target := .collected D, args := #[] } :: a.defers } W) :
    (Code.rangeFunc g ps assign body).wpIn F n P Q a w :=
  rangeAtL hro h1 hg hFg eg hseq hAt hT hX₀ hps I Ix hI hIx h0 hLm (fun x a' _ => a' = a₁ x) (fun _ _ _ _ _ _ _ _ h => h)
    (fun l _ _ x W K _ _ _ hK => hassign l x W K (hK _ _ (Kept.refl [] W) rfl))
    (fun l X pre x a' W hr hl hX hi hx hat hN _ => by subst hx; exact hbody l X pre x W hr hl hX hi hat hN) hdone hstop
theorem rangeAtLi1 {α : Type} {g : Operand} {ps : Array Tmp} {assign body : Code} {Q : Exit → Act → World → Prop} {a : Act} {w : World}
    {l₀ : Nat} {r₀ : Loop} (hro : F.round = some l₀) (hl₀ : w.heap[l₀]? = some (.loop r₀)) (h1 : 1 ≤ n) {gf : Nat} {lb : Array Value} (hg : a.eval g = .func (.func gf) #[] lb) (hFg : F.fn gf) (eg : ∀ args w, (callFunc gf args).run P w = .ok (.enter gf args) w)
    {encs : α → Array Value} {At : (Nat → Prop) → α → World → Prop} {Fr : Nat → α → Prop} {T X₀ : Nat → Prop} {S Sp : List α → Prop} {N : Nat} {Lm : List α → Prop} (hseq : GoesAtL F (n - 1) P gf lb encs At Fr T X₀ S Sp N Lm w) (hAt : AtKeptX At) (hT : ∀ k, T k → k < w.heap.size) (hX₀ : ∀ k, X₀ k → k < w.heap.size) (hps : ∀ x, (encs x).size = ps.size)
    (I : (Nat → Prop) → List α → World → Prop) (Ix : Code → (Nat → Prop) → List α → World → Prop) (hI : Abide I) (hIx : ∀ c, Abide (Ix c)) (h0 : I X₀ [] w) (hLm : ∀ X pre W, I X pre W → Lm pre) (a₁ : α → Act)
    (hassign : ∀ (l : Nat) (x : α) (W : World) (K : Act → World → Prop), K (a₁ x) W →
      assign.wpIn (F.inRound l) (n - 1 - 1) P (Exit.then K (fun _ _ _ => False)) { tmps := (ps.zip (encs x)).foldl (fun t (p, v) => t.setIfInBounds p v) a.tmps, defers := [] } W)
    (hbody : ∀ (l : Nat) (X : Nat → Prop) (pre : List α) (x : α) (W : World), (∃ r, W.heap[l]? = some (.loop r)) → X l → (∀ k, X k → k < W.heap.size) → I X pre W → At X x W → pre.length < N → body.wpIn (F.inRound l) (n - 1 - 1) P (bodyOwesT T X I Ix (pre ++ [x]) W) (a₁ x) W)
    (hdone : ∀ (X : Nat → Prop) (xs : List α) (W : World), S xs → I X xs W → Q .normal a W)
    (hstop : ∀ (X : Nat → Prop) (c : Code) (pre : List α) (W : World), Sp pre → Ix c X pre W → c.wpIn F n P Q a W) :
    (Code.rangeFunc g ps assign body).wpIn F n P Q a w :=
  rangeAtLi hro hl₀ h1 hg hFg eg hseq hAt hT hX₀ hps I Ix hI hIx h0 hLm (fun x a' _ => a' = a₁ x) (fun _ _ _ _ _ _ _ _ h => h)
    (fun l _ _ x W K _ _ _ hK => hassign l x W K (hK _ _ (Kept.refl [] W) rfl))
    (fun l X pre x a' W hr hl hX hi hx hat hN _ => by subst hx; exact hbody l X pre x W hr hl hX hi hat hN) hdone hstop
end
/-- The inner loop: the outer one's state beside its own blocks. -/
structure LtI (w : World) (Fx : List (Nat × Obj)) (v : Value) (L : List Nat) (B11 n B13 k : Nat) (T X : Nat → Prop) (W1 : World) (X2 : Nat → Prop) (W : World) : Prop where
  s : LtS w Fx v L B11 n X2 W
  kb : Boxed W B13 3 (.int .i64 (k : Nat))
  kx : ¬ X2 B13
  kp : KpX (orT T X) W1 W
  off : ∀ j, X2 j → ¬ orT T X j
theorem LtI.more {w W1 W : World} {Fx : List (Nat × Obj)} {v : Value} {L : List Nat} {B11 n B13 k : Nat} {T X X2 X3 : Nat → Prop} (h : LtI w Fx v L B11 n B13 k T X W1 X2 W) (h1 : ∀ j, orT T X j → j < W1.heap.size) (hX : ∀ j, X3 j → X2 j ∨ W.heap.size ≤ j) : LtI w Fx v L B11 n B13 k T X W1 X3 W := by
  have l1 := h.kb.lt
  have l2 := h.kp.size
  exact ⟨h.s.more hX, h.kb, fun q => (hX _ q).elim h.kx (by omega), h.kp, fun j q => (hX j q).elim (h.off j) (fun p r => by have := h1 j r; omega)⟩
theorem LtI.turn {w W1 W W' : World} {Fx : List (Nat × Obj)} {v : Value} {L : List Nat} {B11 n B13 k : Nat} {T X X2 : Nat → Prop} {row : Option Nat} (h : LtI w Fx v L B11 n B13 k T X W1 X2 W) (hg : W.grownBy W' row) (hr : ∀ r, row = some r → X2 r) : LtI w Fx v L B11 n B13 k T X W1 X2 W' :=
  ⟨h.s.turn hg hr, h.kb.kept hg (fun e => h.kx (hr _ e.symm)), h.kx, h.kp.trans (KpX.grown hg (fun r e => h.off r (hr r e))), h.off⟩
theorem LtI.inc {w W1 W : World} {Fx : List (Nat × Obj)} {v : Value} {L : List Nat} {B11 n B13 k m : Nat} {T X X2 : Nat → Prop} (h : LtI w Fx v L B11 n B13 k T X W1 X2 W) (hB : w.heap.size ≤ B13) (hne : B13 ≠ B11) (hF : ∀ p ∈ Fx, p.1 ≠ B13) (ho : ¬ orT T X B13) : LtI w Fx v L B11 n B13 m T X W1 X2 (W.setCell ⟨B13, 0, none⟩ (.int .i64 (m : Nat))) :=
  ⟨h.s.put h.kb (by decide) hB hne hF _, Boxed.set _ h.kb, h.kx, h.kp.trans (KpX.setCell ho _), h.off⟩
/-- How a range is left: at its end, or by break. -/
def lPost (fr : Nat → Act) (J : Nat → World → Prop) : Exit → Act → World → Prop
  | .normal, a, w => ∃ D, a = fr D ∧ J D w
  | .exit i, a, w => i = 2 ∧ ∃ D, a = fr D ∧ J D w
  | _, _, _ => False
theorem lPost_normal {fr : Nat → Act} {J : Nat → World → Prop} {a : Act} {w : World} (D : Nat) (h : a = fr D) (hJ : J D w) : lPost fr J .normal a w := ⟨D, h, hJ⟩
theorem lPost_exit {fr : Nat → Act} {J : Nat → World → Prop} {a : Act} {w : World} (D : Nat) (h : a = fr D) (hJ : J D w) : lPost fr J (.exit 2) a w := ⟨rfl, D, h, hJ⟩
theorem lPost_on {fr : Nat → Act} {J : Nat → World → Prop} {K : Act → World → Prop} {Q : Exit → Act → World → Prop} (h : ∀ D w, J D w → K (fr D) w) : ∀ e a w, lPost fr J e a w → Exit.inBlock 2 (Exit.then K Q) e a w := by
  intro e a w hl
  cases e with
  | normal => obtain ⟨D, rfl, hJ⟩ := hl; exact h D w hJ
  | exit i => obtain ⟨rfl, D, rfl, hJ⟩ := hl; exact h D w hJ
  | _ => exact (hl : False).elim
theorem pre_moreL {pre L : List Nat} {x : Nat} (h : pre <+: L) (hl : pre.length < L.length) (hx : x = L[pre.length]) : pre ++ [x] <+: L := by
  obtain ⟨t, rfl⟩ := h
  cases t with
  | nil => simp at hl
  | cons y t => simp at hx; subst hx; exact ⟨t, by simp⟩
theorem pre_notL {pre L : List Nat} {x : Nat} (hl : pre.length < L.length) (hx : ¬ x = L[pre.length]) : ¬ pre ++ [x] <+: L := by
  rintro ⟨t, rfl⟩
  apply hx
  simp
/-- The outer loop's state and how it is left. -/
def OuI (t : Nat) (w : World) (Fx : List (Nat × Obj)) (v : Value) (L : List Nat) (B11 : Nat) (X : Nat → Prop) (pre : List Nat) (W : World) : Prop := LtS w Fx v L B11 pre.length X W ∧ pre <+: L ∧ (t = 0 → pre.length < 2)
def OuX (t : Nat) (w : World) (Fx : List (Nat × Obj)) (v : Value) (L : List Nat) (B11 : Nat) (c : Code) (X : Nat → Prop) (pre : List Nat) (W : World) : Prop := (c = .ret ∧ ¬ pre <+: L) ∨ (c = .exit 2 ∧ t = 0 ∧ LtS w Fx v L B11 pre.length X W)
theorem ouI_abide (t : Nat) (w : World) (Fx : List (Nat × Obj)) (v : Value) (L : List Nat) (B11 : Nat) : Abide (OuI t w Fx v L B11) := ⟨fun h hX => ⟨h.1.more hX, h.2⟩, fun h hg hr => ⟨h.1.turn hg hr, h.2⟩⟩
theorem ouX_abide (t : Nat) (w : World) (Fx : List (Nat × Obj)) (v : Value) (L : List Nat) (B11 : Nat) (c : Code) : Abide (OuX t w Fx v L B11 c) := ⟨fun h hX => h.imp id (fun q => ⟨q.1, q.2.1, q.2.2.more hX⟩), fun h hg hr => h.imp id (fun q => ⟨q.1, q.2.1, q.2.2.turn hg hr⟩)⟩
/-- The inner loop's state and how it is left. -/
def InI (w : World) (Fx : List (Nat × Obj)) (v : Value) (L : List Nat) (B11 n B13 : Nat) (T X : Nat → Prop) (W1 : World) (X2 : Nat → Prop) (pre : List Nat) (W : World) : Prop := pre.length ≤ 1 ∧ LtI w Fx v L B11 n B13 pre.length T X W1 X2 W
def InX (w : World) (Fx : List (Nat × Obj)) (v : Value) (L : List Nat) (B11 n B13 : Nat) (T X : Nat → Prop) (W1 : World) (c : Code) (X2 : Nat → Prop) (_ : List Nat) (W : World) : Prop := c = .exit 4 ∧ ∃ k, LtI w Fx v L B11 n B13 k T X W1 X2 W
theorem inI_abide (w : World) (Fx : List (Nat × Obj)) (v : Value) (L : List Nat) (B11 n B13 : Nat) (T X : Nat → Prop) (W1 : World) (h1 : ∀ j, orT T X j → j < W1.heap.size) : Abide (InI w Fx v L B11 n B13 T X W1) := ⟨fun h hX => ⟨h.1, h.2.more h1 hX⟩, fun h hg hr => ⟨h.1, h.2.turn hg hr⟩⟩
theorem inX_abide (w : World) (Fx : List (Nat × Obj)) (v : Value) (L : List Nat) (B11 n B13 : Nat) (T X : Nat → Prop) (W1 : World) (h1 : ∀ j, orT T X j → j < W1.heap.size) (c : Code) : Abide (InX w Fx v L B11 n B13 T X W1 c) := ⟨fun ⟨h, k, q⟩ hX => ⟨h, k, q.more h1 hX⟩, fun ⟨h, k, q⟩ hg hr => ⟨h, k, q.turn hg hr⟩⟩
/-- The blocks of the law that stay. -/
structure Fxs (Fx : List (Nat × Obj)) (B6 B8 B9 B10 Bp Bm Bn t : Nat) (v : Value) (props : Int) (mu no : Nat) : Prop where
  m6 : (B6, Obj.cells #[.bool false] 4 (0, 0)) ∈ Fx
  m8 : (B8, Obj.cells #[v] 24 (0, 0)) ∈ Fx
  m9 : (B9, Obj.cells #[.func (.func 11) #[] #[.pointer (some ⟨Bp, 0, none⟩), .pointer (some ⟨Bm, 0, none⟩), .pointer (some ⟨Bn, 0, none⟩)]] 27 (0, 0)) ∈ Fx
  m10 : (B10, Obj.cells #[.int .i64 (t : Nat)] 3 (0, 0)) ∈ Fx
  mp : (Bp, Obj.cells #[.int .i64 props] 3 (0, 0)) ∈ Fx
  mm : (Bm, Obj.cells #[.int .u16 (mu : Nat)] 23 (0, 0)) ∈ Fx
  mn : (Bn, Obj.cells #[.int .u16 (no : Nat)] 23 (0, 0)) ∈ Fx
theorem LtS.cells {w W : World} {Fx : List (Nat × Obj)} {v v' : Value} {L : List Nat} {B11 n B6 B8 B9 B10 Bp Bm Bn t : Nat} {props : Int} {mu no : Nat} {X : Nat → Prop} (h : LtS w Fx v L B11 n X W) (hf : Fxs Fx B6 B8 B9 B10 Bp Bm Bn t v' props mu no) :
    (W.cell? ⟨B6, 0, none⟩ = some (.bool false) ∧ W.frozen? ⟨B6, 0, none⟩ = false) ∧ W.cell? ⟨B8, 0, none⟩ = some v' ∧ W.cell? ⟨B9, 0, none⟩ = some (.func (.func 11) #[] #[.pointer (some ⟨Bp, 0, none⟩), .pointer (some ⟨Bm, 0, none⟩), .pointer (some ⟨Bn, 0, none⟩)]) ∧ W.cell? ⟨B10, 0, none⟩ = some (.int .i64 (t : Nat)) ∧ W.cell? ⟨B11, 0, none⟩ = some (.int .i64 (n : Nat)) ∧ W.frozen? ⟨B11, 0, none⟩ = false :=
  ⟨⟨(cell_of (h.fx _ hf.m6).1 0).trans rfl, free_of (h.fx _ hf.m6).1 0⟩, (cell_of (h.fx _ hf.m8).1 0).trans rfl, (cell_of (h.fx _ hf.m9).1 0).trans rfl, (cell_of (h.fx _ hf.m10).1 0).trans rfl, h.nb.cell, h.nb.frozen⟩
theorem LtS.letAt {w W : World} {Fx : List (Nat × Obj)} {v v' : Value} {L : List Nat} {B11 n B6 B8 B9 B10 Bp Bm Bn t : Nat} {props : Int} {mu no : Nat} {X : Nat → Prop} (h : LtS w Fx v L B11 n X W) (hf : Fxs Fx B6 B8 B9 B10 Bp Bm Bn t v' props mu no) : LetAt Bp Bm Bn props mu no W :=
  ⟨(h.fx _ hf.mp).1, (h.fx _ hf.mm).1, (h.fx _ hf.mn).1⟩
/-- A block that is none of those that are kept. -/
theorem Fxs.off {Fx : List (Nat × Obj)} {B6 B8 B9 B10 Bp Bm Bn t B : Nat} {v : Value} {props : Int} {mu no : Nat} (hf : Fxs Fx B6 B8 B9 B10 Bp Bm Bn t v props mu no) (h : ∀ p ∈ Fx, p.1 ≠ B) : ¬ letB Bp Bm Bn B := by
  rintro (e | e | e)
  · exact h _ hf.mp e.symm
  · exact h _ hf.mm e.symm
  · exact h _ hf.mn e.symm
theorem LtS.off6 {w W : World} {Fx : List (Nat × Obj)} {v v' : Value} {L : List Nat} {B11 n B6 B8 B9 B10 Bp Bm Bn t : Nat} {props : Int} {mu no : Nat} {X : Nat → Prop} (h : LtS w Fx v L B11 n X W) (hf : Fxs Fx B6 B8 B9 B10 Bp Bm Bn t v' props mu no) : ¬ orT (letB Bp Bm Bn) X B6 := by
  rintro (e | e | e | e)
  · exact (h.fx _ hf.m6).2 e
  · exact heap_ne (h.fx _ hf.m6).1 (h.fx _ hf.mp).1 (by intro q; cases q) e
  · exact heap_ne (h.fx _ hf.m6).1 (h.fx _ hf.mm).1 (by intro q; cases q) e
  · exact heap_ne (h.fx _ hf.m6).1 (h.fx _ hf.mn).1 (by intro q; cases q) e
theorem LtS.off11 {w W : World} {Fx : List (Nat × Obj)} {v v' : Value} {L : List Nat} {B11 n B6 B8 B9 B10 Bp Bm Bn t : Nat} {props : Int} {mu no : Nat} {X : Nat → Prop} (h : LtS w Fx v L B11 n X W) (hf : Fxs Fx B6 B8 B9 B10 Bp Bm Bn t v' props mu no) (hl : ∀ p ∈ Fx, p.1 ≠ B11) : ¬ orT (letB Bp Bm Bn) X B11 := fun e => e.elim h.nx (hf.off hl)
theorem leaveL {n : Nat} {w W : World} {B D1 D2 : Nat} {tmps : Array Value} (p8 : tmps[6]?.getD undef = .pointer (some ⟨B, 0, none⟩)) (bb : Boxed W B 4 (.bool false)) (K1 : W.heap[D1]? = some (.deferred (some []))) (K2 : W.heap[D2]? = some (.deferred (some []))) (hne : D1 ≠ D2) (hk : Kept [] w W) (hB : w.heap.size ≤ B) (h1 : w.heap.size ≤ D1) (h2 : w.heap.size ≤ D2) :
    bodyPostM Fence.wide n Tryd.prog Tryd.f4 (fun e w' => e = .returned (.bool true) ∧ Kept [] w w') .ret { tmps := tmps, defers := [{ target := .collected D2, args := #[] }, { target := .collected D1, args := #[] }] } (W.setCell ⟨B, 0, none⟩ (.bool true)) := by
  have off : ∀ D, W.heap[D]? = some (.deferred (some [])) → D ≠ B := fun D hD e => by subst e; rw [show W.heap[D]? = _ from bb] at hD; cases hD
  have k1 : (W.setCell ⟨B, 0, none⟩ (.bool true)).heap[D1]? = some (.deferred (some [])) := (Below.heap_setCell _ _ _ _ (off D1 K1)).trans K1
  have k2 : (W.setCell ⟨B, 0, none⟩ (.bool true)).heap[D2]? = some (.deferred (some [])) := (Below.heap_setCell _ _ _ _ (off D2 K2)).trans K2
  have k1' : ((W.setCell ⟨B, 0, none⟩ (.bool true)).putObj D2 (.deferred none)).heap[D1]? = some (.deferred (some [])) := (World.putObj_heap_other hne).trans k1
  have b1 : Boxed (((W.setCell ⟨B, 0, none⟩ (.bool true)).putObj D2 (.deferred none)).putObj D1 (.deferred none)) B 4 (.bool true) := (World.putObj_heap_other (off D1 K1).symm).trans ((World.putObj_heap_other (off D2 K2).symm).trans (Boxed.set _ bb))
  have c := b1.cell
  refine ⟨by simp, .inl ⟨_, _, rfl, run_takeDeferred k2, by simp, .inl ⟨_, _, rfl, run_takeDeferred k1', ⟨.bool true, ?_, rfl, ?_⟩⟩⟩⟩
  · simp [results, Tryd.f4, go_sem, p8, c]
  · exact ((hk.setCell (p := ⟨B, 0, none⟩) (.inr hB) _).grown (grownBy_putObj' _ _ _) (fun k e => by cases e; exact .inr h2)).grown (grownBy_putObj' _ _ _) (fun k e => by cases e; exact .inr h1)
end Go.Proofs.YtepooofiadlceaaDoor
