/- The letters that the law RunnerGoes hands to All: its iterator, that counts how many were asked for. -/
import Derived.Test.YtbbfajbnklgncaaRgAtP
import Derived.Test.YtbbfajbnklgncaaRuEnds
namespace Go.Proofs.Ytbbfajbnklgncaa
open Go.RowKit Go.Shelf
attribute [local go_sem] Oper.semAt_some

theorem KpX.of_belowI {T : Nat → Prop} {W W' : World} {n : Nat} (h : Below n W W') (hT : ∀ k, T k → k < n) : KpX T W W' :=
  ⟨h.size, fun k _ hk ho => (h.block k (hT k hk)).trans ho⟩
/-- How many were asked for. -/
def Asked (ab k : Nat) (W : World) : Prop := Boxed W ab 3 (.int .i64 (k : Nat))
/-- All of the first n numbers; the first ones of them. -/
def upTo (n : Nat) (xs : List Nat) : Prop := xs = List.range n
def upSome (n : Nat) (xs : List Nat) : Prop := ∃ k, k ≤ n ∧ xs = List.range k
theorem upTo_all (n : Nat) : upTo n (List.range n) := rfl
theorem upSome_next {n k : Nat} (h : k < n) : upSome n (List.range k ++ [k]) := ⟨k + 1, h, List.range_succ.symm⟩
def sqV (us : List Nat) (i : Nat) : Array Value := #[.int .u16 (us.getD i 0 : Nat)]
/-- What the iterator leans on: the letters, and the box that holds them. -/
structure SeqAt (T : Nat → Prop) (ub n : Nat) (us : List Nat) (uv : Value) (W : World) : Prop where
  box : Boxed W ub 53 uv
  lie : (us = [] ∧ ∃ ad c, uv = .slice ad 0 c) ∨ ∃ b o c, uv = .slice (some ⟨b, o, none⟩) us.length c ∧ T b ∧ ∀ i, i < us.length → W.cell? ⟨b, o + i, none⟩ = some (.int .u16 (us.getD i 0 : Nat))
  tub : T ub
  len : us.length = n
theorem cell_own {T : Nat → Prop} {W W' : World} (k : KpX T W W') {b o : Nat} {v : Value} (hb : T b) (h : W.cell? ⟨b, o, none⟩ = some v) : W'.cell? ⟨b, o, none⟩ = some v := by
  obtain ⟨ob, hob⟩ : ∃ ob, W.heap[b]? = some ob := by
    exact ⟨_, Array.getElem?_eq_getElem (World.block_lt_of_cell? W _ h)⟩
  have h2 := k.own b ob hb hob
  simp only [World.cell?] at h ⊢
  rw [h2]
  rw [hob] at h
  exact h
theorem SeqAt.kpx {T : Nat → Prop} {ub n : Nat} {us : List Nat} {uv : Value} {W W' : World} (h : SeqAt T ub n us uv W) (k : KpX T W W') : SeqAt T ub n us uv W' := by
  refine ⟨k.own _ _ h.tub h.box, ?_, h.tub, h.len⟩
  rcases h.lie with q | ⟨b, o, c, q1, q2, q3⟩
  · exact .inl q
  · exact .inr ⟨b, o, c, q1, q2, fun i hi => cell_own k q2 (q3 i hi)⟩
theorem grownBy_cell {W : World} {b : Nat} (v : Value) : W.grownBy (W.setCell ⟨b, 0, none⟩ v) (some b) := grownBy_setCell' W b v
set_option maxRecDepth 100000 in
set_option maxHeartbeats 1600000 in
theorem seq_goes (m : Nat) (hm : 1 ≤ m) (T : Nat → Prop) (ub ab n : Nat) (us : List Nat) (uv : Value) (hn : n ≤ 1000000) (w : World) (hA : SeqAt T ub n us uv w) (hT : ∀ k, T k → k < w.heap.size) (ha : Asked ab 0 w) (hab : ¬ T ab) :
    GoesAtP Fence.wide m Try.prog 15 #[.pointer (some ⟨ub, 0, none⟩), .pointer (some ⟨ab, 0, none⟩)] (sqV us) (fun i W => Asked ab (i + 1) W) T (fun k => k = ab) (upTo n) (upSome n) n (fun pre i => pre = List.range i) (fun xs W => Asked ab xs.length W) w := by
  intro l J Jx X W hW hJ _ hY h0 hX0 hX
  have hAW := hA.kpx (KpX.of_belowI hW hT)
  have haW : Asked ab 0 W := (hW.block _ ha.lt).trans ha
  have hXab : X ab := hX0 ab rfl
  obtain ⟨ad, c, rfl⟩ : ∃ ad c, uv = .slice ad n c := by
    rcases hAW.lie with ⟨q, ad, c, q2⟩ | ⟨b, o, c, q, _⟩
    · have := hAW.len; rw [q] at this; exact ⟨ad, c, by rw [q2]; simp at this; rw [this]⟩
    · exact ⟨_, c, by rw [q, hAW.len]⟩
  have HSQ : Hid (∀ V, KpX T W V → SeqAt T ub n us (.slice ad n c) V) := fun V k => hAW.kpx k
  have HY : Hid _ := hY
  have HJ : Hid (Abide J) := hJ
  have HX : Hid (X ab ∧ (∀ k, X k → k < W.heap.size) ∧ ¬ T ab) := ⟨hXab, hX, hab⟩
  clear hA hT ha hab hW hY hJ hX0 hX hAW hXab
  refine callsIn_of_wp Try.func15 rfl trivial ?_ rfl
  simp only [Try.ntmps15, List.size_toArray, List.length_cons, List.length_nil, Nat.reduceAdd, Nat.reduceSub, Array.replicate_succ, Array.replicate_zero, List.push_toArray, List.append_toArray, List.nil_append, List.cons_append]
  gi_wp2_with fail
  gi_loopw [4] (fun i wr => ∃ k : Nat, i = .int .i64 (k : Nat) ∧ k ≤ n ∧ J X (List.range k) wr ∧ Asked ab k wr ∧ KpX T W wr) (fun i _ => n - (intOf i).toNat)
  case atStart => exact ⟨0, rfl, Nat.zero_le _, h0, haW, KpX.refl _ _⟩
  case round =>
    obtain ⟨k, rfl, hk, hJk, hak, hkp⟩ := hrel
    have hsq := HSQ.out wr hkp
    have u0 : wr.cell? ⟨ub, 0, none⟩ = some (.slice ad n c) := hsq.box.cell
    by_cases hlt : k < n
    · have y0 : (k : Int) < (n : Int) := by omega
      have y1 : (0 : Int) ≤ (k : Int) := by omega
      obtain ⟨W2, hW2⟩ : ∃ W2, wr.setCell ⟨ab, 0, none⟩ (.int .i64 ((k : Int) + 1)) = W2 := ⟨_, rfl⟩
      have e1 : ((k : Int) + 1) = ((k + 1 : Nat) : Int) := by omega
      have hg2 : wr.grownBy W2 (some ab) := by rw [← hW2]; exact grownBy_setCell' wr ab _
      have ha2 : Asked ab (k + 1) W2 := by
        show W2.heap[ab]? = _
        rw [← hW2, e1]
        exact (bx_set hak _).trans rfl
      have hk2 : KpX T W W2 := hkp.trans (KpX.grown hg2 (fun r e => by cases e; exact HX.out.2.2))
      have hJ2 : J X (List.range k) W2 := HJ.out.turn hJk hg2 (fun r e => by cases e; exact HX.out.1)
      have hsq2 := HSQ.out W2 hk2
      have u2 : W2.cell? ⟨ub, 0, none⟩ = some (.slice ad n c) := hsq2.box.cell
      have a0 : wr.cell? ⟨ab, 0, none⟩ = some (.int .i64 (k : Nat)) := hak.cell
      have a1 : wr.frozen? ⟨ab, 0, none⟩ = false := free_of hak 0
      obtain ⟨v, hv⟩ : ∃ v, us.getD k 0 = v := ⟨_, rfl⟩
      have hsz2 : ∀ k, X k → k < W2.heap.size := fun q hq => by have := HX.out.2.1 q hq; have := hk2.size; omega
      have HYK : Hid (YieldAt Fence.wide (m - 1) Try.prog l #[.int .u16 (v : Nat)] W2 fun e W' =>
          (e = .returned (.bool true) ∧ J X (List.range k ++ [k]) W' ∧ KpX (orT T X) W2 W') ∨ (e = .returned (.bool false) ∧ Jx X (List.range k ++ [k]) W' ∧ KpX (orT T X) W2 W')) := by
        have q := HY.out X (List.range k) k W2 hJ2 ha2 hsz2 (by simpa using hlt) rfl
        unfold sqV at q
        rw [hv] at q
        exact q
      have HK2 : Hid (KpX T W W2) := hk2
      have HA2 : Hid (Asked ab (k + 1) W2) := ha2
      rcases hsq2.lie with ⟨q, _⟩ | ⟨b, o, c', hpe, hTb, hcell⟩
      · have := hsq2.len; rw [q] at this; simp at this; omega
      · cases hpe
        have d0 := hcell k (by rw [hsq2.len]; exact hlt)
        rw [hv] at d0
        clear hsq hsq2 hJk hak hkp hg2 ha2 hk2 hJ2 hsz2 hcell hv e1
        obtain ⟨fn, tmps, assign, body, hy, hR⟩ := HYK.out
        gi_wp2_with fail
        refine hR.mono ?_
        rintro e W3 (⟨rfl, hJ3, hk3⟩ | ⟨rfl, hJx3, hk3⟩)
        · have HJ3 : Hid (J X (List.range k ++ [k]) W3) := hJ3
          have HA3 : Hid (Asked ab (k + 1) W3) := hk3.own _ _ (.inl HX.out.1) HA2.out
          have HK3 : Hid (KpX T W W3) := HK2.out.trans (hk3.mono (fun _ h => .inr h))
          clear hJ3 hk3 hy hR
          gi_wp2
          go_roundw
          case rel => exact ⟨k + 1, by go_num, by omega, by rw [List.range_succ]; exact HJ3.out, HA3.out, HK3.out⟩
          case measure => simp [intOf]; omega
        · have HJX : Hid (Jx X (List.range k ++ [k]) W3) := hJx3
          have HA3 : Hid (Asked ab (k + 1) W3) := hk3.own _ _ (.inl HX.out.1) HA2.out
          clear hJx3 hk3 hy hR
          gi_wp2
          refine bodyPost_ret (results_none rfl _ _ _) rfl ?_
          exact ⟨⟨_, rfl⟩, .inr ⟨_, X, upSome_next hlt, HJX.out, by dsimp only; rw [List.length_append, List.length_range]; exact HA3.out⟩⟩
    · obtain rfl : k = n := by omega
      have y0 : ¬ ((k : Int) < (k : Int)) := by omega
      gi_wp2
      go_end0
      exact ⟨⟨_, rfl⟩, .inl ⟨_, X, upTo_all _, hJk, by dsimp only; rw [List.length_range]; exact hak⟩⟩
end Go.Proofs.Ytbbfajbnklgncaa
