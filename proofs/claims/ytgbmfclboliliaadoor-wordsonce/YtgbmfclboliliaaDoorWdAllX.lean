/- words.All: the iterator. -/
import Derived.Test.YtgbmfclboliliaaDoorWdShapeX
namespace Go.Proofs.YtgbmfclboliliaaDoor
open Go.RowKit Go.Shelf
attribute [local go_sem ↓] Go.wp_at_zero Go.wp_at_succ

theorem YieldAt.anyDepth {F : Fence} (hd : F.depth = none) {m : Nat} (m' : Nat) {P : Program} {l : Nat} {args : Array Value} {W : World} {R : Ending → World → Prop} (h : YieldAt F m P l args W R) : YieldAt F m' P l args W R := by
  obtain ⟨fn, tmps, assign, body, hy, h1, h2⟩ := h
  exact ⟨fn, tmps, assign, body, hy, h1, fun c cs _ => h2 c cs (fun d h => by rw [hd] at h; cases h)⟩
/-- All normal words of so many places. -/
def ofPlaces (below p : Nat) (s : Nat) : List Wd := (List.range s).flatMap fun s => ext below s p []
def allTo (below n : Nat) : List Wd := (List.range n).flatMap fun p => ofPlaces below (p + 1) (p + 1)
def allW (props size : Nat) : List Wd := allTo (2 ^ props) size
theorem ofPlaces_succ (below p s : Nat) : ofPlaces below p (s + 1) = ofPlaces below p s ++ ext below s p [] := by
  unfold ofPlaces; rw [List.range_succ, List.flatMap_append]; simp
theorem allTo_succ (below n : Nat) : allTo below (n + 1) = allTo below n ++ ofPlaces below (n + 1) (n + 1) := by
  unfold allTo; rw [List.range_succ, List.flatMap_append]; simp
theorem ofPlaces_prefix (below p s t : Nat) (h : s ≤ t) : ofPlaces below p s <+: ofPlaces below p t := by
  obtain ⟨m, rfl⟩ : ∃ m, t = s + m := ⟨t - s, by omega⟩
  unfold ofPlaces; rw [List.range_add, List.flatMap_append]; exact List.prefix_append _ _
theorem allTo_prefix (below n m : Nat) (h : n ≤ m) : allTo below n <+: allTo below m := by
  obtain ⟨k, rfl⟩ : ∃ k, m = n + k := ⟨m - n, by omega⟩
  unfold allTo; rw [List.range_add, List.flatMap_append]; exact List.prefix_append _ _
theorem step_prefix (below n p s : Nat) (hp : p < n) (hs : s ≤ p) : allTo below p ++ ofPlaces below (p + 1) s ++ ext below s (p + 1) [] <+: allTo below n := by
  refine List.IsPrefix.trans ?_ (allTo_prefix below (p + 1) n hp)
  rw [allTo_succ, List.append_assoc, List.prefix_append_right_inj, ← ofPlaces_succ]
  exact ofPlaces_prefix below (p + 1) (s + 1) (p + 1) (by omega)
/-- What All's function value leans on. -/
structure AllAt (Bz Bq size props : Nat) (W : World) : Prop where
  bz : Boxed W Bz 3 (.int .i64 (size : Nat))
  bq : Boxed W Bq 3 (.int .i64 (props : Nat))
theorem AllAt.kpx {Bz Bq size props : Nat} {W W' : World} (h : AllAt Bz Bq size props W) (k : KpX (fun k => k = Bz ∨ k = Bq) W W') : AllAt Bz Bq size props W' := ⟨k.own _ _ (.inl rfl) h.bz, k.own _ _ (.inr rfl) h.bq⟩
/-- How far the loops have come. -/
def AllSo (Bz Bq : Nat) (J : (Nat → Prop) → List Nw → World → Prop) (X : Nat → Prop) (W : World) (lst : List Wd) (wr : World) : Prop :=
  ∃ X' xs, (∀ k, X k → X' k) ∧ KpX (fun k => k = Bz ∨ k = Bq) W wr ∧ J X' xs wr ∧ (∀ k, X' k → k < wr.heap.size) ∧ xs.map Nw.q = lst
set_option maxHeartbeats 4000000 in
set_option maxRecDepth 20000 in
theorem all_goes (m Bz Bq size props : Nat) (w : World) (hA : AllAt Bz Bq size props w) (hs : size ≤ 1000) (hp : props ≤ 8) :
    GoesAtX Fence.wide m Tryd.prog 68 #[.pointer (some ⟨Bz, 0, none⟩), .pointer (some ⟨Bq, 0, none⟩)] nwV (NwAt (allW props size)) (fun k => k = Bz ∨ k = Bq) (fun _ => False) (fun xs => xs.map Nw.q = allW props size) (fun pre => pre.map Nw.q <+: allW props size) (allW props size).length w := by
  have hbl : 2 ^ props ≤ 256 := Nat.le_trans (Nat.pow_le_pow_right (by omega) hp) (by decide)
  unfold allW
  obtain ⟨b, hb⟩ : ∃ b, 2 ^ props = b := ⟨_, rfl⟩
  have z4 : IntKind.u16.wrap ((2 : Int) ^ props) = (b : Int) := by
    have e : (2 : Int) ^ props = (b : Int) := by rw [← hb, Int.natCast_pow]; rfl
    rw [e]
    simp only [IntKind.wrap, IntKind.bits, IntKind.signed]
    simp
    omega
  rw [hb] at hbl ⊢
  clear hb
  intro l J Jx X W hW hJ hJx hY h0 hX0 hX
  have hAW : AllAt Bz Bq size props W := ⟨(hW.block _ hA.bz.lt).trans hA.bz, (hW.block _ hA.bq.lt).trans hA.bq⟩
  have HA : Hid (AllAt Bz Bq size props W) := hAW
  have HSH : Hid (∀ (stem places : Nat) (X : Nat → Prop) (pre : List Nw) (W1 : World), stem < places → places ≤ 1000 → AllAt Bz Bq size props W1 → J X pre W1 → (∀ k, X k → k < W1.heap.size) → pre.length + (ext b stem places []).length ≤ (allTo b size).length → (∀ y ∈ ext b stem places [], y ∈ allTo b size) →
      Calls Tryd.prog 69 #[.int .i64 (stem : Nat), .int .i64 (places : Nat), .int .u16 (b : Nat), .func (.yield l) #[] #[]] W1 (ShapeEnds (fun k => k = Bz ∨ k = Bq) J Jx (ext b stem places []) pre X W1)) := fun stem places X pre W1 h1 h2 h3 h4 h5 h6 h7 =>
    shape_any (L := allTo b size) hJ (fun m' X pre x W1 a b c d => YieldAt.anyDepth rfl m' (hY X pre x W1 a b c d)) h1 h2 hbl X pre W1 (fun k hk => by rcases hk with rfl | rfl; exact h3.bz.lt; exact h3.bq.lt) h4 h5 h6 h7
  have H0 : Hid (AllSo Bz Bq J X W (allTo b 0) W) := ⟨X, [], fun _ h => h, KpX.refl _ _, h0, hX, rfl⟩
  clear hJ hJx hY h0 hX0 hX hA hW hAW
  refine callsIn_wide.2 ?_
  go_enter Tryd.func68, Tryd.ntmps68
  go_wp2_with fail
  go_loopw [4, 5, 12] (fun a _ _ wr => ∃ P : Nat, a = .int .i64 (P : Nat) ∧ 1 ≤ P ∧ P ≤ size + 1 ∧ Hid (AllSo Bz Bq J X W (allTo b (P - 1)) wr)) (fun a _ _ _ => size + 1 - (intOf a).toNat)
  case atStart => exact ⟨1, rfl, by omega, by omega, H0.out⟩
  case round =>
    obtain ⟨P, rfl, hP1, hP2, HSO⟩ := hrel
    have hAr : AllAt Bz Bq size props wr := by obtain ⟨_, _, _, q, _⟩ := HSO.out; exact HA.out.kpx q
    have c1 := hAr.bz.cell
    have c2 := hAr.bq.cell
    clear hAr
    by_cases hlt : P ≤ size
    · have z1 : (P : Int) ≤ (size : Int) := by omega
      go_wp2_with fail
      go_loopw [5, 12] (fun _ q w2 => ∃ s : Nat, q = .int .i64 (s : Nat) ∧ s ≤ P ∧ Hid (AllSo Bz Bq J X W (allTo b (P - 1) ++ ofPlaces b P s) w2)) (fun _ q _ => P - (intOf q).toNat)
      case atStart => exact ⟨0, rfl, Nat.zero_le _, by rw [show ofPlaces b P 0 = [] from rfl, List.append_nil]; exact HSO.out⟩
      case round =>
        obtain ⟨s, rfl, hs2, HSO2⟩ := hrel
        clear c1 c2
        obtain ⟨X2, xs, hX2, hT2, hJ2, hXL2, hxs⟩ := HSO2.out
        have hAr := HA.out.kpx hT2
        have c1 := hAr.bz.cell
        have c2 := hAr.bq.cell
        by_cases hlt2 : s < P
        · have z2 : (s : Int) < (P : Int) := by omega
          have z3 : (0 : Int) ≤ (props : Int) := by omega
          obtain ⟨p, hp'⟩ : ∃ p, P = p + 1 := ⟨P - 1, by omega⟩
          have hpre : allTo b (P - 1) ++ ofPlaces b P s ++ ext b s P [] <+: allTo b size := by
            rw [hp', show p + 1 - 1 = p by omega]
            exact step_prefix b size p s (by omega) (by omega)
          have hlen4 : xs.length + (ext b s P []).length ≤ (allTo b size).length := by
            have q1 := hpre.length_le
            rw [List.length_append, ← hxs, List.length_map] at q1
            exact q1
          have HC : Hid (Calls Tryd.prog 69 #[.int .i64 (s : Nat), .int .i64 (P : Nat), .int .u16 (b : Nat), .func (.yield l) #[] #[]] wr (ShapeEnds (fun k => k = Bz ∨ k = Bq) J Jx (ext b s P []) xs X2 wr)) := HSH.out s P X2 xs wr hlt2 (by omega) hAr hJ2 hXL2 hlen4 (fun y hy => hpre.subset (List.mem_append_right _ hy))
          have HPRE : Hid (allTo b (P - 1) ++ ofPlaces b P s ++ ext b s P [] <+: allTo b size) := hpre
          have HXS : Hid (xs.map Nw.q = allTo b (P - 1) ++ ofPlaces b P s) := hxs
          have HX2 : Hid _ := hX2
          have HT2 : Hid (KpX (fun k => k = Bz ∨ k = Bq) W wr) := hT2
          clear hX2 hT2 hJ2 hXL2 hxs hAr hpre hlen4 hp'
          go_wp2_with fail
          refine HC.out.mono ?_
          rintro e W5 (⟨rfl, X5, ys, hX5, hT5, hJ5, hXL5, hys⟩ | ⟨rfl, X5, ys, hJx5, hys⟩)
          · have HREL : Hid (AllSo Bz Bq J X W (allTo b (P - 1) ++ ofPlaces b P (s + 1)) W5) := by
              refine ⟨X5, xs ++ ys, fun k h => hX5 k (HX2.out k h), HT2.out.trans hT5, hJ5, hXL5, ?_⟩
              rw [List.map_append, HXS.out, hys, ofPlaces_succ, List.append_assoc]
            clear hX5 hT5 hJ5 hXL5 hys
            go_wp2
            go_roundw
            case rel => exact ⟨s + 1, by go_num, by omega, HREL.out⟩
            case measure => simp [intOf]; omega
          · have HPF : Hid ((xs ++ ys).map Nw.q <+: allTo b size) := by
              refine List.IsPrefix.trans ?_ HPRE.out
              rw [List.map_append, HXS.out, List.prefix_append_right_inj]
              exact hys
            have HJX : Hid (Jx X5 (xs ++ ys) W5) := hJx5
            clear hys hJx5
            go_wp2
            refine bodyPost_ret (results_none rfl _ _ _) rfl ?_
            exact ⟨⟨_, rfl⟩, .inr ⟨xs ++ ys, X5, HPF.out, HJX.out⟩⟩
        · obtain rfl : s = P := by omega
          have z2 : ¬ ((s : Int) < (s : Int)) := by omega
          have HREL : Hid (AllSo Bz Bq J X W (allTo b (s + 1 - 1)) wr) := by
            have e : allTo b (s + 1 - 1) = allTo b (s - 1) ++ ofPlaces b s s := by
              obtain ⟨p, rfl⟩ : ∃ p, s = p + 1 := ⟨s - 1, by omega⟩
              rw [show p + 1 + 1 - 1 = p + 1 by omega, show p + 1 - 1 = p by omega, allTo_succ]
            rw [e]
            exact HSO2.out
          clear hX2 hT2 hJ2 hXL2 hxs hAr
          go_wp2
          go_roundw
          case rel => exact ⟨s + 1, by go_num, by omega, by omega, HREL.out⟩
          case measure => simp [intOf]; omega
    · obtain rfl : P = size + 1 := by omega
      have z1 : ¬ (((size + 1 : Nat) : Int) ≤ (size : Int)) := by omega
      obtain ⟨X2, xs, _, _, hJ2, _, hxs⟩ := HSO.out
      have HJ2 : Hid (J X2 xs wr) := hJ2
      have HXS : Hid (xs.map Nw.q = allTo b size) := hxs
      clear hJ2 hxs
      go_wp2
      go_end0
      exact ⟨⟨_, rfl⟩, .inl ⟨xs, HXS.out, X2, HJ2.out⟩⟩
end Go.Proofs.YtgbmfclboliliaaDoor
