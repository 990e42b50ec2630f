/- WordsParts: Suffix and Join: letters ahead, and behind, are what they were. -/
import Derived.Test.YtnejehlgfckdgaaDoorWdWorks
import Derived.Test.YtnejehlgfckdgaaDoorWdMade
namespace Go.Proofs.YtnejehlgfckdgaaDoor
open Go.RowKit Go.Shelf
attribute [local go_sem ↓] Go.wp_at_zero Go.wp_at_succ

/-- A made word in a box. -/
structure BM (W : World) (B : Nat) (x y : Value) (f : Nat → Nat) (n : Nat) : Prop where
  box : Wd2 W B x y
  made : Made W x y f n
theorem BM.kept {W W' : World} {B : Nat} {x y : Value} {f : Nat → Nat} {n : Nat} (h : BM W B x y f n) (k : Kept [] W W') : BM W' B x y f n := ⟨h.box.kept k, h.made.kept k⟩
theorem BM.new {W : World} {x y : Value} {f : Nat → Nat} {n : Nat} (h : Made W x y f n) : BM (W.alloc (.cells #[x, y] 25)) W.heap.size x y f n := ⟨heap_alloc_new W _, h.kept ((Kept.refl [] W).alloc _)⟩
theorem kal {W W' : World} {o : Obj} (k : Kept [] (W.alloc o) W') : Kept [] W W' := kept_same ((Kept.refl [] W).alloc o) k
theorem ahead_range (k : Nat) (f : Nat → Nat) : ahead ((List.range k).map f) (fun i => f (k + i)) = f := by
  funext i
  unfold ahead
  simp only [List.length_map, List.length_range]
  split
  · rename_i h
    simp [List.getD_eq_getElem?_getD, h]
  · rename_i h
    show f (k + (i - k)) = f i
    congr 1
    omega
/-- What stands when the loops begin. -/
structure PAt (W : World) (Bw Bj Bt : Nat) (x y xj yj xt yt uv : Value) (us : List Nat) (f fj ft : Nat → Nat) (nj : Nat) : Prop where
  bw : Wd2 W Bw x y
  w : Wat W x y f 20000
  j : BM W Bj xj yj fj nj
  t : BM W Bt xt yt ft 20000
  u : Lets W uv us
theorem PAt.kept {W W' : World} {Bw Bj Bt : Nat} {x y xj yj xt yt uv : Value} {us : List Nat} {f fj ft : Nat → Nat} {nj : Nat} (h : PAt W Bw Bj Bt x y xj yj xt yt uv us f fj ft nj) (k : Kept [] W W') : PAt W' Bw Bj Bt x y xj yj xt yt uv us f fj ft nj :=
  ⟨h.bw.kept k, h.w.kept k, h.j.kept k, h.t.kept k, h.u.kept k⟩

theorem parts_cells {W W' : World} {Bw Bj Bt : Nat} {x y xj yj xt yt uv c : Value} {us : List Nat} {f fj ft : Nat → Nat} {nj b o : Nat} (h : PAt W Bw Bj Bt x y xj yj xt yt uv us f fj ft nj) (hc : W.cell? ⟨b, o, none⟩ = some c) (k : Kept [] W W') :
    W'.cell? ⟨Bj, 0, none⟩ = some xj ∧ W'.cell? ⟨Bj, 1, none⟩ = some yj ∧ W'.cell? ⟨b, o, none⟩ = some c := by
  obtain ⟨c0, c1, _, _⟩ := (h.j.box.kept k).cells
  exact ⟨c0, c1, cell_kept0 k hc⟩
theorem parts_cells2 {W W' : World} {Bw Bj Bt : Nat} {x y xj yj xt yt uv : Value} {us : List Nat} {f fj ft : Nat → Nat} {nj : Nat} (h : PAt W Bw Bj Bt x y xj yj xt yt uv us f fj ft nj) (k : Kept [] W W') :
    W'.cell? ⟨Bt, 0, none⟩ = some xt ∧ W'.cell? ⟨Bt, 1, none⟩ = some yt ∧ W'.cell? ⟨Bw, 0, none⟩ = some x ∧ W'.cell? ⟨Bw, 1, none⟩ = some y ∧ W'.cell? ⟨Bj, 0, none⟩ = some xj ∧ W'.cell? ⟨Bj, 1, none⟩ = some yj := by
  obtain ⟨c0, c1, _, _⟩ := (h.j.box.kept k).cells
  obtain ⟨d0, d1, _, _⟩ := (h.bw.kept k).cells
  obtain ⟨e0, e1, _, _⟩ := (h.t.box.kept k).cells
  exact ⟨e0, e1, d0, d1, c0, c1⟩
set_option maxHeartbeats 4000000 in
theorem parts_main (a1 a2 au : Option Addr) (c1 c2 cu ns nl nu : Nat) (f fj : Nat → Nat) (us : List Nat) (z : Int) (w : World) (hw : Wat w (.slice a1 ns c1) (.slice a2 nl c2) f 20000) (hu : Lets w (.slice au nu cu) us) (hn : us.length = nu) (hfj : ahead us f = fj) (hz : -9223372036854775808 ≤ z ∧ z ≤ 9223372036854775807) (hT : PowTab w)
    (h0 : 0 < nl) (hsz : ns + nl ≤ 20000) (hus : nu ≤ 20000) :
    Calls Tryd.prog 6 #[.agg #[.slice a1 ns c1, .slice a2 nl c2], .slice au nu cu, .int .i64 z] w fun e w' => e = .returned (.bool true) ∧ Kept [] w w' := by
  have HW : Hid (∀ W, Kept [] w W → Calls Tryd.prog 9 #[] W fun e w' => e = .returned (.bool true) ∧ Hid (Kept [] W w')) := fun W k => works_any W (hT.kept k)
  have HWat : Hid (Wat w (.slice a1 ns c1) (.slice a2 nl c2) f 20000) := hw
  have HU : Hid (Lets w (.slice au nu cu) us) := hu
  have HNU : Hid (us.length = nu) := hn
  have HZ : Hid (-9223372036854775808 ≤ z ∧ z ≤ 9223372036854775807) := hz
  have HFJ : Hid (ahead us f = fj) := hfj
  have HJc : Hid (∀ W, Kept [] w W → Calls Tryd.prog 20 #[.slice au nu cu, .agg #[.slice a1 ns c1, .slice a2 nl c2]] W (Makes W fj (nu + 20000))) := fun W k => by
    have := join_wat (hu.kept k) (hw.kept k) (by omega)
    rw [hn, hfj] at this
    exact this
  have HSc : Hid (∀ W x y, Made W x y fj (nu + 20000) → Calls Tryd.prog 21 #[.agg #[x, y], .int .i64 (nu : Nat)] W (Makes W (fun i => fj (nu + i)) (nu + 20000))) := fun W x y h => suffix_wat h.wat (by omega) nu (by omega)
  have HNc : Hid (∀ W, Kept [] w W → Calls Tryd.prog 16 #[.agg #[.slice a1 ns c1, .slice a2 nl c2]] W (Makes W f 20000)) := fun W k => normal_wat (hw.kept k) (by omega)
  have HS1 : Hid (∀ W x y x' y', Made W x y (fun i => fj (nu + i)) (nu + 20000) → Made W x' y' f 20000 → Calls Tryd.prog 17 #[.agg #[x, y], .agg #[x', y']] W fun e w1 => e = .returned (.bool true) ∧ Hid (Kept [] W w1)) := fun W x y x' y' h h' => same_made h h' (fun i => by
    rw [← hfj]; unfold ahead; rw [hn, if_neg (by omega)]; congr 1; omega)
  have HPc : Hid (∀ W (k : Nat), k ≤ 65536 → Kept [] w W → Calls Tryd.prog 22 #[.agg #[.slice a1 ns c1, .slice a2 nl c2], .int .i64 (k : Nat)] W fun e w1 => ∃ g, e = .returned (.slice (some ⟨g, 0, none⟩) k k) ∧ Hid (Lets w1 (.slice (some ⟨g, 0, none⟩) k k) ((List.range k).map f)) ∧ Hid (Kept [] W w1)) := fun W k hk kp => prefix_wat (hw.kept kp) k hk
  have HTc : Hid (∀ W (k : Nat), k ≤ 65536 → Kept [] w W → Calls Tryd.prog 21 #[.agg #[.slice a1 ns c1, .slice a2 nl c2], .int .i64 (k : Nat)] W (Makes W (fun i => f (k + i)) 20000)) := fun W k hk kp => suffix_wat (hw.kept kp) (by omega) k (by omega)
  have HBc : Hid (∀ W (k : Nat) p x y, k ≤ 65536 → Lets W p ((List.range k).map f) → Made W x y (fun i => f (k + i)) 20000 → Calls Tryd.prog 20 #[p, .agg #[x, y]] W (Makes W f (k + 20000))) := fun W k p x y hk hp hm => by
    have := join_wat hp hm.wat (by simp; omega)
    rw [ahead_range] at this
    simpa using this
  have HS2 : Hid (∀ W x y x' y' n, Made W x y f n → Made W x' y' f 20000 → Calls Tryd.prog 17 #[.agg #[x, y], .agg #[x', y']] W fun e w1 => e = .returned (.bool true) ∧ Hid (Kept [] W w1)) := fun W x y x' y' n h h' => same_made h h' (fun i => rfl)
  have hb1 : ¬ ((20000 : Int) < (ns : Int) + (nl : Int)) := by omega
  have hb2 : ((nl : Int) == 0) = false := by rw [beq_eq_false_iff_ne]; omega
  have hb3 : ¬ ((20000 : Int) < (nu : Int)) := by omega
  obtain ⟨V, hV⟩ : ∃ V, w.alloc (.cells #[.slice a1 ns c1, .slice a2 nl c2] 25) = V := ⟨_, rfl⟩
  have HB : Hid (Wd2 V w.heap.size (.slice a1 ns c1) (.slice a2 nl c2)) := by show Wd2 _ _ _ _; rw [← hV]; exact heap_alloc_new w _
  have HKV : Hid (Kept [] w V) := by show Kept [] w V; rw [← hV]; exact (Kept.refl [] w).alloc _
  have HV : Hid _ := hV
  have T1 : Hid True := trivial
  have T2 : Hid True := trivial
  have T3 : Hid True := trivial
  clear hw hu hn hfj hT hV hz
  go_enter Tryd.func6, Tryd.ntmps6
  go_wp2_with (first
    | (go_at_call 9; rw [HV.out]; refine (HW.out _ HKV.out).mono ?_; rintro e w1 ⟨rfl, hk⟩; have HK1 : Hid (Kept [] w w1) := kept_same HKV.out hk.out; have HW1 : Hid (Wd2 w1 w.heap.size (.slice a1 ns c1) (.slice a2 nl c2)) := HB.out.kept hk.out; obtain ⟨p0, p1, -, -⟩ := HW1.out.cells; clear hk)
    | (go_at_call 18; refine (pick_any z _ _ HZ.out (by omega) (by omega)).mono ?_; rintro e w1' ⟨k, rfl, hk, rfl⟩; have hkb : k ≤ 65536 := (by omega); clear hk)
    | (clear T1; go_at_call 20; refine (HJc.out _ HK1.out).mono ?_; clear p0 p1; rintro e w2 ⟨xa, xn, xc, ya, yn, yc, rfl, hm, hk⟩; have HK2 : Hid (Kept [] w w2) := kept_same HK1.out hk.out; have HW2 : Hid (Wd2 w2 w.heap.size (.slice a1 ns c1) (.slice a2 nl c2)) := HW1.out.kept hk.out; have HJ2 : Hid (BM (w2.alloc (.cells #[.slice xa xn xc, .slice ya yn yc] 25)) w2.heap.size (.slice xa xn xc) (.slice ya yn yc) fj (nu + 20000)) := BM.new hm.out; clear hk hm HK1 HW1)
    | (clear T2; go_at_call 21; refine (HSc.out _ _ _ HJ2.out.made).mono ?_; rintro e w3 ⟨sa, sn, sc, ra, rn, rc, rfl, hm, hk⟩; have HK3 : Hid (Kept [] w w3) := kept_same (HK2.out.alloc _) hk.out; have HW3 : Hid (Wd2 w3 w.heap.size (.slice a1 ns c1) (.slice a2 nl c2)) := HW2.out.kept (kal hk.out); have HJ3 : Hid (BM w3 w2.heap.size (.slice xa xn xc) (.slice ya yn yc) fj (nu + 20000)) := HJ2.out.kept hk.out; have HS3 : Hid (BM (w3.alloc (.cells #[.slice sa sn sc, .slice ra rn rc] 25)) w3.heap.size (.slice sa sn sc) (.slice ra rn rc) (fun i => fj (nu + i)) (nu + 20000)) := BM.new hm.out; obtain ⟨p0, p1, -, -⟩ := (HW3.out.kept ((Kept.refl [] w3).alloc (.cells #[.slice sa sn sc, .slice ra rn rc] 25))).cells; clear hk hm HK2 HW2 HJ2)
    | (go_at_call 16; refine (HNc.out _ (HK3.out.alloc _)).mono ?_; clear p0 p1; rintro e w4 ⟨na, nn, nc, ma, mn, mc, rfl, hm, hk⟩; have HK4 : Hid (Kept [] w w4) := kept_same (HK3.out.alloc _) hk.out; have HW4 : Hid (Wd2 w4 w.heap.size (.slice a1 ns c1) (.slice a2 nl c2)) := HW3.out.kept (kal hk.out); have HJ4 : Hid (BM w4 w2.heap.size (.slice xa xn xc) (.slice ya yn yc) fj (nu + 20000)) := HJ3.out.kept (kal hk.out); have HS4 : Hid (BM w4 w3.heap.size (.slice sa sn sc) (.slice ra rn rc) (fun i => fj (nu + i)) (nu + 20000)) := HS3.out.kept hk.out; have HN4 : Hid (BM (w4.alloc (.cells #[.slice na nn nc, .slice ma mn mc] 25)) w4.heap.size (.slice na nn nc) (.slice ma mn mc) f 20000) := BM.new hm.out; obtain ⟨s0, s1, -, -⟩ := (HS4.out.kept ((Kept.refl [] w4).alloc (.cells #[.slice na nn nc, .slice ma mn mc] 25))).box.cells; clear hk hm HK3 HW3 HJ3 HS3)
    | (clear T3; go_at_call 17; refine (HS1.out _ _ _ _ _ (HS4.out.kept ((Kept.refl [] w4).alloc _)).made HN4.out.made).mono ?_; clear s0 s1; rintro e w5 ⟨rfl, hk⟩; have HK5 : Hid (Kept [] w w5) := kept_same (HK4.out.alloc _) hk.out; have HW5 : Hid (Wd2 w5 w.heap.size (.slice a1 ns c1) (.slice a2 nl c2)) := HW4.out.kept (kal hk.out); have HJ5 : Hid (BM w5 w2.heap.size (.slice xa xn xc) (.slice ya yn yc) fj (nu + 20000)) := HJ4.out.kept (kal hk.out); have HN5 : Hid (BM w5 w4.heap.size (.slice na nn nc) (.slice ma mn mc) f 20000) := HN4.out.kept hk.out; obtain ⟨p0, p1, -, -⟩ := HW5.out.cells; clear hk HK4 HW4 HJ4 HS4 HN4)
    | (go_at_call 22; refine (HPc.out _ k hkb HK5.out).mono ?_; clear p0 p1; rintro e w6 ⟨g, rfl, hp, hk⟩; have HK6 : Hid (Kept [] w w6) := kept_same HK5.out hk.out; have HW6 : Hid (Wd2 w6 w.heap.size (.slice a1 ns c1) (.slice a2 nl c2)) := HW5.out.kept hk.out; have HJ6 : Hid (BM w6 w2.heap.size (.slice xa xn xc) (.slice ya yn yc) fj (nu + 20000)) := HJ5.out.kept hk.out; have HN6 : Hid (BM w6 w4.heap.size (.slice na nn nc) (.slice ma mn mc) f 20000) := HN5.out.kept hk.out; have HP6 : Hid (Lets w6 (.slice (some ⟨g, 0, none⟩) k k) ((List.range k).map f)) := hp; obtain ⟨p0, p1, -, -⟩ := HW6.out.cells; clear hk hp HK5 HW5 HJ5 HN5)
    | (go_at_call 21; refine (HTc.out _ k hkb HK6.out).mono ?_; clear p0 p1; rintro e w7 ⟨ta, tn, tc, va, vn, vc, rfl, hm, hk⟩; have HK7 : Hid (Kept [] w w7) := kept_same HK6.out hk.out; have HW7 : Hid (Wd2 w7 w.heap.size (.slice a1 ns c1) (.slice a2 nl c2)) := HW6.out.kept hk.out; have HJ7 : Hid (BM w7 w2.heap.size (.slice xa xn xc) (.slice ya yn yc) fj (nu + 20000)) := HJ6.out.kept hk.out; have HN7 : Hid (BM w7 w4.heap.size (.slice na nn nc) (.slice ma mn mc) f 20000) := HN6.out.kept hk.out; have HP7 : Hid (Lets w7 (.slice (some ⟨g, 0, none⟩) k k) ((List.range k).map f)) := HP6.out.kept hk.out; have HT7 : Hid (BM (w7.alloc (.cells #[.slice ta tn tc, .slice va vn vc] 25)) w7.heap.size (.slice ta tn tc) (.slice va vn vc) (fun i => f (k + i)) 20000) := BM.new hm.out; clear hk hm HK6 HW6 HJ6 HN6 HP6)
    | (go_at_call 20; refine (HBc.out _ k _ _ _ hkb (HP7.out.kept ((Kept.refl [] w7).alloc _)) HT7.out.made).mono ?_; rintro e w8 ⟨ba, bn, bc, ea, en, ec, rfl, hm, hk⟩; have HK8 : Hid (Kept [] w w8) := kept_same (HK7.out.alloc _) hk.out; have HW8 : Hid (Wd2 w8 w.heap.size (.slice a1 ns c1) (.slice a2 nl c2)) := HW7.out.kept (kal hk.out); have HJ8 : Hid (BM w8 w2.heap.size (.slice xa xn xc) (.slice ya yn yc) fj (nu + 20000)) := HJ7.out.kept (kal hk.out); have HN8 : Hid (BM w8 w4.heap.size (.slice na nn nc) (.slice ma mn mc) f 20000) := HN7.out.kept (kal hk.out); have HT8 : Hid (BM w8 w7.heap.size (.slice ta tn tc) (.slice va vn vc) (fun i => f (k + i)) 20000) := HT7.out.kept hk.out; have HM8 : Hid (Made w8 (.slice ba bn bc) (.slice ea en ec) f (k + 20000)) := hm.out; obtain ⟨s0, s1, -, -⟩ := (HN8.out.kept ((Kept.refl [] w8).alloc (.cells #[.slice ba bn bc, .slice ea en ec] 25))).box.cells; clear hk hm HK7 HW7 HJ7 HN7 HP7 HT7)
    | (go_at_call 17; refine (HS2.out _ _ _ _ _ _ (HM8.out.kept ((Kept.refl [] w8).alloc _)) (HN8.out.kept ((Kept.refl [] w8).alloc _)).made).mono ?_; clear s0 s1; rintro e w9 ⟨rfl, hk⟩; have HK9 : Hid (Kept [] w w9) := kept_same (HK8.out.alloc _) hk.out; have HP9 : Hid (PAt w9 w.heap.size w2.heap.size w7.heap.size (.slice a1 ns c1) (.slice a2 nl c2) (.slice xa xn xc) (.slice ya yn yc) (.slice ta tn tc) (.slice va vn vc) (.slice au nu cu) us f fj (fun i => f (k + i)) (nu + 20000)) := ⟨HW8.out.kept (kal hk.out), HWat.out.kept HK9.out, HJ8.out.kept (kal hk.out), HT8.out.kept (kal hk.out), HU.out.kept HK9.out⟩; clear hk HK8 HW8 HJ8 HN8 HT8 HM8))
  go_loopw [17] (fun v wr => ∃ i : Nat, v = .int .i64 (i : Nat) ∧ i ≤ nu ∧ i ≤ 2000 ∧ Hid (Kept [] w9 wr)) (fun v _ => nu - (intOf v).toNat)
  case atStart => exact ⟨0, rfl, Nat.zero_le _, Nat.zero_le _, Kept.refl _ _⟩
  case round =>
    obtain ⟨i, rfl, hi, hi2, HKr⟩ := hrel
    by_cases hlt : i < nu ∧ i < 2000
    · have l1 : (i : Int) < (nu : Int) := by omega
      have l2 : (i : Int) < 2000 := by omega
      have b0 : (0 : Int) ≤ (i : Int) := by omega
      obtain ⟨b, o, c, hau, _, _, hC⟩ := HP9.out.u.there (by rw [HNU.out]; omega)
      have hau' : au = some ⟨b, o, none⟩ := by cases hau; rfl
      subst hau'
      obtain ⟨x, hx⟩ : ∃ x, us.getD i 0 = x := ⟨_, rfl⟩
      have HX : Hid (w9.cell? ⟨b, o + i, none⟩ = some (.int .u16 (x : Nat))) := by
        have := hC i (by rw [HNU.out]; omega)
        rw [hx] at this
        exact this
      have HAj : Hid (∀ W, Kept [] w9 W → Calls Tryd.prog 15 #[.agg #[.slice xa xn xc, .slice ya yn yc], .int .i64 (i : Nat)] W fun e w1 => e = .returned (.int .u16 (x : Nat)) ∧ Hid (Kept [] W w1)) := fun W k => by
        have := at_wat (HP9.out.j.made.kept k).wat i (by omega)
        rw [show fj i = x by rw [← HFJ.out, ← hx]; unfold ahead; rw [if_pos (by rw [HNU.out]; exact hlt.1)]] at this
        exact this
      have hne : ((x : Int) != (x : Int)) = false := by simp
      clear hau hC hx hlt
      go_wp2_with fail
      go_region_held3 (fun w' => w'.cell? ⟨w2.heap.size, 0, none⟩ = some (.slice xa xn xc) ∧ w'.cell? ⟨w2.heap.size, 1, none⟩ = some (.slice ya yn yc) ∧ w'.cell? ⟨b, o + i, none⟩ = some (.int .u16 (x : Nat)))
        ((refine parts_cells HP9.out HX.out ?_; (repeat (first | exact HKr.out | refine Kept.drew ?_ | refine kept_same ?_ HKa.out))))
        (first | (go_at_call 15; refine (HAj.out _ HKr.out.drew).mono ?_; rintro e u1 ⟨rfl, HKa⟩))
      go_wp2
      go_roundw
      case rel => exact ⟨i + 1, by go_num, by omega, by omega, (by first | exact kept_same HKr.out.drew HKa.out | exact (kept_same HKr.out.drew HKa.out).drew)⟩
      case measure => simp [intOf]; omega
    · rcases Nat.lt_or_ge i nu with hin | hin
      · have l1 : (i : Int) < (nu : Int) := by omega
        have l2 : ¬ ((i : Int) < 2000) := by omega
        clear hlt
        go_wp2_with fail
        have HK10 : Hid (Kept [] w9 wr) := HKr
        clear HKr
        rename World => w10
        go_loopw [18] (fun v wr => ∃ j : Nat, v = .int .i64 (j : Nat) ∧ j ≤ 50 ∧ Hid (Kept [] w9 wr)) (fun v _ => 50 - (intOf v).toNat)
        case atStart => exact ⟨0, rfl, Nat.zero_le _, HK10.out⟩
        case round =>
          obtain ⟨j, rfl, hj, HKr⟩ := hrel
          by_cases hjt : j < 50
          · have m1 : (j : Int) < 50 := by omega
            obtain ⟨x1, hx1⟩ : ∃ x, f (k + j) = x := ⟨_, rfl⟩
            obtain ⟨x2, hx2⟩ : ∃ x, f j = x := ⟨_, rfl⟩
            have HA1 : Hid (∀ W, Kept [] w9 W → Calls Tryd.prog 15 #[.agg #[.slice ta tn tc, .slice va vn vc], .int .i64 (j : Nat)] W fun e w1 => e = .returned (.int .u16 (x1 : Nat)) ∧ Hid (Kept [] W w1)) := fun W kp => by
              have := at_wat (HP9.out.t.made.kept kp).wat j (by omega)
              simp only [hx1] at this
              exact this
            have HA2 : Hid (∀ W, Kept [] w9 W → Calls Tryd.prog 15 #[.agg #[.slice a1 ns c1, .slice a2 nl c2], .int .i64 ((k : Int) + (j : Int))] W fun e w1 => e = .returned (.int .u16 (x1 : Nat)) ∧ Hid (Kept [] W w1)) := fun W kp => by
              have := at_wat (HP9.out.w.kept kp) (k + j) (by omega)
              rw [hx1, Int.natCast_add] at this
              exact this
            have HA3 : Hid (∀ W, Kept [] w9 W → Calls Tryd.prog 15 #[.agg #[.slice xa xn xc, .slice ya yn yc], .int .i64 ((nu : Int) + (j : Int))] W fun e w1 => e = .returned (.int .u16 (x2 : Nat)) ∧ Hid (Kept [] W w1)) := fun W kp => by
              have := at_wat (HP9.out.j.made.kept kp).wat (nu + j) (by omega)
              rw [show fj (nu + j) = x2 by rw [← HFJ.out, ← hx2]; unfold ahead; rw [HNU.out, if_neg (by omega)]; congr 1; omega, Int.natCast_add] at this
              exact this
            have HA4 : Hid (∀ W, Kept [] w9 W → Calls Tryd.prog 15 #[.agg #[.slice a1 ns c1, .slice a2 nl c2], .int .i64 (j : Nat)] W fun e w1 => e = .returned (.int .u16 (x2 : Nat)) ∧ Hid (Kept [] W w1)) := fun W kp => by
              have := at_wat (HP9.out.w.kept kp) j (by omega)
              rw [hx2] at this
              exact this
            have n1 : ((x1 : Int) != (x1 : Int)) = false := by simp
            have wk1 : IntKind.i64.wrap ((k : Int) + (j : Int)) = (k : Int) + (j : Int) := by rw [IntKind.wrap_i64]; omega
            have wk2 : IntKind.i64.wrap ((nu : Int) + (j : Int)) = (nu : Int) + (j : Int) := by rw [IntKind.wrap_i64]; omega
            have n2 : ((x2 : Int) != (x2 : Int)) = false := by simp
            clear hx1 hx2 hjt
            go_wp2_with fail
            go_region_held3 (fun w' => w'.cell? ⟨w7.heap.size, 0, none⟩ = some (.slice ta tn tc) ∧ w'.cell? ⟨w7.heap.size, 1, none⟩ = some (.slice va vn vc) ∧ w'.cell? ⟨w.heap.size, 0, none⟩ = some (.slice a1 ns c1) ∧ w'.cell? ⟨w.heap.size, 1, none⟩ = some (.slice a2 nl c2) ∧ w'.cell? ⟨w2.heap.size, 0, none⟩ = some (.slice xa xn xc) ∧ w'.cell? ⟨w2.heap.size, 1, none⟩ = some (.slice ya yn yc))
              ((refine parts_cells2 HP9.out ?_; (repeat (first | exact HKr.out | refine Kept.drew ?_ | refine kept_same ?_ HKd.out | refine kept_same ?_ HKc.out | refine kept_same ?_ HKb.out | refine kept_same ?_ HKa.out))))
              (first
              | (go_at_call 15; (with_reducible show Calls _ _ #[.agg #[.slice ta _ _, _], _] _ _); refine (HA1.out _ (by repeat (first | exact HKr.out | refine Kept.drew ?_ | refine kept_same ?_ HKd.out | refine kept_same ?_ HKc.out | refine kept_same ?_ HKb.out | refine kept_same ?_ HKa.out))).mono ?_; clear HA1; rintro e u1 ⟨rfl, HKa⟩)
              | (go_at_call 15; (with_reducible show Calls _ _ #[.agg #[.slice a1 _ _, _], .int .i64 ((k : Int) + _)] _ _); refine (HA2.out _ (by repeat (first | exact HKr.out | refine Kept.drew ?_ | refine kept_same ?_ HKd.out | refine kept_same ?_ HKc.out | refine kept_same ?_ HKb.out | refine kept_same ?_ HKa.out))).mono ?_; clear HA2; rintro e u2 ⟨rfl, HKb⟩)
              | (go_at_call 15; (with_reducible show Calls _ _ #[.agg #[.slice xa _ _, _], _] _ _); refine (HA3.out _ (by repeat (first | exact HKr.out | refine Kept.drew ?_ | refine kept_same ?_ HKd.out | refine kept_same ?_ HKc.out | refine kept_same ?_ HKb.out | refine kept_same ?_ HKa.out))).mono ?_; clear HA3; rintro e u3 ⟨rfl, HKc⟩)
              | (go_at_call 15; (with_reducible show Calls _ _ #[.agg #[.slice a1 _ _, _], .int .i64 (j : Int)] _ _); refine (HA4.out _ (by repeat (first | exact HKr.out | refine Kept.drew ?_ | refine kept_same ?_ HKd.out | refine kept_same ?_ HKc.out | refine kept_same ?_ HKb.out | refine kept_same ?_ HKa.out))).mono ?_; clear HA4; rintro e u4 ⟨rfl, HKd⟩))
            go_wp2
            go_roundw
            case rel => exact ⟨j + 1, by go_num, by omega, (by repeat (first | exact HKr.out | refine Kept.drew ?_ | refine kept_same ?_ HKd.out | refine kept_same ?_ HKc.out | refine kept_same ?_ HKb.out | refine kept_same ?_ HKa.out))⟩
            case measure => simp [intOf]; omega
          · obtain rfl : j = 50 := by omega
            go_wp2
            go_ret
            exact ⟨rfl, kept_same HK9.out HKr.out⟩
      · have l1 : ¬ ((i : Int) < (nu : Int)) := by omega
        clear hlt
        go_wp2_with fail
        have HK10 : Hid (Kept [] w9 wr) := HKr
        clear HKr
        rename World => w10
        go_loopw [18] (fun v wr => ∃ j : Nat, v = .int .i64 (j : Nat) ∧ j ≤ 50 ∧ Hid (Kept [] w9 wr)) (fun v _ => 50 - (intOf v).toNat)
        case atStart => exact ⟨0, rfl, Nat.zero_le _, HK10.out⟩
        case round =>
          obtain ⟨j, rfl, hj, HKr⟩ := hrel
          by_cases hjt : j < 50
          · have m1 : (j : Int) < 50 := by omega
            obtain ⟨x1, hx1⟩ : ∃ x, f (k + j) = x := ⟨_, rfl⟩
            obtain ⟨x2, hx2⟩ : ∃ x, f j = x := ⟨_, rfl⟩
            have HA1 : Hid (∀ W, Kept [] w9 W → Calls Tryd.prog 15 #[.agg #[.slice ta tn tc, .slice va vn vc], .int .i64 (j : Nat)] W fun e w1 => e = .returned (.int .u16 (x1 : Nat)) ∧ Hid (Kept [] W w1)) := fun W kp => by
              have := at_wat (HP9.out.t.made.kept kp).wat j (by omega)
              simp only [hx1] at this
              exact this
            have HA2 : Hid (∀ W, Kept [] w9 W → Calls Tryd.prog 15 #[.agg #[.slice a1 ns c1, .slice a2 nl c2], .int .i64 ((k : Int) + (j : Int))] W fun e w1 => e = .returned (.int .u16 (x1 : Nat)) ∧ Hid (Kept [] W w1)) := fun W kp => by
              have := at_wat (HP9.out.w.kept kp) (k + j) (by omega)
              rw [hx1, Int.natCast_add] at this
              exact this
            have HA3 : Hid (∀ W, Kept [] w9 W → Calls Tryd.prog 15 #[.agg #[.slice xa xn xc, .slice ya yn yc], .int .i64 ((nu : Int) + (j : Int))] W fun e w1 => e = .returned (.int .u16 (x2 : Nat)) ∧ Hid (Kept [] W w1)) := fun W kp => by
              have := at_wat (HP9.out.j.made.kept kp).wat (nu + j) (by omega)
              rw [show fj (nu + j) = x2 by rw [← HFJ.out, ← hx2]; unfold ahead; rw [HNU.out, if_neg (by omega)]; congr 1; omega, Int.natCast_add] at this
              exact this
            have HA4 : Hid (∀ W, Kept [] w9 W → Calls Tryd.prog 15 #[.agg #[.slice a1 ns c1, .slice a2 nl c2], .int .i64 (j : Nat)] W fun e w1 => e = .returned (.int .u16 (x2 : Nat)) ∧ Hid (Kept [] W w1)) := fun W kp => by
              have := at_wat (HP9.out.w.kept kp) j (by omega)
              rw [hx2] at this
              exact this
            have n1 : ((x1 : Int) != (x1 : Int)) = false := by simp
            have wk1 : IntKind.i64.wrap ((k : Int) + (j : Int)) = (k : Int) + (j : Int) := by rw [IntKind.wrap_i64]; omega
            have wk2 : IntKind.i64.wrap ((nu : Int) + (j : Int)) = (nu : Int) + (j : Int) := by rw [IntKind.wrap_i64]; omega
            have n2 : ((x2 : Int) != (x2 : Int)) = false := by simp
            clear hx1 hx2 hjt
            go_wp2_with fail
            go_region_held3 (fun w' => w'.cell? ⟨w7.heap.size, 0, none⟩ = some (.slice ta tn tc) ∧ w'.cell? ⟨w7.heap.size, 1, none⟩ = some (.slice va vn vc) ∧ w'.cell? ⟨w.heap.size, 0, none⟩ = some (.slice a1 ns c1) ∧ w'.cell? ⟨w.heap.size, 1, none⟩ = some (.slice a2 nl c2) ∧ w'.cell? ⟨w2.heap.size, 0, none⟩ = some (.slice xa xn xc) ∧ w'.cell? ⟨w2.heap.size, 1, none⟩ = some (.slice ya yn yc))
              ((refine parts_cells2 HP9.out ?_; (repeat (first | exact HKr.out | refine Kept.drew ?_ | refine kept_same ?_ HKd.out | refine kept_same ?_ HKc.out | refine kept_same ?_ HKb.out | refine kept_same ?_ HKa.out))))
              (first
              | (go_at_call 15; (with_reducible show Calls _ _ #[.agg #[.slice ta _ _, _], _] _ _); refine (HA1.out _ (by repeat (first | exact HKr.out | refine Kept.drew ?_ | refine kept_same ?_ HKd.out | refine kept_same ?_ HKc.out | refine kept_same ?_ HKb.out | refine kept_same ?_ HKa.out))).mono ?_; clear HA1; rintro e u1 ⟨rfl, HKa⟩)
              | (go_at_call 15; (with_reducible show Calls _ _ #[.agg #[.slice a1 _ _, _], .int .i64 ((k : Int) + _)] _ _); refine (HA2.out _ (by repeat (first | exact HKr.out | refine Kept.drew ?_ | refine kept_same ?_ HKd.out | refine kept_same ?_ HKc.out | refine kept_same ?_ HKb.out | refine kept_same ?_ HKa.out))).mono ?_; clear HA2; rintro e u2 ⟨rfl, HKb⟩)
              | (go_at_call 15; (with_reducible show Calls _ _ #[.agg #[.slice xa _ _, _], _] _ _); refine (HA3.out _ (by repeat (first | exact HKr.out | refine Kept.drew ?_ | refine kept_same ?_ HKd.out | refine kept_same ?_ HKc.out | refine kept_same ?_ HKb.out | refine kept_same ?_ HKa.out))).mono ?_; clear HA3; rintro e u3 ⟨rfl, HKc⟩)
              | (go_at_call 15; (with_reducible show Calls _ _ #[.agg #[.slice a1 _ _, _], .int .i64 (j : Int)] _ _); refine (HA4.out _ (by repeat (first | exact HKr.out | refine Kept.drew ?_ | refine kept_same ?_ HKd.out | refine kept_same ?_ HKc.out | refine kept_same ?_ HKb.out | refine kept_same ?_ HKa.out))).mono ?_; clear HA4; rintro e u4 ⟨rfl, HKd⟩))
            go_wp2
            go_roundw
            case rel => exact ⟨j + 1, by go_num, by omega, (by repeat (first | exact HKr.out | refine Kept.drew ?_ | refine kept_same ?_ HKd.out | refine kept_same ?_ HKc.out | refine kept_same ?_ HKb.out | refine kept_same ?_ HKa.out))⟩
            case measure => simp [intOf]; omega
          · obtain rfl : j = 50 := by omega
            go_wp2
            go_ret
            exact ⟨rfl, kept_same HK9.out HKr.out⟩
end Go.Proofs.YtnejehlgfckdgaaDoor
