/- WordsNormal: one form. -/
import Derived.Test.YtnejehlgfckdgaaDoorWdOth
import Derived.Test.YtnejehlgfckdgaaDoorWdParts
namespace Go.Proofs.YtnejehlgfckdgaaDoor
open Go.RowKit Go.Shelf
attribute [local go_sem ↓] Go.wp_at_zero Go.wp_at_succ

def upS (q : Wd) (i : Nat) : List Nat := q.stem ++ (List.range i).map (cyc q.loop)
def upL (q : Wd) (m j : Nat) : List Nat := (List.range j).map fun i => cyc q.loop (m + i)
theorem upS_succ (q : Wd) (i : Nat) : upS q (i + 1) = upS q i ++ [cyc q.loop i] := by unfold upS; rw [List.range_succ, List.map_append, List.append_assoc]; rfl
theorem upL_succ (q : Wd) (m j : Nat) : upL q m (j + 1) = upL q m j ++ [cyc q.loop (m + j)] := by unfold upL; rw [List.range_succ, List.map_append]; rfl
theorem upS_len (q : Wd) (i : Nat) : (upS q i).length = q.stem.length + i := by simp [upS]
theorem upL_len (q : Wd) (m j : Nat) : (upL q m j).length = j := by simp [upL]

theorem places_made {W : World} {x y : Value} {f : Nat → Nat} {n : Nat} (h : Made W x y f n) : ∃ pn : Nat, pn ≤ n ∧ ∀ W', Kept [] W W' → Calls Tryd.prog 19 #[.agg #[x, y]] W' fun e w1 => e = .returned (.int .i64 (pn : Nat)) ∧ Hid (Kept [] W' w1) := by
  obtain ⟨r, h1, h2, h3, h4⟩ := h
  refine ⟨placesN r, ?_, fun W' k => places_any x y r W' (h1.kept k)⟩
  unfold placesN
  split <;> omega
theorem four_cells {W W' : World} {B C : Nat} {x y z u : Value} (h : Wd2 W B x y) (h' : Wd2 W C z u) (k : Kept [] W W') : W'.cell? ⟨B, 0, none⟩ = some x ∧ W'.cell? ⟨B, 1, none⟩ = some y ∧ W'.cell? ⟨C, 0, none⟩ = some z ∧ W'.cell? ⟨C, 1, none⟩ = some u := by
  obtain ⟨c0, c1, _, _⟩ := (h.kept k).cells
  obtain ⟨d0, d1, _, _⟩ := (h'.kept k).cells
  exact ⟨c0, c1, d0, d1⟩
set_option maxHeartbeats 8000000 in
theorem form_main (a1 a2 : Option Addr) (c1 c2 ns nl : Nat) (q : Wd) (zt zm : Int) (w : World) (hs : Lets w (.slice a1 ns c1) q.stem) (hl : Lets w (.slice a2 nl c2) q.loop) (es : q.stem.length = ns) (el : q.loop.length = nl) (hzt : -9223372036854775808 ≤ zt ∧ zt ≤ 9223372036854775807) (hzm : -9223372036854775808 ≤ zm ∧ zm ≤ 9223372036854775807) (hT : PowTab w)
    (h0 : 0 < nl) (hsz : ns + nl ≤ 3000) :
    Calls Tryd.prog 5 #[.agg #[.slice a1 ns c1, .slice a2 nl c2], .int .i64 zt, .int .i64 zm] w fun e w' => e = .returned (.bool true) ∧ Kept [] w w' := by
  have HW : Hid (∀ W, Kept [] w W → Calls Tryd.prog 9 #[] W fun e w' => e = .returned (.bool true) ∧ Hid (Kept [] W w')) := fun W k => works_any W (hT.kept k)
  have HS : Hid (Lets w (.slice a1 ns c1) q.stem) := hs
  have HL : Hid (Lets w (.slice a2 nl c2) q.loop) := hl
  have HES : Hid (q.stem.length = ns) := es
  have HEL : Hid (q.loop.length = nl) := el
  have HZ1 : Hid (-9223372036854775808 ≤ zt ∧ zt ≤ 9223372036854775807) := hzt
  have HZ2 : Hid (-9223372036854775808 ≤ zm ∧ zm ≤ 9223372036854775807) := hzm
  obtain ⟨b, o, c, hlv, hcc, _, hC⟩ := hl.there (by omega)
  have ha2 : a2 = some ⟨b, o, none⟩ := by cases hlv; rfl
  subst ha2
  have HC : Hid (∀ i, i < nl → w.cell? ⟨b, o + i, none⟩ = some (.int .u16 (q.loop.getD i 0 : Nat))) := fun i hi => hC i (by omega)
  have hb1 : ¬ ((3000 : Int) < (ns : Int) + (nl : Int)) := by omega
  have hb2 : ((nl : Int) == 0) = false := by rw [beq_eq_false_iff_ne]; omega
  have hb3 : ¬ ((nl : Int) = 0) := by omega
  have hb4 : ¬ (nl = 0) := by omega
  obtain ⟨V, hV⟩ : ∃ V, w.alloc (.cells #[.slice a1 ns c1, .slice (some ⟨b, o, none⟩) nl c2] 25) = V := ⟨_, rfl⟩
  have HB : Hid (Wd2 V w.heap.size (.slice a1 ns c1) (.slice (some ⟨b, o, none⟩) nl c2)) := by show Wd2 _ _ _ _; rw [← hV]; exact heap_alloc_new w _
  have HKV : Hid (Kept [] w V) := by show Kept [] w V; rw [← hV]; exact (Kept.refl [] w).alloc _
  have HV : Hid _ := hV
  have T1 : Hid True := trivial
  clear hs hl es el hzt hzm hT hV hlv hcc hC
  go_enter Tryd.func5, Tryd.ntmps5
  go_wp2_with (first
    | (go_at_call 9; rw [HV.out]; refine (HW.out _ HKV.out).mono ?_; rintro e w1 ⟨rfl, hk⟩; have HK1 : Hid (Kept [] w w1) := kept_same HKV.out hk.out; have HW1 : Hid (Wd2 w1 w.heap.size (.slice a1 ns c1) (.slice (some ⟨b, o, none⟩) nl c2)) := HB.out.kept hk.out; obtain ⟨p0, p1, -, -⟩ := HW1.out.cells; have lw : w.heap.size < w1.heap.size := lt_of HW1.out; clear hk)
    | (clear T1; go_at_call 18; refine (pick_any zt _ _ HZ1.out (by omega) (by omega)).mono ?_; rintro e w1' ⟨kt, rfl, hkt, hww⟩; rw [hww]; clear hww w1')
    | (go_at_call 18; refine (pick_any zm _ _ HZ2.out (by omega) (by omega)).mono ?_; rintro e w1' ⟨m, rfl, hm, hww⟩; rw [hww]; clear hww w1')
    | (at_builtin; obtain ⟨oa, on, oc, w2, hr, hbx, ho⟩ := (Oth.new w1).put (Kept.refl [] _) ((HS.out.kept HK1.out).kept ((Kept.refl [] w1).alloc _)) (by simp only [List.length_nil]; rw [HES.out]; omega); obtain ⟨d0, d1, f0, f1⟩ := hbx.cells; have HO2 : Hid (Oth w1 ([] ++ q.stem) [] (w2.setCell ⟨w1.heap.size, 0, none⟩ (.slice oa on oc)) (.slice oa on oc) (.slice none 0 0)) := ho; refine Lib.wpList_append_run _ rfl _ _ _ _ rfl _ _ rfl rfl _ _ (hr _) ?_; clear hr hbx ho))
  obtain ⟨W0, hW0⟩ : ∃ W0, w2.setCell ⟨w1.heap.size, 0, none⟩ (.slice oa on oc) = W0 := ⟨_, rfl⟩
  rw [hW0]
  have HO3 : Hid (Oth w1 (upS q 0) [] W0 (.slice oa on oc) (.slice none 0 0)) := by show Oth _ _ _ _ _ _; rw [← hW0]; have := HO2.out; simp only [List.nil_append] at this; simpa [upS] using this
  clear hW0 HO2 d0 d1 f0 f1 p0 p1
  go_loopw [11] (fun v wr => ∃ i : Nat, v = .int .i64 (i : Nat) ∧ i ≤ m ∧ ∃ xa xn xc, Hid (Oth w1 (upS q i) [] wr (.slice xa xn xc) (.slice none 0 0))) (fun v _ => m - (intOf v).toNat)
  case atStart => exact ⟨0, rfl, Nat.zero_le _, _, _, _, HO3.out⟩
  case round =>
    obtain ⟨i, rfl, hi, xa, xn, xc, HO⟩ := hrel
    by_cases hlt : i < m
    · have l1 : (i : Int) < (m : Int) := by omega
      obtain ⟨r, hr⟩ : ∃ r, i % nl = r := ⟨_, rfl⟩
      have hrl : r < nl := by rw [← hr]; exact Nat.mod_lt _ h0
      have x1 : (i : Int).tmod (nl : Int) = (r : Int) := by rw [Int.tmod_eq_emod_of_nonneg (by omega), ← hr]; rfl
      have x2 : (i : Int) % (nl : Int) = (r : Int) := by rw [← hr]; rfl
      have r1 : (r : Int) < (nl : Int) := by omega
      have r0 : (0 : Int) ≤ (r : Int) := by omega
      obtain ⟨x, hx⟩ : ∃ x, cyc q.loop i = x := ⟨_, rfl⟩
      have hxr : q.loop.getD r 0 = x := by rw [← hx, ← hr]; unfold cyc; rw [HEL.out]
      have c2 : wr.cell? ⟨b, o + r, none⟩ = some (.int .u16 (x : Nat)) := by
        have := HC.out r hrl
        rw [hxr] at this
        exact cell_kept0 (kept_same HK1.out HO.out.kept) this
      obtain ⟨p0, p1, -, -⟩ := (HW1.out.kept HO.out.kept).cells
      obtain ⟨d0, d1, f0, f1⟩ := HO.out.box.cells
      have lw2 := lt_of HO.out.box
      have HXS : Hid (x < 65536) := by rw [← hx]; exact cyc_small HL.out.small i
      have HUP : Hid (upS q (i + 1) = upS q i ++ [x]) := by show upS q (i + 1) = _; rw [upS_succ, hx]
      have HUL : Hid ((upS q i).length + 1 ≤ 1000000) := by show (upS q i).length + 1 ≤ _; rw [upS_len, HES.out]; omega
      have hnb : ¬ (wr.heap.size = w1.heap.size) := by omega
      obtain ⟨ya, yn, yc, w3, hrun, hbx, ho⟩ := HO.out.put (U := (wr.alloc (.cells #[.int .u16 (x : Nat)] 29)).drew) ((Kept.refl [] wr).alloc _).drew (zs := [x]) (u := .slice (some ⟨wr.heap.size, 0, none⟩) 1 1) (lets_lit (xs := [x]) (heap_alloc_new wr _) (fun y hy => by rw [List.mem_singleton.1 hy]; exact HXS.out) (by simp)) HUL.out
      obtain ⟨g0, g1, k0, k1⟩ := hbx.cells
      have HRUN : Hid (∀ ty, (Builtin.append_ #[23, 23] ty #[.slice xa xn xc, .slice (some ⟨wr.heap.size, 0, none⟩) 1 1]).run Tryd.prog (wr.alloc (.cells #[.int .u16 (x : Nat)] 29)).drew = .ok (.slice ya yn yc) w3) := hrun
      have HO4 : Hid (Oth w1 (upS q (i + 1)) [] (w3.setCell ⟨w1.heap.size, 0, none⟩ (.slice ya yn yc)) (.slice ya yn yc) (.slice none 0 0)) := by show Oth _ _ _ _ _ _; rw [HUP.out]; exact ho
      clear hr hx hxr hlt hrun hbx ho
      go_wp2_with fail
      go_region_law (refine step_append_run rfl _ _ _ rfl _ _ _ _ rfl rfl (HRUN.out _) ?_)
      all_goals go_wp2
      all_goals go_roundw
      all_goals first | exact ⟨i + 1, by go_num, by omega, _, _, _, HO4.out⟩ | (simp [intOf]; omega)
    · obtain rfl : i = m := by omega
      clear hlt hi
      obtain ⟨N, hN⟩ : ∃ N, (1 + kt) * nl = N := ⟨_, rfl⟩
      have hNi : (1 + (kt : Int)) * (nl : Int) = (N : Int) := by rw [← hN, Int.natCast_mul, Int.natCast_add]; rfl
      have hNb : N ≤ 12000 := by rw [← hN]; exact Nat.le_trans (Nat.mul_le_mul (show 1 + kt ≤ 4 by omega) (show nl ≤ 3000 by omega)) (by decide)
      have hNw : IntKind.i64.wrap ((1 + (kt : Int)) * (nl : Int)) = (N : Int) := by rw [hNi, IntKind.wrap_i64]; omega
      have HN : Hid ((1 + kt) * nl = N) := hN
      obtain ⟨p0, p1, -, -⟩ := (HW1.out.kept HO.out.kept).cells
      clear hN
      go_wp2_with fail
      have HO5 : Hid (Oth w1 (upS q i) (upL q i 0) wr (.slice xa xn xc) (.slice none 0 0)) := HO.out
      clear HO p0 p1
      rename World => w9
      go_loopw [12] (fun v wr => ∃ j : Nat, v = .int .i64 (j : Nat) ∧ j ≤ N ∧ ∃ ya yn yc, Hid (Oth w1 (upS q i) (upL q i j) wr (.slice xa xn xc) (.slice ya yn yc))) (fun v _ => N - (intOf v).toNat)
      case atStart => exact ⟨0, rfl, Nat.zero_le _, _, _, _, HO5.out⟩
      case round =>
        obtain ⟨j, rfl, hj, ya, yn, yc, HO⟩ := hrel
        obtain ⟨p0, p1, -, -⟩ := (HW1.out.kept HO.out.kept).cells
        by_cases hlt : j < N
        · have l1 : (j : Int) < (N : Int) := by omega
          obtain ⟨r, hr⟩ : ∃ r, (i + j) % nl = r := ⟨_, rfl⟩
          have hrl : r < nl := by rw [← hr]; exact Nat.mod_lt _ h0
          have x1 : ((i : Int) + (j : Int)).tmod (nl : Int) = (r : Int) := by rw [Int.tmod_eq_emod_of_nonneg (by omega), ← hr, ← Int.natCast_add]; rfl
          have x2 : ((i : Int) + (j : Int)) % (nl : Int) = (r : Int) := by rw [← hr, ← Int.natCast_add]; rfl
          have x3 : IntKind.i64.wrap ((i : Int) + (j : Int)) = (i : Int) + (j : Int) := by rw [IntKind.wrap_i64]; omega
          have r1 : (r : Int) < (nl : Int) := by omega
          have r0 : (0 : Int) ≤ (r : Int) := by omega
          obtain ⟨x, hx⟩ : ∃ x, cyc q.loop (i + j) = x := ⟨_, rfl⟩
          have hxr : q.loop.getD r 0 = x := by rw [← hx, ← hr]; unfold cyc; rw [HEL.out]
          have c2 : wr.cell? ⟨b, o + r, none⟩ = some (.int .u16 (x : Nat)) := by
            have := HC.out r hrl
            rw [hxr] at this
            exact cell_kept0 (kept_same HK1.out HO.out.kept) this
          obtain ⟨d0, d1, f0, f1⟩ := HO.out.box.cells
          have lw2 := lt_of HO.out.box
          have HXS : Hid (x < 65536) := by rw [← hx]; exact cyc_small HL.out.small _
          have HUP : Hid (upL q i (j + 1) = upL q i j ++ [x]) := by show upL q i (j + 1) = _; rw [upL_succ, hx]
          have HUL : Hid ((upL q i j).length + 1 ≤ 1000000) := by show (upL q i j).length + 1 ≤ _; rw [upL_len]; omega
          have hnb : ¬ (wr.heap.size = w1.heap.size) := by omega
          obtain ⟨za, zn, zc, w3, hrun, hbx, ho⟩ := HO.out.put2 (U := (wr.alloc (.cells #[.int .u16 (x : Nat)] 29)).drew) ((Kept.refl [] wr).alloc _).drew (zs := [x]) (u := .slice (some ⟨wr.heap.size, 0, none⟩) 1 1) (lets_lit (xs := [x]) (heap_alloc_new wr _) (fun y hy => by rw [List.mem_singleton.1 hy]; exact HXS.out) (by simp)) HUL.out
          obtain ⟨g0, g1, k0, k1⟩ := hbx.cells
          have HRUN : Hid (∀ ty, (Builtin.append_ #[23, 23] ty #[.slice ya yn yc, .slice (some ⟨wr.heap.size, 0, none⟩) 1 1]).run Tryd.prog (wr.alloc (.cells #[.int .u16 (x : Nat)] 29)).drew = .ok (.slice za zn zc) w3) := hrun
          have HO4 : Hid (Oth w1 (upS q i) (upL q i (j + 1)) (w3.setCell ⟨w1.heap.size, 1, none⟩ (.slice za zn zc)) (.slice xa xn xc) (.slice za zn zc)) := by show Oth _ _ _ _ _ _; rw [HUP.out]; exact ho
          clear hr hx hxr hlt hrun hbx ho
          go_wp2_with fail
          go_region_law (refine step_append_run rfl _ _ _ rfl _ _ _ _ rfl rfl (HRUN.out _) ?_)
          all_goals go_wp2
          all_goals go_roundw
          all_goals first | exact ⟨j + 1, by go_num, by omega, _, _, _, HO4.out⟩ | (simp [intOf]; omega)
        · obtain rfl : j = N := by omega
          clear hlt hj
          have HOF : Hid (Oth w1 (upS q i) (upL q i j) wr (.slice xa xn xc) (.slice ya yn yc)) := HO
          have HKw : Hid (Kept [] w wr) := kept_same HK1.out HO.out.kept
          have HWw : Hid (Wd2 wr w.heap.size (.slice a1 ns c1) (.slice (some ⟨b, o, none⟩) nl c2)) := HW1.out.kept HO.out.kept
          have HBo : Hid (Wd2 wr w1.heap.size (.slice xa xn xc) (.slice ya yn yc)) := HO.out.box
          have hso : upS q i = (othW q (1 + kt) i).stem := rfl
          have hlo : upL q i j = (othW q (1 + kt) i).loop := by unfold upL othW; rw [HEL.out, HN.out]
          have h0q : 0 < q.loop.length := by rw [HEL.out]; exact h0
          have hqo : 0 < (othW q (1 + kt) i).loop.length := by rw [← hlo, upL_len, ← HN.out]; exact Nat.mul_pos (by omega) h0
          have hIo : IsW wr (.slice xa xn xc) (.slice ya yn yc) (othW q (1 + kt) i) := by
            have := HO.out.isW (fun x hx => by
              rcases List.mem_append.1 hx with e | e
              · exact HS.out.small x e
              · obtain ⟨a, _, rfl⟩ := List.mem_map.1 e; exact cyc_small HL.out.small _) (fun x hx => by obtain ⟨a, _, rfl⟩ := List.mem_map.1 hx; exact cyc_small HL.out.small _) (by rw [upS_len, upL_len, HES.out]; omega)
            rw [hso, hlo] at this
            exact this
          have hat := oth_at q (1 + kt) i (by omega) h0q
          have hIw : IsW w (.slice a1 ns c1) (.slice (some ⟨b, o, none⟩) nl c2) q := ⟨HS.out, HL.out, by rw [HES.out, HEL.out]; omega⟩
          have HN1 : Hid (∀ W, Kept [] w W → Calls Tryd.prog 16 #[.agg #[.slice a1 ns c1, .slice (some ⟨b, o, none⟩) nl c2]] W (Makes W q.at (ns + nl))) := fun W k => normal_wat ⟨q, hIw.kept k, h0q, fun _ => rfl, by rw [HES.out, HEL.out]; omega⟩ (by omega)
          have HN2 : Hid (∀ W, Kept [] wr W → Calls Tryd.prog 16 #[.agg #[.slice xa xn xc, .slice ya yn yc]] W (Makes W q.at 1000000)) := fun W k => normal_wat ⟨_, hIo.kept k, hqo, hat, by rw [← hso, ← hlo, upS_len, upL_len, HES.out]; omega⟩ (by omega)
          have HN3 : Hid (∀ W x y, Made W x y q.at (ns + nl) → Calls Tryd.prog 16 #[.agg #[x, y]] W (Makes W q.at (ns + nl))) := fun W x y h => normal_wat h.wat (by omega)
          have HSM : Hid (∀ W x y x' y' n n', Made W x y q.at n → Made W x' y' q.at n' → Calls Tryd.prog 17 #[.agg #[x, y], .agg #[x', y']] W fun e w1 => e = .returned (.bool true) ∧ Hid (Kept [] W w1)) := fun W x y x' y' n n' h h' => same_made h h' (fun i => rfl)
          have HSA : Hid (∀ W, Kept [] wr W → Calls Tryd.prog 11 #[.agg #[.slice a1 ns c1, .slice (some ⟨b, o, none⟩) nl c2], .agg #[.slice xa xn xc, .slice ya yn yc]] W fun e w1 => e = .returned (.bool true) ∧ Hid (Kept [] W w1)) := fun W k => by
            have := same_any _ _ _ _ q (othW q (1 + kt) i) W (hIw.kept (kept_same HKw.out k)) (hIo.kept k)
            rw [(sameB_iff h0q hqo).2 (fun i => (hat i).symm)] at this
            exact this
          have HPW : Hid (∀ W, Kept [] w W → Calls Tryd.prog 19 #[.agg #[.slice a1 ns c1, .slice (some ⟨b, o, none⟩) nl c2]] W fun e w1 => e = .returned (.int .i64 ((ns + nl : Nat) : Nat)) ∧ Hid (Kept [] W w1)) := fun W k => by
            have := places_any _ _ q W (hIw.kept k)
            rw [show placesN q = ns + nl by unfold placesN; rw [if_neg (by omega), HES.out, HEL.out]] at this
            exact this
          obtain ⟨pw, hpw⟩ : ∃ pw, ns + nl = pw := ⟨_, rfl⟩
          rw [hpw] at HPW HN1 HN3
          clear hso hlo h0q hqo hIo hat hIw HO hpw
          have T1 : Hid True := trivial
          have T2 : Hid True := trivial
          have T3 : Hid True := trivial
          go_wp2_with (first
            | (clear T1; go_at_call 16; refine (HN1.out _ HKw.out).mono ?_; clear p0 p1; rintro e u1 ⟨na, nn, nc, ma, mn, mc, rfl, hm, hk⟩; have HR1 : Hid (Kept [] wr u1) := hk.out; have HBn : Hid (BM (u1.alloc (.cells #[.slice na nn nc, .slice ma mn mc] 25)) u1.heap.size (.slice na nn nc) (.slice ma mn mc) q.at pw) := BM.new hm.out; obtain ⟨p0, p1, -, -⟩ := (HBo.out.kept (hk.out.alloc (.cells #[.slice na nn nc, .slice ma mn mc] 25))).cells; clear hk hm)
            | (clear T2; go_at_call 16; refine (HN2.out _ (HR1.out.alloc _)).mono ?_; clear p0 p1; rintro e u2 ⟨oa, on, oc, qa, qn, qc, rfl, hm, hk⟩; have HR2 : Hid (Kept [] wr u2) := kept_same (HR1.out.alloc _) hk.out; have HBn2 : Hid (BM (u2.alloc (.cells #[.slice oa on oc, .slice qa qn qc] 25)) u1.heap.size (.slice na nn nc) (.slice ma mn mc) q.at pw) := HBn.out.kept (hk.out.alloc _); have HBp : Hid (BM (u2.alloc (.cells #[.slice oa on oc, .slice qa qn qc] 25)) u2.heap.size (.slice oa on oc) (.slice qa qn qc) q.at 1000000) := BM.new hm.out; obtain ⟨p0, p1, -, -⟩ := HBn2.out.box.cells; clear hk hm HBn)
            | (go_at_call 16; refine (HN3.out _ _ _ HBn2.out.made).mono ?_; clear p0 p1; rintro e u3 ⟨sa, sn, sc, ta, tn, tc, rfl, hm, hk⟩; have HR3 : Hid (Kept [] wr u3) := kept_same (HR2.out.alloc _) hk.out; have HBn3 : Hid (BM (u3.alloc (.cells #[.slice sa sn sc, .slice ta tn tc] 25)) u1.heap.size (.slice na nn nc) (.slice ma mn mc) q.at pw) := HBn2.out.kept (hk.out.alloc _); have HBp3 : Hid (BM (u3.alloc (.cells #[.slice sa sn sc, .slice ta tn tc] 25)) u2.heap.size (.slice oa on oc) (.slice qa qn qc) q.at 1000000) := HBp.out.kept (hk.out.alloc _); have HBq : Hid (BM (u3.alloc (.cells #[.slice sa sn sc, .slice ta tn tc] 25)) u3.heap.size (.slice sa sn sc) (.slice ta tn tc) q.at pw) := BM.new hm.out; obtain ⟨p0, p1, -, -⟩ := HBn3.out.box.cells; obtain ⟨s0, s1, -, -⟩ := HBp3.out.box.cells; clear hk hm HBn2 HBp)
            | (clear T3; go_at_call 17; refine (HSM.out _ _ _ _ _ _ _ HBn3.out.made HBp3.out.made).mono ?_; clear p0 p1 s0 s1; rintro e u4 ⟨rfl, hk⟩; have HR4 : Hid (Kept [] wr u4) := kept_same (HR3.out.alloc _) hk.out; have HBn4 : Hid (BM u4 u1.heap.size (.slice na nn nc) (.slice ma mn mc) q.at pw) := HBn3.out.kept hk.out; have HBq4 : Hid (BM u4 u3.heap.size (.slice sa sn sc) (.slice ta tn tc) q.at pw) := HBq.out.kept hk.out; obtain ⟨p0, p1, -, -⟩ := HBn4.out.box.cells; obtain ⟨s0, s1, -, -⟩ := HBq4.out.box.cells; clear hk HBn3 HBp3 HBq)
            | (go_at_call 17; refine (HSM.out _ _ _ _ _ _ _ HBn4.out.made HBq4.out.made).mono ?_; clear p0 p1 s0 s1; rintro e u5 ⟨rfl, hk⟩; have HR5 : Hid (Kept [] wr u5) := kept_same HR4.out hk.out; have HBn5 : Hid (BM u5 u1.heap.size (.slice na nn nc) (.slice ma mn mc) q.at pw) := HBn4.out.kept hk.out; obtain ⟨p0, p1, -, -⟩ := (HWw.out.kept HR5.out).cells; obtain ⟨s0, s1, -, -⟩ := (HBo.out.kept HR5.out).cells; clear hk HBn4 HBq4)
            | (go_at_call 11; refine (HSA.out _ HR5.out).mono ?_; clear p0 p1 s0 s1; rintro e u6 ⟨rfl, hk⟩; have HR6 : Hid (Kept [] wr u6) := kept_same HR5.out hk.out; have HBn6 : Hid (BM u6 u1.heap.size (.slice na nn nc) (.slice ma mn mc) q.at pw) := HBn5.out.kept hk.out; clear hk HBn5))
          obtain ⟨pn, hpn, HPN⟩ := places_made HBn6.out.made
          have hpl : (pn : Int) ≤ (pw : Int) := by omega
          have HPN' : Hid (∀ W, Kept [] u6 W → Calls Tryd.prog 19 #[.agg #[.slice na nn nc, .slice ma mn mc]] W fun e w1 => e = .returned (.int .i64 (pn : Nat)) ∧ Hid (Kept [] W w1)) := HPN
          have HWu : Hid (Wd2 u6 w.heap.size (.slice a1 ns c1) (.slice (some ⟨b, o, none⟩) nl c2)) := HWw.out.kept HR6.out
          clear HPN
          go_region_held3 (fun w' => w'.cell? ⟨u1.heap.size, 0, none⟩ = some (.slice na nn nc) ∧ w'.cell? ⟨u1.heap.size, 1, none⟩ = some (.slice ma mn mc) ∧ w'.cell? ⟨w.heap.size, 0, none⟩ = some (.slice a1 ns c1) ∧ w'.cell? ⟨w.heap.size, 1, none⟩ = some (.slice (some ⟨b, o, none⟩) nl c2))
            ((refine four_cells HBn6.out.box HWu.out ?_; (repeat (first | exact Kept.refl _ _ | refine Kept.drew ?_ | refine kept_same ?_ HKb.out | refine kept_same ?_ HKa.out))))
            (first
            | (go_at_call 19; (with_reducible show Calls _ _ #[.agg #[.slice na _ _, _]] _ _); refine (HPN'.out _ (by repeat (first | exact Kept.refl _ _ | refine Kept.drew ?_ | refine kept_same ?_ HKb.out))).mono ?_; rintro e t1 ⟨rfl, HKa⟩)
            | (go_at_call 19; (with_reducible show Calls _ _ #[.agg #[.slice a1 _ _, _]] _ _); refine (HPW.out _ (kept_same (kept_same HKw.out HR6.out) (by repeat (first | exact Kept.refl _ _ | refine Kept.drew ?_ | refine kept_same ?_ HKa.out)))).mono ?_; rintro e t2 ⟨rfl, HKb⟩))
          go_wp2
          go_ret
          exact ⟨rfl, kept_same (kept_same HKw.out HR6.out) (by repeat (first | exact Kept.refl _ _ | refine Kept.drew ?_ | refine kept_same ?_ HKb.out | refine kept_same ?_ HKa.out))⟩
end Go.Proofs.YtnejehlgfckdgaaDoor
