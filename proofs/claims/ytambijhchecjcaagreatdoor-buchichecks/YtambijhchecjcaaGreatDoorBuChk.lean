/- The law BuchiChecks: its walk. -/
import Derived.Test.YtambijhchecjcaaGreatDoorHL
import Derived.Test.YtambijhchecjcaaGreatDoorHK
import Derived.Test.YtambijhchecjcaaGreatDoorHR
import Derived.Test.YtambijhchecjcaaGreatDoorBuKnown
namespace Go.Proofs.YtambijhchecjcaaGreatDoor
open Go.RowKit Go.Shelf

theorem box_new (W : World) (T : TypeId) (a b c d e : Value) : Five T (W.alloc (.cells #[a, b, c, d, e] T)) W.heap.size a b c d e ∧ Kept [] W (W.alloc (.cells #[a, b, c, d, e] T)) ∧ W.heap.size < (W.alloc (.cells #[a, b, c, d, e] T)).heap.size :=
  ⟨al0 _ _, (Kept.refl [] W).alloc _, lt_of (al0 W _)⟩
theorem GenL.lt {W : World} {n b1 b2 b3 b4 m : Nat} {bs : List Nat} {g : Gen} (h : GenL W n b1 b2 b3 b4 m bs g) : ∀ x ∈ b1 :: b2 :: b3 :: b4 :: bs, n ≤ x ∧ x < W.heap.size := by
  obtain ⟨w0, hs⟩ := h.sets
  obtain ⟨u1, u2, u3, u4⟩ := h.up
  intro x hx
  simp only [List.mem_cons] at hx
  rcases hx with rfl | rfl | rfl | rfl | hx
  · exact ⟨by omega, lt_of h.ps.row⟩
  · exact ⟨by omega, lt_of h.ini.row⟩
  · exact ⟨by omega, lt_of h.es.row⟩
  · exact ⟨by omega, lt_of hs.row⟩
  · have := hs.nb x hx
    obtain ⟨i, hi, rfl⟩ := List.getElem_of_mem hx
    exact ⟨by omega, lt_of (hs.rs.each i (by rw [← hs.rs.len]; exact hi) hi).row⟩
theorem BucL.lt {W : World} {n b1 b2 b3 b4 : Nat} {g : Gen} {fin : List Int} (h : BucL W n b1 b2 b3 b4 g fin) : ∀ x ∈ [b1, b2, b3, b4], n ≤ x ∧ x < W.heap.size := by
  obtain ⟨u1, u2, u3, u4⟩ := h.up
  intro x hx
  simp only [List.mem_cons, List.not_mem_nil, or_false] at hx
  rcases hx with rfl | rfl | rfl | rfl
  · exact ⟨by omega, lt_of h.ps.row⟩
  · exact ⟨by omega, lt_of h.ini.row⟩
  · exact ⟨by omega, lt_of h.es.row⟩
  · exact ⟨by omega, lt_of h.fin.row⟩
theorem GenL.keptK {W W' : World} {n b1 b2 b3 b4 m : Nat} {bs : List Nat} {g : Gen} (h : GenL W n b1 b2 b3 b4 m bs g) (k : Kept [] W W') : GenL W' n b1 b2 b3 b4 m bs g := h.keptF k (by simp) (by simp)
theorem BucL.keptK {W W' : World} {n b1 b2 b3 b4 : Nat} {g : Gen} {fin : List Int} (h : BucL W n b1 b2 b3 b4 g fin) (k : Kept [] W W') : BucL W' n b1 b2 b3 b4 g fin := h.keptF k (by simp)
theorem IsG.fitR {W : World} {pv iv ev sv : Value} {g : Gen} (h : IsG W pv iv ev sv g) : ∀ xs ∈ g.sets, ∀ x ∈ xs, -9223372036854775808 ≤ x ∧ x ≤ 9223372036854775807 := fun xs hx => by
  obtain ⟨i, hi, rfl⟩ := List.getElem_of_mem hx
  rcases h.sets.lie with ⟨_, e⟩ | ⟨b, o, c, _, _, _, q⟩
  · rw [e] at hi; simp at hi
  · obtain ⟨u, _, hu⟩ := q i hi
    exact hu.wf

set_option maxHeartbeats 4000000 in
set_option maxRecDepth 10000 in
theorem buchiChecks_walk (pv iv ev sv : Value) (g : Gen) (fv : Value) (fin : List Int) (w : World) (hG : IsG w pv iv ev sv g) (hm : ∀ x ∈ g.ps, x.size ≤ 140737488351232) (hF : Ints w fv fin) (hT : Tab w) :
    Calls Tryz.prog 3 #[.agg #[pv, .int .i64 g.st, iv, ev, sv], fv] w fun e w' => e = .returned (.bool true) ∧ Kept [] w w' := by
  have hA : IsB w pv iv ev fv g fin := ⟨hG.ps, hG.ini, hG.es, hF, hG.st⟩
  have hfin := hF.few
  obtain ⟨pad, pc, rfl, _, _⟩ := hG.ps.form
  obtain ⟨iad, ic, rfl, _, _⟩ := hG.ini.form
  obtain ⟨ead, ec, rfl, _, _⟩ := hG.es.form
  obtain ⟨sad, sc, rfl⟩ := hG.sets.form
  obtain ⟨fad, fc, rfl, _, _⟩ := hF.form
  obtain ⟨V0, hV0⟩ : ∃ V0, w.alloc (.cells #[.slice pad g.ps.length pc, .int .i64 g.st, .slice iad g.ini.length ic, .slice ead g.es.length ec, .slice sad g.sets.length sc] 27) = V0 := ⟨_, rfl⟩
  have k0 : Kept [] w V0 := by rw [← hV0]; exact (Kept.refl [] w).alloc _
  have a0 : Five 27 V0 w.heap.size (.slice pad g.ps.length pc) (.int .i64 g.st) (.slice iad g.ini.length ic) (.slice ead g.es.length ec) (.slice sad g.sets.length sc) := by rw [← hV0]; exact al0 _ _
  have hv0 : w.heap.size < V0.heap.size := lt_of a0
  have HSM : Hid (Calls Tryz.prog 4 #[.agg #[.slice pad g.ps.length pc, .int .i64 g.st, .slice iad g.ini.length ic, .slice ead g.es.length ec, .slice sad g.sets.length sc]] V0 fun e w' => e = .returned (.bool (decide (smallN g < 100000))) ∧ Kept [] V0 w') := small_any _ _ _ _ g V0 (hG.kept k0) hm
  obtain ⟨f0, f1, f2, f3, f4⟩ := a0.cells
  have HV0 : Hid (_ = V0) := hV0
  have HK0 : Hid (Kept [] w V0) := k0
  by_cases hs : smallN g < 100000
  rotate_left
  · have hd : decide (smallN g < 100000) = false := decide_eq_false hs
    rw [hd] at HSM
    clear hG hF hA hm hT a0 k0 hV0 hs hd
    go_enter Tryz.func3, Tryz.ntmps3
    go_upto_region 1 with fail
    rw [HV0.out]
    clear HV0
    go_wp2_with (first
      | (go_at_call 4; refine HSM.out.mono ?_; rintro e w1 ⟨rfl, k1⟩))
    go_ret
    exact ⟨rfl, keptB HK0.out k1⟩
  have hd : decide (smallN g < 100000) = true := decide_eq_true hs
  rw [hd] at HSM
  clear hd
  by_cases hl : fin.length ≤ 100000
  rotate_left
  · have hli : (100000 : Int) < (fin.length : Int) := by omega
    clear hG hF hA hm hT a0 k0 hV0 hs hl
    go_enter Tryz.func3, Tryz.ntmps3
    go_upto_region 1 with fail
    rw [HV0.out]
    clear HV0
    go_wp2_with (first
      | (go_at_call 4; refine HSM.out.mono ?_; rintro e w1 ⟨rfl, k1⟩))
    go_ret
    exact ⟨rfl, keptB HK0.out k1⟩
  have hli : ¬ (100000 : Int) < (fin.length : Int) := by omega
  obtain ⟨s1, s2, s3, s4, s5⟩ := smallN_few hs
  have hfew : g.ps.length ≤ 100000000 ∧ g.ini.length ≤ 100000000 ∧ g.es.length ≤ 100000000 ∧ g.sets.length ≤ 100000000 ∧ ∀ xs ∈ g.sets, xs.length ≤ 100000000 := ⟨by omega, by omega, by omega, by omega, fun xs hx => by have := s5 xs hx; omega⟩
  have hfit := hG.fit
  have hfr := hG.fitR
  obtain ⟨eg, heg⟩ : ∃ eg, errG g = eg := ⟨_, rfl⟩
  obtain ⟨ef, hef⟩ : ∃ ef, errG (g.with fin) = ef := ⟨_, rfl⟩
  have HKN : Hid (∀ W, Kept [] V0 W → Calls Tryz.prog 5 #[] W fun e w' => e = .returned (.bool true) ∧ Kept [] W w') := fun W k => known_any W ((hT.kept k0 (by simp)).kept k (by simp))
  have HLG : Hid (∀ W, Kept [] w W → Calls Tryz.prog 6 #[.agg #[.slice pad g.ps.length pc, .int .i64 g.st, .slice iad g.ini.length ic, .slice ead g.es.length ec, .slice sad g.sets.length sc]] W (GenEnd W g)) := fun W k => lentGeneral_any _ _ _ _ g W (hG.kept k) hfew
  have HLB : Hid (∀ W, Kept [] w W → Calls Tryz.prog 7 #[.agg #[.slice pad g.ps.length pc, .int .i64 g.st, .slice iad g.ini.length ic, .slice ead g.es.length ec, .slice fad fin.length fc]] W (BucEnd W g fin)) := fun W k => lentBuchi_any _ _ _ _ g fin W (hA.kept k) ⟨by omega, by omega, by omega, by omega⟩
  have HC1 : Hid (∀ W n b1 b2 b3 b4 m bs, GenL W n b1 b2 b3 b4 m bs g → Calls Tryz.prog 8 #[.agg #[.slice (some ⟨b1, 0, none⟩) g.ps.length (g.ps.length + 2), .int .i64 g.st, .slice (some ⟨b2, 0, none⟩) g.ini.length (g.ini.length + 2), .slice (some ⟨b3, 0, none⟩) g.es.length (g.es.length + 2), .slice (some ⟨b4, 0, none⟩) g.sets.length (g.sets.length + 1)]] W fun e w' => e = .returned (.int .i64 (eg : Nat)) ∧ Kept [] W w') := fun W n b1 b2 b3 b4 m bs h => by
    have q := checkG_any _ _ _ _ g W (h.isG hfit (by omega) (fun xs hx => ⟨hfew.2.2.2.2 xs hx, hfr xs hx⟩))
    rw [heg] at q
    exact q
  have HC2 : Hid (∀ W n c1 c2 c3 c4, BucL W n c1 c2 c3 c4 g fin → Calls Tryz.prog 9 #[.agg #[.slice (some ⟨c1, 0, none⟩) g.ps.length (g.ps.length + 2), .int .i64 g.st, .slice (some ⟨c2, 0, none⟩) g.ini.length (g.ini.length + 2), .slice (some ⟨c3, 0, none⟩) g.es.length (g.es.length + 2), .slice (some ⟨c4, 0, none⟩) fin.length (fin.length + 2)]] W fun e w' => e = .returned (.int .i64 (ef : Nat)) ∧ Kept [] W w') := fun W n c1 c2 c3 c4 h => by
    have q := check_anyB _ _ _ _ g fin W (h.isB hfit hF.wf)
    rw [hef] at q
    exact q
  have HWG : Hid (∀ W n b1 b2 b3 b4 m bs, GenL W n b1 b2 b3 b4 m bs g → Kept [] w W → Calls Tryz.prog 10 #[.agg #[.slice (some ⟨b1, 0, none⟩) g.ps.length (g.ps.length + 2), .int .i64 g.st, .slice (some ⟨b2, 0, none⟩) g.ini.length (g.ini.length + 2), .slice (some ⟨b3, 0, none⟩) g.es.length (g.es.length + 2), .slice (some ⟨b4, 0, none⟩) g.sets.length (g.sets.length + 1)], .agg #[.slice pad g.ps.length pc, .int .i64 g.st, .slice iad g.ini.length ic, .slice ead g.es.length ec, .slice sad g.sets.length sc]] W fun e w' => e = .returned (.bool true) ∧ Kept [] W w') := fun W n b1 b2 b3 b4 m bs h k => wholeGeneral_any b1 b2 b3 b4 m bs _ _ _ _ g n W h (hG.kept k) hfew
  have HWB : Hid (∀ W n c1 c2 c3 c4, BucL W n c1 c2 c3 c4 g fin → Kept [] w W → Calls Tryz.prog 11 #[.agg #[.slice (some ⟨c1, 0, none⟩) g.ps.length (g.ps.length + 2), .int .i64 g.st, .slice (some ⟨c2, 0, none⟩) g.ini.length (g.ini.length + 2), .slice (some ⟨c3, 0, none⟩) g.es.length (g.es.length + 2), .slice (some ⟨c4, 0, none⟩) fin.length (fin.length + 2)], .agg #[.slice pad g.ps.length pc, .int .i64 g.st, .slice iad g.ini.length ic, .slice ead g.es.length ec, .slice fad fin.length fc]] W fun e w' => e = .returned (.bool true) ∧ Kept [] W w') := fun W n c1 c2 c3 c4 h k => wholeBuchi_any c1 c2 c3 c4 _ _ _ _ g fin n W h (hA.kept k)
  have HSG : Hid (∀ W n b1 b2 b3 b4 m bs, GenL W n b1 b2 b3 b4 m bs g → Calls Tryz.prog 12 #[.agg #[.slice (some ⟨b1, 0, none⟩) g.ps.length (g.ps.length + 2), .int .i64 g.st, .slice (some ⟨b2, 0, none⟩) g.ini.length (g.ini.length + 2), .slice (some ⟨b3, 0, none⟩) g.es.length (g.es.length + 2), .slice (some ⟨b4, 0, none⟩) g.sets.length (g.sets.length + 1)]] W fun e w' => (∃ v, e = .returned v) ∧ Kept (b1 :: b2 :: b3 :: b4 :: bs) W w' ∧ GenS w' W.heap.size b1 b2 b3 b4 g) := fun W n b1 b2 b3 b4 m bs h => spoilGeneral_any b1 b2 b3 b4 m bs g n W h hfit (by omega)
  have HSB : Hid (∀ W n c1 c2 c3 c4, BucL W n c1 c2 c3 c4 g fin → Calls Tryz.prog 13 #[.agg #[.slice (some ⟨c1, 0, none⟩) g.ps.length (g.ps.length + 2), .int .i64 g.st, .slice (some ⟨c2, 0, none⟩) g.ini.length (g.ini.length + 2), .slice (some ⟨c3, 0, none⟩) g.es.length (g.es.length + 2), .slice (some ⟨c4, 0, none⟩) fin.length (fin.length + 2)]] W fun e w' => (∃ v, e = .returned v) ∧ Kept (c1 :: c2 :: c3 :: c4 :: []) W w' ∧ BucS w' W.heap.size c1 c2 c3 c4 g fin) := fun W n c1 c2 c3 c4 h => spoilBuchi_any c1 c2 c3 c4 g fin n W h hfit (by omega)
  have HRG : Hid (∀ W, Kept [] w W → Calls Tryz.prog 14 #[.agg #[.slice pad g.ps.length pc, .int .i64 g.st, .slice iad g.ini.length ic, .slice ead g.es.length ec, .slice sad g.sets.length sc]] W fun e w' => e = .returned (.int .i64 (eg : Nat)) ∧ Kept [] W w') := fun W k => by
    have q := refCheckG_any _ _ _ _ g W (hG.kept k)
    rw [heg] at q
    exact q
  have HRB : Hid (∀ W, Kept [] w W → Calls Tryz.prog 15 #[.agg #[.slice pad g.ps.length pc, .int .i64 g.st, .slice iad g.ini.length ic, .slice ead g.es.length ec, .slice fad fin.length fc]] W fun e w' => e = .returned (.int .i64 (ef : Nat)) ∧ Kept [] W w') := fun W k => by
    have q := refCheckB_any refCheckG_any _ _ _ _ g fin W (hA.kept k)
    rw [hef] at q
    exact q
  have HX1 : Hid (∀ W b1 b2 b3 b4 g', IsG W (.slice (some ⟨b1, 0, none⟩) g.ps.length (g.ps.length + 2)) (.slice (some ⟨b2, 0, none⟩) g.ini.length (g.ini.length + 2)) (.slice (some ⟨b3, 0, none⟩) g.es.length (g.es.length + 2)) (.slice (some ⟨b4, 0, none⟩) g.sets.length (g.sets.length + 1)) g' → g'.st = g.st → Calls Tryz.prog 8 #[.agg #[.slice (some ⟨b1, 0, none⟩) g.ps.length (g.ps.length + 2), .int .i64 g.st, .slice (some ⟨b2, 0, none⟩) g.ini.length (g.ini.length + 2), .slice (some ⟨b3, 0, none⟩) g.es.length (g.es.length + 2), .slice (some ⟨b4, 0, none⟩) g.sets.length (g.sets.length + 1)]] W fun e w' => e = .returned (.int .i64 (errG g' : Nat)) ∧ Kept [] W w') := fun W b1 b2 b3 b4 g' h e => by
    have q := checkG_any _ _ _ _ g' W h
    rw [e] at q
    exact q
  have HX2 : Hid (∀ W c1 c2 c3 c4 g' fin', IsB W (.slice (some ⟨c1, 0, none⟩) g.ps.length (g.ps.length + 2)) (.slice (some ⟨c2, 0, none⟩) g.ini.length (g.ini.length + 2)) (.slice (some ⟨c3, 0, none⟩) g.es.length (g.es.length + 2)) (.slice (some ⟨c4, 0, none⟩) fin.length (fin.length + 2)) g' fin' → g'.st = g.st → Calls Tryz.prog 9 #[.agg #[.slice (some ⟨c1, 0, none⟩) g.ps.length (g.ps.length + 2), .int .i64 g.st, .slice (some ⟨c2, 0, none⟩) g.ini.length (g.ini.length + 2), .slice (some ⟨c3, 0, none⟩) g.es.length (g.es.length + 2), .slice (some ⟨c4, 0, none⟩) fin.length (fin.length + 2)]] W fun e w' => e = .returned (.int .i64 (errG (g'.with fin') : Nat)) ∧ Kept [] W w') := fun W c1 c2 c3 c4 g' fin' h e => by
    have q := check_anyB _ _ _ _ g' fin' W h
    rw [e] at q
    exact q
  have HY1 : Hid (∀ W b1 b2 b3 b4 g', IsG W (.slice (some ⟨b1, 0, none⟩) g.ps.length (g.ps.length + 2)) (.slice (some ⟨b2, 0, none⟩) g.ini.length (g.ini.length + 2)) (.slice (some ⟨b3, 0, none⟩) g.es.length (g.es.length + 2)) (.slice (some ⟨b4, 0, none⟩) g.sets.length (g.sets.length + 1)) g' → g'.st = g.st → Calls Tryz.prog 14 #[.agg #[.slice (some ⟨b1, 0, none⟩) g.ps.length (g.ps.length + 2), .int .i64 g.st, .slice (some ⟨b2, 0, none⟩) g.ini.length (g.ini.length + 2), .slice (some ⟨b3, 0, none⟩) g.es.length (g.es.length + 2), .slice (some ⟨b4, 0, none⟩) g.sets.length (g.sets.length + 1)]] W fun e w' => e = .returned (.int .i64 (errG g' : Nat)) ∧ Kept [] W w') := fun W b1 b2 b3 b4 g' h e => by
    have q := refCheckG_any _ _ _ _ g' W h
    rw [e] at q
    exact q
  have HY2 : Hid (∀ W c1 c2 c3 c4 g' fin', IsB W (.slice (some ⟨c1, 0, none⟩) g.ps.length (g.ps.length + 2)) (.slice (some ⟨c2, 0, none⟩) g.ini.length (g.ini.length + 2)) (.slice (some ⟨c3, 0, none⟩) g.es.length (g.es.length + 2)) (.slice (some ⟨c4, 0, none⟩) fin.length (fin.length + 2)) g' fin' → g'.st = g.st → Calls Tryz.prog 15 #[.agg #[.slice (some ⟨c1, 0, none⟩) g.ps.length (g.ps.length + 2), .int .i64 g.st, .slice (some ⟨c2, 0, none⟩) g.ini.length (g.ini.length + 2), .slice (some ⟨c3, 0, none⟩) g.es.length (g.es.length + 2), .slice (some ⟨c4, 0, none⟩) fin.length (fin.length + 2)]] W fun e w' => e = .returned (.int .i64 (errG (g'.with fin') : Nat)) ∧ Kept [] W w') := fun W c1 c2 c3 c4 g' fin' h e => by
    have q := refCheckB_any refCheckG_any _ _ _ _ g' fin' W h
    rw [e] at q
    exact q
  have HA0 : Hid (Five 27 V0 w.heap.size (.slice pad g.ps.length pc) (.int .i64 g.st) (.slice iad g.ini.length ic) (.slice ead g.es.length ec) (.slice sad g.sets.length sc)) := a0
  have HZ0 : Hid (w.heap.size < V0.heap.size) := hv0
  have HFEW := hfin
  clear hG hF hA hm hT a0 k0 hV0 hs hl heg hef hfew hfit hfr s1 s2 s3 s4 s5 hv0 hfin
  have T1 : Hid True := trivial
  go_enter Tryz.func3, Tryz.ntmps3
  go_upto_region 1 with fail
  rw [HV0.out]
  clear HV0
  go_upto_region 4 with (first
    | (go_at_call 4; refine HSM.out.mono ?_; rintro e w1 ⟨rfl, k1⟩; have HK1 : Hid (Kept [] V0 w1) := k1; clear k1 f0 f1 f2 f3 f4)
    | (go_at_call 5; refine (HKN.out w1 HK1.out).mono ?_; rintro e w2 ⟨rfl, k2⟩; have HK2 : Hid (Kept [] V0 w2) := keptB HK1.out k2; clear k2; obtain ⟨f0, f1, f2, f3, f4⟩ := (HA0.out.keptF HK2.out (by simp)).cells))

  go_upto_region 5 with fail
  obtain ⟨V6, hV6⟩ : ∃ V6, w2.alloc (.cells #[.slice pad g.ps.length pc, .int .i64 g.st, .slice iad g.ini.length ic, .slice ead g.es.length ec, .slice fad fin.length fc] 31) = V6 := ⟨_, rfl⟩
  rw [hV6]
  have bV6 := box_new w2 31 (.slice pad g.ps.length pc) (.int .i64 g.st) (.slice iad g.ini.length ic) (.slice ead g.es.length ec) (.slice fad fin.length fc)
  have HBV6 : Hid (Five 31 V6 w2.heap.size (.slice pad g.ps.length pc) (.int .i64 g.st) (.slice iad g.ini.length ic) (.slice ead g.es.length ec) (.slice fad fin.length fc) ∧ Kept [] w2 V6 ∧ w2.heap.size < V6.heap.size) := by
    show Five _ _ _ _ _ _ _ _ ∧ _
    rw [← hV6]
    exact bV6
  clear hV6 bV6
  have HK6 : Hid (Kept [] V0 V6) := keptB HK2.out HBV6.out.2.1
  clear f0 f1 f2 f3 f4
  obtain ⟨f0, f1, f2, f3, f4⟩ := (HA0.out.keptF HK6.out (by simp)).cells
  go_upto_region 6 with (first
    | (go_at_call 6; refine (HLG.out V6 (keptB HK0.out HK6.out)).mono ?_; rintro e w5 ⟨b1, b2, b3, b4, m, bs, rfl, hl, k5⟩; have HGL : Hid (GenL w5 V6.heap.size b1 b2 b3 b4 m bs g) := hl; have HK5 : Hid (Kept [] V6 w5) := k5; clear hl k5))
  go_upto_region 6 with fail
  obtain ⟨V7, hV7⟩ : ∃ V7, w5.alloc (.cells #[.slice (some ⟨b1, 0, none⟩) g.ps.length (g.ps.length + 2), .int .i64 g.st, .slice (some ⟨b2, 0, none⟩) g.ini.length (g.ini.length + 2), .slice (some ⟨b3, 0, none⟩) g.es.length (g.es.length + 2), .slice (some ⟨b4, 0, none⟩) g.sets.length (g.sets.length + 1)] 27) = V7 := ⟨_, rfl⟩
  rw [hV7]
  have bV7 := box_new w5 27 (.slice (some ⟨b1, 0, none⟩) g.ps.length (g.ps.length + 2)) (.int .i64 g.st) (.slice (some ⟨b2, 0, none⟩) g.ini.length (g.ini.length + 2)) (.slice (some ⟨b3, 0, none⟩) g.es.length (g.es.length + 2)) (.slice (some ⟨b4, 0, none⟩) g.sets.length (g.sets.length + 1))
  have HBV7 : Hid (Five 27 V7 w5.heap.size (.slice (some ⟨b1, 0, none⟩) g.ps.length (g.ps.length + 2)) (.int .i64 g.st) (.slice (some ⟨b2, 0, none⟩) g.ini.length (g.ini.length + 2)) (.slice (some ⟨b3, 0, none⟩) g.es.length (g.es.length + 2)) (.slice (some ⟨b4, 0, none⟩) g.sets.length (g.sets.length + 1)) ∧ Kept [] w5 V7 ∧ w5.heap.size < V7.heap.size) := by
    show Five _ _ _ _ _ _ _ _ ∧ _
    rw [← hV7]
    exact bV7
  clear hV7 bV7
  have HK7 : Hid (Kept [] V0 V7) := keptB HK6.out (keptB HK5.out HBV7.out.2.1)
  clear f0 f1 f2 f3 f4
  obtain ⟨f0, f1, f2, f3, f4⟩ := (HBV6.out.1.keptF (keptB HK5.out HBV7.out.2.1) (by simp)).cells
  go_upto_region 7 with (first
    | (go_at_call 7; refine (HLB.out V7 (keptB HK0.out HK7.out)).mono ?_; rintro e w6 ⟨c1, c2, c3, c4, rfl, hl, k5⟩; have HBL : Hid (BucL w6 V7.heap.size c1 c2 c3 c4 g fin) := hl; have HK65 : Hid (Kept [] V7 w6) := k5; clear hl k5))
  go_upto_region 7 with fail
  obtain ⟨V8, hV8⟩ : ∃ V8, w6.alloc (.cells #[.slice (some ⟨c1, 0, none⟩) g.ps.length (g.ps.length + 2), .int .i64 g.st, .slice (some ⟨c2, 0, none⟩) g.ini.length (g.ini.length + 2), .slice (some ⟨c3, 0, none⟩) g.es.length (g.es.length + 2), .slice (some ⟨c4, 0, none⟩) fin.length (fin.length + 2)] 31) = V8 := ⟨_, rfl⟩
  rw [hV8]
  have bV8 := box_new w6 31 (.slice (some ⟨c1, 0, none⟩) g.ps.length (g.ps.length + 2)) (.int .i64 g.st) (.slice (some ⟨c2, 0, none⟩) g.ini.length (g.ini.length + 2)) (.slice (some ⟨c3, 0, none⟩) g.es.length (g.es.length + 2)) (.slice (some ⟨c4, 0, none⟩) fin.length (fin.length + 2))
  have HBV8 : Hid (Five 31 V8 w6.heap.size (.slice (some ⟨c1, 0, none⟩) g.ps.length (g.ps.length + 2)) (.int .i64 g.st) (.slice (some ⟨c2, 0, none⟩) g.ini.length (g.ini.length + 2)) (.slice (some ⟨c3, 0, none⟩) g.es.length (g.es.length + 2)) (.slice (some ⟨c4, 0, none⟩) fin.length (fin.length + 2)) ∧ Kept [] w6 V8 ∧ w6.heap.size < V8.heap.size) := by
    show Five _ _ _ _ _ _ _ _ ∧ _
    rw [← hV8]
    exact bV8
  clear hV8 bV8
  have HK78 : Hid (Kept [] V7 V8) := keptB HK65.out HBV8.out.2.1
  have HK8 : Hid (Kept [] w V8) := keptB HK0.out (keptB HK7.out HK78.out)
  have HG8 : Hid (GenL V8 V6.heap.size b1 b2 b3 b4 m bs g) := HGL.out.keptK (keptB HBV7.out.2.1 HK78.out)
  have HB8 : Hid (BucL V8 V7.heap.size c1 c2 c3 c4 g fin) := HBL.out.keptK HBV8.out.2.1
  have HZA : Hid (w.heap.size < w2.heap.size ∧ w2.heap.size < V6.heap.size ∧ V6.heap.size ≤ w5.heap.size ∧ w5.heap.size < V7.heap.size ∧ V7.heap.size ≤ w6.heap.size ∧ w6.heap.size < V8.heap.size) := ⟨Nat.lt_of_lt_of_le HZ0.out HK2.out.size, HBV6.out.2.2, HK5.out.size, HBV7.out.2.2, HK65.out.size, HBV8.out.2.2⟩
  have HFB : Hid (∀ x ∈ (b1 :: b2 :: b3 :: b4 :: bs), V6.heap.size ≤ x ∧ x < w5.heap.size) := HGL.out.lt
  have HFC : Hid (∀ x ∈ [c1, c2, c3, c4], V7.heap.size ≤ x ∧ x < w6.heap.size) := HBL.out.lt
  have HCE : Hid (∀ F W, Kept F V8 W → (∀ x ∈ F, V6.heap.size ≤ x ∧ x ≠ w5.heap.size ∧ x < w6.heap.size) → (W.cell? ⟨w.heap.size, 0, none⟩ = some (.slice pad g.ps.length pc) ∧ W.cell? ⟨w.heap.size, 1, none⟩ = some (.int .i64 g.st) ∧ W.cell? ⟨w.heap.size, 2, none⟩ = some (.slice iad g.ini.length ic) ∧ W.cell? ⟨w.heap.size, 3, none⟩ = some (.slice ead g.es.length ec) ∧ W.cell? ⟨w.heap.size, 4, none⟩ = some (.slice sad g.sets.length sc)) ∧ (W.cell? ⟨w2.heap.size, 0, none⟩ = some (.slice pad g.ps.length pc) ∧ W.cell? ⟨w2.heap.size, 1, none⟩ = some (.int .i64 g.st) ∧ W.cell? ⟨w2.heap.size, 2, none⟩ = some (.slice iad g.ini.length ic) ∧ W.cell? ⟨w2.heap.size, 3, none⟩ = some (.slice ead g.es.length ec) ∧ W.cell? ⟨w2.heap.size, 4, none⟩ = some (.slice fad fin.length fc)) ∧ (W.cell? ⟨w5.heap.size, 0, none⟩ = some (.slice (some ⟨b1, 0, none⟩) g.ps.length (g.ps.length + 2)) ∧ W.cell? ⟨w5.heap.size, 1, none⟩ = some (.int .i64 g.st) ∧ W.cell? ⟨w5.heap.size, 2, none⟩ = some (.slice (some ⟨b2, 0, none⟩) g.ini.length (g.ini.length + 2)) ∧ W.cell? ⟨w5.heap.size, 3, none⟩ = some (.slice (some ⟨b3, 0, none⟩) g.es.length (g.es.length + 2)) ∧ W.cell? ⟨w5.heap.size, 4, none⟩ = some (.slice (some ⟨b4, 0, none⟩) g.sets.length (g.sets.length + 1))) ∧ W.cell? ⟨w6.heap.size, 0, none⟩ = some (.slice (some ⟨c1, 0, none⟩) g.ps.length (g.ps.length + 2)) ∧ W.cell? ⟨w6.heap.size, 1, none⟩ = some (.int .i64 g.st) ∧ W.cell? ⟨w6.heap.size, 2, none⟩ = some (.slice (some ⟨c2, 0, none⟩) g.ini.length (g.ini.length + 2)) ∧ W.cell? ⟨w6.heap.size, 3, none⟩ = some (.slice (some ⟨c3, 0, none⟩) g.es.length (g.es.length + 2)) ∧ W.cell? ⟨w6.heap.size, 4, none⟩ = some (.slice (some ⟨c4, 0, none⟩) fin.length (fin.length + 2))) := fun F W k hF => by
    have z := HZA.out
    have n1 : w.heap.size ∉ F := fun hx => by have := hF _ hx; omega
    have n2 : w2.heap.size ∉ F := fun hx => by have := hF _ hx; omega
    have n3 : w5.heap.size ∉ F := fun hx => by have := hF _ hx; omega
    have n4 : w6.heap.size ∉ F := fun hx => by have := hF _ hx; omega
    exact ⟨((HA0.out.keptF (keptB HK7.out HK78.out) (by simp)).keptF k n1).cells, ((HBV6.out.1.keptF (keptB HK5.out (keptB HBV7.out.2.1 HK78.out)) (by simp)).keptF k n2).cells, ((HBV7.out.1.keptF HK78.out (by simp)).keptF k n3).cells, (HBV8.out.1.keptF k n4).cells⟩
  clear f0 f1 f2 f3 f4 HSM HKN HLG HLB HA0 HBV6 HBV7 HBV8 HGL HBL HK5 HK65 HK6 HK7 HK1 HK2 HK78
  obtain ⟨⟨p0, p1, p2, p3, p4⟩, ⟨q0, q1, q2, q3, q4⟩, ⟨r0, r1, r2, r3, r4⟩, s0, s1, s2, s3, s4⟩ := HCE.out [] V8 (Kept.refl [] V8) (by simp)
  have HKx : Hid (Kept [] V8 V8) := Kept.refl [] V8
  go_upto_region 8 with (first
    | (go_at_call 8; refine (HC1.out V8 _ b1 b2 b3 b4 m bs HG8.out).mono ?_; rintro e x1 ⟨rfl, kq⟩; have HKn : Hid (Kept [] V8 x1) := keptB HKx.out kq; clear HKx kq p0 p1 p2 p3 p4 q0 q1 q2 q3 q4 r0 r1 r2 r3 r4 s0 s1 s2 s3 s4; have HKx : Hid (Kept [] V8 x1) := HKn.out; clear HKn; obtain ⟨⟨p0, p1, p2, p3, p4⟩, ⟨q0, q1, q2, q3, q4⟩, ⟨r0, r1, r2, r3, r4⟩, s0, s1, s2, s3, s4⟩ := HCE.out [] x1 HKx.out (by simp)))
  go_upto_region 9 with (first
    | (go_at_call 9; refine (HC2.out x1 _ c1 c2 c3 c4 (HB8.out.keptK HKx.out)).mono ?_; rintro e x2 ⟨rfl, kq⟩; have HKn : Hid (Kept [] V8 x2) := keptB HKx.out kq; clear HKx kq p0 p1 p2 p3 p4 q0 q1 q2 q3 q4 r0 r1 r2 r3 r4 s0 s1 s2 s3 s4; have HKx : Hid (Kept [] V8 x2) := HKn.out; clear HKn; obtain ⟨⟨p0, p1, p2, p3, p4⟩, ⟨q0, q1, q2, q3, q4⟩, ⟨r0, r1, r2, r3, r4⟩, s0, s1, s2, s3, s4⟩ := HCE.out [] x2 HKx.out (by simp)))
  go_upto_region 10 with (first
    | (go_at_call 10; refine (HWG.out x2 _ b1 b2 b3 b4 m bs (HG8.out.keptK HKx.out) (keptB HK8.out HKx.out)).mono ?_; rintro e x3 ⟨rfl, kq⟩; have HKn : Hid (Kept [] V8 x3) := keptB HKx.out kq; clear HKx kq p0 p1 p2 p3 p4 q0 q1 q2 q3 q4 r0 r1 r2 r3 r4 s0 s1 s2 s3 s4; have HKx : Hid (Kept [] V8 x3) := HKn.out; clear HKn; obtain ⟨⟨p0, p1, p2, p3, p4⟩, ⟨q0, q1, q2, q3, q4⟩, ⟨r0, r1, r2, r3, r4⟩, s0, s1, s2, s3, s4⟩ := HCE.out [] x3 HKx.out (by simp)))
  go_upto_region 11 with (first
    | (go_at_call 11; refine (HWB.out x3 _ c1 c2 c3 c4 (HB8.out.keptK HKx.out) (keptB HK8.out HKx.out)).mono ?_; rintro e x4 ⟨rfl, kq⟩; have HKn : Hid (Kept [] V8 x4) := keptB HKx.out kq; clear HKx kq p0 p1 p2 p3 p4 q0 q1 q2 q3 q4 r0 r1 r2 r3 r4 s0 s1 s2 s3 s4; have HKx : Hid (Kept [] V8 x4) := HKn.out; clear HKn; obtain ⟨⟨p0, p1, p2, p3, p4⟩, ⟨q0, q1, q2, q3, q4⟩, ⟨r0, r1, r2, r3, r4⟩, s0, s1, s2, s3, s4⟩ := HCE.out [] x4 HKx.out (by simp)))
  go_upto_region 12 with (first
    | (go_at_call 12; refine (HSG.out x4 _ b1 b2 b3 b4 m bs (HG8.out.keptK HKx.out)).mono ?_; rintro e x5 ⟨⟨v5, rfl⟩, k5, hs5⟩; have HK5 : Hid (Kept (b1 :: b2 :: b3 :: b4 :: bs) x4 x5) := k5; have HGS : Hid (GenS x5 x4.heap.size b1 b2 b3 b4 g) := hs5; have HKF : Hid (Kept (b1 :: b2 :: b3 :: b4 :: bs) V8 x5) := (HKx.out.trans k5 (by simp) (fun x hx => .inl hx)); clear k5 hs5 p0 p1 p2 p3 p4 q0 q1 q2 q3 q4 r0 r1 r2 r3 r4 s0 s1 s2 s3 s4; obtain ⟨⟨p0, p1, p2, p3, p4⟩, ⟨q0, q1, q2, q3, q4⟩, ⟨r0, r1, r2, r3, r4⟩, s0, s1, s2, s3, s4⟩ := HCE.out _ x5 HKF.out (fun x hx => (by have z := HFB.out x hx; have y := HZA.out; omega))))
  have HB5 : Hid (BucL x5 V7.heap.size c1 c2 c3 c4 g fin) := (HB8.out.keptK HKx.out).keptF HK5.out (fun x hx => by have z := HFB.out x hx; have y := HZA.out; omega)
  go_upto_region 13 with (first
    | (go_at_call 13; refine (HSB.out x5 _ c1 c2 c3 c4 HB5.out).mono ?_; rintro e x6 ⟨⟨v6, rfl⟩, k6, hs6⟩; have HK6 : Hid (Kept [c1, c2, c3, c4] x5 x6) := k6; have HBS : Hid (BucS x6 x5.heap.size c1 c2 c3 c4 g fin) := hs6; clear k6 hs6 p0 p1 p2 p3 p4 q0 q1 q2 q3 q4 r0 r1 r2 r3 r4 s0 s1 s2 s3 s4))
  have HK9 : Hid (Kept ((b1 :: b2 :: b3 :: b4 :: bs) ++ [c1, c2, c3, c4]) V8 x6) := HKF.out.trans HK6.out (fun x hx => List.mem_append_left _ hx) (fun x hx => .inl (List.mem_append_right _ hx))
  have HFF : Hid (∀ x ∈ (b1 :: b2 :: b3 :: b4 :: bs) ++ [c1, c2, c3, c4], V6.heap.size ≤ x ∧ x ≠ w5.heap.size ∧ x < w6.heap.size) := fun x hx => by
    have y := HZA.out
    rcases List.mem_append.1 hx with h | h
    · have z := HFB.out x h; omega
    · have z := HFC.out x h; omega
  have HKw : Hid (Kept [] w x6) := HK8.out.trans (H := []) HK9.out (by simp) (fun x hx => .inr (by have z := HFF.out x hx; have y := HZA.out; omega))
  have HCF : Hid (∀ W, Kept [] x6 W → (W.cell? ⟨w.heap.size, 0, none⟩ = some (.slice pad g.ps.length pc) ∧ W.cell? ⟨w.heap.size, 1, none⟩ = some (.int .i64 g.st) ∧ W.cell? ⟨w.heap.size, 2, none⟩ = some (.slice iad g.ini.length ic) ∧ W.cell? ⟨w.heap.size, 3, none⟩ = some (.slice ead g.es.length ec) ∧ W.cell? ⟨w.heap.size, 4, none⟩ = some (.slice sad g.sets.length sc)) ∧ (W.cell? ⟨w2.heap.size, 0, none⟩ = some (.slice pad g.ps.length pc) ∧ W.cell? ⟨w2.heap.size, 1, none⟩ = some (.int .i64 g.st) ∧ W.cell? ⟨w2.heap.size, 2, none⟩ = some (.slice iad g.ini.length ic) ∧ W.cell? ⟨w2.heap.size, 3, none⟩ = some (.slice ead g.es.length ec) ∧ W.cell? ⟨w2.heap.size, 4, none⟩ = some (.slice fad fin.length fc)) ∧ (W.cell? ⟨w5.heap.size, 0, none⟩ = some (.slice (some ⟨b1, 0, none⟩) g.ps.length (g.ps.length + 2)) ∧ W.cell? ⟨w5.heap.size, 1, none⟩ = some (.int .i64 g.st) ∧ W.cell? ⟨w5.heap.size, 2, none⟩ = some (.slice (some ⟨b2, 0, none⟩) g.ini.length (g.ini.length + 2)) ∧ W.cell? ⟨w5.heap.size, 3, none⟩ = some (.slice (some ⟨b3, 0, none⟩) g.es.length (g.es.length + 2)) ∧ W.cell? ⟨w5.heap.size, 4, none⟩ = some (.slice (some ⟨b4, 0, none⟩) g.sets.length (g.sets.length + 1))) ∧ W.cell? ⟨w6.heap.size, 0, none⟩ = some (.slice (some ⟨c1, 0, none⟩) g.ps.length (g.ps.length + 2)) ∧ W.cell? ⟨w6.heap.size, 1, none⟩ = some (.int .i64 g.st) ∧ W.cell? ⟨w6.heap.size, 2, none⟩ = some (.slice (some ⟨c2, 0, none⟩) g.ini.length (g.ini.length + 2)) ∧ W.cell? ⟨w6.heap.size, 3, none⟩ = some (.slice (some ⟨c3, 0, none⟩) g.es.length (g.es.length + 2)) ∧ W.cell? ⟨w6.heap.size, 4, none⟩ = some (.slice (some ⟨c4, 0, none⟩) fin.length (fin.length + 2))) := fun W k => HCE.out _ W (HK9.out.trans k (fun x hx => hx) (by simp)) HFF.out
  obtain ⟨g', hst, _, _, hgs⟩ := HGS.out
  obtain ⟨g2, fin2, hst2, _, hbs⟩ := HBS.out
  have HG9 : Hid (∀ W, Kept [] x6 W → IsG W (.slice (some ⟨b1, 0, none⟩) g.ps.length (g.ps.length + 2)) (.slice (some ⟨b2, 0, none⟩) g.ini.length (g.ini.length + 2)) (.slice (some ⟨b3, 0, none⟩) g.es.length (g.es.length + 2)) (.slice (some ⟨b4, 0, none⟩) g.sets.length (g.sets.length + 1)) g') := fun W k => hgs [c1, c2, c3, c4] W (HK6.out.trans k (fun x hx => hx) (by simp)) (fun x hx => by
    have z := HFC.out x hx
    have y := HZA.out
    have s1 := HKx.out.size
    have z1 := HFB.out b1 (by simp)
    have z2 := HFB.out b2 (by simp)
    have z3 := HFB.out b3 (by simp)
    have z4 := HFB.out b4 (by simp)
    omega)
  have HB9 : Hid (∀ W, Kept [] x6 W → IsB W (.slice (some ⟨c1, 0, none⟩) g.ps.length (g.ps.length + 2)) (.slice (some ⟨c2, 0, none⟩) g.ini.length (g.ini.length + 2)) (.slice (some ⟨c3, 0, none⟩) g.es.length (g.es.length + 2)) (.slice (some ⟨c4, 0, none⟩) fin.length (fin.length + 2)) g2 fin2) := fun W k => hbs [] W k (by simp)
  have HST : Hid (g'.st = g.st ∧ g2.st = g.st) := ⟨hst, hst2⟩
  have HX1' : Hid (∀ W, Kept [] x6 W → Calls Tryz.prog 8 #[.agg #[.slice (some ⟨b1, 0, none⟩) g.ps.length (g.ps.length + 2), .int .i64 g.st, .slice (some ⟨b2, 0, none⟩) g.ini.length (g.ini.length + 2), .slice (some ⟨b3, 0, none⟩) g.es.length (g.es.length + 2), .slice (some ⟨b4, 0, none⟩) g.sets.length (g.sets.length + 1)]] W fun e w' => e = .returned (.int .i64 (errG g' : Nat)) ∧ Kept [] W w') := fun W k => HX1.out W b1 b2 b3 b4 g' (HG9.out W k) HST.out.1
  have HX2' : Hid (∀ W, Kept [] x6 W → Calls Tryz.prog 9 #[.agg #[.slice (some ⟨c1, 0, none⟩) g.ps.length (g.ps.length + 2), .int .i64 g.st, .slice (some ⟨c2, 0, none⟩) g.ini.length (g.ini.length + 2), .slice (some ⟨c3, 0, none⟩) g.es.length (g.es.length + 2), .slice (some ⟨c4, 0, none⟩) fin.length (fin.length + 2)]] W fun e w' => e = .returned (.int .i64 (errG (g2.with fin2) : Nat)) ∧ Kept [] W w') := fun W k => HX2.out W c1 c2 c3 c4 g2 fin2 (HB9.out W k) HST.out.2
  have HY1' : Hid (∀ W, Kept [] x6 W → Calls Tryz.prog 14 #[.agg #[.slice (some ⟨b1, 0, none⟩) g.ps.length (g.ps.length + 2), .int .i64 g.st, .slice (some ⟨b2, 0, none⟩) g.ini.length (g.ini.length + 2), .slice (some ⟨b3, 0, none⟩) g.es.length (g.es.length + 2), .slice (some ⟨b4, 0, none⟩) g.sets.length (g.sets.length + 1)]] W fun e w' => e = .returned (.int .i64 (errG g' : Nat)) ∧ Kept [] W w') := fun W k => HY1.out W b1 b2 b3 b4 g' (HG9.out W k) HST.out.1
  have HY2' : Hid (∀ W, Kept [] x6 W → Calls Tryz.prog 15 #[.agg #[.slice (some ⟨c1, 0, none⟩) g.ps.length (g.ps.length + 2), .int .i64 g.st, .slice (some ⟨c2, 0, none⟩) g.ini.length (g.ini.length + 2), .slice (some ⟨c3, 0, none⟩) g.es.length (g.es.length + 2), .slice (some ⟨c4, 0, none⟩) fin.length (fin.length + 2)]] W fun e w' => e = .returned (.int .i64 (errG (g2.with fin2) : Nat)) ∧ Kept [] W w') := fun W k => HY2.out W c1 c2 c3 c4 g2 fin2 (HB9.out W k) HST.out.2
  obtain ⟨eg', heg'⟩ : ∃ eg', errG g' = eg' := ⟨_, rfl⟩
  obtain ⟨ef', hef'⟩ : ∃ ef', errG (g2.with fin2) = ef' := ⟨_, rfl⟩
  rw [heg'] at HX1' HY1'
  rw [hef'] at HX2' HY2'
  clear heg' hef' hgs hbs hst hst2 HGS HBS HX1 HX2 HY1 HY2 HKx HKF HC1 HC2 HWG HWB HSG HSB HG8 HB8 HB5
  obtain ⟨⟨p0, p1, p2, p3, p4⟩, ⟨q0, q1, q2, q3, q4⟩, ⟨r0, r1, r2, r3, r4⟩, s0, s1, s2, s3, s4⟩ := HCF.out x6 (Kept.refl [] x6)
  have HKx : Hid (Kept [] x6 x6) := Kept.refl [] x6
  go_upto_region 14 with (first
    | (go_at_call 8; refine (HX1'.out x6 HKx.out).mono ?_; rintro e x7 ⟨rfl, kq⟩; have HKn : Hid (Kept [] x6 x7) := keptB HKx.out kq; clear HKx kq p0 p1 p2 p3 p4 q0 q1 q2 q3 q4 r0 r1 r2 r3 r4 s0 s1 s2 s3 s4; have HKx : Hid (Kept [] x6 x7) := HKn.out; clear HKn; obtain ⟨⟨p0, p1, p2, p3, p4⟩, ⟨q0, q1, q2, q3, q4⟩, ⟨r0, r1, r2, r3, r4⟩, s0, s1, s2, s3, s4⟩ := HCF.out x7 HKx.out))
  go_upto_region 15 with (first
    | (go_at_call 9; refine (HX2'.out x7 HKx.out).mono ?_; rintro e x8 ⟨rfl, kq⟩; have HKn : Hid (Kept [] x6 x8) := keptB HKx.out kq; clear HKx kq p0 p1 p2 p3 p4 q0 q1 q2 q3 q4 r0 r1 r2 r3 r4 s0 s1 s2 s3 s4; have HKx : Hid (Kept [] x6 x8) := HKn.out; clear HKn; obtain ⟨⟨p0, p1, p2, p3, p4⟩, ⟨q0, q1, q2, q3, q4⟩, ⟨r0, r1, r2, r3, r4⟩, s0, s1, s2, s3, s4⟩ := HCF.out x8 HKx.out))
  have T2 : Hid True := trivial
  have T3 : Hid True := trivial
  go_upto_region 16 with (first
    | (go_at_call 14; refine (HY1'.out x8 HKx.out).mono ?_; rintro e x9 ⟨rfl, kq⟩; have HKn : Hid (Kept [] x6 x9) := keptB HKx.out kq; clear HKx kq p0 p1 p2 p3 p4 q0 q1 q2 q3 q4 r0 r1 r2 r3 r4 s0 s1 s2 s3 s4; have HKx : Hid (Kept [] x6 x9) := HKn.out; clear HKn; obtain ⟨⟨p0, p1, p2, p3, p4⟩, ⟨q0, q1, q2, q3, q4⟩, ⟨r0, r1, r2, r3, r4⟩, s0, s1, s2, s3, s4⟩ := HCF.out x9 HKx.out)
    | (go_at_call 15; refine (HY2'.out x9 HKx.out).mono ?_; rintro e x10 ⟨rfl, kq⟩; have HKn : Hid (Kept [] x6 x10) := keptB HKx.out kq; clear HKx kq p0 p1 p2 p3 p4 q0 q1 q2 q3 q4 r0 r1 r2 r3 r4 s0 s1 s2 s3 s4; have HKx : Hid (Kept [] x6 x10) := HKn.out; clear HKn; obtain ⟨⟨p0, p1, p2, p3, p4⟩, ⟨q0, q1, q2, q3, q4⟩, ⟨r0, r1, r2, r3, r4⟩, s0, s1, s2, s3, s4⟩ := HCF.out x10 HKx.out))
  go_wp2_with (first
    | (go_at_call 14; refine (HRG.out x10 (keptB HKw.out HKx.out)).mono ?_; rintro e x11 ⟨rfl, kq⟩; have HKn : Hid (Kept [] x6 x11) := keptB HKx.out kq; clear HKx kq p0 p1 p2 p3 p4 q0 q1 q2 q3 q4 r0 r1 r2 r3 r4 s0 s1 s2 s3 s4; have HKx : Hid (Kept [] x6 x11) := HKn.out; clear HKn; obtain ⟨⟨p0, p1, p2, p3, p4⟩, ⟨q0, q1, q2, q3, q4⟩, ⟨r0, r1, r2, r3, r4⟩, s0, s1, s2, s3, s4⟩ := HCF.out x11 HKx.out)
    | (go_at_call 15; refine (HRB.out x11 (keptB HKw.out HKx.out)).mono ?_; rintro e x12 ⟨rfl, kq⟩; have HKn : Hid (Kept [] x6 x12) := keptB HKx.out kq; clear HKx kq p0 p1 p2 p3 p4 q0 q1 q2 q3 q4 r0 r1 r2 r3 r4 s0 s1 s2 s3 s4; have HKx : Hid (Kept [] x6 x12) := HKn.out; clear HKn; obtain ⟨⟨p0, p1, p2, p3, p4⟩, ⟨q0, q1, q2, q3, q4⟩, ⟨r0, r1, r2, r3, r4⟩, s0, s1, s2, s3, s4⟩ := HCF.out x12 HKx.out))
  go_ret
  exact ⟨rfl, keptB HKw.out HKx.out⟩
end Go.Proofs.YtambijhchecjcaaGreatDoor
