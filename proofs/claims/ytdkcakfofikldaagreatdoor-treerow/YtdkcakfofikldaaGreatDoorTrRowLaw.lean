/- TreeRow: the walk. -/
import Derived.Test.YtdkcakfofikldaaGreatDoorTrAwk3
import Derived.Test.YtdkcakfofikldaaGreatDoorTrMuch
import Derived.Test.YtdkcakfofikldaaGreatDoorTrAlike
namespace Go.Proofs.YtdkcakfofikldaaGreatDoor
open Go.RowKit Go.Shelf

theorem isF_three {W : World} {b : Nat} {t u v : Tr} {kv lv mv : Value} (hb : W.heap[b]? = some (.cells #[.int .u8 (t.op : Nat), .string t.name, kv, .int .u8 (u.op : Nat), .string u.name, lv, .int .u8 (v.op : Nat), .string v.name, mv] 27 (0, 0))) (h : IsF W t kv) (k : IsF W u lv) (m : IsF W v mv) : IsF W ⟨0, ⟨#[]⟩, [t, u, v]⟩ (.slice (some ⟨b, 0, none⟩) 3 3) := by
  refine (isT_eq (X := fun k => k < W.heap.size) ⟨0, ⟨#[]⟩, [t, u, v]⟩ _).2 ⟨_, _, rfl, .inr ⟨b, 0, rfl, lt_of hb, fun i hi => ?_⟩⟩
  have hi' : i < 3 := by simpa using hi
  match i, hi' with
  | 0, _ => exact ⟨kv, (cell_of hb 0).trans rfl, (cell_of hb 1).trans rfl, (cell_of hb 2).trans rfl, h⟩
  | 1, _ => exact ⟨lv, (cell_of hb 3).trans rfl, (cell_of hb 4).trans rfl, (cell_of hb 5).trans rfl, k⟩
  | 2, _ => exact ⟨mv, (cell_of hb 6).trans rfl, (cell_of hb 7).trans rfl, (cell_of hb 8).trans rfl, m⟩
/-- One row: what the law asks of three signs. -/
theorem row_signs (f g h : Tr) : (cmpT f g ≤ 0 → cmpT g h ≤ 0 → cmpT f h ≤ 0 ∧ (cmpT f g < 0 ∨ cmpT g h < 0 → cmpT f h < 0)) ∧ (0 ≤ cmpT f g → 0 ≤ cmpT g h → 0 ≤ cmpT f h ∧ (0 < cmpT f g ∨ 0 < cmpT g h → 0 < cmpT f h)) := by
  have e1 : cmpT f g = 0 → cmpT f h = cmpT g h := fun e => (preT.same f g h e).1
  have e2 : cmpT g h = 0 → cmpT f h = cmpT f g := fun e => ((preT.same g h f e).2).symm
  have t1 := preT.trans f g h
  have t2 : 0 < cmpT f g → 0 < cmpT g h → 0 < cmpT f h := fun a b => (preT.flip h f).1 (preT.trans h g f ((preT.flip h g).2 b) ((preT.flip g f).2 a))
  obtain ⟨a, ha⟩ : ∃ a, cmpT f g = a := ⟨_, rfl⟩
  obtain ⟨b, hb⟩ : ∃ b, cmpT g h = b := ⟨_, rfl⟩
  obtain ⟨c, hc⟩ : ∃ c, cmpT f h = c := ⟨_, rfl⟩
  simp only [ha, hb, hc] at e1 e2 t1 t2 ⊢
  refine ⟨fun h1 h2 => ?_, fun h1 h2 => ?_⟩
  · rcases Int.lt_trichotomy a 0 with x | x | x <;> rcases Int.lt_trichotomy b 0 with y | y | y <;> constructor <;> try omega
    all_goals first | (have := t1 x y; omega) | (have := e1 x; omega) | (have := e2 y; omega) | (intro _; have := t1 x y; omega) | (intro _; have := e1 x; omega) | (intro _; have := e2 y; omega)
  · rcases Int.lt_trichotomy a 0 with x | x | x <;> rcases Int.lt_trichotomy b 0 with y | y | y <;> constructor <;> try omega
    all_goals first | (have := t2 x y; omega) | (have := e1 x; omega) | (have := e2 y; omega) | (intro _; have := t2 x y; omega) | (intro _; have := e1 x; omega) | (intro _; have := e2 y; omega)

set_option maxHeartbeats 4000000 in
set_option maxRecDepth 20000 in
theorem treeRow_walk (f g h : Tr) (fv gv hv : Value) (w : World) (hF : IsF w f fv) (hG : IsF w g gv) (hH : IsF w h hv) (fF : f.Fine) (fG : g.Fine) (mF : f.Modest) (mG : g.Modest) (mH : h.Modest) (hT : KidsTab w) (hN : NumAt w) :
    Calls Tryz.prog 6 #[.agg #[.int .u8 (f.op : Nat), .string f.name, fv], .agg #[.int .u8 (g.op : Nat), .string g.name, gv], .agg #[.int .u8 (h.op : Nat), .string h.name, hv]] w fun e w' => e = .returned (.bool true) ∧ Kept [] w w' := by
  obtain ⟨fad, fcap, rfl⟩ := hF.slice
  obtain ⟨gad, gcap, rfl⟩ := hG.slice
  obtain ⟨had, hcap, rfl⟩ := hH.slice
  obtain ⟨V, hV⟩ : ∃ V, ((w.alloc (.cells #[.int .u8 (f.op : Nat), .string f.name, .slice fad f.kids.length fcap] 27)).alloc (.cells #[.int .u8 (g.op : Nat), .string g.name, .slice gad g.kids.length gcap] 27)).alloc (.cells #[.int .u8 (h.op : Nat), .string h.name, .slice had h.kids.length hcap] 27) = V := ⟨_, rfl⟩
  have kV : Kept [] w V := by rw [← hV]; exact (((Kept.refl [] w).alloc _).alloc _).alloc _
  have HB0 : Hid (For3 V w.heap.size (.int .u8 (f.op : Nat)) (.string f.name) (.slice fad f.kids.length fcap)) := by show For3 V _ _ _ _; rw [← hV]; exact alUp (alUp (al0 _ _) _) _
  have HB1 : Hid (For3 V (w.heap.size + 1) (.int .u8 (g.op : Nat)) (.string g.name) (.slice gad g.kids.length gcap)) := by show For3 V _ _ _ _; rw [← hV]; exact alUp (al1 _ _ _) _
  have HB2 : Hid (For3 V (w.heap.size + 1 + 1) (.int .u8 (h.op : Nat)) (.string h.name) (.slice had h.kids.length hcap)) := by show For3 V _ _ _ _; rw [← hV]; exact al2 _ _ _ _
  have HIF : Hid (∀ W, Kept [] V W → IsF W f (.slice fad f.kids.length fcap)) := fun W k => (hF.kept kV).kept k
  have HIG : Hid (∀ W, Kept [] V W → IsF W g (.slice gad g.kids.length gcap)) := fun W k => (hG.kept kV).kept k
  have HIH : Hid (∀ W, Kept [] V W → IsF W h (.slice had h.kids.length hcap)) := fun W k => (hH.kept kV).kept k
  have HAW : Hid _ := fun (_ : Unit) => awake_any V (hT.kept kV) (hN.kept kV)
  have HMU : Hid (∀ t ∈ [f, g, h], t.Modest) := fun t ht => by
    rcases List.mem_cons.1 ht with rfl | ht
    · exact mF
    · rcases List.mem_cons.1 ht with rfl | ht
      · exact mG
      · obtain rfl := List.mem_singleton.1 ht; exact mH
  have HKV : Hid (Kept [] w V) := kV
  have HV : Hid _ := hV
  have HT : Hid (KidsTab V) := hT.kept kV
  have HFF : Hid (f.Fine) := fF
  have HFG : Hid (g.Fine) := fG
  clear hV kV hF hG hH hT hN fF fG mF mG mH
  go_enter Tryz.func6, Tryz.ntmps6
  go_upto_region 3 with (first
    | (go_at_call 9; rw [HV.out]; refine (HAW.out ()).mono ?_; rintro e W1 ⟨rfl, hk⟩; obtain ⟨a0, a1, a2⟩ := box_cells HB0.out hk; obtain ⟨b0, b1, b2⟩ := box_cells HB1.out hk; obtain ⟨c0, c1, c2⟩ := box_cells HB2.out hk; have HK : Hid (Kept [] V W1) := hk; clear hk)
    | (go_at_call 10; refine (much_any [f, g, h] _ _ (isF_three (al0 _ _) (HIF.out _ (HK.out.alloc _)) (HIG.out _ (HK.out.alloc _)) (HIH.out _ (HK.out.alloc _))) HMU.out (Nat.le_refl 3)).mono ?_; rintro e W2 ⟨n, rfl, hn, hk⟩; have HK2 : Hid (Kept [] V W2) := (HK.out.alloc _).trans hk (by simp) (by simp); have HN : Hid _ := hn; clear hk hn HK a0 a1 a2 b0 b1 b2 c0 c1 c2))
  rcases Nat.lt_or_ge 1048576 n with hb | hb
  · go_wp2
    go_ret
    exact ⟨rfl, HKV.out.trans HK2.out (by simp) (by simp)⟩
  · have hsz := HN.out hb
    have hsf : f.size ≤ 1048576 := Nat.le_trans f.size_wsum (hsz f (by simp))
    have hsg : g.size ≤ 1048576 := Nat.le_trans g.size_wsum (hsz g (by simp))
    have hsh : h.size ≤ 1048576 := Nat.le_trans h.size_wsum (hsz h (by simp))
    have HC1 : Hid _ := fun W (k : Kept [] V W) => cmp_any f g _ _ W (HIF.out W k) (HIG.out W k) (by omega) (by omega)
    have HC2 : Hid _ := fun W (k : Kept [] V W) => cmp_any g h _ _ W (HIG.out W k) (HIH.out W k) (by omega) (by omega)
    have HC3 : Hid _ := fun W (k : Kept [] V W) => cmp_any f h _ _ W (HIF.out W k) (HIH.out W k) (by omega) (by omega)
    have hsgn := row_signs f g h
    have hzero := cmpT_zero f g
    have hsame := (preT.same f g h)
    obtain ⟨a, ha⟩ : ∃ a, cmpT f g = a := ⟨_, rfl⟩
    obtain ⟨b, hb'⟩ : ∃ b, cmpT g h = b := ⟨_, rfl⟩
    obtain ⟨c, hc⟩ : ∃ c, cmpT f h = c := ⟨_, rfl⟩
    simp only [ha] at HC1
    simp only [hb'] at HC2
    simp only [hc] at HC3
    simp only [ha, hb', hc] at hsgn hzero hsame
    have HSG : Hid _ := hsgn
    have HZE : Hid _ := hzero
    have HSA : Hid (a = 0 → c = b) := fun e => (hsame e).1
    have HSF : Hid (f.size ≤ 1048576 ∧ f.depth ≤ 1048576) := ⟨hsf, Nat.le_trans f.depth_size hsf⟩
    obtain ⟨a0, a1, a2⟩ := box_cells HB0.out HK2.out
    obtain ⟨b0, b1, b2⟩ := box_cells HB1.out HK2.out
    obtain ⟨c0, c1, c2⟩ := box_cells HB2.out HK2.out
    clear hsgn hzero hsame ha hb' hc hsz hsf hsg hsh HN HMU HAW HV HIH
    go_upto_region 8 with (first
      | (go_at_call 18; refine (HC1.out _ HK2.out).mono ?_; rintro e W3 ⟨rfl, hk⟩; have HK3 : Hid (Kept [] V W3) := HK2.out.trans hk.kept (by simp) (by simp); clear hk HC1 HK2 a0 a1 a2 b0 b1 b2 c0 c1 c2; obtain ⟨a0, a1, a2⟩ := box_cells HB0.out HK3.out; obtain ⟨b0, b1, b2⟩ := box_cells HB1.out HK3.out; obtain ⟨c0, c1, c2⟩ := box_cells HB2.out HK3.out)
      | (go_at_call 18; refine (HC2.out _ HK3.out).mono ?_; rintro e W4 ⟨rfl, hk⟩; have HK4 : Hid (Kept [] V W4) := HK3.out.trans hk.kept (by simp) (by simp); clear hk HC2 HK3 a0 a1 a2 b0 b1 b2 c0 c1 c2; obtain ⟨a0, a1, a2⟩ := box_cells HB0.out HK4.out; obtain ⟨b0, b1, b2⟩ := box_cells HB1.out HK4.out; obtain ⟨c0, c1, c2⟩ := box_cells HB2.out HK4.out)
      | (go_at_call 18; refine (HC3.out _ HK4.out).mono ?_; rintro e W5 ⟨rfl, hk⟩; have HK5 : Hid (Kept [] V W5) := HK4.out.trans hk.kept (by simp) (by simp); clear hk HC3 HK4 a0 a1 a2 b0 b1 b2 c0 c1 c2))
    go_cut [76] from 31 to 76 (fun s wx => s = .bool false ∧ wx = W5)
    case first =>
      obtain ⟨sg1, sg2⟩ := HSG.out
      clear HZE HSA HIF HIG HB0 HB1 HB2 HT HFF HFG HSF
      rcases Int.lt_trichotomy a 0 with x | rfl | x
      · have aq1 : a ≤ 0 := (by omega); have aq2 : ¬ (0 ≤ a) := (by omega); have aq3 : ¬ (0 < a) := (by omega); have aq5 : (a == 0) = false := (by rw [beq_eq_false_iff_ne]; omega)
        rcases Int.lt_trichotomy b 0 with y | rfl | y
        · have z := (sg1 (by omega) (by omega)).2 (by omega)
          have bq1 : b ≤ 0 := (by omega); have bq2 : ¬ (0 ≤ b) := (by omega); have bq3 : ¬ (0 < b) := (by omega); have bq5 : (b == 0) = false := (by rw [beq_eq_false_iff_ne]; omega)
          have cq1 : c ≤ 0 := (by omega); have cq2 : ¬ (0 ≤ c) := (by omega); have cq3 : ¬ (0 < c) := (by omega); have cq5 : (c == 0) = false := (by rw [beq_eq_false_iff_ne]; omega)
          clear sg1 sg2 HSG
          go_wp2_with fail
          go_meet
          exact ⟨rfl, rfl⟩
        · have z := (sg1 (by omega) (by omega)).2 (by omega)
          have cq1 : c ≤ 0 := (by omega); have cq2 : ¬ (0 ≤ c) := (by omega); have cq3 : ¬ (0 < c) := (by omega); have cq5 : (c == 0) = false := (by rw [beq_eq_false_iff_ne]; omega)
          clear sg1 sg2 HSG
          go_wp2_with fail
          go_meet
          exact ⟨rfl, rfl⟩
        · have bq1 : 0 ≤ b := (by omega); have bq2 : ¬ (b ≤ 0) := (by omega); have bq3 : ¬ (b < 0) := (by omega); have bq5 : (b == 0) = false := (by rw [beq_eq_false_iff_ne]; omega)
          clear sg1 sg2 HSG
          go_wp2_with fail
          go_meet
          exact ⟨rfl, rfl⟩
      · rcases Int.lt_trichotomy b 0 with y | rfl | y
        · have z := (sg1 (by omega) (by omega)).2 (by omega)
          have bq1 : b ≤ 0 := (by omega); have bq2 : ¬ (0 ≤ b) := (by omega); have bq3 : ¬ (0 < b) := (by omega); have bq5 : (b == 0) = false := (by rw [beq_eq_false_iff_ne]; omega)
          have cq1 : c ≤ 0 := (by omega); have cq2 : ¬ (0 ≤ c) := (by omega); have cq3 : ¬ (0 < c) := (by omega); have cq5 : (c == 0) = false := (by rw [beq_eq_false_iff_ne]; omega)
          clear sg1 sg2 HSG
          go_wp2_with fail
          go_meet
          exact ⟨rfl, rfl⟩
        · have z1 := (sg1 (by omega) (by omega)).1
          have z2 := (sg2 (by omega) (by omega)).1
          obtain rfl : c = 0 := by omega
          clear sg1 sg2 HSG z1 z2
          go_wp2_with fail
          go_meet
          exact ⟨rfl, rfl⟩
        · have z := (sg2 (by omega) (by omega)).2 (by omega)
          have bq1 : 0 ≤ b := (by omega); have bq2 : ¬ (b ≤ 0) := (by omega); have bq3 : ¬ (b < 0) := (by omega); have bq5 : (b == 0) = false := (by rw [beq_eq_false_iff_ne]; omega)
          have cq1 : 0 ≤ c := (by omega); have cq2 : ¬ (c ≤ 0) := (by omega); have cq3 : ¬ (c < 0) := (by omega); have cq5 : (c == 0) = false := (by rw [beq_eq_false_iff_ne]; omega)
          clear sg1 sg2 HSG
          go_wp2_with fail
          go_meet
          exact ⟨rfl, rfl⟩
      · have aq1 : 0 ≤ a := (by omega); have aq2 : ¬ (a ≤ 0) := (by omega); have aq3 : ¬ (a < 0) := (by omega); have aq5 : (a == 0) = false := (by rw [beq_eq_false_iff_ne]; omega)
        rcases Int.lt_trichotomy b 0 with y | rfl | y
        · have bq1 : b ≤ 0 := (by omega); have bq2 : ¬ (0 ≤ b) := (by omega); have bq3 : ¬ (0 < b) := (by omega); have bq5 : (b == 0) = false := (by rw [beq_eq_false_iff_ne]; omega)
          clear sg1 sg2 HSG
          go_wp2_with fail
          go_meet
          exact ⟨rfl, rfl⟩
        · have z := (sg2 (by omega) (by omega)).2 (by omega)
          have cq1 : 0 ≤ c := (by omega); have cq2 : ¬ (c ≤ 0) := (by omega); have cq3 : ¬ (c < 0) := (by omega); have cq5 : (c == 0) = false := (by rw [beq_eq_false_iff_ne]; omega)
          clear sg1 sg2 HSG
          go_wp2_with fail
          go_meet
          exact ⟨rfl, rfl⟩
        · have z := (sg2 (by omega) (by omega)).2 (by omega)
          have bq1 : 0 ≤ b := (by omega); have bq2 : ¬ (b ≤ 0) := (by omega); have bq3 : ¬ (b < 0) := (by omega); have bq5 : (b == 0) = false := (by rw [beq_eq_false_iff_ne]; omega)
          have cq1 : 0 ≤ c := (by omega); have cq2 : ¬ (c ≤ 0) := (by omega); have cq3 : ¬ (c < 0) := (by omega); have cq5 : (c == 0) = false := (by rw [beq_eq_false_iff_ne]; omega)
          clear sg1 sg2 HSG
          go_wp2_with fail
          go_meet
          exact ⟨rfl, rfl⟩
    case rest =>
      obtain ⟨rfl, rfl⟩ := hcut
      by_cases hz : a = 0
      · obtain rfl : f = g := HZE.out hz
        obtain rfl : c = b := HSA.out hz
        subst hz
        clear HZE HSA HSG
        obtain ⟨hsf, hdf⟩ := HSF.out
        have HNF : Hid _ := fun W (k : Kept [] V W) => names_any f _ W (HIF.out W k) (by omega) HFF.out
        have HNG : Hid _ := fun W (k : Kept [] V W) => names_any f _ W (HIG.out W k) (by omega) HFF.out
        have HSFF : Hid _ := fun W (k : Kept [] V W) => size_any f _ W (HIF.out W k) (by omega)
        have HSGG : Hid _ := fun W (k : Kept [] V W) => size_any f _ W (HIG.out W k) (by omega)
        have HDFF : Hid _ := fun W (k : Kept [] V W) => depth_any f _ W (HIF.out W k) (by omega) (by omega)
        have HDGG : Hid _ := fun W (k : Kept [] V W) => depth_any f _ W (HIG.out W k) (by omega) (by omega)
        have HRFF : Hid _ := fun W (k : Kept [] V W) => right_any f _ W (HIF.out W k) (by omega) (by omega) HFF.out (HT.out.kept k)
        have HRGG : Hid _ := fun W (k : Kept [] V W) => right_any f _ W (HIG.out W k) (by omega) (by omega) HFF.out (HT.out.kept k)
        obtain ⟨sz, hsz⟩ : ∃ sz, f.size = sz := ⟨_, rfl⟩
        obtain ⟨dp, hdp⟩ : ∃ dp, f.depth = dp := ⟨_, rfl⟩
        obtain ⟨rn, hrn⟩ : ∃ rn, rightN pastB f = rn := ⟨_, rfl⟩
        simp only [hsz] at HSFF HSGG
        simp only [hdp] at HDFF HDGG
        simp only [hrn] at HRFF HRGG
        clear hsz hdp hrn hsf hdf HSF
        obtain ⟨a0, a1, a2⟩ := box_cells HB0.out HK5.out
        obtain ⟨b0, b1, b2⟩ := box_cells HB1.out HK5.out
        go_upto_region 14 with (first
          | (go_at_call 21; refine (HNF.out _ HK5.out).mono ?_; rintro e W6 ⟨v, rfl, hrow, hk⟩; obtain ⟨xad, xcap, rfl⟩ := own_slice hrow; have HK6 : Hid (Kept [] V W6) := HK5.out.trans hk (by simp) (by simp); clear hk HNF HK5 hrow a0 a1 a2 b0 b1 b2; obtain ⟨a0, a1, a2⟩ := box_cells HB0.out HK6.out; obtain ⟨b0, b1, b2⟩ := box_cells HB1.out HK6.out)
          | (go_at_call 21; refine (HNG.out _ HK6.out).mono ?_; rintro e W7 ⟨v, rfl, hrow, hk⟩; obtain ⟨yad, ycap, rfl⟩ := own_slice hrow; have HK7 : Hid (Kept [] V W7) := HK6.out.trans hk (by simp) (by simp); clear hk HNG HK6 hrow a0 a1 a2 b0 b1 b2; obtain ⟨a0, a1, a2⟩ := box_cells HB0.out HK7.out; obtain ⟨b0, b1, b2⟩ := box_cells HB1.out HK7.out))
        obtain ⟨nl, hnl⟩ : ∃ nl, f.names.length = nl := ⟨_, rfl⟩
        rw [hnl]
        clear hnl
        go_cut [6] from 84 to 117 (fun s wx => s = .bool true ∧ Hid (Kept [] W7 wx))
        case first =>
          have HB0' : Hid _ := fun (_ : Unit) => HB0.out.kept HK7.out
          have HB1' : Hid _ := fun (_ : Unit) => HB1.out.kept HK7.out
          go_region_held3 (fun w' => (w'.cell? ⟨w.heap.size, 0, none⟩ = some (.int .u8 (f.op : Nat)) ∧ w'.cell? ⟨w.heap.size, 1, none⟩ = some (.string f.name) ∧ w'.cell? ⟨w.heap.size, 2, none⟩ = some (.slice fad f.kids.length fcap)) ∧ (w'.cell? ⟨w.heap.size + 1, 0, none⟩ = some (.int .u8 (f.op : Nat)) ∧ w'.cell? ⟨w.heap.size + 1, 1, none⟩ = some (.string f.name) ∧ w'.cell? ⟨w.heap.size + 1, 2, none⟩ = some (.slice gad f.kids.length gcap)))
            ((refine ⟨box_cells (HB0'.out ()) ?_, box_cells (HB1'.out ()) ?_⟩ <;> (repeat (first | with_reducible exact Kept.refl [] _ | with_reducible refine Kept.drew ?_ | with_reducible refine Kept.alloc ?_ _ | with_reducible refine Kept.trans (F := []) (G := []) (H := []) ?_ HKf.out (by simp) (by simp) | with_reducible refine Kept.trans (F := []) (G := []) (H := []) ?_ HKe.out (by simp) (by simp) | with_reducible refine Kept.trans (F := []) (G := []) (H := []) ?_ HKd.out (by simp) (by simp) | with_reducible refine Kept.trans (F := []) (G := []) (H := []) ?_ HKc.out (by simp) (by simp) | with_reducible refine Kept.trans (F := []) (G := []) (H := []) ?_ HKb.out (by simp) (by simp) | with_reducible refine Kept.trans (F := []) (G := []) (H := []) ?_ HKa.out (by simp) (by simp) ))))
            (first
            | (go_at_call 22; refine (HSFF.out _ (by (repeat (first | with_reducible exact HK7.out | with_reducible refine Kept.drew ?_ | with_reducible refine Kept.alloc ?_ _ | with_reducible refine Kept.trans (F := []) (G := []) (H := []) ?_ HKf.out (by simp) (by simp) | with_reducible refine Kept.trans (F := []) (G := []) (H := []) ?_ HKe.out (by simp) (by simp) | with_reducible refine Kept.trans (F := []) (G := []) (H := []) ?_ HKd.out (by simp) (by simp) | with_reducible refine Kept.trans (F := []) (G := []) (H := []) ?_ HKc.out (by simp) (by simp) | with_reducible refine Kept.trans (F := []) (G := []) (H := []) ?_ HKb.out (by simp) (by simp) | with_reducible refine Kept.trans (F := []) (G := []) (H := []) ?_ HKa.out (by simp) (by simp) )))).mono ?_; rintro e Wa ⟨rfl, ka⟩; have HKa : Hid _ := ka; clear ka HSFF)
            | (go_at_call 22; refine (HSGG.out _ (by (repeat (first | with_reducible exact HK7.out | with_reducible refine Kept.drew ?_ | with_reducible refine Kept.alloc ?_ _ | with_reducible refine Kept.trans (F := []) (G := []) (H := []) ?_ HKf.out (by simp) (by simp) | with_reducible refine Kept.trans (F := []) (G := []) (H := []) ?_ HKe.out (by simp) (by simp) | with_reducible refine Kept.trans (F := []) (G := []) (H := []) ?_ HKd.out (by simp) (by simp) | with_reducible refine Kept.trans (F := []) (G := []) (H := []) ?_ HKc.out (by simp) (by simp) | with_reducible refine Kept.trans (F := []) (G := []) (H := []) ?_ HKb.out (by simp) (by simp) | with_reducible refine Kept.trans (F := []) (G := []) (H := []) ?_ HKa.out (by simp) (by simp) )))).mono ?_; rintro e Wb ⟨rfl, kb⟩; have HKb : Hid _ := kb; clear kb HSGG)
            | (go_at_call 23; refine (HDFF.out _ (by (repeat (first | with_reducible exact HK7.out | with_reducible refine Kept.drew ?_ | with_reducible refine Kept.alloc ?_ _ | with_reducible refine Kept.trans (F := []) (G := []) (H := []) ?_ HKf.out (by simp) (by simp) | with_reducible refine Kept.trans (F := []) (G := []) (H := []) ?_ HKe.out (by simp) (by simp) | with_reducible refine Kept.trans (F := []) (G := []) (H := []) ?_ HKd.out (by simp) (by simp) | with_reducible refine Kept.trans (F := []) (G := []) (H := []) ?_ HKc.out (by simp) (by simp) | with_reducible refine Kept.trans (F := []) (G := []) (H := []) ?_ HKb.out (by simp) (by simp) | with_reducible refine Kept.trans (F := []) (G := []) (H := []) ?_ HKa.out (by simp) (by simp) )))).mono ?_; rintro e Wc ⟨rfl, kc⟩; have HKc : Hid _ := kc; clear kc HDFF)
            | (go_at_call 23; refine (HDGG.out _ (by (repeat (first | with_reducible exact HK7.out | with_reducible refine Kept.drew ?_ | with_reducible refine Kept.alloc ?_ _ | with_reducible refine Kept.trans (F := []) (G := []) (H := []) ?_ HKf.out (by simp) (by simp) | with_reducible refine Kept.trans (F := []) (G := []) (H := []) ?_ HKe.out (by simp) (by simp) | with_reducible refine Kept.trans (F := []) (G := []) (H := []) ?_ HKd.out (by simp) (by simp) | with_reducible refine Kept.trans (F := []) (G := []) (H := []) ?_ HKc.out (by simp) (by simp) | with_reducible refine Kept.trans (F := []) (G := []) (H := []) ?_ HKb.out (by simp) (by simp) | with_reducible refine Kept.trans (F := []) (G := []) (H := []) ?_ HKa.out (by simp) (by simp) )))).mono ?_; rintro e Wd ⟨rfl, kd⟩; have HKd : Hid _ := kd; clear kd HDGG)
            | (go_at_call 12; refine (HRFF.out _ (by (repeat (first | with_reducible exact HK7.out | with_reducible refine Kept.drew ?_ | with_reducible refine Kept.alloc ?_ _ | with_reducible refine Kept.trans (F := []) (G := []) (H := []) ?_ HKf.out (by simp) (by simp) | with_reducible refine Kept.trans (F := []) (G := []) (H := []) ?_ HKe.out (by simp) (by simp) | with_reducible refine Kept.trans (F := []) (G := []) (H := []) ?_ HKd.out (by simp) (by simp) | with_reducible refine Kept.trans (F := []) (G := []) (H := []) ?_ HKc.out (by simp) (by simp) | with_reducible refine Kept.trans (F := []) (G := []) (H := []) ?_ HKb.out (by simp) (by simp) | with_reducible refine Kept.trans (F := []) (G := []) (H := []) ?_ HKa.out (by simp) (by simp) )))).mono ?_; rintro e We ⟨rfl, ke⟩; have HKe : Hid _ := ke; clear ke HRFF)
            | (go_at_call 12; refine (HRGG.out _ (by (repeat (first | with_reducible exact HK7.out | with_reducible refine Kept.drew ?_ | with_reducible refine Kept.alloc ?_ _ | with_reducible refine Kept.trans (F := []) (G := []) (H := []) ?_ HKf.out (by simp) (by simp) | with_reducible refine Kept.trans (F := []) (G := []) (H := []) ?_ HKe.out (by simp) (by simp) | with_reducible refine Kept.trans (F := []) (G := []) (H := []) ?_ HKd.out (by simp) (by simp) | with_reducible refine Kept.trans (F := []) (G := []) (H := []) ?_ HKc.out (by simp) (by simp) | with_reducible refine Kept.trans (F := []) (G := []) (H := []) ?_ HKb.out (by simp) (by simp) | with_reducible refine Kept.trans (F := []) (G := []) (H := []) ?_ HKa.out (by simp) (by simp) )))).mono ?_; rintro e Wf ⟨rfl, kf⟩; have HKf : Hid _ := kf; clear kf HRGG))
          all_goals (go_wp2_with fail; go_meet)
          all_goals refine ⟨rfl, ?_⟩
          all_goals (show Kept [] W7 _; (repeat (first | with_reducible exact Kept.refl [] _ | with_reducible refine Kept.drew ?_ | with_reducible refine Kept.alloc ?_ _ | with_reducible refine Kept.trans (F := []) (G := []) (H := []) ?_ HKf.out (by simp) (by simp) | with_reducible refine Kept.trans (F := []) (G := []) (H := []) ?_ HKe.out (by simp) (by simp) | with_reducible refine Kept.trans (F := []) (G := []) (H := []) ?_ HKd.out (by simp) (by simp) | with_reducible refine Kept.trans (F := []) (G := []) (H := []) ?_ HKc.out (by simp) (by simp) | with_reducible refine Kept.trans (F := []) (G := []) (H := []) ?_ HKb.out (by simp) (by simp) | with_reducible refine Kept.trans (F := []) (G := []) (H := []) ?_ HKa.out (by simp) (by simp) )))
        case rest =>
          obtain ⟨rfl, HX⟩ := hcut
          go_wp2
          go_ret
          exact ⟨rfl, (HKV.out.trans HK7.out (H := []) (by simp) (by simp)).trans HX.out (by simp) (by simp)⟩
      · have hz2 : (a != 0) = true := by simpa using hz
        go_wp2
        go_ret
        exact ⟨rfl, HKV.out.trans HK5.out (by simp) (by simp)⟩
end Go.Proofs.YtdkcakfofikldaaGreatDoor
