/- WordsTells: the walk. -/
import Derived.Test.YtgbmfclboliliaaDoorWdTellB
import Derived.Deep.RegionHeld3
namespace Go.Proofs.YtgbmfclboliliaaDoor
open Go.RowKit Go.Shelf
attribute [local go_sem ↓] Go.wp_at_zero Go.wp_at_succ

theorem norm_few {q r : Wd} {n : Nat} (h : NormOf q r) (hn : q.stem.length + q.loop.length ≤ n) : r.stem.length ≤ n ∧ r.loop.length ≤ n := by
  by_cases h0 : q.loop = []
  · rw [h.1 h0]; simp
  · obtain ⟨n1, n2⟩ := h.2 h0
    obtain ⟨s1, s2⟩ := norm_small n1 (List.length_pos_iff.2 h0) n2
    omega
/-- What the loop carries. -/
structure TlI (w W : World) (Bo b1 b2 b3 Z m : Nat) (x1 x2 : Value) (q : Wd) (us : List Nat) : Prop where
  c : TlC w W Bo x1 x2 (.slice (some ⟨b1, 0, none⟩) q.stem.length (q.stem.length + 2)) (.slice (some ⟨b2, 0, none⟩) q.loop.length (q.loop.length + 2))
  ln : Ln W b1 b2 b3 q us
  bk : Bk W Z Z W.heap.size m
  le : Z ≤ W.heap.size
theorem Lets.other {W W' : World} {b o n c b3 : Nat} {xs : List Nat} (h : Lets W (.slice (some ⟨b, o, none⟩) n c) xs) (k : Kept [b3] W W') (hb : b ≠ b3) : Lets W' (.slice (some ⟨b, o, none⟩) n c) xs := by
  refine ⟨h.small, h.few, ?_⟩
  rcases h.lie with ⟨h1, _⟩ | ⟨b', o', c', h1, h2, h3, h4⟩
  · cases h1
  · refine .inr ⟨b', o', c', h1, h2, h3, fun i hi => cell_keptF k ?_ (h4 i hi)⟩
    cases h1
    simpa using hb
set_option maxHeartbeats 8000000 in
set_option maxRecDepth 20000 in
theorem tells_some (a1 a2 au : Option Addr) (c1 c2 cu : Nat) (q : Wd) (us : List Nat) (props i n : Int) (w : World) (hw : IsW w (.slice a1 q.stem.length c1) (.slice a2 q.loop.length c2) q) (hu : Lets w (.slice au us.length cu) us) (hi : i ≤ 9223372036854775807) (hn : n ≤ 9223372036854775807) (hT : PowTab w) (hq : q.stem.length + q.loop.length ≤ 4194304) (hus : us.length ≤ 4194304) :
    Calls Tryd.prog 3 #[.agg #[.slice a1 q.stem.length c1, .slice a2 q.loop.length c2], .int .i64 props, .int .i64 i, .int .i64 n, .slice au us.length cu] w fun e w' => e = .returned (.bool true) ∧ Kept [] w w' := by
  obtain ⟨rp, hrp⟩ := norm_some q
  obtain ⟨rs, hrs⟩ := norm_some (sufW q n.toNat)
  obtain ⟨rj, hrj⟩ := norm_some ⟨us ++ q.stem, q.loop⟩
  obtain ⟨ro, hro⟩ := norm_some (spoiltW q)
  obtain ⟨rk, hrk⟩ := norm_some ⟨List.replicate us.length 60003 ++ (spoiltW q).stem, (spoiltW q).loop⟩
  have fp : rp.stem.length ≤ 4194304 ∧ rp.loop.length ≤ 4194304 := norm_few hrp hq
  have fs : rs.stem.length ≤ 4194304 ∧ rs.loop.length ≤ 4194304 := norm_few hrs (Nat.le_trans (suf_small q _) hq)
  have fj : rj.stem.length ≤ 8388608 ∧ rj.loop.length ≤ 8388608 := norm_few hrj (by show (us ++ q.stem).length + q.loop.length ≤ _; rw [List.length_append]; omega)
  have HFP : Hid ((rp.stem.length ≤ 1000000000 ∧ rp.loop.length ≤ 1000000000) ∧ (rs.stem.length ≤ 1000000000 ∧ rs.loop.length ≤ 1000000000) ∧ rj.stem.length ≤ 1000000000 ∧ rj.loop.length ≤ 1000000000) := ⟨⟨by omega, by omega⟩, ⟨by omega, by omega⟩, by omega, by omega⟩
  clear fp fs fj
  obtain ⟨V, hV⟩ : ∃ V, w.alloc (.cells #[.slice a1 q.stem.length c1, .slice a2 q.loop.length c2] 24) = V := ⟨_, rfl⟩
  have HKV : Hid (Kept [] w V) := by show Kept [] w V; rw [← hV]; exact (Kept.refl [] w).alloc _
  have HAV : Hid (Wd2 V w.heap.size (.slice a1 q.stem.length c1) (.slice a2 q.loop.length c2)) := by show Wd2 _ _ _ _; rw [← hV]; exact al0 _ _
  have HVV : Hid (_ = V) := hV
  have HQA : Hid (∀ W, Kept [] w W → IsW W (.slice a1 q.stem.length c1) (.slice a2 q.loop.length c2) q) := fun W k => hw.kept k
  have HQU : Hid (∀ W, Kept [] w W → Lets W (.slice au us.length cu) us) := fun W k => hu.kept k
  have HTW : Hid (∀ W, Kept [] w W → PowTab W) := fun W k => hT.kept k
  have HHV : Hid (∀ W, Calls Tryd.prog 7 #[.agg #[.slice a1 q.stem.length c1, .slice a2 q.loop.length c2]] W fun e w' => e = .returned (.bool false) ∧ Hid (Kept [] W w')) := fun W => heavy_any a1 a2 _ c1 _ c2 W false (by omega) (by omega) (decide_eq_false (by omega))
  have hu2 : ¬ ((4194304 : Int) < (us.length : Int)) := by omega
  have hu3 : decide ((4194304 : Int) < (us.length : Int)) = false := decide_eq_false hu2
  have HWK : Hid (Calls Tryd.prog 6 #[] V fun e w' => e = .returned (.bool true) ∧ Hid (Kept [] V w')) := works_any V (hT.kept HKV.out)
  have HRN : Hid (∀ W, Kept [] w W → Calls Tryd.prog 15 #[.agg #[.slice a1 q.stem.length c1, .slice a2 q.loop.length c2]] W (RefIt rp W)) := fun W k => ref_it (refNormal_any _ _ q W (hw.kept k) (by omega)) hrp
  have HRS : Hid (∀ W, Kept [] w W → Calls Tryd.prog 16 #[.agg #[.slice a1 q.stem.length c1, .slice a2 q.loop.length c2], .int .i64 n] W (RefIt rs W)) := fun W k => ref_it (refSuffix_any _ _ q n W (hw.kept k) hn (by omega)) hrs
  have HRJ : Hid (∀ W, Kept [] w W → Calls Tryd.prog 17 #[.slice au us.length cu, .agg #[.slice a1 q.stem.length c1, .slice a2 q.loop.length c2]] W (RefIt rj W)) := fun W k => ref_it (refJoin_any _ _ _ us q W (hu.kept k) (hw.kept k) (by omega)) hrj
  obtain ⟨xs, hxs⟩ : ∃ xs, prefL q n = xs := ⟨_, rfl⟩
  have HRP : Hid (∀ W, Kept [] w W → Calls Tryd.prog 19 #[.agg #[.slice a1 q.stem.length c1, .slice a2 q.loop.length c2], .int .i64 n] W (PrefEnds W xs)) := fun W k => by rw [← hxs]; exact refPrefix_any _ _ q n W (hw.kept k)
  have HXS : Hid ((∀ x ∈ xs, x < 65536) ∧ xs.length ≤ 65536) := by rw [← hxs]; exact ⟨prefL_small hw.st.small hw.lp.small n, prefL_len q n⟩
  obtain ⟨ce, hce⟩ : ∃ ce, checkE q props = ce := ⟨_, rfl⟩
  obtain ⟨pl, hpl⟩ : ∃ pl, placesN q = pl := ⟨_, rfl⟩
  obtain ⟨bh, hbh⟩ : ∃ bh, behindI q i = bh := ⟨_, rfl⟩
  obtain ⟨av, hav⟩ : ∃ av, atI q i = av := ⟨_, rfl⟩
  obtain ⟨sb, hsb⟩ : ∃ sb : ByteArray, ⟨(showB q).toArray⟩ = sb := ⟨_, rfl⟩
  have HRiC : Hid (∀ W, Kept [] w W → Calls Tryd.prog 21 #[.agg #[.slice a1 q.stem.length c1, .slice a2 q.loop.length c2], .int .i64 props] W fun e w' => e = .returned (.int .i64 (ce : Nat)) ∧ Kept [] W w') := fun W k => by rw [← hce]; exact refCheck_any _ _ q props W (hw.kept k)
  have HOiC : Hid (∀ y1 y2 W, Kept [] w W → IsW W y1 y2 q → Calls Tryd.prog 20 #[.agg #[y1, y2], .int .i64 props] W fun e w' => e = .returned (.int .i64 (ce : Nat)) ∧ Kept [] W w') := fun y1 y2 W k0 hy => by rw [← hce]; exact check_any _ _ q props W hy
  have HRiL : Hid (∀ W, Kept [] w W → Calls Tryd.prog 23 #[.agg #[.slice a1 q.stem.length c1, .slice a2 q.loop.length c2]] W fun e w' => e = .returned (.int .i64 (pl : Nat)) ∧ Kept [] W w') := fun W k => by rw [← hpl]; exact refPlaces_any _ _ q W (hw.kept k)
  have HOiL : Hid (∀ y1 y2 W, Kept [] w W → IsW W y1 y2 q → Calls Tryd.prog 22 #[.agg #[y1, y2]] W fun e w' => e = .returned (.int .i64 (pl : Nat)) ∧ Kept [] W w') := fun y1 y2 W k0 hy => by rw [← hpl]; exact places_any _ _ q W hy
  have HRiB : Hid (∀ W, Kept [] w W → Calls Tryd.prog 25 #[.agg #[.slice a1 q.stem.length c1, .slice a2 q.loop.length c2], .int .i64 i] W fun e w' => e = .returned (.int .i64 bh) ∧ Kept [] W w') := fun W k => by rw [← hbh]; exact refBehind_any _ _ q i W (hw.kept k)
  have HOiB : Hid (∀ y1 y2 W, Kept [] w W → IsW W y1 y2 q → Calls Tryd.prog 24 #[.agg #[y1, y2], .int .i64 i] W fun e w' => e = .returned (.int .i64 bh) ∧ Kept [] W w') := fun y1 y2 W k0 hy => by rw [← hbh]; exact behind_any _ _ q i W hy
  have HRiA : Hid (∀ W, Kept [] w W → Calls Tryd.prog 27 #[.agg #[.slice a1 q.stem.length c1, .slice a2 q.loop.length c2], .int .i64 i] W fun e w' => e = .returned (.int .u16 (av : Nat)) ∧ Kept [] W w') := fun W k => by rw [← hav]; exact refAt_any _ _ q i W (hw.kept k) hi
  have HOiA : Hid (∀ y1 y2 W, Kept [] w W → IsW W y1 y2 q → Calls Tryd.prog 26 #[.agg #[y1, y2], .int .i64 i] W fun e w' => e = .returned (.int .u16 (av : Nat)) ∧ Kept [] W w') := fun y1 y2 W k0 hy => by rw [← hav]; exact at_any _ _ q i W hy hi
  have HRiW : Hid (∀ W, Kept [] w W → Calls Tryd.prog 29 #[.agg #[.slice a1 q.stem.length c1, .slice a2 q.loop.length c2]] W fun e w' => e = .returned (.string sb) ∧ Kept [] W w') := fun W k => by rw [← hsb]; exact refShow_any _ _ q W (hw.kept k) hq
  have HOiW : Hid (∀ y1 y2 W, Kept [] w W → IsW W y1 y2 q → Calls Tryd.prog 28 #[.agg #[y1, y2]] W fun e w' => e = .returned (.string sb) ∧ Kept [] W w') := fun y1 y2 W k0 hy => by rw [← hsb]; exact show_any _ _ q W hy hq (hT.kept k0)
  have HON : Hid (∀ y1 y2 W, IsW W y1 y2 q → Calls Tryd.prog 10 #[.agg #[y1, y2]] W (MadeIt rp W)) := fun y1 y2 W hy => made_it (normal_any _ _ q W hy.st hy.lp hy.few) hrp
  have HOS : Hid (∀ y1 y2 W, IsW W y1 y2 q → Calls Tryd.prog 11 #[.agg #[y1, y2], .int .i64 n] W (MadeIt rs W)) := fun y1 y2 W hy => made_it (suffixI_any _ _ q n W hy hn) hrs
  have HOJ : Hid (∀ y1 y2 u W, IsW W y1 y2 q → Lets W u us → Calls Tryd.prog 12 #[u, .agg #[y1, y2]] W (MadeIt rj W)) := fun y1 y2 u W hy hl => made_it (join_any _ _ _ us q W hl hy (by omega)) hrj
  have HOP : Hid (∀ y1 y2 W, IsW W y1 y2 q → Calls Tryd.prog 13 #[.agg #[y1, y2], .int .i64 n] W (PrefEnds W xs)) := fun y1 y2 W hy => by rw [← hxs]; exact prefix_any _ _ q n W hy
  obtain ⟨zs, hzs⟩ : ∃ zs, prefL (spoiltW q) n = zs := ⟨_, rfl⟩
  obtain ⟨so, hso⟩ : ∃ so : ByteArray, ⟨(showB (spoiltW q)).toArray⟩ = so := ⟨_, rfl⟩
  have hsp : (spoiltW q).stem.length = q.stem.length ∧ (spoiltW q).loop.length = q.loop.length := by simp [spoiltW]
  have HZS : Hid ((∀ x ∈ zs, x < 65536) ∧ zs.length ≤ 65536) := by rw [← hzs]; exact ⟨prefL_small (fun x hx => by rw [(List.mem_replicate.1 hx).2]; decide) (fun x hx => by rw [(List.mem_replicate.1 hx).2]; decide) n, prefL_len _ n⟩
  have HSN : Hid (∀ y1 y2 W, IsW W y1 y2 (spoiltW q) → Calls Tryd.prog 10 #[.agg #[y1, y2]] W (MadeIt ro W)) := fun y1 y2 W hy => made_it (normal_any _ _ _ W hy.st hy.lp hy.few) hro
  have HSJ : Hid (∀ y1 y2 u W, IsW W y1 y2 (spoiltW q) → Lets W u (List.replicate us.length 60003) → Calls Tryd.prog 12 #[u, .agg #[y1, y2]] W (MadeIt rk W)) := fun y1 y2 u W hy hl => made_it (join_any _ _ _ _ (spoiltW q) W hl hy (by rw [List.length_replicate]; omega)) hrk
  have HSP : Hid (∀ y1 y2 W, IsW W y1 y2 (spoiltW q) → Calls Tryd.prog 13 #[.agg #[y1, y2], .int .i64 n] W (PrefEnds W zs)) := fun y1 y2 W hy => by rw [← hzs]; exact prefix_any _ _ _ n W hy
  have HSW : Hid (∀ y1 y2 W, Kept [] w W → IsW W y1 y2 (spoiltW q) → Calls Tryd.prog 28 #[.agg #[y1, y2]] W fun e w' => e = .returned (.string so) ∧ Hid (Kept [] W w')) := fun y1 y2 W k hy => by rw [← hso]; exact show_any _ _ _ W hy (by omega) (hT.kept k)
  have HTN : Hid (∀ y1 y2 W, IsW W y1 y2 (spoiltW q) → Calls Tryd.prog 15 #[.agg #[y1, y2]] W (RefIt ro W)) := fun y1 y2 W hy => ref_it (refNormal_any _ _ _ W hy (by omega)) hro
  have HTJ : Hid (∀ y1 y2 u W, IsW W y1 y2 (spoiltW q) → Lets W u (List.replicate us.length 60003) → Calls Tryd.prog 17 #[u, .agg #[y1, y2]] W (RefIt rk W)) := fun y1 y2 u W hy hl => ref_it (refJoin_any _ _ _ _ (spoiltW q) W hl hy (by rw [List.length_replicate]; omega)) hrk
  have HTP : Hid (∀ y1 y2 W, IsW W y1 y2 (spoiltW q) → Calls Tryd.prog 19 #[.agg #[y1, y2], .int .i64 n] W (PrefEnds W zs)) := fun y1 y2 W hy => by rw [← hzs]; exact refPrefix_any _ _ _ n W hy
  have HTS : Hid (∀ y1 y2 W, IsW W y1 y2 (spoiltW q) → Calls Tryd.prog 29 #[.agg #[y1, y2]] W fun e w' => e = .returned (.string so) ∧ Hid (Kept [] W w')) := fun y1 y2 W hy => by rw [← hso]; exact refShow_any _ _ _ W hy (by omega)
  have HQS : Hid (q.stem.length + q.loop.length ≤ 4194304 ∧ us.length ≤ 4194304 ∧ (∀ x ∈ us, x < 65536)) := ⟨hq, hus, hu.small⟩
  clear hw hu hT hV hrp hrs hrj hro hrk hxs hce hpl hbh hav hsb hzs hso hsp hi hn
  obtain ⟨g0, g1, _, _⟩ := HAV.out.cells
  go_enter Tryd.func3, Tryd.ntmps3
  go_upto_region 2 with (go_at_call 6; rw [HVV.out]; refine HWK.out.mono ?_; rintro e W1 ⟨rfl, HK1⟩)
  have HA1 : Hid (Wd2 W1 w.heap.size (.slice a1 q.stem.length c1) (.slice a2 q.loop.length c2)) := HAV.out.kept HK1.out
  have HKW1 : Hid (Kept [] w W1) := kept_same HKV.out HK1.out
  clear g0 g1 HWK HVV HAV HKV HK1
  obtain ⟨g0, g1, _, _⟩ := HA1.out.cells
  go_upto_region 5 with (go_at_call 7; refine (HHV.out W1).mono ?_; rintro e W2 ⟨rfl, HK2⟩)
  have HA2 : Hid (Wd2 W2 w.heap.size (.slice a1 q.stem.length c1) (.slice a2 q.loop.length c2)) := HA1.out.kept HK2.out
  have HKW2 : Hid (Kept [] w W2) := kept_same HKW1.out HK2.out
  clear g0 g1 HHV HA1 HKW1 HK2 hu2 hu3
  obtain ⟨g0, g1, _, _⟩ := HA2.out.cells
  go_upto_region 6 with (go_at_call 8; refine (lentWord_any _ _ q W2 (HQA.out W2 HKW2.out).st (HQA.out W2 HKW2.out).lp (by omega)).mono ?_; rintro e W3 ⟨b1, b2, rfl, hlent, hk⟩; have HL1 : Hid (LentL W3 b1 q.stem ∧ LentL W3 b2 q.loop ∧ b1 ≠ b2 ∧ W2.heap.size ≤ b1 ∧ W2.heap.size ≤ b2) := hlent; have HK3 : Hid (Kept [] W2 W3) := hk; clear hlent hk)
  obtain ⟨U, hU⟩ : ∃ U, W3.alloc (.cells #[.slice (some ⟨b1, 0, none⟩) q.stem.length (q.stem.length + 2), .slice (some ⟨b2, 0, none⟩) q.loop.length (q.loop.length + 2)] 24) = U := ⟨_, rfl⟩
  have HKU : Hid (Kept [] W3 U) := by show Kept [] W3 U; rw [← hU]; exact (Kept.refl [] W3).alloc _
  have HOU : Hid (Wd2 U W3.heap.size (.slice (some ⟨b1, 0, none⟩) q.stem.length (q.stem.length + 2)) (.slice (some ⟨b2, 0, none⟩) q.loop.length (q.loop.length + 2))) := by show Wd2 _ _ _ _; rw [← hU]; exact al0 _ _
  rw [hU]
  obtain ⟨Bo, hBo⟩ : ∃ Bo, W3.heap.size = Bo := ⟨_, rfl⟩
  rw [hBo] at HOU ⊢
  have HLU : Hid (LentL U b1 q.stem ∧ LentL U b2 q.loop ∧ b1 ≠ b2 ∧ w.heap.size < b1 ∧ w.heap.size < b2 ∧ b1 < Bo ∧ b2 < Bo) := by
    have h := HL1.out
    have t1 := lt_of h.1.row
    have t2 := lt_of h.2.1.row
    have t3 := lt_of HA2.out
    exact ⟨h.1.kept HKU.out, h.2.1.kept HKU.out, h.2.2.1, by omega, by omega, by omega, by omega⟩
  have HCU : Hid (TlC w U Bo (.slice a1 q.stem.length c1) (.slice a2 q.loop.length c2) (.slice (some ⟨b1, 0, none⟩) q.stem.length (q.stem.length + 2)) (.slice (some ⟨b2, 0, none⟩) q.loop.length (q.loop.length + 2))) := ⟨kept_same HKW2.out (kept_same HK3.out HKU.out), (HA2.out.kept HK3.out).kept HKU.out, HOU.out⟩
  clear hU hBo HL1 HK3 HKU HOU HA2 HKW2 g0 g1
  go_upto_region 7 with (go_at_call 9; refine (lentLetters_any _ us U (HQU.out U HCU.out.kept) (by omega)).mono ?_; rintro e W4 ⟨b3, rfl, hl3, hb3, hk⟩; have HL3 : Hid (LentL W4 b3 us ∧ U.heap.size ≤ b3) := ⟨hl3, hb3⟩; have HK4 : Hid (Kept [] U W4) := hk; clear hl3 hb3 hk)
  obtain ⟨Z, hZ⟩ : ∃ Z, W4.heap.size = Z := ⟨_, rfl⟩
  obtain ⟨X, hX⟩ : ∃ X, W4.alloc (.cells #[.slice none 0 0, .slice none 0 0, .slice none 0 0, .slice none 0 0, .slice none 0 0, .slice none 0 0, .slice none 0 0, .slice none 0 0, .slice none 0 0, .slice none 0 0, .slice none 0 0, .slice none 0 0, .slice none 0 0] 44) = X := ⟨_, rfl⟩
  have HI0 : Hid (TlI w X Bo b1 b2 b3 Z (7 * 0) (.slice a1 q.stem.length c1) (.slice a2 q.loop.length c2) q us ∧ b1 ≠ b2 ∧ (w.heap.size < b1 ∧ w.heap.size < b2 ∧ w.heap.size < b3) ∧ (b1 < Z ∧ b2 < Z ∧ b3 < Z) ∧ (Bo ≠ b1 ∧ Bo ≠ b2 ∧ Bo ≠ b3) ∧ b3 ≠ b1 ∧ b3 ≠ b2) := by
    have h := HLU.out
    have kX : Kept [] W4 X := by rw [← hX]; exact (Kept.refl [] W4).alloc _
    have hbk : X.heap[Z]? = some (.cells #[.slice none 0 0, .slice none 0 0, .slice none 0 0, .slice none 0 0, .slice none 0 0, .slice none 0 0, .slice none 0 0, .slice none 0 0, .slice none 0 0, .slice none 0 0, .slice none 0 0, .slice none 0 0, .slice none 0 0] 44 (0, 0)) := by rw [← hX, ← hZ]; exact al0 _ _
    have t1 := lt_of HCU.out.own
    have t2 := lt_of HL3.out.1.row
    have t3 := HL3.out.2
    have t4 := HK4.out.size
    have t5 := lt_of hbk
    have t6 := HCU.out.kept.size
    refine ⟨⟨HCU.out.quiet (kept_same HK4.out kX), ⟨(h.1.kept HK4.out).kept kX, (h.2.1.kept HK4.out).kept kX, HL3.out.1.kept kX⟩, ⟨⟨_, [], [], BookL.start hbk (by omega) (by omega), by simp, by simp⟩, Nat.le_refl _⟩, by omega⟩, h.2.2.1, ⟨h.2.2.2.1, h.2.2.2.2.1, by omega⟩, ⟨by omega, by omega, by omega⟩, ⟨by omega, by omega, by omega⟩, by omega, by omega⟩
  have HXX : Hid (_ = X) := hX
  have HZZ : Hid (_ = Z) := hZ
  clear hX hZ
  go_wp2_with fail
  rw [HXX.out, HZZ.out]
  have HAP : Hid (b1 ≠ b2 ∧ (w.heap.size < b1 ∧ w.heap.size < b2 ∧ w.heap.size < b3) ∧ (b1 < Z ∧ b2 < Z ∧ b3 < Z) ∧ (Bo ≠ b1 ∧ Bo ≠ b2 ∧ Bo ≠ b3) ∧ b3 ≠ b1 ∧ b3 ≠ b2) := HI0.out.2
  have HIS : Hid (TlI w X Bo b1 b2 b3 Z (7 * 0) (.slice a1 q.stem.length c1) (.slice a2 q.loop.length c2) q us) := HI0.out.1
  clear HXX HZZ HI0 HLU HCU HL3 HK4
  go_loopw [16, 17, 18, 19, 20, 21, 22, 23, 24] (fun v16 _ _ _ _ _ _ _ _ wr => ∃ j : Nat, v16 = .int .i64 (j : Nat) ∧ j ≤ 2 ∧ Hid (TlI w wr Bo b1 b2 b3 Z (7 * j) (.slice a1 q.stem.length c1) (.slice a2 q.loop.length c2) q us)) (fun v16 _ _ _ _ _ _ _ _ _ => 2 - (intOf v16).toNat)
  case atStart => exact ⟨0, rfl, by omega, HIS.out⟩
  case round =>
    obtain ⟨j, rfl, hj, HI⟩ := hrel
    rename World => R0
    have HIW : Hid (∀ W, Kept [] R0 W → IsW W (.slice (some ⟨b1, 0, none⟩) q.stem.length (q.stem.length + 2)) (.slice (some ⟨b2, 0, none⟩) q.loop.length (q.loop.length + 2)) q) := fun W k => ⟨(HI.out.ln.l1.kept k).lets, (HI.out.ln.l2.kept k).lets, by omega⟩
    have HKR : Hid (Kept [] w R0) := HI.out.c.kept
    by_cases hlt : j < 2
    · have l1 : (j : Int) < 2 := by omega
      obtain ⟨⟨g0, g1⟩, e0, e1⟩ := HI.out.c.cells
      go_upto_region 12 with (go_at_call 10; refine (HON.out _ _ R0 (HIW.out R0 (Kept.refl [] R0))).mono ?_; rintro e Wa ⟨pa1, pn1, pc1, pa2, pn2, pc2, rfl, HNp, HKp⟩)
      obtain ⟨A, hA⟩ : ∃ A, Wa.alloc (.cells #[.slice pa1 pn1 pc1, .slice pa2 pn2 pc2] 24) = A := ⟨_, rfl⟩
      have HIp : Hid (It A Wa.heap.size R0.heap.size Wa.heap.size (.slice pa1 pn1 pc1) (.slice pa2 pn2 pc2) rp) := by show It _ _ _ _ _ _ _; rw [← hA]; exact It.make HNp.out (Nat.le_refl _)
      have HKA : Hid (Kept [] R0 A) := by show Kept [] R0 A; rw [← hA]; exact HKp.out.alloc _
      have HSA : Hid (R0.heap.size ≤ Wa.heap.size ∧ Wa.heap.size ≤ A.heap.size) := ⟨HKp.out.size, by rw [← hA, World.size_alloc]; omega⟩
      rw [hA]
      obtain ⟨Bp, hBp⟩ : ∃ Bp, Wa.heap.size = Bp := ⟨_, rfl⟩
      rw [hBp] at HIp HSA ⊢
      clear hA hBp HNp HKp g0 g1 e0 e1
      obtain ⟨⟨g0, g1⟩, e0, e1⟩ := (HI.out.c.quiet HKA.out).cells
      go_upto_region 13 with (go_at_call 11; refine (HOS.out _ _ A (HIW.out A HKA.out)).mono ?_; rintro e Wb ⟨q_a1, q_n1, q_c1, q_a2, q_n2, q_c2, rfl, HNq_, HKq_⟩)
      obtain ⟨C, hC⟩ : ∃ C, Wb.alloc (.cells #[.slice q_a1 q_n1 q_c1, .slice q_a2 q_n2 q_c2] 24) = C := ⟨_, rfl⟩
      have HIq : Hid (It C Wb.heap.size Bp Wb.heap.size (.slice q_a1 q_n1 q_c1) (.slice q_a2 q_n2 q_c2) rs) := by show It _ _ _ _ _ _ _; rw [← hC]; exact It.make HNq_.out (HSA.out.2)
      have HKC : Hid (Kept [] A C) := by show Kept [] A C; rw [← hC]; exact HKq_.out.alloc _
      have HSC : Hid (Bp ≤ Wb.heap.size ∧ Wb.heap.size ≤ C.heap.size) := ⟨Nat.le_trans HSA.out.2 HKq_.out.size, by rw [← hC, World.size_alloc]; omega⟩
      rw [hC]
      obtain ⟨Bq, hBq⟩ : ∃ Bq, Wb.heap.size = Bq := ⟨_, rfl⟩
      rw [hBq] at HIq HSC ⊢
      clear hC hBq HNq_ HKq_ g0 g1 e0 e1
      have HRC : Hid (Kept [] R0 C) := kept_same HKA.out HKC.out
      obtain ⟨⟨g0, g1⟩, e0, e1⟩ := (HI.out.c.quiet HRC.out).cells
      go_upto_region 14 with (go_at_call 12; refine (HOJ.out _ _ _ C (HIW.out C HRC.out) (HI.out.ln.l3.kept HRC.out).lets).mono ?_; rintro e Wc ⟨r_a1, r_n1, r_c1, r_a2, r_n2, r_c2, rfl, HNr_, HKr_⟩)
      obtain ⟨D, hD⟩ : ∃ D, Wc.alloc (.cells #[.slice r_a1 r_n1 r_c1, .slice r_a2 r_n2 r_c2] 24) = D := ⟨_, rfl⟩
      have HIr : Hid (It D Wc.heap.size Bq Wc.heap.size (.slice r_a1 r_n1 r_c1) (.slice r_a2 r_n2 r_c2) rj) := by show It _ _ _ _ _ _ _; rw [← hD]; exact It.make HNr_.out (HSC.out.2)
      have HKD : Hid (Kept [] C D) := by show Kept [] C D; rw [← hD]; exact HKr_.out.alloc _
      have HSD : Hid (Bq ≤ Wc.heap.size ∧ Wc.heap.size ≤ D.heap.size) := ⟨Nat.le_trans HSC.out.2 HKr_.out.size, by rw [← hD, World.size_alloc]; omega⟩
      rw [hD]
      obtain ⟨Br, hBr⟩ : ∃ Br, Wc.heap.size = Br := ⟨_, rfl⟩
      rw [hBr] at HIr HSD ⊢
      clear hD hBr HNr_ HKr_ g0 g1 e0 e1
      have HRD : Hid (Kept [] R0 D) := kept_same HRC.out HKD.out
      obtain ⟨⟨g0, g1⟩, e0, e1⟩ := (HI.out.c.quiet HRD.out).cells
      obtain ⟨nx, hnx⟩ : ∃ nx, xs.length = nx := ⟨_, rfl⟩
      go_upto_region 15 with (go_at_call 13; refine (HOP.out _ _ D (HIW.out D HRD.out)).mono ?_; rintro e E ⟨sa, sc, rfl, HSO, HKE⟩; rw [hnx])
      have HSX : Hid (E.ownsRow Br 54 1 (.slice sa nx sc) xs.length (u16s xs) ∧ (∀ g, (Value.slice sa nx sc).ownBlock = some g → g < E.heap.size) ∧ Br ≤ E.heap.size) := by
        have h := HSO.out
        rw [show (Value.slice sa xs.length sc) = .slice sa nx sc by rw [hnx]] at h
        exact ⟨owns_low h HSD.out.2, fun _ hg => owns_lt h hg, Nat.le_trans HSD.out.2 HKE.out.size⟩
      have HRE : Hid (Kept [] R0 E) := kept_same HRD.out HKE.out
      have HIp2 : Hid (It E Bp R0.heap.size Bp (.slice pa1 pn1 pc1) (.slice pa2 pn2 pc2) rp) := HIp.out.quiet (kept_same HKC.out (kept_same HKD.out HKE.out))
      have HIq2 : Hid (It E Bq Bp Bq (.slice q_a1 q_n1 q_c1) (.slice q_a2 q_n2 q_c2) rs) := HIq.out.quiet (kept_same HKD.out HKE.out)
      have HIr2 : Hid (It E Br Bq Br (.slice r_a1 r_n1 r_c1) (.slice r_a2 r_n2 r_c2) rj) := HIr.out.quiet HKE.out
      have HCE : Hid (TlC w E Bo (.slice a1 q.stem.length c1) (.slice a2 q.loop.length c2) (.slice (some ⟨b1, 0, none⟩) q.stem.length (q.stem.length + 2)) (.slice (some ⟨b2, 0, none⟩) q.loop.length (q.loop.length + 2))) := HI.out.c.quiet HRE.out
      have HWE : Hid (∀ W, Kept [] E W → Kept [] w W) := fun W k => kept_same (kept_same HKR.out HRE.out) k
      clear g0 g1 e0 e1 HSO HKE HIp HIq HIr HKA HKC HKD HRC HRD
      have HSS : Hid (∀ W, Kept [] E W → W.cell? ⟨Bp, 0, none⟩ = some (.slice pa1 pn1 pc1) ∧ W.cell? ⟨Bp, 1, none⟩ = some (.slice pa2 pn2 pc2) ∧ W.cell? ⟨w.heap.size, 0, none⟩ = some (.slice a1 q.stem.length c1) ∧ W.cell? ⟨w.heap.size, 1, none⟩ = some (.slice a2 q.loop.length c2) ∧ W.cell? ⟨Bq, 0, none⟩ = some (.slice q_a1 q_n1 q_c1) ∧ W.cell? ⟨Bq, 1, none⟩ = some (.slice q_a2 q_n2 q_c2)) := fun W k => ⟨(HIp2.out.quiet k).box.cells.1, (HIp2.out.quiet k).box.cells.2.1, (HCE.out.quiet k).arg.cells.1, (HCE.out.quiet k).arg.cells.2.1, (HIq2.out.quiet k).box.cells.1, (HIq2.out.quiet k).box.cells.2.1⟩
      obtain ⟨f0, f1, f2, f3, f4, f5⟩ := HSS.out E (Kept.refl [] E)
      have T1 : Hid True := trivial
      have HKc : Hid (Kept [] E E) := Kept.refl [] E
      go_region_held3 (fun w' => w'.cell? ⟨Bp, 0, none⟩ = some (.slice pa1 pn1 pc1) ∧ w'.cell? ⟨Bp, 1, none⟩ = some (.slice pa2 pn2 pc2) ∧ w'.cell? ⟨w.heap.size, 0, none⟩ = some (.slice a1 q.stem.length c1) ∧ w'.cell? ⟨w.heap.size, 1, none⟩ = some (.slice a2 q.loop.length c2) ∧ w'.cell? ⟨Bq, 0, none⟩ = some (.slice q_a1 q_n1 q_c1) ∧ w'.cell? ⟨Bq, 1, none⟩ = some (.slice q_a2 q_n2 q_c2))
        ((refine HSS.out _ ?_; (first | exact HKc.out | exact HKc.out.drew)))
        (first
          | (go_at_call 15; refine (HRN.out _ (HWE.out _ (by first | exact HKc.out | exact HKc.out.drew))).mono ?_; rintro e Wf ⟨m1, m2, m3, m4, m5, m6, rfl, HI1, hkf⟩; have HKn : Hid (Kept [] E Wf) := (by first | exact HKc.out.trans hkf.out (by simp) (by simp) | exact HKc.out.drew.trans hkf.out (by simp) (by simp)); clear HKc hkf; have HKc : Hid (Kept [] E Wf) := HKn.out; clear HKn)
          | (clear T1; go_at_call 14; refine (same_it HIp2.out HKc.out HI1.out).mono ?_; rintro e Wg ⟨rfl, hkg⟩; have HKn : Hid (Kept [] E Wg) := (by first | exact HKc.out.trans hkg.out (by simp) (by simp) | exact HKc.out.drew.trans hkg.out (by simp) (by simp)); clear HKc hkg; have HKc : Hid (Kept [] E Wg) := HKn.out; clear HKn)
          | (go_at_call 16; refine (HRS.out _ (HWE.out _ HKc.out)).mono ?_; rintro e Wh ⟨m7, m8, m9, m10, m11, m12, rfl, HI2, hkh⟩; have HKn : Hid (Kept [] E Wh) := (by first | exact HKc.out.trans hkh.out (by simp) (by simp) | exact HKc.out.drew.trans hkh.out (by simp) (by simp)); clear HKc hkh; have HKc : Hid (Kept [] E Wh) := HKn.out; clear HKn)
          | (go_at_call 14; refine (same_it HIq2.out HKc.out HI2.out).mono ?_; rintro e Wi ⟨rfl, hki⟩; have HKn : Hid (Kept [] E Wi) := (by first | exact HKc.out.trans hki.out (by simp) (by simp) | exact HKc.out.drew.trans hki.out (by simp) (by simp)); clear HKc hki; have HKc : Hid (Kept [] E Wi) := HKn.out; clear HKn))
      go_upto_region 16 with fail
      clear f0 f1 f2 f3 f4 f5 HSS HI1 HI2
      have HKE1 : Hid (Kept [] E Wi) := HKc.out
      clear HKc
      have HSS : Hid (∀ W, Kept [] Wi W → W.cell? ⟨Br, 0, none⟩ = some (.slice r_a1 r_n1 r_c1) ∧ W.cell? ⟨Br, 1, none⟩ = some (.slice r_a2 r_n2 r_c2) ∧ W.cell? ⟨w.heap.size, 0, none⟩ = some (.slice a1 q.stem.length c1) ∧ W.cell? ⟨w.heap.size, 1, none⟩ = some (.slice a2 q.loop.length c2)) := fun W k => ⟨(HIr2.out.quiet (kept_same HKE1.out k)).box.cells.1, (HIr2.out.quiet (kept_same HKE1.out k)).box.cells.2.1, (HCE.out.quiet (kept_same HKE1.out k)).arg.cells.1, (HCE.out.quiet (kept_same HKE1.out k)).arg.cells.2.1⟩
      obtain ⟨f0, f1, f2, f3⟩ := HSS.out Wi (Kept.refl [] Wi)
      have HKc : Hid (Kept [] Wi Wi) := Kept.refl [] Wi
      go_region_held3 (fun w' => w'.cell? ⟨Br, 0, none⟩ = some (.slice r_a1 r_n1 r_c1) ∧ w'.cell? ⟨Br, 1, none⟩ = some (.slice r_a2 r_n2 r_c2) ∧ w'.cell? ⟨w.heap.size, 0, none⟩ = some (.slice a1 q.stem.length c1) ∧ w'.cell? ⟨w.heap.size, 1, none⟩ = some (.slice a2 q.loop.length c2))
        ((refine HSS.out _ ?_; (first | exact HKc.out | exact HKc.out.drew)))
        (first
          | (go_at_call 17; refine (HRJ.out _ (HWE.out _ (kept_same HKE1.out (by first | exact HKc.out | exact HKc.out.drew)))).mono ?_; rintro e Wj ⟨m1, m2, m3, m4, m5, m6, rfl, HI1, hkj⟩; have HKn : Hid (Kept [] Wi Wj) := (by first | exact HKc.out.trans hkj.out (by simp) (by simp) | exact HKc.out.drew.trans hkj.out (by simp) (by simp)); clear HKc hkj; have HKc : Hid (Kept [] Wi Wj) := HKn.out; clear HKn)
          | (go_at_call 14; refine (same_it HIr2.out (kept_same HKE1.out HKc.out) HI1.out).mono ?_; rintro e Wk ⟨rfl, hkk⟩; have HKn : Hid (Kept [] Wi Wk) := (by first | exact HKc.out.trans hkk.out (by simp) (by simp) | exact HKc.out.drew.trans hkk.out (by simp) (by simp)); clear HKc hkk; have HKc : Hid (Kept [] Wi Wk) := HKn.out; clear HKn)
          | (go_at_call 19; refine (HRP.out _ (HWE.out _ (kept_same HKE1.out HKc.out))).mono ?_; rintro e Wl ⟨m7, m8, rfl, HP1, hkl⟩; rw [hnx]; have HP2 : Hid (Wl.ownsRow Wk.heap.size 54 1 (.slice m7 nx m8) xs.length (u16s xs)) := (by have h := HP1.out; rw [show (Value.slice m7 xs.length m8) = .slice m7 nx m8 by rw [hnx]] at h; exact h); clear HP1; have HKn : Hid (Kept [] Wi Wl) := (by first | exact HKc.out.trans hkl.out (by simp) (by simp) | exact HKc.out.drew.trans hkl.out (by simp) (by simp)); clear HKc hkl; have HKc : Hid (Kept [] Wi Wl) := HKn.out; clear HKn)
          | (go_at_call 18; refine (same_let HSX.out.1 (kept_same HKE1.out HKc.out) HP2.out HXS.out.1 (by have := HXS.out.2; omega)).mono ?_; rintro e Wm ⟨rfl, hkm⟩; have HKn : Hid (Kept [] Wi Wm) := (by first | exact HKc.out.trans hkm.out (by simp) (by simp) | exact HKc.out.drew.trans hkm.out (by simp) (by simp)); clear HKc hkm; have HKc : Hid (Kept [] Wi Wm) := HKn.out; clear HKn))
      go_upto_region 17 with fail
      clear f0 f1 f2 f3 HSS HI1 HP2
      have HKE2 : Hid (Kept [] E Wm) := kept_same HKE1.out HKc.out
      clear HKc HKE1
      have HCm : Hid (TlC w Wm Bo (.slice a1 q.stem.length c1) (.slice a2 q.loop.length c2) (.slice (some ⟨b1, 0, none⟩) q.stem.length (q.stem.length + 2)) (.slice (some ⟨b2, 0, none⟩) q.loop.length (q.loop.length + 2))) := HCE.out.quiet HKE2.out
      have HQm : Hid (∀ W, Kept [] Wm W → TlC w W Bo (.slice a1 q.stem.length c1) (.slice a2 q.loop.length c2) (.slice (some ⟨b1, 0, none⟩) q.stem.length (q.stem.length + 2)) (.slice (some ⟨b2, 0, none⟩) q.loop.length (q.loop.length + 2))) := fun W k => HCm.out.quiet k
      have HIm : Hid (∀ W, Kept [] Wm W → IsW W (.slice (some ⟨b1, 0, none⟩) q.stem.length (q.stem.length + 2)) (.slice (some ⟨b2, 0, none⟩) q.loop.length (q.loop.length + 2)) q) := fun W k => HIW.out W (kept_same (kept_same HRE.out HKE2.out) k)
      refine wp_region_quiet (C := fun w' => Kept [] Wm w') (by kernel_rfl) (by kernel_rfl) ((Kept.refl [] Wm).drew) ?_
      simp only []
      go_big_quiet_want
      refine ⟨.agg #[.slice (some ⟨b1, 0, none⟩) q.stem.length (q.stem.length + 2), .slice (some ⟨b2, 0, none⟩) q.loop.length (q.loop.length + 2)], fun w' hw => ?_, ?_⟩
      · obtain ⟨⟨f0, f1⟩, f2, f3⟩ := (HQm.out w' hw).cells
        go_simp
      go_big_quiet_on
      simp only [Act.put, Array.setIfInBounds, List.size_toArray, List.length_cons, List.length_nil, Nat.reduceAdd, Nat.reduceLT, ↓reduceDIte, List.set_toArray, List.set_cons_succ, List.set_cons_zero]
      go_big_quiet_want
      refine ⟨.int .i64 props, fun w' hw => (by go_simp), ?_⟩
      go_big_quiet_on
      simp only [Act.put, Array.setIfInBounds, List.size_toArray, List.length_cons, List.length_nil, Nat.reduceAdd, Nat.reduceLT, ↓reduceDIte, List.set_toArray, List.set_cons_succ, List.set_cons_zero]
      go_big_quiet_want
      refine ⟨.int .i64 (ce : Nat), fun w' hw => ?_, ?_⟩
      · go_simp
        exact ((fun (w' : World) (hw : Kept [] Wm w') => HOiC.out _ _ w' (HQm.out w' hw).kept (HIm.out w' hw)) w' hw).mono fun e w'' ⟨h1, h2⟩ => ⟨h1, hw.trans h2 (by simp) (by simp)⟩
      go_big_quiet_on
      simp only [Act.put, Array.setIfInBounds, List.size_toArray, List.length_cons, List.length_nil, Nat.reduceAdd, Nat.reduceLT, ↓reduceDIte, List.set_toArray, List.set_cons_succ, List.set_cons_zero]
      go_big_quiet_want
      refine ⟨.agg #[.slice a1 q.stem.length c1, .slice a2 q.loop.length c2], fun w' hw => ?_, ?_⟩
      · obtain ⟨⟨f0, f1⟩, f2, f3⟩ := (HQm.out w' hw).cells
        go_simp
      go_big_quiet_on
      simp only [Act.put, Array.setIfInBounds, List.size_toArray, List.length_cons, List.length_nil, Nat.reduceAdd, Nat.reduceLT, ↓reduceDIte, List.set_toArray, List.set_cons_succ, List.set_cons_zero]
      go_big_quiet_want
      refine ⟨.int .i64 props, fun w' hw => (by go_simp), ?_⟩
      go_big_quiet_on
      simp only [Act.put, Array.setIfInBounds, List.size_toArray, List.length_cons, List.length_nil, Nat.reduceAdd, Nat.reduceLT, ↓reduceDIte, List.set_toArray, List.set_cons_succ, List.set_cons_zero]
      go_big_quiet_want
      refine ⟨.int .i64 (ce : Nat), fun w' hw => ?_, ?_⟩
      · go_simp
        exact ((fun (w' : World) (hw : Kept [] Wm w') => HRiC.out w' (HQm.out w' hw).kept) w' hw).mono fun e w'' ⟨h1, h2⟩ => ⟨h1, hw.trans h2 (by simp) (by simp)⟩
      go_big_quiet_on
      simp only [Act.put, Array.setIfInBounds, List.size_toArray, List.length_cons, List.length_nil, Nat.reduceAdd, Nat.reduceLT, ↓reduceDIte, List.set_toArray, List.set_cons_succ, List.set_cons_zero]
      go_big_quiet_want
      refine ⟨.bool true, fun w' hw => (by go_simp), ?_⟩
      go_big_quiet_on
      simp only [Act.put, Array.setIfInBounds, List.size_toArray, List.length_cons, List.length_nil, Nat.reduceAdd, Nat.reduceLT, ↓reduceDIte, List.set_toArray, List.set_cons_succ, List.set_cons_zero]
      go_big_quiet_want
      refine ⟨.bool true, fun w' hw => (by go_simp), ?_⟩
      go_big_quiet_on
      simp only [Act.put, Array.setIfInBounds, List.size_toArray, List.length_cons, List.length_nil, Nat.reduceAdd, Nat.reduceLT, ↓reduceDIte, List.set_toArray, List.set_cons_succ, List.set_cons_zero]
      go_big_quiet_want
      refine ⟨.agg #[.slice (some ⟨b1, 0, none⟩) q.stem.length (q.stem.length + 2), .slice (some ⟨b2, 0, none⟩) q.loop.length (q.loop.length + 2)], fun w' hw => ?_, ?_⟩
      · obtain ⟨⟨f0, f1⟩, f2, f3⟩ := (HQm.out w' hw).cells
        go_simp
      go_big_quiet_on
      simp only [Act.put, Array.setIfInBounds, List.size_toArray, List.length_cons, List.length_nil, Nat.reduceAdd, Nat.reduceLT, ↓reduceDIte, List.set_toArray, List.set_cons_succ, List.set_cons_zero]
      go_big_quiet_want
      refine ⟨.int .i64 (pl : Nat), fun w' hw => ?_, ?_⟩
      · go_simp
        exact ((fun (w' : World) (hw : Kept [] Wm w') => HOiL.out _ _ w' (HQm.out w' hw).kept (HIm.out w' hw)) w' hw).mono fun e w'' ⟨h1, h2⟩ => ⟨h1, hw.trans h2 (by simp) (by simp)⟩
      go_big_quiet_on
      simp only [Act.put, Array.setIfInBounds, List.size_toArray, List.length_cons, List.length_nil, Nat.reduceAdd, Nat.reduceLT, ↓reduceDIte, List.set_toArray, List.set_cons_succ, List.set_cons_zero]
      go_big_quiet_want
      refine ⟨.agg #[.slice a1 q.stem.length c1, .slice a2 q.loop.length c2], fun w' hw => ?_, ?_⟩
      · obtain ⟨⟨f0, f1⟩, f2, f3⟩ := (HQm.out w' hw).cells
        go_simp
      go_big_quiet_on
      simp only [Act.put, Array.setIfInBounds, List.size_toArray, List.length_cons, List.length_nil, Nat.reduceAdd, Nat.reduceLT, ↓reduceDIte, List.set_toArray, List.set_cons_succ, List.set_cons_zero]
      go_big_quiet_want
      refine ⟨.int .i64 (pl : Nat), fun w' hw => ?_, ?_⟩
      · go_simp
        exact ((fun (w' : World) (hw : Kept [] Wm w') => HRiL.out w' (HQm.out w' hw).kept) w' hw).mono fun e w'' ⟨h1, h2⟩ => ⟨h1, hw.trans h2 (by simp) (by simp)⟩
      go_big_quiet_on
      simp only [Act.put, Array.setIfInBounds, List.size_toArray, List.length_cons, List.length_nil, Nat.reduceAdd, Nat.reduceLT, ↓reduceDIte, List.set_toArray, List.set_cons_succ, List.set_cons_zero]
      go_big_quiet_want
      refine ⟨.bool true, fun w' hw => (by go_simp), ?_⟩
      go_big_quiet_on
      simp only [Act.put, Array.setIfInBounds, List.size_toArray, List.length_cons, List.length_nil, Nat.reduceAdd, Nat.reduceLT, ↓reduceDIte, List.set_toArray, List.set_cons_succ, List.set_cons_zero]
      go_big_quiet_want
      refine ⟨.bool true, fun w' hw => (by go_simp), ?_⟩
      go_big_quiet_on
      simp only [Act.put, Array.setIfInBounds, List.size_toArray, List.length_cons, List.length_nil, Nat.reduceAdd, Nat.reduceLT, ↓reduceDIte, List.set_toArray, List.set_cons_succ, List.set_cons_zero]
      go_big_quiet_want
      refine ⟨.bool true, fun w' hw => (by go_simp), ?_⟩
      go_big_quiet_on
      simp only [Act.put, Array.setIfInBounds, List.size_toArray, List.length_cons, List.length_nil, Nat.reduceAdd, Nat.reduceLT, ↓reduceDIte, List.set_toArray, List.set_cons_succ, List.set_cons_zero]
      refine wpQuiet_nil ?_
      intro Wn hkn
      have HKE3 : Hid (Kept [] E Wn) := kept_same HKE2.out hkn
      clear hkn
      go_upto_region 18 with fail
      have HCn : Hid (TlC w Wn Bo (.slice a1 q.stem.length c1) (.slice a2 q.loop.length c2) (.slice (some ⟨b1, 0, none⟩) q.stem.length (q.stem.length + 2)) (.slice (some ⟨b2, 0, none⟩) q.loop.length (q.loop.length + 2))) := HCE.out.quiet HKE3.out
      have HQn : Hid (∀ W, Kept [] Wn W → TlC w W Bo (.slice a1 q.stem.length c1) (.slice a2 q.loop.length c2) (.slice (some ⟨b1, 0, none⟩) q.stem.length (q.stem.length + 2)) (.slice (some ⟨b2, 0, none⟩) q.loop.length (q.loop.length + 2))) := fun W k => HCn.out.quiet k
      have HIn : Hid (∀ W, Kept [] Wn W → IsW W (.slice (some ⟨b1, 0, none⟩) q.stem.length (q.stem.length + 2)) (.slice (some ⟨b2, 0, none⟩) q.loop.length (q.loop.length + 2)) q) := fun W k => HIW.out W (kept_same (kept_same HRE.out HKE3.out) k)
      clear HCm HQm HIm HKE2
      refine wp_region_quiet (C := fun w' => Kept [] Wn w') (by kernel_rfl) (by kernel_rfl) ((Kept.refl [] Wn).drew) ?_
      simp only []
      go_big_quiet_want
      refine ⟨.agg #[.slice (some ⟨b1, 0, none⟩) q.stem.length (q.stem.length + 2), .slice (some ⟨b2, 0, none⟩) q.loop.length (q.loop.length + 2)], fun w' hw => ?_, ?_⟩
      · obtain ⟨⟨f0, f1⟩, f2, f3⟩ := (HQn.out w' hw).cells
        go_simp
      go_big_quiet_on
      simp only [Act.put, Array.setIfInBounds, List.size_toArray, List.length_cons, List.length_nil, Nat.reduceAdd, Nat.reduceLT, ↓reduceDIte, List.set_toArray, List.set_cons_succ, List.set_cons_zero]
      go_big_quiet_want
      refine ⟨.int .i64 i, fun w' hw => (by go_simp), ?_⟩
      go_big_quiet_on
      simp only [Act.put, Array.setIfInBounds, List.size_toArray, List.length_cons, List.length_nil, Nat.reduceAdd, Nat.reduceLT, ↓reduceDIte, List.set_toArray, List.set_cons_succ, List.set_cons_zero]
      go_big_quiet_want
      refine ⟨.int .i64 bh, fun w' hw => ?_, ?_⟩
      · go_simp
        exact ((fun (w' : World) (hw : Kept [] Wn w') => HOiB.out _ _ w' (HQn.out w' hw).kept (HIn.out w' hw)) w' hw).mono fun e w'' ⟨h1, h2⟩ => ⟨h1, hw.trans h2 (by simp) (by simp)⟩
      go_big_quiet_on
      simp only [Act.put, Array.setIfInBounds, List.size_toArray, List.length_cons, List.length_nil, Nat.reduceAdd, Nat.reduceLT, ↓reduceDIte, List.set_toArray, List.set_cons_succ, List.set_cons_zero]
      go_big_quiet_want
      refine ⟨.agg #[.slice a1 q.stem.length c1, .slice a2 q.loop.length c2], fun w' hw => ?_, ?_⟩
      · obtain ⟨⟨f0, f1⟩, f2, f3⟩ := (HQn.out w' hw).cells
        go_simp
      go_big_quiet_on
      simp only [Act.put, Array.setIfInBounds, List.size_toArray, List.length_cons, List.length_nil, Nat.reduceAdd, Nat.reduceLT, ↓reduceDIte, List.set_toArray, List.set_cons_succ, List.set_cons_zero]
      go_big_quiet_want
      refine ⟨.int .i64 i, fun w' hw => (by go_simp), ?_⟩
      go_big_quiet_on
      simp only [Act.put, Array.setIfInBounds, List.size_toArray, List.length_cons, List.length_nil, Nat.reduceAdd, Nat.reduceLT, ↓reduceDIte, List.set_toArray, List.set_cons_succ, List.set_cons_zero]
      go_big_quiet_want
      refine ⟨.int .i64 bh, fun w' hw => ?_, ?_⟩
      · go_simp
        exact ((fun (w' : World) (hw : Kept [] Wn w') => HRiB.out w' (HQn.out w' hw).kept) w' hw).mono fun e w'' ⟨h1, h2⟩ => ⟨h1, hw.trans h2 (by simp) (by simp)⟩
      go_big_quiet_on
      simp only [Act.put, Array.setIfInBounds, List.size_toArray, List.length_cons, List.length_nil, Nat.reduceAdd, Nat.reduceLT, ↓reduceDIte, List.set_toArray, List.set_cons_succ, List.set_cons_zero]
      go_big_quiet_want
      refine ⟨.bool true, fun w' hw => (by go_simp), ?_⟩
      go_big_quiet_on
      simp only [Act.put, Array.setIfInBounds, List.size_toArray, List.length_cons, List.length_nil, Nat.reduceAdd, Nat.reduceLT, ↓reduceDIte, List.set_toArray, List.set_cons_succ, List.set_cons_zero]
      go_big_quiet_want
      refine ⟨.bool true, fun w' hw => (by go_simp), ?_⟩
      go_big_quiet_on
      simp only [Act.put, Array.setIfInBounds, List.size_toArray, List.length_cons, List.length_nil, Nat.reduceAdd, Nat.reduceLT, ↓reduceDIte, List.set_toArray, List.set_cons_succ, List.set_cons_zero]
      go_big_quiet_want
      refine ⟨.agg #[.slice (some ⟨b1, 0, none⟩) q.stem.length (q.stem.length + 2), .slice (some ⟨b2, 0, none⟩) q.loop.length (q.loop.length + 2)], fun w' hw => ?_, ?_⟩
      · obtain ⟨⟨f0, f1⟩, f2, f3⟩ := (HQn.out w' hw).cells
        go_simp
      go_big_quiet_on
      simp only [Act.put, Array.setIfInBounds, List.size_toArray, List.length_cons, List.length_nil, Nat.reduceAdd, Nat.reduceLT, ↓reduceDIte, List.set_toArray, List.set_cons_succ, List.set_cons_zero]
      go_big_quiet_want
      refine ⟨.int .i64 i, fun w' hw => (by go_simp), ?_⟩
      go_big_quiet_on
      simp only [Act.put, Array.setIfInBounds, List.size_toArray, List.length_cons, List.length_nil, Nat.reduceAdd, Nat.reduceLT, ↓reduceDIte, List.set_toArray, List.set_cons_succ, List.set_cons_zero]
      go_big_quiet_want
      refine ⟨.int .u16 (av : Nat), fun w' hw => ?_, ?_⟩
      · go_simp
        exact ((fun (w' : World) (hw : Kept [] Wn w') => HOiA.out _ _ w' (HQn.out w' hw).kept (HIn.out w' hw)) w' hw).mono fun e w'' ⟨h1, h2⟩ => ⟨h1, hw.trans h2 (by simp) (by simp)⟩
      go_big_quiet_on
      simp only [Act.put, Array.setIfInBounds, List.size_toArray, List.length_cons, List.length_nil, Nat.reduceAdd, Nat.reduceLT, ↓reduceDIte, List.set_toArray, List.set_cons_succ, List.set_cons_zero]
      go_big_quiet_want
      refine ⟨.agg #[.slice a1 q.stem.length c1, .slice a2 q.loop.length c2], fun w' hw => ?_, ?_⟩
      · obtain ⟨⟨f0, f1⟩, f2, f3⟩ := (HQn.out w' hw).cells
        go_simp
      go_big_quiet_on
      simp only [Act.put, Array.setIfInBounds, List.size_toArray, List.length_cons, List.length_nil, Nat.reduceAdd, Nat.reduceLT, ↓reduceDIte, List.set_toArray, List.set_cons_succ, List.set_cons_zero]
      go_big_quiet_want
      refine ⟨.int .i64 i, fun w' hw => (by go_simp), ?_⟩
      go_big_quiet_on
      simp only [Act.put, Array.setIfInBounds, List.size_toArray, List.length_cons, List.length_nil, Nat.reduceAdd, Nat.reduceLT, ↓reduceDIte, List.set_toArray, List.set_cons_succ, List.set_cons_zero]
      go_big_quiet_want
      refine ⟨.int .u16 (av : Nat), fun w' hw => ?_, ?_⟩
      · go_simp
        exact ((fun (w' : World) (hw : Kept [] Wn w') => HRiA.out w' (HQn.out w' hw).kept) w' hw).mono fun e w'' ⟨h1, h2⟩ => ⟨h1, hw.trans h2 (by simp) (by simp)⟩
      go_big_quiet_on
      simp only [Act.put, Array.setIfInBounds, List.size_toArray, List.length_cons, List.length_nil, Nat.reduceAdd, Nat.reduceLT, ↓reduceDIte, List.set_toArray, List.set_cons_succ, List.set_cons_zero]
      go_big_quiet_want
      refine ⟨.bool true, fun w' hw => (by go_simp), ?_⟩
      go_big_quiet_on
      simp only [Act.put, Array.setIfInBounds, List.size_toArray, List.length_cons, List.length_nil, Nat.reduceAdd, Nat.reduceLT, ↓reduceDIte, List.set_toArray, List.set_cons_succ, List.set_cons_zero]
      go_big_quiet_want
      refine ⟨.bool true, fun w' hw => (by go_simp), ?_⟩
      go_big_quiet_on
      simp only [Act.put, Array.setIfInBounds, List.size_toArray, List.length_cons, List.length_nil, Nat.reduceAdd, Nat.reduceLT, ↓reduceDIte, List.set_toArray, List.set_cons_succ, List.set_cons_zero]
      go_big_quiet_want
      refine ⟨.bool true, fun w' hw => (by go_simp), ?_⟩
      go_big_quiet_on
      simp only [Act.put, Array.setIfInBounds, List.size_toArray, List.length_cons, List.length_nil, Nat.reduceAdd, Nat.reduceLT, ↓reduceDIte, List.set_toArray, List.set_cons_succ, List.set_cons_zero]
      go_big_quiet_want
      refine ⟨.agg #[.slice (some ⟨b1, 0, none⟩) q.stem.length (q.stem.length + 2), .slice (some ⟨b2, 0, none⟩) q.loop.length (q.loop.length + 2)], fun w' hw => ?_, ?_⟩
      · obtain ⟨⟨f0, f1⟩, f2, f3⟩ := (HQn.out w' hw).cells
        go_simp
      go_big_quiet_on
      simp only [Act.put, Array.setIfInBounds, List.size_toArray, List.length_cons, List.length_nil, Nat.reduceAdd, Nat.reduceLT, ↓reduceDIte, List.set_toArray, List.set_cons_succ, List.set_cons_zero]
      go_big_quiet_want
      refine ⟨.string sb, fun w' hw => ?_, ?_⟩
      · go_simp
        exact ((fun (w' : World) (hw : Kept [] Wn w') => HOiW.out _ _ w' (HQn.out w' hw).kept (HIn.out w' hw)) w' hw).mono fun e w'' ⟨h1, h2⟩ => ⟨h1, hw.trans h2 (by simp) (by simp)⟩
      go_big_quiet_on
      simp only [Act.put, Array.setIfInBounds, List.size_toArray, List.length_cons, List.length_nil, Nat.reduceAdd, Nat.reduceLT, ↓reduceDIte, List.set_toArray, List.set_cons_succ, List.set_cons_zero]
      go_big_quiet_want
      refine ⟨.agg #[.slice a1 q.stem.length c1, .slice a2 q.loop.length c2], fun w' hw => ?_, ?_⟩
      · obtain ⟨⟨f0, f1⟩, f2, f3⟩ := (HQn.out w' hw).cells
        go_simp
      go_big_quiet_on
      simp only [Act.put, Array.setIfInBounds, List.size_toArray, List.length_cons, List.length_nil, Nat.reduceAdd, Nat.reduceLT, ↓reduceDIte, List.set_toArray, List.set_cons_succ, List.set_cons_zero]
      go_big_quiet_want
      refine ⟨.string sb, fun w' hw => ?_, ?_⟩
      · go_simp
        exact ((fun (w' : World) (hw : Kept [] Wn w') => HRiW.out w' (HQn.out w' hw).kept) w' hw).mono fun e w'' ⟨h1, h2⟩ => ⟨h1, hw.trans h2 (by simp) (by simp)⟩
      go_big_quiet_on
      simp only [Act.put, Array.setIfInBounds, List.size_toArray, List.length_cons, List.length_nil, Nat.reduceAdd, Nat.reduceLT, ↓reduceDIte, List.set_toArray, List.set_cons_succ, List.set_cons_zero]
      go_big_quiet_want
      refine ⟨.bool true, fun w' hw => (by go_simp), ?_⟩
      go_big_quiet_on
      simp only [Act.put, Array.setIfInBounds, List.size_toArray, List.length_cons, List.length_nil, Nat.reduceAdd, Nat.reduceLT, ↓reduceDIte, List.set_toArray, List.set_cons_succ, List.set_cons_zero]
      go_big_quiet_want
      refine ⟨.bool true, fun w' hw => (by go_simp), ?_⟩
      go_big_quiet_on
      simp only [Act.put, Array.setIfInBounds, List.size_toArray, List.length_cons, List.length_nil, Nat.reduceAdd, Nat.reduceLT, ↓reduceDIte, List.set_toArray, List.set_cons_succ, List.set_cons_zero]
      go_big_quiet_want
      refine ⟨.bool true, fun w' hw => (by go_simp), ?_⟩
      go_big_quiet_on
      simp only [Act.put, Array.setIfInBounds, List.size_toArray, List.length_cons, List.length_nil, Nat.reduceAdd, Nat.reduceLT, ↓reduceDIte, List.set_toArray, List.set_cons_succ, List.set_cons_zero]
      refine wpQuiet_nil ?_
      intro Wo hko
      have HKE4 : Hid (Kept [] E Wo) := kept_same HKE3.out hko
      clear hko HCn HQn HIn HKE3
      have HBo : Hid (Bk Wo Z Z R0.heap.size (7 * j)) := HI.out.bk.quiet (kept_same HRE.out HKE4.out)
      have HIp3 : Hid (It Wo Bp R0.heap.size Bp (.slice pa1 pn1 pc1) (.slice pa2 pn2 pc2) rp) := HIp2.out.quiet HKE4.out
      have HIq3 : Hid (It Wo Bq Bp Bq (.slice q_a1 q_n1 q_c1) (.slice q_a2 q_n2 q_c2) rs) := HIq2.out.quiet HKE4.out
      have HIr3 : Hid (It Wo Br Bq Br (.slice r_a1 r_n1 r_c1) (.slice r_a2 r_n2 r_c2) rj) := HIr2.out.quiet HKE4.out
      have HSX3 : Hid (Wo.ownsRow Br 54 1 (.slice sa nx sc) xs.length (u16s xs)) := owns_keptF HSX.out.1 HKE4.out (by simp)
      have HCo : Hid (TlC w Wo Bo (.slice a1 q.stem.length c1) (.slice a2 q.loop.length c2) (.slice (some ⟨b1, 0, none⟩) q.stem.length (q.stem.length + 2)) (.slice (some ⟨b2, 0, none⟩) q.loop.length (q.loop.length + 2))) := HCE.out.quiet HKE4.out
      have HLo : Hid (Ln Wo b1 b2 b3 q us) := HI.out.ln.quiet (kept_same HRE.out HKE4.out)
      have HWZ : Hid (w.heap.size ≤ Z ∧ Z ≤ R0.heap.size ∧ Z ≤ Bp ∧ Z ≤ Bq ∧ Z ≤ Br) := by have h1 := HAP.out; have h2 := HI.out.le; have h3 := HSA.out.1; have h4 := HSC.out.1; have h5 := HSD.out.1; exact ⟨by omega, h2, by omega, by omega, by omega⟩
      have HSE : Hid (E.heap.size ≤ Wo.heap.size) := HKE4.out.size
      obtain ⟨f0, f1, _, _⟩ := HIp3.out.box.cells
      have P1 : Hid True := trivial
      have P2 : Hid True := trivial
      have HJ : Hid (j < 2) := hlt
      clear HCE HIp2 HIq2 HIr2 HKE4 HWE HRN HRS HRJ HRP
      go_wp2_with (first
        | (clear P1; go_at_call 30; refine (Bk.word HBo.out HIp3.out.new HWZ.out.2.1 HSA.out.1 HIp3.out.hi1 HIp3.out.hi2 (by have := HJ.out; omega) HFP.out.1.1 HFP.out.1.2).mono ?_; rintro e W5 ⟨⟨v5, rfl⟩, HB5, HK5⟩; clear f0 f1; obtain ⟨f0, f1, -, -⟩ := (HIq3.out.kpb HK5.out).box.cells)
        | (clear P2; go_at_call 30; refine (Bk.word HB5.out (HIq3.out.kpb HK5.out).new HWZ.out.2.2.1 HSC.out.1 HIq3.out.hi1 HIq3.out.hi2 (by have := HJ.out; omega) HFP.out.2.1.1 HFP.out.2.1.2).mono ?_; rintro e W6 ⟨⟨v6, rfl⟩, HB6, HK6⟩; clear f0 f1; obtain ⟨f0, f1, -, -⟩ := ((HIr3.out.kpb HK5.out).kpb HK6.out).box.cells)
        | (go_at_call 30; refine (Bk.word HB6.out ((HIr3.out.kpb HK5.out).kpb HK6.out).new HWZ.out.2.2.2.1 HSD.out.1 HIr3.out.hi1 HIr3.out.hi2 (by have := HJ.out; omega) HFP.out.2.2.1 HFP.out.2.2.2).mono ?_; rintro e W7 ⟨⟨v7, rfl⟩, HB7, HK7⟩; clear f0 f1)
        | (go_at_call 31; refine (Bk.letters (xs := xs) HB7.out (HK7.out.owns (HK6.out.owns (HK5.out.owns (HSX3.out)))) HWZ.out.2.2.2.2 HSX.out.2.2 HSX.out.2.1 (by have := HJ.out; omega) (by have := HXS.out.2; omega)).mono ?_; rintro e W8 ⟨⟨v8, rfl⟩, HB8, HK8⟩))
      have HEND : Hid (TlI w W8 Bo b1 b2 b3 Z (7 * (j + 1)) (.slice a1 q.stem.length c1) (.slice a2 q.loop.length c2) q us) := ⟨(((HCo.out.kpb HK5.out HWZ.out.1).kpb HK6.out HWZ.out.1).kpb HK7.out HWZ.out.1).kpb HK8.out HWZ.out.1, (((HLo.out.kpb HK5.out).kpb HK6.out).kpb HK7.out).kpb HK8.out, HB8.out.more (by have h1 := HK5.out.size; have h2 := HK6.out.size; have h3 := HK7.out.size; have h4 := HK8.out.size; have h5 := HSE.out; omega), by have h1 := HK5.out.size; have h2 := HK6.out.size; have h3 := HK7.out.size; have h4 := HK8.out.size; have h5 := HSE.out; have h6 := HRE.out.size; have h7 := HWZ.out.2.1; omega⟩
      go_roundw
      case rel => exact ⟨j + 1, by go_num, by omega, HEND.out⟩
      case measure => simp [intOf]; omega
    · obtain rfl : j = 2 := by omega
      have HWL : Hid (∀ W, Kept [] R0 W → Calls Tryd.prog 33 #[.slice (some ⟨b3, 0, none⟩) us.length (us.length + 2), .slice au us.length cu] W fun e w' => e = .returned (.bool true) ∧ Hid (Kept [] W w')) := fun W k => by
        have h := wholeLetters_any b3 _ us us W (HI.out.ln.l3.kept k) (HQU.out W (kept_same HKR.out k))
        rw [decide_eq_true rfl] at h
        exact h
      have HWW : Hid (Calls Tryd.prog 32 #[.agg #[.slice (some ⟨b1, 0, none⟩) q.stem.length (q.stem.length + 2), .slice (some ⟨b2, 0, none⟩) q.loop.length (q.loop.length + 2)], .agg #[.slice a1 q.stem.length c1, .slice a2 q.loop.length c2]] R0 fun e w' => e = .returned (.bool true) ∧ Hid (Kept [] R0 w')) := wholeWord_any b1 b2 _ _ q R0 HI.out.ln.l1 HI.out.ln.l2 (HQA.out R0 HKR.out).st (HQA.out R0 HKR.out).lp
      obtain ⟨⟨g0, g1⟩, e0, e1⟩ := HI.out.c.cells
      clear hlt hj HON HOS HOJ HOP HRN HRS HRJ HRP HOiC HOiL HOiB HOiA HOiW HRiC HRiL HRiB HRiA HRiW HXS HFP HIS
      go_upto_region 26 with (first
        | (go_at_call 32; refine HWW.out.mono ?_; rintro e Wa ⟨rfl, HKa⟩)
        | (go_at_call 33; refine (HWL.out _ HKa.out).mono ?_; rintro e Wb ⟨rfl, hkb⟩; have HKb : Hid (Kept [] R0 Wb) := kept_same HKa.out hkb.out; clear hkb))
      clear g0 g1 e0 e1 HWW HWL HKa
      have HC1 : Hid (TlC w Wb Bo (.slice a1 q.stem.length c1) (.slice a2 q.loop.length c2) (.slice (some ⟨b1, 0, none⟩) q.stem.length (q.stem.length + 2)) (.slice (some ⟨b2, 0, none⟩) q.loop.length (q.loop.length + 2))) := HI.out.c.quiet HKb.out
      have HL1 : Hid (Ln Wb b1 b2 b3 q us) := HI.out.ln.quiet HKb.out
      have HB1 : Hid (Bk Wb Z Z R0.heap.size (7 * 2)) := HI.out.bk.quiet HKb.out
      clear HKb HIW HI HKR
      have HPW : Hid (Calls Tryd.prog 34 #[.agg #[.slice (some ⟨b1, 0, none⟩) q.stem.length (q.stem.length + 2), .slice (some ⟨b2, 0, none⟩) q.loop.length (q.loop.length + 2)]] Wb fun e w' => (∃ v, e = .returned v) ∧ Kept [b1, b2] Wb w' ∧ Lets w' (.slice (some ⟨b1, 0, none⟩) q.stem.length (q.stem.length + 2)) (spoiltW q).stem ∧ Lets w' (.slice (some ⟨b2, 0, none⟩) q.loop.length (q.loop.length + 2)) (spoiltW q).loop) := spoilWord_any b1 b2 q Wb HL1.out.l1 HL1.out.l2 HAP.out.1
      obtain ⟨⟨g0, g1⟩, e0, e1⟩ := HC1.out.cells
      go_upto_region 27 with (go_at_call 34; refine HPW.out.mono ?_; rintro e Wc ⟨⟨vc, rfl⟩, kc, lc1, lc2⟩; have HKc : Hid (Kept [b1, b2] Wb Wc) := kc; have HLc : Hid (Lets Wc (.slice (some ⟨b1, 0, none⟩) q.stem.length (q.stem.length + 2)) (spoiltW q).stem ∧ Lets Wc (.slice (some ⟨b2, 0, none⟩) q.loop.length (q.loop.length + 2)) (spoiltW q).loop) := ⟨lc1, lc2⟩; clear kc lc1 lc2)
      have HL3 : Hid (LentL Wc b3 us) := ⟨HKc.out.at HL1.out.l3.row (by have h := HAP.out.2.2.2.2; simp; omega), HL1.out.l3.small, HL1.out.l3.few⟩
      have HPL : Hid (Calls Tryd.prog 35 #[.slice (some ⟨b3, 0, none⟩) us.length (us.length + 2)] Wc fun e w' => (∃ v, e = .returned v) ∧ Kept [b3] Wc w' ∧ w'.heap[b3]? = some (.cells (u16s (List.replicate (us.length + 2) 60003)).toArray 54 (0, 0))) := spoilLetters_any b3 us Wc HL3.out
      clear g0 g1 e0 e1 HPW
      go_upto_region 28 with (go_at_call 35; refine HPL.out.mono ?_; rintro e Wd ⟨⟨vd, rfl⟩, kd, rd⟩; have HKd : Hid (Kept [b3] Wc Wd) := kd; have HRd : Hid (Wd.heap[b3]? = some (.cells (u16s (List.replicate (us.length + 2) 60003)).toArray 54 (0, 0))) := rd; clear kd rd)
      have HWZ : Hid (w.heap.size ≤ Z) := by have h := HAP.out; show w.heap.size ≤ Z; omega
      have HCd : Hid (TlC w Wd Bo (.slice a1 q.stem.length c1) (.slice a2 q.loop.length c2) (.slice (some ⟨b1, 0, none⟩) q.stem.length (q.stem.length + 2)) (.slice (some ⟨b2, 0, none⟩) q.loop.length (q.loop.length + 2))) := by
        have h := HAP.out
        have k1 : Kept [] w Wc := HC1.out.kept.trans HKc.out (by simp) (fun g hg => .inr (by simp at hg; omega))
        have k2 : Kept [] w Wd := k1.trans HKd.out (by simp) (fun g hg => by rw [List.mem_singleton.1 hg]; exact .inr (by omega))
        exact ⟨k2, (HC1.out.arg.keptF HKc.out (by simp; omega)).keptF HKd.out (by simp; omega), (HC1.out.own.keptF HKc.out (by simp; omega)).keptF HKd.out (by simp; omega)⟩
      have HBd : Hid (Bk Wd Z Z R0.heap.size (7 * 2)) := (HB1.out.keptF HKc.out (by have h := HAP.out.2.2.1; intro g hg; simp at hg; omega)).keptF HKd.out (by have h := HAP.out.2.2.1; intro g hg; simp at hg; omega)
      have HSd : Hid (IsW Wd (.slice (some ⟨b1, 0, none⟩) q.stem.length (q.stem.length + 2)) (.slice (some ⟨b2, 0, none⟩) q.loop.length (q.loop.length + 2)) (spoiltW q)) := ⟨HLc.out.1.other HKd.out (by have h := HAP.out.2.2.2.2; omega), HLc.out.2.other HKd.out (by have h := HAP.out.2.2.2.2; omega), by have h := HQS.out.1; simp [spoiltW]; omega⟩
      have HUd : Hid (Lets Wd (.slice (some ⟨b3, 0, none⟩) us.length (us.length + 2)) (List.replicate us.length 60003)) := spoilt_lets HRd.out (by omega)
      clear HKc HLc HL3 HPL HKd HRd HC1 HL1 HB1 HAP
      obtain ⟨⟨g0, g1⟩, e0, e1⟩ := HCd.out.cells
      go_upto_region 29 with (go_at_call 10; refine (HSN.out _ _ Wd HSd.out).mono ?_; rintro e We ⟨pa1, pn1, pc1, pa2, pn2, pc2, rfl, HNp, HKp⟩)
      obtain ⟨A, hA⟩ : ∃ A, We.alloc (.cells #[.slice pa1 pn1 pc1, .slice pa2 pn2 pc2] 24) = A := ⟨_, rfl⟩
      have HIp : Hid (It A We.heap.size Wd.heap.size We.heap.size (.slice pa1 pn1 pc1) (.slice pa2 pn2 pc2) ro) := by show It _ _ _ _ _ _ _; rw [← hA]; exact It.make HNp.out (Nat.le_refl _)
      have HKA : Hid (Kept [] Wd A) := by show Kept [] Wd A; rw [← hA]; exact HKp.out.alloc _
      have HSA : Hid (Wd.heap.size ≤ We.heap.size ∧ We.heap.size ≤ A.heap.size) := ⟨HKp.out.size, by rw [← hA, World.size_alloc]; omega⟩
      rw [hA]
      obtain ⟨Bp, hBp⟩ : ∃ Bp, We.heap.size = Bp := ⟨_, rfl⟩
      rw [hBp] at HIp HSA ⊢
      clear hA hBp HNp HKp g0 g1 e0 e1
      obtain ⟨⟨g0, g1⟩, e0, e1⟩ := (HCd.out.quiet HKA.out).cells
      go_upto_region 30 with (go_at_call 12; refine (HSJ.out _ _ _ A (HSd.out.kept HKA.out) (HUd.out.kept HKA.out)).mono ?_; rintro e Wf ⟨r_a1, r_n1, r_c1, r_a2, r_n2, r_c2, rfl, HNr_, HKr_⟩)
      obtain ⟨D, hD⟩ : ∃ D, Wf.alloc (.cells #[.slice r_a1 r_n1 r_c1, .slice r_a2 r_n2 r_c2] 24) = D := ⟨_, rfl⟩
      have HIr : Hid (It D Wf.heap.size Bp Wf.heap.size (.slice r_a1 r_n1 r_c1) (.slice r_a2 r_n2 r_c2) rk) := by show It _ _ _ _ _ _ _; rw [← hD]; exact It.make HNr_.out (HSA.out.2)
      have HKD : Hid (Kept [] A D) := by show Kept [] A D; rw [← hD]; exact HKr_.out.alloc _
      have HSD : Hid (Bp ≤ Wf.heap.size ∧ Wf.heap.size ≤ D.heap.size) := ⟨Nat.le_trans HSA.out.2 HKr_.out.size, by rw [← hD, World.size_alloc]; omega⟩
      rw [hD]
      obtain ⟨Br, hBr⟩ : ∃ Br, Wf.heap.size = Br := ⟨_, rfl⟩
      rw [hBr] at HIr HSD ⊢
      clear hD hBr HNr_ HKr_ g0 g1 e0 e1
      have HRD : Hid (Kept [] Wd D) := kept_same HKA.out HKD.out
      obtain ⟨⟨g0, g1⟩, e0, e1⟩ := (HCd.out.quiet HRD.out).cells
      obtain ⟨nx, hnx⟩ : ∃ nx, zs.length = nx := ⟨_, rfl⟩
      go_upto_region 31 with (go_at_call 13; refine (HSP.out _ _ D (HSd.out.kept HRD.out)).mono ?_; rintro e E ⟨sa, sc, rfl, HSO, HKE⟩; rw [hnx])
      have HSX : Hid (E.ownsRow Br 54 1 (.slice sa nx sc) zs.length (u16s zs)) := by
        have h := HSO.out
        rw [show (Value.slice sa zs.length sc) = .slice sa nx sc by rw [hnx]] at h
        exact owns_low h HSD.out.2
      have HRE : Hid (Kept [] Wd E) := kept_same HRD.out HKE.out
      have HIp2 : Hid (It E Bp Wd.heap.size Bp (.slice pa1 pn1 pc1) (.slice pa2 pn2 pc2) ro) := HIp.out.quiet (kept_same HKD.out HKE.out)
      have HIr2 : Hid (It E Br Bp Br (.slice r_a1 r_n1 r_c1) (.slice r_a2 r_n2 r_c2) rk) := HIr.out.quiet HKE.out
      have HCE : Hid (TlC w E Bo (.slice a1 q.stem.length c1) (.slice a2 q.loop.length c2) (.slice (some ⟨b1, 0, none⟩) q.stem.length (q.stem.length + 2)) (.slice (some ⟨b2, 0, none⟩) q.loop.length (q.loop.length + 2))) := HCd.out.quiet HRE.out
      have HBE : Hid (Bk E Z Z R0.heap.size (7 * 2)) := HBd.out.quiet HRE.out
      have HSE : Hid (∀ W, Kept [] E W → IsW W (.slice (some ⟨b1, 0, none⟩) q.stem.length (q.stem.length + 2)) (.slice (some ⟨b2, 0, none⟩) q.loop.length (q.loop.length + 2)) (spoiltW q)) := fun W k => HSd.out.kept (kept_same HRE.out k)
      have HUE : Hid (∀ W, Kept [] E W → Lets W (.slice (some ⟨b3, 0, none⟩) us.length (us.length + 2)) (List.replicate us.length 60003)) := fun W k => HUd.out.kept (kept_same HRE.out k)
      have HWE : Hid (∀ W, Kept [] E W → Kept [] w W) := fun W k => kept_same HCE.out.kept k
      clear g0 g1 e0 e1 HSO HKE HIp HIr HKA HKD HRD HCd HBd HSd HUd HSN HSJ HSP
      have HSS : Hid (∀ w', Kept [] E w' → w'.cell? ⟨Bp, 0, none⟩ = some (.slice pa1 pn1 pc1) ∧ w'.cell? ⟨Bp, 1, none⟩ = some (.slice pa2 pn2 pc2) ∧ w'.cell? ⟨Bo, 0, none⟩ = some (.slice (some ⟨b1, 0, none⟩) q.stem.length (q.stem.length + 2)) ∧ w'.cell? ⟨Bo, 1, none⟩ = some (.slice (some ⟨b2, 0, none⟩) q.loop.length (q.loop.length + 2)) ∧ w'.cell? ⟨Br, 0, none⟩ = some (.slice r_a1 r_n1 r_c1) ∧ w'.cell? ⟨Br, 1, none⟩ = some (.slice r_a2 r_n2 r_c2)) := fun W k => ⟨(HIp2.out.quiet k).box.cells.1, (HIp2.out.quiet k).box.cells.2.1, (HCE.out.quiet k).own.cells.1, (HCE.out.quiet k).own.cells.2.1, (HIr2.out.quiet k).box.cells.1, (HIr2.out.quiet k).box.cells.2.1⟩
      obtain ⟨f0, f1, f2, f3, f4, f5⟩ := HSS.out E (Kept.refl [] E)
      have T1 : Hid True := trivial
      have HKc : Hid (Kept [] E E) := Kept.refl [] E
      go_region_held3 (fun w' => w'.cell? ⟨Bp, 0, none⟩ = some (.slice pa1 pn1 pc1) ∧ w'.cell? ⟨Bp, 1, none⟩ = some (.slice pa2 pn2 pc2) ∧ w'.cell? ⟨Bo, 0, none⟩ = some (.slice (some ⟨b1, 0, none⟩) q.stem.length (q.stem.length + 2)) ∧ w'.cell? ⟨Bo, 1, none⟩ = some (.slice (some ⟨b2, 0, none⟩) q.loop.length (q.loop.length + 2)) ∧ w'.cell? ⟨Br, 0, none⟩ = some (.slice r_a1 r_n1 r_c1) ∧ w'.cell? ⟨Br, 1, none⟩ = some (.slice r_a2 r_n2 r_c2))
        ((refine HSS.out _ ?_; (first | exact HKc.out | exact HKc.out.drew)))
        (first
          | (go_at_call 15; refine (HTN.out _ _ _ (HSE.out _ (by first | exact HKc.out | exact HKc.out.drew))).mono ?_; rintro e Wf ⟨m1, m2, m3, m4, m5, m6, rfl, HI1, hkf⟩; have HKn : Hid (Kept [] E Wf) := (by first | exact HKc.out.trans hkf.out (by simp) (by simp) | exact HKc.out.drew.trans hkf.out (by simp) (by simp)); clear HKc hkf; have HKc : Hid (Kept [] E Wf) := HKn.out; clear HKn)
          | (clear T1; go_at_call 14; refine (same_it HIp2.out HKc.out HI1.out).mono ?_; rintro e Wg ⟨rfl, hkg⟩; have HKn : Hid (Kept [] E Wg) := (by first | exact HKc.out.trans hkg.out (by simp) (by simp) | exact HKc.out.drew.trans hkg.out (by simp) (by simp)); clear HKc hkg; have HKc : Hid (Kept [] E Wg) := HKn.out; clear HKn)
          | (go_at_call 17; refine (HTJ.out _ _ _ _ (HSE.out _ HKc.out) (HUE.out _ HKc.out)).mono ?_; rintro e Wh ⟨m7, m8, m9, m10, m11, m12, rfl, HI2, hkh⟩; have HKn : Hid (Kept [] E Wh) := (by first | exact HKc.out.trans hkh.out (by simp) (by simp) | exact HKc.out.drew.trans hkh.out (by simp) (by simp)); clear HKc hkh; have HKc : Hid (Kept [] E Wh) := HKn.out; clear HKn)
          | (go_at_call 14; refine (same_it HIr2.out HKc.out HI2.out).mono ?_; rintro e Wi ⟨rfl, hki⟩; have HKn : Hid (Kept [] E Wi) := (by first | exact HKc.out.trans hki.out (by simp) (by simp) | exact HKc.out.drew.trans hki.out (by simp) (by simp)); clear HKc hki; have HKc : Hid (Kept [] E Wi) := HKn.out; clear HKn)
          | (go_at_call 19; refine (HTP.out _ _ _ (HSE.out _ HKc.out)).mono ?_; rintro e Wl ⟨m13, m14, rfl, HP1, hkl⟩; rw [hnx]; have HP2 : Hid (Wl.ownsRow Wi.heap.size 54 1 (.slice m13 nx m14) zs.length (u16s zs)) := (by have h := HP1.out; rw [show (Value.slice m13 zs.length m14) = .slice m13 nx m14 by rw [hnx]] at h; exact h); clear HP1; have HKn : Hid (Kept [] E Wl) := (by first | exact HKc.out.trans hkl.out (by simp) (by simp) | exact HKc.out.drew.trans hkl.out (by simp) (by simp)); clear HKc hkl; have HKc : Hid (Kept [] E Wl) := HKn.out; clear HKn)
          | (go_at_call 18; refine (same_let HSX.out HKc.out HP2.out HZS.out.1 (by have := HZS.out.2; omega)).mono ?_; rintro e Wm ⟨rfl, hkm⟩; have HKn : Hid (Kept [] E Wm) := (by first | exact HKc.out.trans hkm.out (by simp) (by simp) | exact HKc.out.drew.trans hkm.out (by simp) (by simp)); clear HKc hkm; have HKc : Hid (Kept [] E Wm) := HKn.out; clear HKn)
          | (go_at_call 28; refine (HSW.out _ _ _ (HWE.out _ HKc.out) (HSE.out _ HKc.out)).mono ?_; rintro e Wn ⟨rfl, hkn⟩; have HKn : Hid (Kept [] E Wn) := (by first | exact HKc.out.trans hkn.out (by simp) (by simp) | exact HKc.out.drew.trans hkn.out (by simp) (by simp)); clear HKc hkn; have HKc : Hid (Kept [] E Wn) := HKn.out; clear HKn)
          | (go_at_call 29; refine (HTS.out _ _ _ (HSE.out _ HKc.out)).mono ?_; rintro e Wo ⟨rfl, hko⟩; have HKn : Hid (Kept [] E Wo) := (by first | exact HKc.out.trans hko.out (by simp) (by simp) | exact HKc.out.drew.trans hko.out (by simp) (by simp)); clear HKc hko; have HKc : Hid (Kept [] E Wo) := HKn.out; clear HKn))
      all_goals go_wp2_with (go_at_call 36; refine (Bk.mine (HBE.out.quiet HKc.out) (HWE.out _ HKc.out) HWZ.out).mono ?_; rintro e Wz ⟨rfl, HKz⟩)
      all_goals go_ret
      all_goals exact ⟨rfl, HKz.out⟩
end Go.Proofs.YtgbmfclboliliaaDoor
