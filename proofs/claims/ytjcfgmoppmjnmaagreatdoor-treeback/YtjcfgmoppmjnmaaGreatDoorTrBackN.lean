/- TreeBack: the walk, where the tree has no name. -/
import Derived.Test.YtjcfgmoppmjnmaaGreatDoorTrBack
namespace Go.Proofs.YtjcfgmoppmjnmaaGreatDoor
open Go.RowKit Go.Shelf

set_option maxHeartbeats 4000000 in
set_option maxRecDepth 20000 in
theorem treeBack_none (f g : Tr) (fv gv : Value) (w : World) (hF : IsF w f fv) (hG : IsF w g gv) (fF : f.Fine) (fG : g.Fine) (mF : f.Modest) (mG : g.Modest) (hT : KidsTab w) (hN : NumAt w) (hne : f.names.length = 0) :
    Calls Tryz.prog 3 #[.agg #[.int .u8 (f.op : Nat), .string f.name, fv], .agg #[.int .u8 (g.op : Nat), .string g.name, gv]] w fun e w' => e = .returned (.bool true) ∧ Kept [] w w' := by
  obtain ⟨fad, fcap, rfl⟩ := hF.slice
  obtain ⟨gad, gcap, rfl⟩ := hG.slice
  obtain ⟨V, hV⟩ : ∃ V, (w.alloc (.cells #[.int .u8 (f.op : Nat), .string f.name, .slice fad f.kids.length fcap] 25)).alloc (.cells #[.int .u8 (g.op : Nat), .string g.name, .slice gad g.kids.length gcap] 25) = V := ⟨_, rfl⟩
  have kV : Kept [] w V := by rw [← hV]; exact ((Kept.refl [] w).alloc _).alloc _
  have HB0 : Hid (∀ W, Kept [] V W → W.cell? ⟨w.heap.size, 0, none⟩ = some (.int .u8 (f.op : Nat)) ∧ W.cell? ⟨w.heap.size, 1, none⟩ = some (.string f.name) ∧ W.cell? ⟨w.heap.size, 2, none⟩ = some (.slice fad f.kids.length fcap)) := fun W k => box_cells (V := V) (by rw [← hV]; exact alUp (al0 _ _) _) k
  have HB1 : Hid (∀ W, Kept [] V W → W.cell? ⟨w.heap.size + 1, 0, none⟩ = some (.int .u8 (g.op : Nat)) ∧ W.cell? ⟨w.heap.size + 1, 1, none⟩ = some (.string g.name) ∧ W.cell? ⟨w.heap.size + 1, 2, none⟩ = some (.slice gad g.kids.length gcap)) := fun W k => box_cells (V := V) (by rw [← hV]; exact al1 _ _ _) k
  have HIF : Hid (∀ W, Kept [] V W → IsF W f (.slice fad f.kids.length fcap)) := fun W k => (hF.kept kV).kept k
  have HIG : Hid (∀ W, Kept [] V W → IsF W g (.slice gad g.kids.length gcap)) := fun W k => (hG.kept kV).kept k
  have HAW : Hid _ := fun (_ : Unit) => awake_any V (hT.kept kV) (hN.kept kV)
  have HMU : Hid (∀ t ∈ [f, g], t.Modest) := fun t ht => by
    rcases List.mem_cons.1 ht with rfl | ht
    · exact mF
    · obtain rfl := List.mem_singleton.1 ht; exact mG
  have HKV : Hid (Kept [] w V) := kV
  have HV : Hid _ := hV
  have HFF : Hid (f.Fine) := fF
  have HFG : Hid (g.Fine) := fG
  have HT : Hid (∀ W, Kept [] V W → KidsTab W) := fun W k => (hT.kept kV).kept k
  have HNE : Hid (f.names.length = 0) := hne
  clear hV kV hF hG hT hN fF fG mF mG hne
  go_enter Tryz.func3, Tryz.ntmps3
  go_upto_region 3 with (first
    | (go_at_call 4; rw [HV.out]; refine (HAW.out ()).mono ?_; rintro e W1 ⟨rfl, hk⟩; obtain ⟨a0, a1, a2⟩ := HB0.out _ hk; obtain ⟨b0, b1, b2⟩ := HB1.out _ hk; have HK : Hid (Kept [] V W1) := hk; clear hk)
    | (go_at_call 5; refine (much_any [f, g] _ _ (isF_pair (al0 _ _) (HIF.out _ (HK.out.alloc _)) (HIG.out _ (HK.out.alloc _))) HMU.out (by simp)).mono ?_; rintro e W2 ⟨n, rfl, hn, hk⟩; have HK2 : Hid (Kept [] V W2) := (HK.out.alloc _).trans hk (by simp) (by simp); have HN : Hid _ := hn; clear hk hn HK a0 a1 a2 b0 b1 b2))
  rcases Nat.lt_or_ge 1048576 n with hb | hb
  · go_wp2
    go_ret
    exact ⟨rfl, HKV.out.trans HK2.out (by simp) (by simp)⟩
  rw [show decide (1048576 < n) = false from decide_eq_false (by omega)]
  have hsz := HN.out hb
  have hsf : f.size ≤ 1048576 := Nat.le_trans f.size_wsum (hsz f (by simp))
  have hsg : g.size ≤ 1048576 := Nat.le_trans g.size_wsum (hsz g (by simp))
  have hdf : f.depth ≤ 1048576 := Nat.le_trans f.depth_size hsf
  have hdg : g.depth ≤ 1048576 := Nat.le_trans g.depth_size hsg
  have HR1 : Hid _ := fun W (k : Kept [] V W) => right_any f _ W (HIF.out W k) (by omega) (by omega) HFF.out (HT.out W k)
  have HR2 : Hid _ := fun W (k : Kept [] V W) => rightPast_any f _ W (HIF.out W k) (by omega) (by omega) HFF.out (HT.out W k)
  obtain ⟨x, hx⟩ : ∃ x, rightN pastB f = x := ⟨_, rfl⟩
  obtain ⟨y, hy⟩ : ∃ y, rightN futureB f = y := ⟨_, rfl⟩
  simp only [hx] at HR1
  simp only [hy] at HR2
  have HGO : Hid (x = 0 ∨ y = 0 → f.every formedB = true ∧ f.size ≤ 1000 ∧ f.depth ≤ 100) := fun h => by
    rcases h with rfl | rfl
    · exact right_formed hx
    · exact right_formed hy
  obtain ⟨a0, a1, a2⟩ := HB0.out _ HK2.out
  clear hsz HN HMU HAW HV hx hy
  by_cases hxy : x = 0 ∨ y = 0
  rotate_left
  · have hx1 : ((x : Int) != 0) = true := by rw [bne_iff_ne]; omega
    have hy1 : ((y : Int) != 0) = true := by rw [bne_iff_ne]; omega
    go_wp2_with (first
      | (go_at_call 6; refine (HR1.out _ HK2.out).mono ?_; rintro e W3 ⟨rfl, hk⟩; have HK3 : Hid (Kept [] V W3) := HK2.out.trans hk (by simp) (by simp); clear hk a0 a1 a2; obtain ⟨a0, a1, a2⟩ := HB0.out _ HK3.out)
      | (go_at_call 7; refine (HR2.out _ HK3.out).mono ?_; rintro e W4 ⟨rfl, hk⟩; have HK4 : Hid (Kept [] V W4) := HK3.out.trans hk (by simp) (by simp); clear hk))
    go_ret
    exact ⟨rfl, HKV.out.trans HK4.out (by simp) (by simp)⟩
  obtain ⟨he, h1000, h100⟩ := HGO.out hxy
  go_cut [38] from 28 to 38 (fun s wx => s = .bool false ∧ Hid (Kept [] V wx))
  case first =>
    by_cases hx0 : x = 0
    · have hx1 : ((x : Int) != 0) = false := by simp only [bne_eq_false_iff_eq]; omega
      go_wp2_with (go_at_call 6; refine (HR1.out _ HK2.out).mono ?_; rintro e W3 ⟨rfl, hk⟩; have HK3 : Hid (Kept [] V W3) := HK2.out.trans hk (by simp) (by simp); clear hk a0 a1 a2)
      go_meet
      exact ⟨rfl, HK3.out⟩
    · have hx1 : ((x : Int) != 0) = true := by rw [bne_iff_ne]; omega
      have hy1 : ((y : Int) != 0) = false := by simp only [bne_eq_false_iff_eq]; omega
      go_wp2_with (first
        | (go_at_call 6; refine (HR1.out _ HK2.out).mono ?_; rintro e W3 ⟨rfl, hk⟩; have HK3 : Hid (Kept [] V W3) := HK2.out.trans hk (by simp) (by simp); clear hk a0 a1 a2; obtain ⟨a0, a1, a2⟩ := HB0.out _ HK3.out)
        | (go_at_call 7; refine (HR2.out _ HK3.out).mono ?_; rintro e W4 ⟨rfl, hk⟩; have HK4 : Hid (Kept [] V W4) := HK3.out.trans hk (by simp) (by simp); clear hk))
      go_meet
      exact ⟨rfl, HK4.out⟩
  case rest =>
  obtain ⟨rfl, HX⟩ := hcut
  have HE : Hid _ := he
  have HNM : Hid _ := fun W (k : Kept [] V W) => names_any f _ W (HIF.out W k) (by omega) HFF.out
  clear a0 a1 a2 HK2 HR1 HR2 HGO hxy he
  obtain ⟨a0, a1, a2⟩ := HB0.out _ HX.out
  have hnl : f.names.length ≤ 1000 := by
    have := namesOf_len (f.parts [])
    rw [Tr.parts_length] at this
    exact Nat.le_trans this h1000
  go_wp2_with (go_at_call 8; refine (HNM.out _ HX.out).mono ?_; rintro e U ⟨v, rfl, hrow, hk⟩; have HS : Hid (StrsAt U f.names v) := strs_of_row hrow; obtain ⟨nad, ncap, rfl⟩ := own_slice hrow; have HU : Hid (Kept [] V U) := HX.out.trans hk (by simp) (by simp); clear hk hrow HX HNM a0 a1 a2)
  go_loopw [8, 9, 10, 11] (fun v8 v9 _ _ wr => ∃ i : Nat, v9 = .int .i64 (i : Nat) ∧ i ≤ f.names.length ∧ Hid (BackAt U i v8 wr)) (fun _ v9 _ _ _ => f.names.length - (intOf v9).toNat)
  case atStart => exact ⟨0, rfl, Nat.zero_le _, Kept.refl [] U, World.ownsRow_nil _ _ _ _⟩
  case round =>
    obtain ⟨i, rfl, hi, HR⟩ := hrel
    by_cases hlt : i < f.names.length
    · exact absurd HNE.out (by omega)
    · obtain rfl : i = f.names.length := by omega
      have hli : ¬ ((f.names.length : Int) < (f.names.length : Int)) := by omega
      obtain ⟨L, hL⟩ : ∃ L, toL f.names.length = L := ⟨_, rfl⟩
      have hLl : L.length = f.names.length := by rw [← hL]; exact toL_len _
      have hrow := HR.out.row
      rw [hL] at hrow
      have HTO : Hid (∀ W, Kept [] wr W → StrsAt W L u8) := fun W k => (strs_of_row (by rw [hLl]; exact hrow)).kept k
      have HNA : Hid (∀ W, Kept [] wr W → StrsAt W f.names (.slice nad f.names.length ncap)) := fun W k => (HS.out.kept HR.out.kept).kept k
      have HKR : Hid (Kept [] V wr) := HU.out.trans HR.out.kept (by simp) (by simp)
      obtain ⟨tt, htt⟩ : ∃ tt : ByteArray, (⟨#[126, 126]⟩ : ByteArray) = tt := ⟨_, rfl⟩
      obtain ⟨pe, hpe⟩ : ∃ pe, putE f tt g = pe := ⟨_, rfl⟩
      obtain ⟨pt, hpt⟩ : ∃ pt, putT f tt g = pt := ⟨_, rfl⟩
      have httn : nameB tt.data.toList = true := by rw [← htt]; exact tt_name
      have htts : tt.size ≤ maxLen := by rw [← htt]; decide
      have HPU : Hid _ := fun W (k : Kept [] V W) => put_any f _ tt g _ W (HIF.out W k) (HIG.out W k) (by omega) (by omega) (by omega) (by omega) HFF.out HFG.out htts (HT.out W k)
      simp only [hpe, hpt] at HPU
      rw [← htt] at HPU
      have HR3 : Hid _ := fun W (k : Kept [] V W) => right_any g _ W (HIG.out W k) (by omega) (by omega) HFG.out (HT.out W k)
      have HR4 : Hid _ := fun W (k : Kept [] V W) => rightPast_any g _ W (HIG.out W k) (by omega) (by omega) HFG.out (HT.out W k)
      obtain ⟨x', hx'⟩ : ∃ x', rightN pastB g = x' := ⟨_, rfl⟩
      obtain ⟨y', hy'⟩ : ∃ y', rightN futureB g = y' := ⟨_, rfl⟩
      simp only [hx'] at HR3
      simp only [hy'] at HR4
      have HPS : Hid (x' = 0 ∨ y' = 0 → tt ∉ f.names → pe = 0 ∧ pt = f) := fun hr hm => by
        rw [← hpe, ← hpt]
        exact put_none HE.out (by rcases hr with rfl | rfl; exact (right_formed hx').1; exact (right_formed hy').1) httn h1000 h100 hm
      have HTT : Hid _ := htt
      have HLL : Hid _ := hLl
      have HLD : Hid (toL f.names.length = L) := hL
      have hu8 : ∃ tad tcap, u8 = .slice tad f.names.length tcap := by
        obtain ⟨tad, tcap, e, _⟩ := HTO.out wr (Kept.refl [] wr)
        rw [hLl] at e
        exact ⟨tad, tcap, e⟩
      obtain ⟨tad, tcap, rfl⟩ := hu8
      clear hrow hL hLl hpe hpt httn htts hx' hy' htt HS HR HU
      obtain ⟨a0, a1, a2⟩ := HB0.out _ HKR.out
      obtain ⟨b0, b1, b2⟩ := HB1.out _ HKR.out
      go_upto_region 15 with (go_at_call 9; refine (HPU.out _ HKR.out).mono ?_; rintro e P1 ⟨pad, pcap, rfl, hIp, hkp⟩; have HIP : Hid _ := fun (_ : Unit) => hIp; have HKP : Hid (Kept [] wr P1) := hkp; clear hIp hkp a0 a1 a2 b0 b1 b2)
      obtain ⟨Z, hZ⟩ : ∃ Z, P1.alloc (.cells #[.int .u8 (pt.op : Nat), .string pt.name, .slice pad pt.kids.length pcap] 25) = Z := ⟨_, rfl⟩
      have kPZ : Kept [] P1 Z := by rw [← hZ]; exact kA _ _
      have kwZ : Kept [] wr Z := HKP.out.trans kPZ (by simp) (by simp)
      have kVZ : Kept [] V Z := HKR.out.trans kwZ (by simp) (by simp)
      have HVZ : Hid (Kept [] V Z) := kVZ
      have HZB : Hid (∀ W, Kept [] Z W → W.cell? ⟨P1.heap.size, 0, none⟩ = some (.int .u8 (pt.op : Nat)) ∧ W.cell? ⟨P1.heap.size, 1, none⟩ = some (.string pt.name) ∧ W.cell? ⟨P1.heap.size, 2, none⟩ = some (.slice pad pt.kids.length pcap)) := fun W k => box_cells (V := Z) (by rw [← hZ]; exact For3.new _ _ _ _) k
      have HZI : Hid (∀ W, Kept [] Z W → IsF W pt (.slice pad pt.kids.length pcap)) := fun W k => IsF.kept (IsF.kept (IsT.isF (HIP.out ())) kPZ) k
      have HZT : Hid (∀ W, Kept [] Z W → StrsAt W L (.slice tad f.names.length tcap)) := fun W k => (HTO.out Z kwZ).kept k
      have HZN : Hid (∀ W, Kept [] Z W → StrsAt W f.names (.slice nad f.names.length ncap)) := fun W k => (HNA.out Z kwZ).kept k
      rw [hZ]
      clear hZ kPZ kwZ kVZ HIP HKP HTO HNA HPU
      obtain ⟨rb, hrb⟩ : ∃ rb : Bool, decide (x' = 0 ∨ y' = 0) = rb := ⟨_, rfl⟩
      obtain ⟨b0, b1, b2⟩ := HB1.out _ HVZ.out
      go_cut [14] from 95 to 102 (fun s wx => s = .bool rb ∧ Hid (Kept [] Z wx))
      case first =>
        by_cases hx0 : x' = 0
        · have hx1 : ((x' : Int) == 0) = true := by rw [beq_iff_eq]; omega
          have HRT : Hid (true = rb) := by show true = rb; rw [← hrb]; exact (decide_eq_true (.inl hx0)).symm
          go_wp2_with (go_at_call 6; refine (HR3.out _ HVZ.out).mono ?_; rintro e W3 ⟨rfl, hk⟩; have HK3 : Hid (Kept [] Z W3) := hk; clear hk b0 b1 b2)
          go_meet
          exact ⟨congrArg Value.bool HRT.out, HK3.out⟩
        · have hx1 : ((x' : Int) == 0) = false := by rw [beq_eq_false_iff_ne]; omega
          have hr1 : ((y' : Int) == 0) = rb := by
            rw [← hrb]
            by_cases hy0 : y' = 0
            · rw [decide_eq_true (.inr hy0), beq_iff_eq]; omega
            · rw [decide_eq_false (fun h => h.elim hx0 hy0), beq_eq_false_iff_ne]; omega
          go_wp2_with (first
            | (go_at_call 6; refine (HR3.out _ HVZ.out).mono ?_; rintro e W3 ⟨rfl, hk⟩; have HK3 : Hid (Kept [] Z W3) := hk; clear hk b0 b1 b2; obtain ⟨b0, b1, b2⟩ := HB1.out _ (HVZ.out.trans HK3.out (by simp) (by simp)))
            | (go_at_call 7; refine (HR4.out _ (HVZ.out.trans HK3.out (by simp) (by simp))).mono ?_; rintro e W4 ⟨rfl, hk⟩; have HK4 : Hid (Kept [] Z W4) := HK3.out.trans hk (by simp) (by simp); clear hk))
          go_meet
          exact ⟨rfl, HK4.out⟩
      case rest =>
      obtain ⟨rfl, HX⟩ := hcut
      have HRB : Hid _ := hrb
      clear HR3 HR4 b0 b1 b2 hrb
      go_wp2
      go_loopw [15, 16, 17, 18] (fun v15 v16 v17 _ w2 => ∃ (i : Nat) (th nw : Bool), v17 = .int .i64 (i : Nat) ∧ i ≤ f.names.length ∧ v15 = .bool th ∧ v16 = .bool nw ∧ Hid (Kept [] Z w2 ∧ (th = true ↔ tt ∈ f.names.take i) ∧ (nw = true → ∀ s ∈ L, s ∉ f.names.take i))) (fun _ _ v17 _ _ => f.names.length - (intOf v17).toNat)
      case atStart => exact ⟨0, false, true, rfl, Nat.zero_le _, rfl, rfl, HX.out, by simp, fun _ s _ => by simp⟩
      case round =>
        rename World => w2
        obtain ⟨i, th, nw, rfl, hi, rfl, rfl, HW⟩ := hrel
        by_cases hlt : i < f.names.length
        · exact absurd HNE.out (by omega)
        · obtain rfl : i = f.names.length := by omega
          have hli2 : ¬ ((f.names.length : Int) < (f.names.length : Int)) := by omega
          have HTH : Hid (th = true ↔ tt ∈ f.names) := by show _ ↔ _; have := HW.out.2.1; rwa [List.take_length] at this
          have HNW : Hid (nw = true → ∀ s ∈ L, s ∉ f.names) := by show _ → _; have := HW.out.2.2; rwa [List.take_length] at this
          have HKZ : Hid (Kept [] Z w2) := HW.out.1
          clear HW HX
          go_upto_region 26 with fail
          have HCM : Hid _ := fun W (k : Kept [] V W) xv (hx : IsF W f xv) => cmp_any f f xv _ W hx (HIF.out W k) (by omega) (by omega)
          simp only [show cmpT f f = 0 from preT.self f] at HCM
          have HVW : Hid (Kept [] V w2) := HVZ.out.trans HKZ.out (by simp) (by simp)
          go_cut [149] from 135 to 149 (fun s wx => s = .bool false ∧ Hid (Kept [] w2 wx))
          case first =>
            cases rb with
            | false =>
              go_wp2_with fail
              go_meet
              exact ⟨rfl, Kept.refl [] w2⟩
            | true =>
              cases th with
              | true =>
                go_wp2_with fail
                go_meet
                exact ⟨rfl, Kept.refl [] w2⟩
              | false =>
                obtain ⟨hp0, hpf⟩ := HPS.out (of_decide_eq_true HRB.out) (fun hm => by have := HTH.out.2 hm; cases this)
                have hpf' := hpf.symm
                subst hp0
                subst hpf'
                obtain ⟨a0, a1, a2⟩ := HB0.out _ HVW.out
                obtain ⟨d0, d1, d2⟩ := HZB.out _ HKZ.out
                have HIZ : Hid _ := HZI.out _ HKZ.out
                go_wp2_with (go_at_call 11; refine (HCM.out _ HVW.out _ (HZI.out _ HKZ.out)).mono ?_; rintro e W9 ⟨rfl, hk9⟩; have HK9 : Hid (Kept [] w2 W9) := hk9.kept; clear hk9)
                go_meet
                exact ⟨rfl, HK9.out⟩
          case rest =>
          obtain ⟨rfl, HX6⟩ := hcut
          rename World => w6
          have HV6 : Hid (Kept [] V w6) := HVW.out.trans HX6.out (by simp) (by simp)
          have HZ6 : Hid (Kept [] Z w6) := HKZ.out.trans HX6.out (by simp) (by simp)
          clear HKZ HX6 HVW HZB HZI HPS HTH HRB
          cases nw with
          | false =>
            go_wp2
            go_ret
            exact ⟨rfl, HKV.out.trans HV6.out (by simp) (by simp)⟩
          | true =>
            have h3000 : ¬ ((3000 : Int) < (f.names.length : Int)) := by omega
            have hren := ren_back (t := f) (tos := L) HE.out HLL.out (by rw [← HLD.out]; exact to_names _) (by rw [← HLD.out]; exact to_nodup (by omega))
            obtain ⟨r1, r2, r3, r4, r5⟩ := hren
            have hLs : ∀ s ∈ L, s.size ≤ maxLen := fun s hs => name_short (to_names _ s (by rw [HLD.out]; exact hs))
            have hNs : ∀ s ∈ f.names, s.size ≤ maxLen := fun s hs => name_short (names_name HE.out hs)
            have HRN1 : Hid _ := fun W (kV : Kept [] V W) (kZ : Kept [] Z W) => rename_any f _ f.names L _ _ W (HIF.out W kV) (by omega) HFF.out (HT.out W kV) (HZN.out W kZ) (HZT.out W kZ) (by omega) hNs hLs
            have hrf := fine_of_formed _ (renE_formed r3)
            have HRN2 : Hid _ := fun W (kV : Kept [] V W) (kZ : Kept [] Z W) rv (hrv : IsF W (renT f f.names L) rv) => rename_any (renT f f.names L) rv L f.names _ _ W hrv (by rw [r2]; omega) hrf (HT.out W kV) (HZT.out W kZ) (HZN.out W kZ) (by have := HLL.out; omega) hLs hNs
            simp only [r3, r4] at HRN2
            simp only [r1] at HRN1
            obtain ⟨rt, hrt⟩ : ∃ rt, renT f f.names L = rt := ⟨_, rfl⟩
            simp only [hrt] at HRN1 HRN2
            rw [hrt] at r2 r5
            obtain ⟨d, hd⟩ : ∃ d, cmpT rt f = d := ⟨_, rfl⟩
            have HDN : Hid (0 < f.names.length → d ≠ 0) := fun hl h0 => r5 (HNW.out rfl) (fun e => by rw [e] at hl; cases hl) (cmpT_zero rt f (hd.trans h0))
            have HCG : Hid _ := fun W (k : Kept [] V W) rv (hrv : IsF W rt rv) => cmp_any rt f rv _ W hrv (HIF.out W k) (by rw [r2]; omega) (by omega)
            simp only [hd] at HCG
            have HSG : Hid _ := fun W rv (hrv : IsF W rt rv) => size_any rt rv W hrv (by rw [r2]; omega)
            have HSF : Hid _ := fun W (k : Kept [] V W) => size_any f _ W (HIF.out W k) (by omega)
            rw [r2] at HSG
            obtain ⟨a0, a1, a2⟩ := HB0.out _ HV6.out
            clear r1 r2 r3 r4 r5 hrf hrt hd hLs hNs HNW HLD
            go_upto_region 32 with (first
              | (go_at_call 12; have gg := HRN1; refine (HRN1.out _ HV6.out HZ6.out).mono ?_; clear gg HRN1; rintro e R1 ⟨gad', gcap', rfl, hI1, hk1⟩; have HI1 : Hid _ := fun (_ : Unit) => hI1; have HK1 : Hid (Kept [] w6 R1) := hk1; clear hI1 hk1 a0 a1 a2)
              | (go_at_call 12; refine (HRN2.out _ (HV6.out.trans (HK1.out.alloc _) (by simp) (by simp)) (HZ6.out.trans (HK1.out.alloc _) (by simp) (by simp)) _ (IsF.kept (IsT.isF (HI1.out ())) (kA _ _))).mono ?_; rintro e R2 ⟨kad', kcap', rfl, hI2, hk2⟩; have HI2 : Hid _ := fun (_ : Unit) => hI2; have HK2 : Hid _ := fun (_ : Unit) => hk2; clear hI2 hk2))
            obtain ⟨Q, hQ⟩ : ∃ Q, R2.alloc (.cells #[.int .u8 (f.op : Nat), .string f.name, .slice kad' f.kids.length kcap'] 25) = Q := ⟨_, rfl⟩
            have k2Q : Kept [] R2 Q := by rw [← hQ]; exact kA _ _
            have k1Q : Kept [] R1 Q := ((kA _ _).trans (HK2.out ()) (H := []) (by simp) (by simp)).trans k2Q (by simp) (by simp)
            have kVQ : Kept [] V Q := (HV6.out.trans HK1.out (H := []) (by simp) (by simp)).trans k1Q (by simp) (by simp)
            have HVQ : Hid (Kept [] V Q) := kVQ
            have HQ1 : Hid (∀ W, Kept [] Q W → (W.cell? ⟨R1.heap.size, 0, none⟩ = some (.int .u8 (rt.op : Nat)) ∧ W.cell? ⟨R1.heap.size, 1, none⟩ = some (.string rt.name) ∧ W.cell? ⟨R1.heap.size, 2, none⟩ = some (.slice gad' rt.kids.length gcap')) ∧ (W.cell? ⟨R2.heap.size, 0, none⟩ = some (.int .u8 (f.op : Nat)) ∧ W.cell? ⟨R2.heap.size, 1, none⟩ = some (.string f.name) ∧ W.cell? ⟨R2.heap.size, 2, none⟩ = some (.slice kad' f.kids.length kcap')) ∧ (W.cell? ⟨w.heap.size, 0, none⟩ = some (.int .u8 (f.op : Nat)) ∧ W.cell? ⟨w.heap.size, 1, none⟩ = some (.string f.name) ∧ W.cell? ⟨w.heap.size, 2, none⟩ = some (.slice fad f.kids.length fcap))) := fun W k => ⟨box_cells (V := Q) (For3.kept (For3.kept (For3.new _ _ _ _) (HK2.out ())) k2Q) k, box_cells (V := Q) (by rw [← hQ]; exact For3.new _ _ _ _) k, HB0.out W (kVQ.trans k (by simp) (by simp))⟩
            have HIR : Hid (∀ W, Kept [] Q W → IsF W rt (.slice gad' rt.kids.length gcap')) := fun W k => IsF.kept (IsF.kept (IsT.isF (HI1.out ())) k1Q) k
            have HIK : Hid (∀ W, Kept [] Q W → IsF W f (.slice kad' f.kids.length kcap')) := fun W k => IsF.kept (IsF.kept (IsT.isF (HI2.out ())) k2Q) k
            have HCM1 : Hid _ := fun W (k : Kept [] Q W) => HCM.out W (HVQ.out.trans k (by simp) (by simp)) _ (HIK.out W k)
            have HCG1 : Hid _ := fun W (k : Kept [] Q W) => HCG.out W (HVQ.out.trans k (by simp) (by simp)) _ (HIR.out W k)
            have HSG1 : Hid _ := fun W (k : Kept [] Q W) => HSG.out W _ (HIR.out W k)
            have HSF1 : Hid _ := fun W (k : Kept [] Q W) => HSF.out W (HVQ.out.trans k (by simp) (by simp))
            obtain ⟨sz, hsz⟩ : ∃ sz, f.size = sz := ⟨_, rfl⟩
            simp only [hsz] at HSG1 HSF1
            rw [hQ]
            clear hQ k2Q k1Q kVQ HI1 HI2 HK1 HK2 HCM HCG HSG HSF HIR HIK hsz HRN2
            go_cut [4] from 172 to 204 (fun s wx => s = .bool true ∧ Hid (Kept [] Q wx))
            case first =>
              obtain ⟨⟨a0, a1, a2⟩, ⟨b0, b1, b2⟩, ⟨c0, c1, c2⟩⟩ := HQ1.out _ (Kept.refl [] Q)
              by_cases hn0 : f.names.length = 0
              · have hn1 : ((f.names.length : Int) == 0) = true := by rw [beq_iff_eq]; omega
                clear hn0
                clear a0 a1 a2 b0 b1 b2 c0 c1 c2
                refine wp_region_quiet (C := fun w' => Kept [] Q w') (by kernel_rfl) (by kernel_rfl) ((Kept.refl [] Q).drew) ?_
                simp only []
                go_big_quiet_want
                refine ⟨.bool true, fun w' hw => (by go_simp), ?_⟩
                go_big_quiet_on
                simp only [Act.put, Array.setIfInBounds, List.size_toArray, List.length_cons, List.length_nil, Nat.reduceAdd, Nat.reduceLT, ↓reduceDIte, List.set_toArray, List.set_cons_succ, List.set_cons_zero]
                go_big_quiet_want
                refine ⟨.bool true, fun w' hw => (by go_simp), ?_⟩
                go_big_quiet_on
                simp only [Act.put, Array.setIfInBounds, List.size_toArray, List.length_cons, List.length_nil, Nat.reduceAdd, Nat.reduceLT, ↓reduceDIte, List.set_toArray, List.set_cons_succ, List.set_cons_zero]
                go_big_quiet_want
                refine ⟨.int .i64 0, fun w' hw => (by go_simp), ?_⟩
                go_big_quiet_on
                simp only [Act.put, Array.setIfInBounds, List.size_toArray, List.length_cons, List.length_nil, Nat.reduceAdd, Nat.reduceLT, ↓reduceDIte, List.set_toArray, List.set_cons_succ, List.set_cons_zero]
                go_big_quiet_want
                refine ⟨.bool true, fun w' hw => (by go_simp), ?_⟩
                go_big_quiet_on
                simp only [Act.put, Array.setIfInBounds, List.size_toArray, List.length_cons, List.length_nil, Nat.reduceAdd, Nat.reduceLT, ↓reduceDIte, List.set_toArray, List.set_cons_succ, List.set_cons_zero]
                go_big_quiet_want
                refine ⟨.bool true, fun w' hw => (by go_simp), ?_⟩
                go_big_quiet_on
                simp only [Act.put, Array.setIfInBounds, List.size_toArray, List.length_cons, List.length_nil, Nat.reduceAdd, Nat.reduceLT, ↓reduceDIte, List.set_toArray, List.set_cons_succ, List.set_cons_zero]
                go_big_quiet_want
                refine ⟨.bool true, fun w' hw => (by go_simp), ?_⟩
                go_big_quiet_on
                simp only [Act.put, Array.setIfInBounds, List.size_toArray, List.length_cons, List.length_nil, Nat.reduceAdd, Nat.reduceLT, ↓reduceDIte, List.set_toArray, List.set_cons_succ, List.set_cons_zero]
                go_big_quiet_want
                refine ⟨.int .i64 0, fun w' hw => (by go_simp), ?_⟩
                go_big_quiet_on
                simp only [Act.put, Array.setIfInBounds, List.size_toArray, List.length_cons, List.length_nil, Nat.reduceAdd, Nat.reduceLT, ↓reduceDIte, List.set_toArray, List.set_cons_succ, List.set_cons_zero]
                go_big_quiet_want
                refine ⟨.bool true, fun w' hw => (by go_simp), ?_⟩
                go_big_quiet_on
                simp only [Act.put, Array.setIfInBounds, List.size_toArray, List.length_cons, List.length_nil, Nat.reduceAdd, Nat.reduceLT, ↓reduceDIte, List.set_toArray, List.set_cons_succ, List.set_cons_zero]
                go_big_quiet_want
                refine ⟨.bool true, fun w' hw => (by go_simp), ?_⟩
                go_big_quiet_on
                simp only [Act.put, Array.setIfInBounds, List.size_toArray, List.length_cons, List.length_nil, Nat.reduceAdd, Nat.reduceLT, ↓reduceDIte, List.set_toArray, List.set_cons_succ, List.set_cons_zero]
                go_big_quiet_want
                refine ⟨.bool true, fun w' hw => (by go_simp), ?_⟩
                go_big_quiet_on
                simp only [Act.put, Array.setIfInBounds, List.size_toArray, List.length_cons, List.length_nil, Nat.reduceAdd, Nat.reduceLT, ↓reduceDIte, List.set_toArray, List.set_cons_succ, List.set_cons_zero]
                go_big_quiet_want
                refine ⟨.agg #[.int .u8 (f.op : Nat), .string f.name, .slice kad' f.kids.length kcap'], fun w' hw => ?_, ?_⟩
                · obtain ⟨⟨p0, p1, p2⟩, ⟨q0, q1, q2⟩, ⟨r0, r1, r2⟩⟩ := HQ1.out w' hw
                  go_simp
                go_big_quiet_on
                simp only [Act.put, Array.setIfInBounds, List.size_toArray, List.length_cons, List.length_nil, Nat.reduceAdd, Nat.reduceLT, ↓reduceDIte, List.set_toArray, List.set_cons_succ, List.set_cons_zero]
                go_big_quiet_want
                refine ⟨.agg #[.int .u8 (f.op : Nat), .string f.name, .slice fad f.kids.length fcap], fun w' hw => ?_, ?_⟩
                · obtain ⟨⟨p0, p1, p2⟩, ⟨q0, q1, q2⟩, ⟨r0, r1, r2⟩⟩ := HQ1.out w' hw
                  go_simp
                go_big_quiet_on
                simp only [Act.put, Array.setIfInBounds, List.size_toArray, List.length_cons, List.length_nil, Nat.reduceAdd, Nat.reduceLT, ↓reduceDIte, List.set_toArray, List.set_cons_succ, List.set_cons_zero]
                go_big_quiet_want
                refine ⟨.int .i64 0, fun w' hw => ?_, ?_⟩
                · go_simp
                  exact (HCM1.out w' hw).mono fun e w'' ⟨h1, h2⟩ => ⟨h1, hw.trans h2.kept (by simp) (by simp)⟩
                go_big_quiet_on
                simp only [Act.put, Array.setIfInBounds, List.size_toArray, List.length_cons, List.length_nil, Nat.reduceAdd, Nat.reduceLT, ↓reduceDIte, List.set_toArray, List.set_cons_succ, List.set_cons_zero]
                go_big_quiet_want
                refine ⟨.bool true, fun w' hw => (by go_simp), ?_⟩
                go_big_quiet_on
                simp only [Act.put, Array.setIfInBounds, List.size_toArray, List.length_cons, List.length_nil, Nat.reduceAdd, Nat.reduceLT, ↓reduceDIte, List.set_toArray, List.set_cons_succ, List.set_cons_zero]
                go_big_quiet_want
                refine ⟨.bool true, fun w' hw => (by go_simp), ?_⟩
                go_big_quiet_on
                simp only [Act.put, Array.setIfInBounds, List.size_toArray, List.length_cons, List.length_nil, Nat.reduceAdd, Nat.reduceLT, ↓reduceDIte, List.set_toArray, List.set_cons_succ, List.set_cons_zero]
                go_big_quiet_want
                refine ⟨.bool true, fun w' hw => (by go_simp), ?_⟩
                go_big_quiet_on
                simp only [Act.put, Array.setIfInBounds, List.size_toArray, List.length_cons, List.length_nil, Nat.reduceAdd, Nat.reduceLT, ↓reduceDIte, List.set_toArray, List.set_cons_succ, List.set_cons_zero]
                go_big_quiet_want
                refine ⟨.slice nad f.names.length ncap, fun w' hw => (by go_simp), ?_⟩
                go_big_quiet_on
                simp only [Act.put, Array.setIfInBounds, List.size_toArray, List.length_cons, List.length_nil, Nat.reduceAdd, Nat.reduceLT, ↓reduceDIte, List.set_toArray, List.set_cons_succ, List.set_cons_zero]
                go_big_quiet_want
                refine ⟨.int .i64 (f.names.length : Nat), fun w' hw => (by go_simp), ?_⟩
                go_big_quiet_on
                simp only [Act.put, Array.setIfInBounds, List.size_toArray, List.length_cons, List.length_nil, Nat.reduceAdd, Nat.reduceLT, ↓reduceDIte, List.set_toArray, List.set_cons_succ, List.set_cons_zero]
                go_big_quiet_want
                refine ⟨.bool true, fun w' hw => (by go_simp), ?_⟩
                go_big_quiet_on
                simp only [Act.put, Array.setIfInBounds, List.size_toArray, List.length_cons, List.length_nil, Nat.reduceAdd, Nat.reduceLT, ↓reduceDIte, List.set_toArray, List.set_cons_succ, List.set_cons_zero]
                go_big_quiet_want
                refine ⟨.bool true, fun w' hw => (by go_simp), ?_⟩
                go_big_quiet_on
                simp only [Act.put, Array.setIfInBounds, List.size_toArray, List.length_cons, List.length_nil, Nat.reduceAdd, Nat.reduceLT, ↓reduceDIte, List.set_toArray, List.set_cons_succ, List.set_cons_zero]
                go_big_quiet_skip
                go_big_quiet_skip
                go_big_quiet_skip
                go_big_quiet_skip
                go_big_quiet_want
                refine ⟨.bool true, fun w' hw => (by go_simp), ?_⟩
                go_big_quiet_on
                simp only [Act.put, Array.setIfInBounds, List.size_toArray, List.length_cons, List.length_nil, Nat.reduceAdd, Nat.reduceLT, ↓reduceDIte, List.set_toArray, List.set_cons_succ, List.set_cons_zero]
                go_big_quiet_want
                refine ⟨.bool true, fun w' hw => (by go_simp), ?_⟩
                go_big_quiet_on
                simp only [Act.put, Array.setIfInBounds, List.size_toArray, List.length_cons, List.length_nil, Nat.reduceAdd, Nat.reduceLT, ↓reduceDIte, List.set_toArray, List.set_cons_succ, List.set_cons_zero]
                go_big_quiet_want
                refine ⟨.bool true, fun w' hw => (by go_simp), ?_⟩
                go_big_quiet_on
                simp only [Act.put, Array.setIfInBounds, List.size_toArray, List.length_cons, List.length_nil, Nat.reduceAdd, Nat.reduceLT, ↓reduceDIte, List.set_toArray, List.set_cons_succ, List.set_cons_zero]
                go_big_quiet_want
                refine ⟨.agg #[.int .u8 (rt.op : Nat), .string rt.name, .slice gad' rt.kids.length gcap'], fun w' hw => ?_, ?_⟩
                · obtain ⟨⟨p0, p1, p2⟩, ⟨q0, q1, q2⟩, ⟨r0, r1, r2⟩⟩ := HQ1.out w' hw
                  go_simp
                go_big_quiet_on
                simp only [Act.put, Array.setIfInBounds, List.size_toArray, List.length_cons, List.length_nil, Nat.reduceAdd, Nat.reduceLT, ↓reduceDIte, List.set_toArray, List.set_cons_succ, List.set_cons_zero]
                go_big_quiet_want
                refine ⟨.int .i64 (sz : Nat), fun w' hw => ?_, ?_⟩
                · go_simp
                  exact (HSG1.out w' hw).mono fun e w'' ⟨h1, h2⟩ => ⟨h1, hw.trans h2 (by simp) (by simp)⟩
                go_big_quiet_on
                simp only [Act.put, Array.setIfInBounds, List.size_toArray, List.length_cons, List.length_nil, Nat.reduceAdd, Nat.reduceLT, ↓reduceDIte, List.set_toArray, List.set_cons_succ, List.set_cons_zero]
                go_big_quiet_want
                refine ⟨.agg #[.int .u8 (f.op : Nat), .string f.name, .slice fad f.kids.length fcap], fun w' hw => ?_, ?_⟩
                · obtain ⟨⟨p0, p1, p2⟩, ⟨q0, q1, q2⟩, ⟨r0, r1, r2⟩⟩ := HQ1.out w' hw
                  go_simp
                go_big_quiet_on
                simp only [Act.put, Array.setIfInBounds, List.size_toArray, List.length_cons, List.length_nil, Nat.reduceAdd, Nat.reduceLT, ↓reduceDIte, List.set_toArray, List.set_cons_succ, List.set_cons_zero]
                go_big_quiet_want
                refine ⟨.int .i64 (sz : Nat), fun w' hw => ?_, ?_⟩
                · go_simp
                  exact (HSF1.out w' hw).mono fun e w'' ⟨h1, h2⟩ => ⟨h1, hw.trans h2 (by simp) (by simp)⟩
                go_big_quiet_on
                simp only [Act.put, Array.setIfInBounds, List.size_toArray, List.length_cons, List.length_nil, Nat.reduceAdd, Nat.reduceLT, ↓reduceDIte, List.set_toArray, List.set_cons_succ, List.set_cons_zero]
                go_big_quiet_want
                refine ⟨.bool true, fun w' hw => (by go_simp), ?_⟩
                go_big_quiet_on
                simp only [Act.put, Array.setIfInBounds, List.size_toArray, List.length_cons, List.length_nil, Nat.reduceAdd, Nat.reduceLT, ↓reduceDIte, List.set_toArray, List.set_cons_succ, List.set_cons_zero]
                go_big_quiet_want
                refine ⟨.bool true, fun w' hw => (by go_simp), ?_⟩
                go_big_quiet_on
                simp only [Act.put, Array.setIfInBounds, List.size_toArray, List.length_cons, List.length_nil, Nat.reduceAdd, Nat.reduceLT, ↓reduceDIte, List.set_toArray, List.set_cons_succ, List.set_cons_zero]
                go_big_quiet_want
                refine ⟨.bool true, fun w' hw => (by go_simp), ?_⟩
                go_big_quiet_on
                simp only [Act.put, Array.setIfInBounds, List.size_toArray, List.length_cons, List.length_nil, Nat.reduceAdd, Nat.reduceLT, ↓reduceDIte, List.set_toArray, List.set_cons_succ, List.set_cons_zero]
                refine wpQuiet_nil ?_
                intro W1 hk1
                go_wp2_with fail
                go_meet
                exact ⟨rfl, hk1⟩
              · exact absurd HNE.out hn0
            case rest =>
              obtain ⟨rfl, HX7⟩ := hcut
              go_wp2
              go_ret
              exact ⟨rfl, (HKV.out.trans HVQ.out (H := []) (by simp) (by simp)).trans HX7.out (by simp) (by simp)⟩
/-- TreeBack, at any two trees. -/
theorem treeBack_walk (f g : Tr) (fv gv : Value) (w : World) (hF : IsF w f fv) (hG : IsF w g gv) (fF : f.Fine) (fG : g.Fine) (mF : f.Modest) (mG : g.Modest) (hT : KidsTab w) (hN : NumAt w) :
    Calls Tryz.prog 3 #[.agg #[.int .u8 (f.op : Nat), .string f.name, fv], .agg #[.int .u8 (g.op : Nat), .string g.name, gv]] w fun e w' => e = .returned (.bool true) ∧ Kept [] w w' := by
  rcases Nat.eq_zero_or_pos f.names.length with h | h
  · exact treeBack_none f g fv gv w hF hG fF fG mF mG hT hN h
  · exact treeBack_some f g fv gv w hF hG fF fG mF mG hT hN h
end Go.Proofs.YtjcfgmoppmjnmaaGreatDoor
