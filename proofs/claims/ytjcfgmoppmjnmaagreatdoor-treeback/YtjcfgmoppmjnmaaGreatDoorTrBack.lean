/- TreeBack: the walk, where the tree has a name. (Where it has none the last statement's region, which draws its order, has operations whose guard says no: go_region_held3 does not pass those over.) -/
import Derived.Test.YtjcfgmoppmjnmaaGreatDoorTW
import Derived.Test.YtjcfgmoppmjnmaaGreatDoorTC
import Derived.Laws.IdiomStrings
namespace Go.Proofs.YtjcfgmoppmjnmaaGreatDoor
open Go.RowKit Go.Shelf

/-- What the first loop has made so far. -/
structure BackAt (U : World) (i : Nat) (tv : Value) (wr : World) : Prop where
  kept : Kept [] U wr
  row : wr.ownsRow U.heap.size 9 1 tv i (strs (toL i))
theorem conv4 (W : World) (a b c : Nat) (ha : a < 256) (hb : b < 256) (hc : c < 256) : Sem.run Tryz.prog (convert 32 9 (.slice (some ⟨W.heap.size, 0, none⟩) 4 4)) (W.alloc (.cells #[.int .u8 126, .int .u8 (a : Nat), .int .u8 (b : Nat), .int .u8 (c : Nat)] 5)) = .ok (.string ⟨#[126, UInt8.ofNat a, UInt8.ofNat b, UInt8.ofNat c]⟩) (W.alloc (.cells #[.int .u8 126, .int .u8 (a : Nat), .int .u8 (b : Nat), .int .u8 (c : Nat)] 5)) := by
  refine run_convert_bytes_back (P := Tryz.prog) _ 32 9 5 ⟨W.heap.size, 0, none⟩ 4 [126, UInt8.ofNat a, UInt8.ofNat b, UInt8.ofNat c] (by kernel_rfl) (by kernel_rfl) (by kernel_rfl) (fun j hj => ?_)
  have e : (⟨W.heap.size, 0, none⟩ : Addr).add j = ⟨W.heap.size, j, none⟩ := by simp [Addr.add]; exact fun h => h.symm
  rw [e, cell_of (heap_alloc_new W _)]
  have hj' : j < 4 := hj
  match j, hj' with
  | 0, _ => rfl
  | 1, _ => show some (Value.int .u8 (a : Nat)) = some (Value.int .u8 ((UInt8.ofNat a).toNat : Int)); rw [u8_nat ha]
  | 2, _ => show some (Value.int .u8 (b : Nat)) = some (Value.int .u8 ((UInt8.ofNat b).toNat : Int)); rw [u8_nat hb]
  | 3, _ => show some (Value.int .u8 (c : Nat)) = some (Value.int .u8 ((UInt8.ofNat c).toNat : Int)); rw [u8_nat hc]

theorem endNew (t : Tr) {V Wc : World} {n m : Nat} {kad : Option Addr} {kcap : Nat} (a b : Value) (k : Kept [] V Wc) (h : IsT (fun k => n ≤ k) Wc t (.slice kad m kcap)) :
    Kept [] V (Wc.alloc (.cells #[a, b, .slice kad m kcap] 25)) ∧ For3 (Wc.alloc (.cells #[a, b, .slice kad m kcap] 25)) Wc.heap.size a b (.slice kad m kcap) ∧ IsF (Wc.alloc (.cells #[a, b, .slice kad m kcap] 25)) t (.slice kad m kcap) :=
  ⟨k.alloc _, al0 _ _, IsF.kept (IsT.isF h) (kA _ _)⟩
theorem endOld (t : Tr) {V Wc : World} {B n m : Nat} {kad : Option Addr} {kcap : Nat} (a b : Value) (k : Kept [] V Wc) (f : For3 Wc B (.int .u8 0) (.string ⟨#[]⟩) (.slice none 0 0)) (hV : V.heap.size ≤ B) (h : IsT (fun k => n ≤ k) Wc t (.slice kad m kcap)) (hn : ¬ n ≤ B) :
    Kept [] V (((Wc.setCell ⟨B, 0, none⟩ a).setCell ⟨B, 1, none⟩ b).setCell ⟨B, 2, none⟩ (.slice kad m kcap)) ∧ For3 (((Wc.setCell ⟨B, 0, none⟩ a).setCell ⟨B, 1, none⟩ b).setCell ⟨B, 2, none⟩ (.slice kad m kcap)) B a b (.slice kad m kcap) ∧ IsF (((Wc.setCell ⟨B, 0, none⟩ a).setCell ⟨B, 1, none⟩ b).setCell ⟨B, 2, none⟩ (.slice kad m kcap)) t (.slice kad m kcap) :=
  ⟨kept_set3 k hV _ _ _, f.set _ _ _, IsT.isF (((h.other hn _ _).other hn _ _).other hn _ _)⟩
theorem back_put {U wr w1 : World} {o1 o2 : Obj} {tv v' : Value} {i : Nat} (h : BackAt U i tv wr) (hr : w1.ownsRow U.heap.size 9 1 v' (i + 1) (strs (toL i) ++ [.string (toS i)])) (hg : ((wr.alloc o1).alloc o2).grownBy w1 tv.ownBlock) : BackAt U (i + 1) v' w1 := by
  have hz := h.kept.size
  refine ⟨⟨hg.os.trans h.kept.os, hg.tape.trans h.kept.tape, hg.output.trans h.kept.output, ?_, fun k hk hn => ?_⟩, ?_⟩
  · have := hg.size; simp only [World.size_alloc] at this; omega
  · have hne : some k ≠ tv.ownBlock := fun e => by
      rcases h.row.2 with ⟨rfl, _⟩ | ⟨g, cap, cur, rfl, hb, _⟩
      · cases e
      · have e' : k = g := by simpa [Value.ownBlock] using e
        omega
    rw [hg.block k (by simp only [World.size_alloc]; omega) hne, Below.heap_alloc _ _ _ (by rw [World.size_alloc]; omega), Below.heap_alloc _ _ _ (by omega)]
    exact h.kept.block k hk hn
  · rw [toL_succ]
    simpa [strs] using hr
theorem fine_of_formed (t : Tr) (h : t.every formedB = true) : t.Fine := by
  refine all_of_every (fun x hx => ?_) t h
  have hx' := hx
  unfold formedB at hx
  simp only [Bool.and_eq_true, decide_eq_true_eq] at hx
  refine ⟨by omega, ?_⟩
  by_cases h3 : x.op = 3
  · have h2 := (formed_leaf hx' h3).2
    unfold nameB at h2
    simp only [Bool.and_eq_true, decide_eq_true_eq] at h2
    have : x.name.size = x.name.data.toList.length := rfl
    unfold maxLen
    omega
  · rw [formed_bare hx' h3]; decide
theorem name_short {s : ByteArray} (h2 : nameB s.data.toList = true) : s.size ≤ maxLen := by
  unfold nameB at h2
  simp only [Bool.and_eq_true, decide_eq_true_eq] at h2
  have : s.size = s.data.toList.length := rfl
  unfold maxLen
  omega
theorem renE_formed {t : Tr} {a b : List ByteArray} (h : renE t a b = 0) : t.every formedB = true := by
  unfold renE at h
  split at h
  · assumption
  · cases h
theorem w64 (k : Nat) (h : k ≤ 2000) : IntKind.i64.wrap (k : Int) = (k : Int) := by simp only [IntKind.wrap, IntKind.bits, IntKind.signed]; simp; omega
theorem w64p (k : Nat) (h : k ≤ 2000) : IntKind.i64.wrap (97 + (k : Int)) = 97 + (k : Int) := by simp only [IntKind.wrap, IntKind.bits, IntKind.signed]; simp; omega
theorem w8p (k : Nat) (h : k < 26) : IntKind.u8.wrap (97 + (k : Int)) = 97 + (k : Int) := by simp only [IntKind.wrap, IntKind.bits, IntKind.signed]; simp; omega
theorem parts26 (i : Nat) (hi : i ≤ 1000) : ∃ qa q1 qb q2 qc : Nat, (qa = i % 26 ∧ qb = i / 26 % 26 ∧ qc = i / 676 % 26) ∧ (qa < 26 ∧ qb < 26 ∧ qc < 26) ∧ ((i : Int).tmod 26 = qa ∧ (i : Int) % 26 = qa) ∧ ((i : Int).tdiv 26 = q1 ∧ (i : Int) / 26 = q1) ∧ ((q1 : Int).tmod 26 = qb ∧ (q1 : Int) % 26 = qb) ∧ ((i : Int).tdiv 676 = q2 ∧ (i : Int) / 676 = q2) ∧ ((q2 : Int).tmod 26 = qc ∧ (q2 : Int) % 26 = qc) ∧ (q1 ≤ 1000 ∧ q2 ≤ 1000) := by
  refine ⟨i % 26, i / 26, i / 26 % 26, i / 676, i / 676 % 26, ⟨rfl, rfl, rfl⟩, ⟨by omega, by omega, by omega⟩, ⟨?_, by omega⟩, ⟨?_, by omega⟩, ⟨?_, by omega⟩, ⟨?_, by omega⟩, ⟨?_, by omega⟩, by omega, by omega⟩
  · rw [Int.tmod_eq_emod_of_nonneg (by omega)]; omega
  · rw [Int.tdiv_eq_ediv_of_nonneg (by omega)]; omega
  · rw [Int.tmod_eq_emod_of_nonneg (by omega)]; omega
  · rw [Int.tdiv_eq_ediv_of_nonneg (by omega)]; omega
  · rw [Int.tmod_eq_emod_of_nonneg (by omega)]; omega

set_option maxHeartbeats 4000000 in
set_option maxRecDepth 20000 in
theorem treeBack_some (f g : Tr) (fv gv : Value) (w : World) (hF : IsF w f fv) (hG : IsF w g gv) (fF : f.Fine) (fG : g.Fine) (mF : f.Modest) (mG : g.Modest) (hT : KidsTab w) (hN : NumAt w) (hne : 0 < f.names.length) :
    Calls Tryz.prog 3 #[.agg #[.int .u8 (f.op : Nat), .string f.name, fv], .agg #[.int .u8 (g.op : Nat), .string g.name, gv]] w fun e w' => e = .returned (.bool true) ∧ Kept [] w w' := by
  obtain ⟨fad, fcap, rfl⟩ := hF.slice
  obtain ⟨gad, gcap, rfl⟩ := hG.slice
  obtain ⟨V, hV⟩ : ∃ V, (w.alloc (.cells #[.int .u8 (f.op : Nat), .string f.name, .slice fad f.kids.length fcap] 25)).alloc (.cells #[.int .u8 (g.op : Nat), .string g.name, .slice gad g.kids.length gcap] 25) = V := ⟨_, rfl⟩
  have kV : Kept [] w V := by rw [← hV]; exact ((Kept.refl [] w).alloc _).alloc _
  have HB0 : Hid (∀ W, Kept [] V W → W.cell? ⟨w.heap.size, 0, none⟩ = some (.int .u8 (f.op : Nat)) ∧ W.cell? ⟨w.heap.size, 1, none⟩ = some (.string f.name) ∧ W.cell? ⟨w.heap.size, 2, none⟩ = some (.slice fad f.kids.length fcap)) := fun W k => box_cells (V := V) (by rw [← hV]; exact alUp (al0 _ _) _) k
  have HB1 : Hid (∀ W, Kept [] V W → W.cell? ⟨w.heap.size + 1, 0, none⟩ = some (.int .u8 (g.op : Nat)) ∧ W.cell? ⟨w.heap.size + 1, 1, none⟩ = some (.string g.name) ∧ W.cell? ⟨w.heap.size + 1, 2, none⟩ = some (.slice gad g.kids.length gcap)) := fun W k => box_cells (V := V) (by rw [← hV]; exact al1 _ _ _) k
  have HIF : Hid (∀ W, Kept [] V W → IsF W f (.slice fad f.kids.length fcap)) := fun W k => (hF.kept kV).kept k
  have HIG : Hid (∀ W, Kept [] V W → IsF W g (.slice gad g.kids.length gcap)) := fun W k => (hG.kept kV).kept k
  have HAW : Hid _ := fun (_ : Unit) => awake_any V (hT.kept kV) (hN.kept kV)
  have HMU : Hid (∀ t ∈ [f, g], t.Modest) := fun t ht => by
    rcases List.mem_cons.1 ht with rfl | ht
    · exact mF
    · obtain rfl := List.mem_singleton.1 ht; exact mG
  have HKV : Hid (Kept [] w V) := kV
  have HV : Hid _ := hV
  have HFF : Hid (f.Fine) := fF
  have HFG : Hid (g.Fine) := fG
  have HT : Hid (∀ W, Kept [] V W → KidsTab W) := fun W k => (hT.kept kV).kept k
  have HNE : Hid (0 < f.names.length) := hne
  clear hV kV hF hG hT hN fF fG mF mG hne
  go_enter Tryz.func3, Tryz.ntmps3
  go_upto_region 3 with (first
    | (go_at_call 4; rw [HV.out]; refine (HAW.out ()).mono ?_; rintro e W1 ⟨rfl, hk⟩; obtain ⟨a0, a1, a2⟩ := HB0.out _ hk; obtain ⟨b0, b1, b2⟩ := HB1.out _ hk; have HK : Hid (Kept [] V W1) := hk; clear hk)
    | (go_at_call 5; refine (much_any [f, g] _ _ (isF_pair (al0 _ _) (HIF.out _ (HK.out.alloc _)) (HIG.out _ (HK.out.alloc _))) HMU.out (by simp)).mono ?_; rintro e W2 ⟨n, rfl, hn, hk⟩; have HK2 : Hid (Kept [] V W2) := (HK.out.alloc _).trans hk (by simp) (by simp); have HN : Hid _ := hn; clear hk hn HK a0 a1 a2 b0 b1 b2))
  rcases Nat.lt_or_ge 1048576 n with hb | hb
  · go_wp2
    go_ret
    exact ⟨rfl, HKV.out.trans HK2.out (by simp) (by simp)⟩
  rw [show decide (1048576 < n) = false from decide_eq_false (by omega)]
  have hsz := HN.out hb
  have hsf : f.size ≤ 1048576 := Nat.le_trans f.size_wsum (hsz f (by simp))
  have hsg : g.size ≤ 1048576 := Nat.le_trans g.size_wsum (hsz g (by simp))
  have hdf : f.depth ≤ 1048576 := Nat.le_trans f.depth_size hsf
  have hdg : g.depth ≤ 1048576 := Nat.le_trans g.depth_size hsg
  have HR1 : Hid _ := fun W (k : Kept [] V W) => right_any f _ W (HIF.out W k) (by omega) (by omega) HFF.out (HT.out W k)
  have HR2 : Hid _ := fun W (k : Kept [] V W) => rightPast_any f _ W (HIF.out W k) (by omega) (by omega) HFF.out (HT.out W k)
  obtain ⟨x, hx⟩ : ∃ x, rightN pastB f = x := ⟨_, rfl⟩
  obtain ⟨y, hy⟩ : ∃ y, rightN futureB f = y := ⟨_, rfl⟩
  simp only [hx] at HR1
  simp only [hy] at HR2
  have HGO : Hid (x = 0 ∨ y = 0 → f.every formedB = true ∧ f.size ≤ 1000 ∧ f.depth ≤ 100) := fun h => by
    rcases h with rfl | rfl
    · exact right_formed hx
    · exact right_formed hy
  obtain ⟨a0, a1, a2⟩ := HB0.out _ HK2.out
  clear hsz HN HMU HAW HV hx hy
  by_cases hxy : x = 0 ∨ y = 0
  rotate_left
  · have hx1 : ((x : Int) != 0) = true := by rw [bne_iff_ne]; omega
    have hy1 : ((y : Int) != 0) = true := by rw [bne_iff_ne]; omega
    go_wp2_with (first
      | (go_at_call 6; refine (HR1.out _ HK2.out).mono ?_; rintro e W3 ⟨rfl, hk⟩; have HK3 : Hid (Kept [] V W3) := HK2.out.trans hk (by simp) (by simp); clear hk a0 a1 a2; obtain ⟨a0, a1, a2⟩ := HB0.out _ HK3.out)
      | (go_at_call 7; refine (HR2.out _ HK3.out).mono ?_; rintro e W4 ⟨rfl, hk⟩; have HK4 : Hid (Kept [] V W4) := HK3.out.trans hk (by simp) (by simp); clear hk))
    go_ret
    exact ⟨rfl, HKV.out.trans HK4.out (by simp) (by simp)⟩
  obtain ⟨he, h1000, h100⟩ := HGO.out hxy
  go_cut [38] from 28 to 38 (fun s wx => s = .bool false ∧ Hid (Kept [] V wx))
  case first =>
    by_cases hx0 : x = 0
    · have hx1 : ((x : Int) != 0) = false := by simp only [bne_eq_false_iff_eq]; omega
      go_wp2_with (go_at_call 6; refine (HR1.out _ HK2.out).mono ?_; rintro e W3 ⟨rfl, hk⟩; have HK3 : Hid (Kept [] V W3) := HK2.out.trans hk (by simp) (by simp); clear hk a0 a1 a2)
      go_meet
      exact ⟨rfl, HK3.out⟩
    · have hx1 : ((x : Int) != 0) = true := by rw [bne_iff_ne]; omega
      have hy1 : ((y : Int) != 0) = false := by simp only [bne_eq_false_iff_eq]; omega
      go_wp2_with (first
        | (go_at_call 6; refine (HR1.out _ HK2.out).mono ?_; rintro e W3 ⟨rfl, hk⟩; have HK3 : Hid (Kept [] V W3) := HK2.out.trans hk (by simp) (by simp); clear hk a0 a1 a2; obtain ⟨a0, a1, a2⟩ := HB0.out _ HK3.out)
        | (go_at_call 7; refine (HR2.out _ HK3.out).mono ?_; rintro e W4 ⟨rfl, hk⟩; have HK4 : Hid (Kept [] V W4) := HK3.out.trans hk (by simp) (by simp); clear hk))
      go_meet
      exact ⟨rfl, HK4.out⟩
  case rest =>
  obtain ⟨rfl, HX⟩ := hcut
  have HE : Hid _ := he
  have HNM : Hid _ := fun W (k : Kept [] V W) => names_any f _ W (HIF.out W k) (by omega) HFF.out
  clear a0 a1 a2 HK2 HR1 HR2 HGO hxy he
  obtain ⟨a0, a1, a2⟩ := HB0.out _ HX.out
  have hnl : f.names.length ≤ 1000 := by
    have := namesOf_len (f.parts [])
    rw [Tr.parts_length] at this
    exact Nat.le_trans this h1000
  go_wp2_with (go_at_call 8; refine (HNM.out _ HX.out).mono ?_; rintro e U ⟨v, rfl, hrow, hk⟩; have HS : Hid (StrsAt U f.names v) := strs_of_row hrow; obtain ⟨nad, ncap, rfl⟩ := own_slice hrow; have HU : Hid (Kept [] V U) := HX.out.trans hk (by simp) (by simp); clear hk hrow HX HNM a0 a1 a2)
  go_loopw [8, 9, 10, 11] (fun v8 v9 _ _ wr => ∃ i : Nat, v9 = .int .i64 (i : Nat) ∧ i ≤ f.names.length ∧ Hid (BackAt U i v8 wr)) (fun _ v9 _ _ _ => f.names.length - (intOf v9).toNat)
  case atStart => exact ⟨0, rfl, Nat.zero_le _, Kept.refl [] U, World.ownsRow_nil _ _ _ _⟩
  case round =>
    obtain ⟨i, rfl, hi, HR⟩ := hrel
    by_cases hlt : i < f.names.length
    · have hli : (i : Int) < (f.names.length : Int) := by omega
      obtain ⟨qa, q1, qb, q2, qc, hq, ⟨la, lb, lc⟩, ⟨ta, ea⟩, ⟨t1, e1⟩, ⟨tb, eb⟩, ⟨t2, e2⟩, ⟨tc, ec⟩, ⟨l1, l2⟩⟩ := parts26 i (by omega)
      have HQ : Hid _ := hq
      have wa := w8p qa la
      have wb := w8p qb lb
      have wc' := w8p qc lc
      have xa := w64 qa (by omega)
      have xb := w64 qb (by omega)
      have xc := w64 qc (by omega)
      have x1 := w64 q1 (by omega)
      have x2 := w64 q2 (by omega)
      have ya := w64p qa (by omega)
      have yb := w64p qb (by omega)
      have yc := w64p qc (by omega)
      have hcv : Sem.run Tryz.prog (convert 32 9 (.slice (some ⟨wr.heap.size, 0, none⟩) 4 4)) (wr.alloc (.cells #[.int .u8 126, .int .u8 (97 + (qa : Int)), .int .u8 (97 + (qb : Int)), .int .u8 (97 + (qc : Int))] 5)) = .ok (.string (toS i)) (wr.alloc (.cells #[.int .u8 126, .int .u8 (97 + (qa : Int)), .int .u8 (97 + (qb : Int)), .int .u8 (97 + (qc : Int))] 5)) := by
        have h := conv4 wr (97 + qa) (97 + qb) (97 + qc) (by omega) (by omega) (by omega)
        rw [show (⟨#[126, UInt8.ofNat (97 + qa), UInt8.ofNat (97 + qb), UInt8.ofNat (97 + qc)]⟩ : ByteArray) = toS i from by rw [hq.1, hq.2.1, hq.2.2]; rfl] at h
        exact h
      obtain ⟨i0, hi0, hz0⟩ := Option.map_eq_some_iff.1 Tryz.infoStr
      simp only [Prod.mk.injEq] at hz0
      obtain ⟨hz1, hz2, hz3⟩ := hz0
      obtain ⟨ts, hts⟩ : ∃ ts, toS i = ts := ⟨_, rfl⟩
      rw [hts] at hcv
      have HTS : Hid _ := hts
      have hrow0 := HR.out.row
      have HRW : Hid _ := fun (_ : Unit) => hrow0
      clear hq hts hrow0
      go_upto_region 11 with (at_builtin; refine wpList_append_own _ rfl _ _ 30 rfl U.heap.size 9 i0 _ 1 16 (by kernel_rfl) hi0 hz1 hz2 hz3 rfl (by decide) _ _ _ rfl (own_kept (own_kept (HRW.out ()) (kA _ _)) (kA _ _)) ⟨wr.heap.size + 1, 0, none⟩ 1 1 [.string ts] rfl rfl (World.news_of_block (cs := #[.string ts]) (t := 9) (fr := (0, 0)) (al1 wr _ _)) (by simp [Value.oneCell']) (by unfold maxLen; omega) (by omega) (by have := HR.out.kept.size; simp; omega) ?_; intro v' Y hown' hgrow hnil; have HOW : Hid _ := fun (_ : Unit) => hown'; have HGR : Hid _ := fun (_ : Unit) => hgrow; clear hnil hown' hgrow)
      have hba : BackAt U (i + 1) v' Y := back_put HR.out (by rw [HTS.out]; exact HOW.out ()) (HGR.out ())
      have HBA : Hid (BackAt U (i + 1) v' Y) := hba
      have HKY : Hid (Kept [] V Y) := HU.out.trans hba.kept (by simp) (by simp)
      clear hcv hz1 hz2 hz3 hi0 hba HRW HOW HGR ta ea t1 e1 tb eb t2 e2 tc ec wa wb wc' xa xb xc x1 x2 ya yb yc HQ HTS
      obtain ⟨ad', cap', e', hsc⟩ := HS.out.kept HBA.out.kept
      cases e'
      obtain ⟨nb, noff, rfl, hcell⟩ := hsc.resolve_left (by omega)
      obtain ⟨nm, hnm⟩ : ∃ nm, f.names[i] = nm := ⟨_, rfl⟩
      have hc0 := hcell i hlt
      rw [hnm] at hc0
      have hmem : nm ∈ f.names := by rw [← hnm]; exact List.getElem_mem _
      obtain ⟨hpe, hpt⟩ := put_self HE.out h1000 h100 hmem
      have hnsz : nm.size ≤ maxLen := by
        have h2 := names_name HE.out hmem
        unfold nameB at h2
        simp only [Bool.and_eq_true, decide_eq_true_eq] at h2
        have : nm.size = nm.data.toList.length := rfl
        unfold maxLen
        omega
      have HPU : Hid (∀ W, Kept [] V W → Calls Tryz.prog 9 #[.agg #[.int .u8 (f.op : Nat), .string f.name, .slice fad f.kids.length fcap], .string nm, .agg #[.int .u8 3, .string nm, .slice none 0 0]] W fun e w' => ∃ kad kcap, e = .returned (.tuple #[.agg #[.int .u8 (f.op : Nat), .string f.name, .slice kad f.kids.length kcap], .int .i64 0]) ∧ IsT (fun k => W.heap.size ≤ k) w' f (.slice kad f.kids.length kcap) ∧ Kept [] W w') := fun W k => by
        have h := put_any f _ nm ⟨3, nm, []⟩ (.slice none 0 0) W (HIF.out W k) (IsT.leaf _ _ rfl _ _) (by omega) (by rw [(leaf_size nm).1]; omega) (by rw [(leaf_size nm).2]; omega) (by omega) HFF.out (leaf_fine nm hnsz) hnsz (HT.out W k)
        rw [hpe, hpt] at h
        exact h
      have HCM : Hid _ := fun W (k : Kept [] V W) xv (hx : IsF W f xv) => cmp_any f f xv _ W hx (HIF.out W k) (by omega) (by omega)
      simp only [show cmpT f f = 0 from preT.self f] at HCM
      have HS4 : Hid (∀ W, Kept [] Y W → (W.cell? ⟨w.heap.size, 0, none⟩ = some (.int .u8 (f.op : Nat)) ∧ W.cell? ⟨w.heap.size, 1, none⟩ = some (.string f.name) ∧ W.cell? ⟨w.heap.size, 2, none⟩ = some (.slice fad f.kids.length fcap)) ∧ W.cell? ⟨nb, noff + i, none⟩ = some (.string nm)) := fun W k => ⟨HB0.out W (HKY.out.trans k (by simp) (by simp)), cell_kept0 k hc0⟩
      clear hsc hcell hc0 hnm hmem hpe hpt hnsz
      go_cut [10, 11] from 67 to 80 (fun s10 s11 wx => ∃ B kad kcap, s10 = .pointer (some ⟨B, 0, none⟩) ∧ s11 = .int .i64 0 ∧ Hid (Kept [] Y wx ∧ For3 wx B (.int .u8 (f.op : Nat)) (.string f.name) (.slice kad f.kids.length kcap) ∧ IsF wx f (.slice kad f.kids.length kcap)))
      case first =>
        obtain ⟨⟨a0, a1, a2⟩, a3⟩ := HS4.out _ (Kept.refl [] Y)
        go_region_held3 (fun w' => (w'.cell? ⟨w.heap.size, 0, none⟩ = some (.int .u8 (f.op : Nat)) ∧ w'.cell? ⟨w.heap.size, 1, none⟩ = some (.string f.name) ∧ w'.cell? ⟨w.heap.size, 2, none⟩ = some (.slice fad f.kids.length fcap)) ∧ w'.cell? ⟨nb, noff + i, none⟩ = some (.string nm))
          ((refine HS4.out _ ?_; (repeat (first | with_reducible exact Kept.refl [] _ | with_reducible refine Kept.drew ?_ | with_reducible refine Kept.alloc ?_ _ | with_reducible refine Kept.trans (F := []) (G := []) (H := []) ?_ HKc.out (by simp) (by simp) | with_reducible refine Kept.trans (F := []) (G := []) (H := []) ?_ HKa.out (by simp) (by simp) | refine Kept.setCell ?_ (Or.inr (by dsimp only; omega)) _))))
          (first
          | (go_at_call 10; refine (exProp _ _ _ (Kept.refl [] _)).mono ?_; rintro e Wa ⟨rfl, ka⟩; obtain ⟨hca, hfa⟩ := bcell ka.below; have hza := ka.size; (try simp only [drew_heap] at hza); (try simp only [World.size_alloc] at hza); (try have qa0 : Y.heap.size < Wa.heap.size := (by omega));  have HKa : Hid _ := ka; clear ka)
          | (go_at_call 9; refine (HPU.out _ (by (repeat (first | with_reducible exact HKY.out | with_reducible refine Kept.drew ?_ | with_reducible refine Kept.alloc ?_ _ | with_reducible refine Kept.trans (F := []) (G := []) (H := []) ?_ HKc.out (by simp) (by simp) | with_reducible refine Kept.trans (F := []) (G := []) (H := []) ?_ HKa.out (by simp) (by simp))))).mono ?_; rintro e Wc ⟨kad, kcap, rfl, hI, kc⟩; obtain ⟨hcc, hfc⟩ := bcell kc.below; have hzc := kc.size; (try simp only [drew_heap] at hzc); (try simp only [World.size_alloc] at hzc); (try have qc0 : Y.heap.size < Wc.heap.size := (by omega)); (try have qc1 : Wa.heap.size < Wc.heap.size := (by omega));  have HKc : Hid _ := kc; have HIp : Hid _ := fun (_ : Unit) => hI; clear kc hI))
        all_goals (go_wp2_with fail; go_meet)
        all_goals first
          | exact ⟨Wc.heap.size, kad, kcap, rfl, rfl, endNew f _ _ (by (repeat (first | with_reducible exact Kept.refl [] _ | with_reducible refine Kept.drew ?_ | with_reducible refine Kept.alloc ?_ _ | with_reducible refine Kept.trans (F := []) (G := []) (H := []) ?_ HKc.out (by simp) (by simp) | with_reducible refine Kept.trans (F := []) (G := []) (H := []) ?_ HKa.out (by simp) (by simp)))) (HIp.out ())⟩
          | exact ⟨Wa.heap.size, kad, kcap, rfl, rfl, endOld f _ _ (by (repeat (first | with_reducible exact Kept.refl [] _ | with_reducible refine Kept.drew ?_ | with_reducible refine Kept.alloc ?_ _ | with_reducible refine Kept.trans (F := []) (G := []) (H := []) ?_ HKc.out (by simp) (by simp) | with_reducible refine Kept.trans (F := []) (G := []) (H := []) ?_ HKa.out (by simp) (by simp)))) (by (repeat (first | with_reducible exact For3.new _ _ _ _ | with_reducible refine For3.drew ?_ | with_reducible refine For3.up1 ?_ _ | with_reducible refine For3.kept ?_ HKc.out | with_reducible refine For3.kept ?_ HKa.out))) (by omega) (HIp.out ()) (by first | omega | (simp only [drew_heap]; omega) | (simp only [World.size_alloc]; omega) | (simp only [drew_heap, World.size_alloc]; omega))⟩
          | exact ⟨Y.heap.size, kad, kcap, rfl, rfl, endOld f _ _ (by (repeat (first | with_reducible exact Kept.refl [] _ | with_reducible refine Kept.drew ?_ | with_reducible refine Kept.alloc ?_ _ | with_reducible refine Kept.trans (F := []) (G := []) (H := []) ?_ HKc.out (by simp) (by simp) | with_reducible refine Kept.trans (F := []) (G := []) (H := []) ?_ HKa.out (by simp) (by simp)))) (by (repeat (first | with_reducible exact For3.new _ _ _ _ | with_reducible refine For3.drew ?_ | with_reducible refine For3.up1 ?_ _ | with_reducible refine For3.kept ?_ HKc.out | with_reducible refine For3.kept ?_ HKa.out))) (by omega) (HIp.out ()) (by first | omega | (simp only [drew_heap]; omega) | (simp only [World.size_alloc]; omega) | (simp only [drew_heap, World.size_alloc]; omega))⟩
      case rest =>
        obtain ⟨B, kad, kcap, rfl, rfl, HX⟩ := hcut
        obtain ⟨⟨a0, a1, a2⟩, _⟩ := HS4.out _ HX.out.1
        obtain ⟨d0, d1, d2, _⟩ := HX.out.2.1.cells
        go_wp2_with (go_at_call 11; refine (HCM.out _ (HKY.out.trans HX.out.1 (by simp) (by simp)) _ HX.out.2.2).mono ?_; rintro e W9 ⟨rfl, hk9⟩; have HK9 : Hid (Kept [] Y W9) := HX.out.1.trans hk9.kept (by simp) (by simp); clear hk9)
        go_roundw
        case rel => exact ⟨i + 1, by go_num, by omega, HBA.out.kept.trans HK9.out (by simp) (by simp), own_kept HBA.out.row HK9.out⟩
        case measure => simp [intOf]; omega
    · obtain rfl : i = f.names.length := by omega
      have hli : ¬ ((f.names.length : Int) < (f.names.length : Int)) := by omega
      obtain ⟨L, hL⟩ : ∃ L, toL f.names.length = L := ⟨_, rfl⟩
      have hLl : L.length = f.names.length := by rw [← hL]; exact toL_len _
      have hrow := HR.out.row
      rw [hL] at hrow
      have HTO : Hid (∀ W, Kept [] wr W → StrsAt W L u8) := fun W k => (strs_of_row (by rw [hLl]; exact hrow)).kept k
      have HNA : Hid (∀ W, Kept [] wr W → StrsAt W f.names (.slice nad f.names.length ncap)) := fun W k => (HS.out.kept HR.out.kept).kept k
      have HKR : Hid (Kept [] V wr) := HU.out.trans HR.out.kept (by simp) (by simp)
      obtain ⟨tt, htt⟩ : ∃ tt : ByteArray, (⟨#[126, 126]⟩ : ByteArray) = tt := ⟨_, rfl⟩
      obtain ⟨pe, hpe⟩ : ∃ pe, putE f tt g = pe := ⟨_, rfl⟩
      obtain ⟨pt, hpt⟩ : ∃ pt, putT f tt g = pt := ⟨_, rfl⟩
      have httn : nameB tt.data.toList = true := by rw [← htt]; exact tt_name
      have htts : tt.size ≤ maxLen := by rw [← htt]; decide
      have HPU : Hid _ := fun W (k : Kept [] V W) => put_any f _ tt g _ W (HIF.out W k) (HIG.out W k) (by omega) (by omega) (by omega) (by omega) HFF.out HFG.out htts (HT.out W k)
      simp only [hpe, hpt] at HPU
      rw [← htt] at HPU
      have HR3 : Hid _ := fun W (k : Kept [] V W) => right_any g _ W (HIG.out W k) (by omega) (by omega) HFG.out (HT.out W k)
      have HR4 : Hid _ := fun W (k : Kept [] V W) => rightPast_any g _ W (HIG.out W k) (by omega) (by omega) HFG.out (HT.out W k)
      obtain ⟨x', hx'⟩ : ∃ x', rightN pastB g = x' := ⟨_, rfl⟩
      obtain ⟨y', hy'⟩ : ∃ y', rightN futureB g = y' := ⟨_, rfl⟩
      simp only [hx'] at HR3
      simp only [hy'] at HR4
      have HPS : Hid (x' = 0 ∨ y' = 0 → tt ∉ f.names → pe = 0 ∧ pt = f) := fun hr hm => by
        rw [← hpe, ← hpt]
        exact put_none HE.out (by rcases hr with rfl | rfl; exact (right_formed hx').1; exact (right_formed hy').1) httn h1000 h100 hm
      have HTT : Hid _ := htt
      have HLL : Hid _ := hLl
      have HLD : Hid (toL f.names.length = L) := hL
      have hu8 : ∃ tad tcap, u8 = .slice tad f.names.length tcap := by
        obtain ⟨tad, tcap, e, _⟩ := HTO.out wr (Kept.refl [] wr)
        rw [hLl] at e
        exact ⟨tad, tcap, e⟩
      obtain ⟨tad, tcap, rfl⟩ := hu8
      clear hrow hL hLl hpe hpt httn htts hx' hy' htt HS HR HU
      obtain ⟨a0, a1, a2⟩ := HB0.out _ HKR.out
      obtain ⟨b0, b1, b2⟩ := HB1.out _ HKR.out
      go_upto_region 15 with (go_at_call 9; refine (HPU.out _ HKR.out).mono ?_; rintro e P1 ⟨pad, pcap, rfl, hIp, hkp⟩; have HIP : Hid _ := fun (_ : Unit) => hIp; have HKP : Hid (Kept [] wr P1) := hkp; clear hIp hkp a0 a1 a2 b0 b1 b2)
      obtain ⟨Z, hZ⟩ : ∃ Z, P1.alloc (.cells #[.int .u8 (pt.op : Nat), .string pt.name, .slice pad pt.kids.length pcap] 25) = Z := ⟨_, rfl⟩
      have kPZ : Kept [] P1 Z := by rw [← hZ]; exact kA _ _
      have kwZ : Kept [] wr Z := HKP.out.trans kPZ (by simp) (by simp)
      have kVZ : Kept [] V Z := HKR.out.trans kwZ (by simp) (by simp)
      have HVZ : Hid (Kept [] V Z) := kVZ
      have HZB : Hid (∀ W, Kept [] Z W → W.cell? ⟨P1.heap.size, 0, none⟩ = some (.int .u8 (pt.op : Nat)) ∧ W.cell? ⟨P1.heap.size, 1, none⟩ = some (.string pt.name) ∧ W.cell? ⟨P1.heap.size, 2, none⟩ = some (.slice pad pt.kids.length pcap)) := fun W k => box_cells (V := Z) (by rw [← hZ]; exact For3.new _ _ _ _) k
      have HZI : Hid (∀ W, Kept [] Z W → IsF W pt (.slice pad pt.kids.length pcap)) := fun W k => IsF.kept (IsF.kept (IsT.isF (HIP.out ())) kPZ) k
      have HZT : Hid (∀ W, Kept [] Z W → StrsAt W L (.slice tad f.names.length tcap)) := fun W k => (HTO.out Z kwZ).kept k
      have HZN : Hid (∀ W, Kept [] Z W → StrsAt W f.names (.slice nad f.names.length ncap)) := fun W k => (HNA.out Z kwZ).kept k
      rw [hZ]
      clear hZ kPZ kwZ kVZ HIP HKP HTO HNA HPU
      obtain ⟨rb, hrb⟩ : ∃ rb : Bool, decide (x' = 0 ∨ y' = 0) = rb := ⟨_, rfl⟩
      obtain ⟨b0, b1, b2⟩ := HB1.out _ HVZ.out
      go_cut [14] from 95 to 102 (fun s wx => s = .bool rb ∧ Hid (Kept [] Z wx))
      case first =>
        by_cases hx0 : x' = 0
        · have hx1 : ((x' : Int) == 0) = true := by rw [beq_iff_eq]; omega
          have HRT : Hid (true = rb) := by show true = rb; rw [← hrb]; exact (decide_eq_true (.inl hx0)).symm
          go_wp2_with (go_at_call 6; refine (HR3.out _ HVZ.out).mono ?_; rintro e W3 ⟨rfl, hk⟩; have HK3 : Hid (Kept [] Z W3) := hk; clear hk b0 b1 b2)
          go_meet
          exact ⟨congrArg Value.bool HRT.out, HK3.out⟩
        · have hx1 : ((x' : Int) == 0) = false := by rw [beq_eq_false_iff_ne]; omega
          have hr1 : ((y' : Int) == 0) = rb := by
            rw [← hrb]
            by_cases hy0 : y' = 0
            · rw [decide_eq_true (.inr hy0), beq_iff_eq]; omega
            · rw [decide_eq_false (fun h => h.elim hx0 hy0), beq_eq_false_iff_ne]; omega
          go_wp2_with (first
            | (go_at_call 6; refine (HR3.out _ HVZ.out).mono ?_; rintro e W3 ⟨rfl, hk⟩; have HK3 : Hid (Kept [] Z W3) := hk; clear hk b0 b1 b2; obtain ⟨b0, b1, b2⟩ := HB1.out _ (HVZ.out.trans HK3.out (by simp) (by simp)))
            | (go_at_call 7; refine (HR4.out _ (HVZ.out.trans HK3.out (by simp) (by simp))).mono ?_; rintro e W4 ⟨rfl, hk⟩; have HK4 : Hid (Kept [] Z W4) := HK3.out.trans hk (by simp) (by simp); clear hk))
          go_meet
          exact ⟨rfl, HK4.out⟩
      case rest =>
      obtain ⟨rfl, HX⟩ := hcut
      have HRB : Hid _ := hrb
      clear HR3 HR4 b0 b1 b2 hrb
      go_wp2
      go_loopw [15, 16, 17, 18] (fun v15 v16 v17 _ w2 => ∃ (i : Nat) (th nw : Bool), v17 = .int .i64 (i : Nat) ∧ i ≤ f.names.length ∧ v15 = .bool th ∧ v16 = .bool nw ∧ Hid (Kept [] Z w2 ∧ (th = true ↔ tt ∈ f.names.take i) ∧ (nw = true → ∀ s ∈ L, s ∉ f.names.take i))) (fun _ _ v17 _ _ => f.names.length - (intOf v17).toNat)
      case atStart => exact ⟨0, false, true, rfl, Nat.zero_le _, rfl, rfl, HX.out, by simp, fun _ s _ => by simp⟩
      case round =>
        rename World => w2
        obtain ⟨i, th, nw, rfl, hi, rfl, rfl, HW⟩ := hrel
        by_cases hlt : i < f.names.length
        · have hli2 : (i : Int) < (f.names.length : Int) := by omega
          obtain ⟨na', nc', e1, hnc⟩ := HZN.out _ HW.out.1
          cases e1
          obtain ⟨nb, noff, rfl, hncell⟩ := hnc.resolve_left (by omega)
          obtain ⟨ta', tc', e2, htc⟩ := HZT.out _ HW.out.1
          rw [HLL.out] at e2
          cases e2
          obtain ⟨tb, toff, rfl, htcell⟩ := htc.resolve_left (by have := HLL.out; omega)
          obtain ⟨nm, hnm⟩ : ∃ nm, f.names[i] = nm := ⟨_, rfl⟩
          have hc0 := hncell i hlt
          rw [hnm] at hc0
          have HNM' : Hid _ := hnm
          have HCN : Hid (∀ W, Kept [] w2 W → W.cell? ⟨nb, noff + i, none⟩ = some (.string nm)) := fun W k => cell_kept0 k hc0
          have HCT : Hid (∀ W, Kept [] w2 W → ∀ k (h : k < L.length), W.cell? ⟨tb, toff + k, none⟩ = some (.string L[k])) := fun W q k h => cell_kept0 q (htcell k h)
          have HTK : Hid (∀ s, s ∈ f.names.take (i + 1) ↔ s ∈ f.names.take i ∨ s = nm) := fun s => by
            rw [List.take_succ_eq_append_getElem hlt, List.mem_append, List.mem_singleton, hnm]
          clear hnc htc hncell htcell hnm
          obtain ⟨th', hth⟩ : ∃ th' : Bool, (th || decide (nm = tt)) = th' := ⟨_, rfl⟩
          have HTH : Hid _ := hth
          go_upto_region 21 with fail
          go_cut [15] from 109 to 116 (fun s wx => s = .bool th' ∧ wx = w2)
          case first =>
            cases th with
            | true =>
              have HT1 : Hid (true = th') := HTH.out
              clear hth
              go_wp2_with fail
              go_meet
              exact ⟨congrArg Value.bool HT1.out, rfl⟩
            | false =>
              have he : (nm.toList == (⟨#[126, 126]⟩ : ByteArray).toList) = th' := by
                have h1 : decide (nm = tt) = th' := by rw [← HTH.out, Bool.false_or]
                rw [← h1, HTT.out, ByteArray.toList_eq, ByteArray.toList_eq]
                by_cases q : nm = tt
                · rw [decide_eq_true q]; exact ba_beq.2 q
                · rw [decide_eq_false q, Bool.eq_false_iff]; exact fun h => q (ba_beq.1 h)
              have he2 : (nm.toList == [126, 126]) = th' := by rw [← he, ByteArray.toList_eq ⟨#[126, 126]⟩]
              clear hth
              go_wp2_with fail
              go_meet
              exact ⟨by first | rfl | exact congrArg Value.bool he | exact congrArg Value.bool he2, rfl⟩
          case rest =>
          obtain ⟨rfl, hw2⟩ := hcut
          rw [hw2]
          clear hw2 hth hc0
          go_wp2
          go_loopw [16, 18] (fun v16 v18 w3 => ∃ (k : Nat) (nw' : Bool), v18 = .int .i64 (k : Nat) ∧ k ≤ f.names.length ∧ v16 = .bool nw' ∧ Hid (Kept [] w2 w3 ∧ (nw' = true → nw = true ∧ ∀ j (h : j < L.length), j < k → L[j] ≠ nm))) (fun _ v18 _ => f.names.length - (intOf v18).toNat)
          case atStart => exact ⟨0, nw, rfl, Nat.zero_le _, rfl, Kept.refl [] w2, fun h => ⟨h, fun j _ hj => by omega⟩⟩
          case round =>
            rename World => w3
            obtain ⟨k, nw', rfl, hk, rfl, HW3⟩ := hrel
            by_cases hlk : k < f.names.length
            · have hlk2 : (k : Int) < (f.names.length : Int) := by omega
              have hkL : k < L.length := by have := HLL.out; omega
              obtain ⟨ts, hts⟩ : ∃ ts, L[k] = ts := ⟨_, rfl⟩
              have c0 := HCN.out _ HW3.out.1
              have c1 := HCT.out _ HW3.out.1 k hkL
              rw [hts] at c1
              have HTS : Hid _ := hts
              have HS2 : Hid (∀ W, Kept [] w3 W → W.cell? ⟨nb, noff + i, none⟩ = some (.string nm) ∧ W.cell? ⟨tb, toff + k, none⟩ = some (.string ts)) := fun W q => ⟨cell_kept0 q c0, cell_kept0 q c1⟩
              clear hts
              go_upto_region 25 with fail
              have HGO3 : Hid (∀ (nn : Bool) W, (nn = true → nw' = true ∧ ts ≠ nm) → Kept [] w3 W → ∃ (k' : Nat) (nw2 : Bool), (Value.int .i64 ((k : Int) + 1) = .int .i64 (k' : Nat)) ∧ k' ≤ f.names.length ∧ (Value.bool nn = .bool nw2) ∧ Hid (Kept [] w2 W ∧ (nw2 = true → nw = true ∧ ∀ j (h : j < L.length), j < k' → L[j] ≠ nm))) := fun nn W hnn hkW => by
                refine ⟨k + 1, nn, rfl, by omega, rfl, HW3.out.1.trans hkW (by simp) (by simp), fun h => ?_⟩
                obtain ⟨q1, q2⟩ := hnn h
                obtain ⟨q3, q4⟩ := HW3.out.2 q1
                refine ⟨q3, fun j hj hjk => ?_⟩
                rcases Nat.lt_or_ge j k with hh | hh
                · exact q4 j hj hh
                · obtain rfl : j = k := by omega
                  rw [HTS.out]; exact q2
              cases nw' with
              | false =>
                go_quiet (fail)
                all_goals go_wp2
                all_goals go_roundw
                all_goals first
                  | exact HGO3.out false _ (by intro h; cases h) (by (repeat (first | with_reducible exact Kept.refl [] _ | with_reducible refine Kept.drew ?_ | with_reducible refine Kept.drewN ?_ _)))
                  | (simp [intOf]; omega)
              | true =>
                by_cases hcn : ts = nm
                · have e1 : (ts.toList == nm.toList) = true := by rw [ByteArray.toList_eq, ByteArray.toList_eq]; exact ba_beq.2 hcn
                  have e2 : (ts.toList != nm.toList) = false := by rw [bne, e1]; rfl
                  clear hcn
                  go_region_held3 (fun w' => w'.cell? ⟨nb, noff + i, none⟩ = some (.string nm) ∧ w'.cell? ⟨tb, toff + k, none⟩ = some (.string ts))
                    ((refine HS2.out _ ?_; (repeat (first | with_reducible exact Kept.refl [] _ | with_reducible refine Kept.drew ?_))))
                    (fail)
                  all_goals go_wp2
                  all_goals go_roundw
                  case rel => exact HGO3.out false _ (by intro h; cases h) (by (repeat (first | with_reducible exact Kept.refl [] _ | with_reducible refine Kept.drew ?_)))
                  case measure => simp [intOf]; omega
                · have e1 : (ts.toList == nm.toList) = false := by rw [ByteArray.toList_eq, ByteArray.toList_eq, Bool.eq_false_iff]; exact fun h => hcn (ba_beq.1 h)
                  have e2 : (ts.toList != nm.toList) = true := by rw [bne, e1]; rfl
                  have HCE : Hid (ts ≠ nm) := hcn
                  clear hcn
                  go_region_held3 (fun w' => w'.cell? ⟨nb, noff + i, none⟩ = some (.string nm) ∧ w'.cell? ⟨tb, toff + k, none⟩ = some (.string ts))
                    ((refine HS2.out _ ?_; (repeat (first | with_reducible exact Kept.refl [] _ | with_reducible refine Kept.drew ?_))))
                    (fail)
                  all_goals go_wp2
                  all_goals go_roundw
                  case rel => exact HGO3.out true _ (by exact fun _ => ⟨rfl, HCE.out⟩) (by (repeat (first | with_reducible exact Kept.refl [] _ | with_reducible refine Kept.drew ?_)))
                  case measure => simp [intOf]; omega
            · obtain rfl : k = f.names.length := by omega
              have hlk2 : ¬ ((f.names.length : Int) < (f.names.length : Int)) := by omega
              go_wp2
              go_roundw
              case rel =>
                refine ⟨i + 1, th', nw', by go_num, by omega, rfl, rfl, HW.out.1.trans HW3.out.1 (by simp) (by simp), ?_, fun h s hs hm => ?_⟩
                · rw [← HTH.out, Bool.or_eq_true, decide_eq_true_eq, HW.out.2.1, HTK.out tt]
                  exact or_congr_right ⟨fun h => h.symm, fun h => h.symm⟩
                · obtain ⟨q3, q4⟩ := HW3.out.2 h
                  rcases (HTK.out s).1 hm with h1 | h1
                  · exact HW.out.2.2 q3 s hs h1
                  · obtain ⟨j, hj, rfl⟩ := List.getElem_of_mem hs
                    exact q4 j hj (by have := HLL.out; omega) h1
              case measure => simp [intOf]; omega
        · obtain rfl : i = f.names.length := by omega
          have hli2 : ¬ ((f.names.length : Int) < (f.names.length : Int)) := by omega
          have HTH : Hid (th = true ↔ tt ∈ f.names) := by show _ ↔ _; have := HW.out.2.1; rwa [List.take_length] at this
          have HNW : Hid (nw = true → ∀ s ∈ L, s ∉ f.names) := by show _ → _; have := HW.out.2.2; rwa [List.take_length] at this
          have HKZ : Hid (Kept [] Z w2) := HW.out.1
          clear HW HX
          go_upto_region 26 with fail
          have HCM : Hid _ := fun W (k : Kept [] V W) xv (hx : IsF W f xv) => cmp_any f f xv _ W hx (HIF.out W k) (by omega) (by omega)
          simp only [show cmpT f f = 0 from preT.self f] at HCM
          have HVW : Hid (Kept [] V w2) := HVZ.out.trans HKZ.out (by simp) (by simp)
          go_cut [149] from 135 to 149 (fun s wx => s = .bool false ∧ Hid (Kept [] w2 wx))
          case first =>
            cases rb with
            | false =>
              go_wp2_with fail
              go_meet
              exact ⟨rfl, Kept.refl [] w2⟩
            | true =>
              cases th with
              | true =>
                go_wp2_with fail
                go_meet
                exact ⟨rfl, Kept.refl [] w2⟩
              | false =>
                obtain ⟨hp0, hpf⟩ := HPS.out (of_decide_eq_true HRB.out) (fun hm => by have := HTH.out.2 hm; cases this)
                have hpf' := hpf.symm
                subst hp0
                subst hpf'
                obtain ⟨a0, a1, a2⟩ := HB0.out _ HVW.out
                obtain ⟨d0, d1, d2⟩ := HZB.out _ HKZ.out
                have HIZ : Hid _ := HZI.out _ HKZ.out
                go_wp2_with (go_at_call 11; refine (HCM.out _ HVW.out _ (HZI.out _ HKZ.out)).mono ?_; rintro e W9 ⟨rfl, hk9⟩; have HK9 : Hid (Kept [] w2 W9) := hk9.kept; clear hk9)
                go_meet
                exact ⟨rfl, HK9.out⟩
          case rest =>
          obtain ⟨rfl, HX6⟩ := hcut
          rename World => w6
          have HV6 : Hid (Kept [] V w6) := HVW.out.trans HX6.out (by simp) (by simp)
          have HZ6 : Hid (Kept [] Z w6) := HKZ.out.trans HX6.out (by simp) (by simp)
          clear HKZ HX6 HVW HZB HZI HPS HTH HRB
          cases nw with
          | false =>
            go_wp2
            go_ret
            exact ⟨rfl, HKV.out.trans HV6.out (by simp) (by simp)⟩
          | true =>
            have h3000 : ¬ ((3000 : Int) < (f.names.length : Int)) := by omega
            have hren := ren_back (t := f) (tos := L) HE.out HLL.out (by rw [← HLD.out]; exact to_names _) (by rw [← HLD.out]; exact to_nodup (by omega))
            obtain ⟨r1, r2, r3, r4, r5⟩ := hren
            have hLs : ∀ s ∈ L, s.size ≤ maxLen := fun s hs => name_short (to_names _ s (by rw [HLD.out]; exact hs))
            have hNs : ∀ s ∈ f.names, s.size ≤ maxLen := fun s hs => name_short (names_name HE.out hs)
            have HRN1 : Hid _ := fun W (kV : Kept [] V W) (kZ : Kept [] Z W) => rename_any f _ f.names L _ _ W (HIF.out W kV) (by omega) HFF.out (HT.out W kV) (HZN.out W kZ) (HZT.out W kZ) (by omega) hNs hLs
            have hrf := fine_of_formed _ (renE_formed r3)
            have HRN2 : Hid _ := fun W (kV : Kept [] V W) (kZ : Kept [] Z W) rv (hrv : IsF W (renT f f.names L) rv) => rename_any (renT f f.names L) rv L f.names _ _ W hrv (by rw [r2]; omega) hrf (HT.out W kV) (HZT.out W kZ) (HZN.out W kZ) (by have := HLL.out; omega) hLs hNs
            simp only [r3, r4] at HRN2
            simp only [r1] at HRN1
            obtain ⟨rt, hrt⟩ : ∃ rt, renT f f.names L = rt := ⟨_, rfl⟩
            simp only [hrt] at HRN1 HRN2
            rw [hrt] at r2 r5
            obtain ⟨d, hd⟩ : ∃ d, cmpT rt f = d := ⟨_, rfl⟩
            have HDN : Hid (0 < f.names.length → d ≠ 0) := fun hl h0 => r5 (HNW.out rfl) (fun e => by rw [e] at hl; cases hl) (cmpT_zero rt f (hd.trans h0))
            have HCG : Hid _ := fun W (k : Kept [] V W) rv (hrv : IsF W rt rv) => cmp_any rt f rv _ W hrv (HIF.out W k) (by rw [r2]; omega) (by omega)
            simp only [hd] at HCG
            have HSG : Hid _ := fun W rv (hrv : IsF W rt rv) => size_any rt rv W hrv (by rw [r2]; omega)
            have HSF : Hid _ := fun W (k : Kept [] V W) => size_any f _ W (HIF.out W k) (by omega)
            rw [r2] at HSG
            obtain ⟨a0, a1, a2⟩ := HB0.out _ HV6.out
            clear r1 r2 r3 r4 r5 hrf hrt hd hLs hNs HNW HLD
            go_upto_region 32 with (first
              | (go_at_call 12; have gg := HRN1; refine (HRN1.out _ HV6.out HZ6.out).mono ?_; clear gg HRN1; rintro e R1 ⟨gad', gcap', rfl, hI1, hk1⟩; have HI1 : Hid _ := fun (_ : Unit) => hI1; have HK1 : Hid (Kept [] w6 R1) := hk1; clear hI1 hk1 a0 a1 a2)
              | (go_at_call 12; refine (HRN2.out _ (HV6.out.trans (HK1.out.alloc _) (by simp) (by simp)) (HZ6.out.trans (HK1.out.alloc _) (by simp) (by simp)) _ (IsF.kept (IsT.isF (HI1.out ())) (kA _ _))).mono ?_; rintro e R2 ⟨kad', kcap', rfl, hI2, hk2⟩; have HI2 : Hid _ := fun (_ : Unit) => hI2; have HK2 : Hid _ := fun (_ : Unit) => hk2; clear hI2 hk2))
            obtain ⟨Q, hQ⟩ : ∃ Q, R2.alloc (.cells #[.int .u8 (f.op : Nat), .string f.name, .slice kad' f.kids.length kcap'] 25) = Q := ⟨_, rfl⟩
            have k2Q : Kept [] R2 Q := by rw [← hQ]; exact kA _ _
            have k1Q : Kept [] R1 Q := ((kA _ _).trans (HK2.out ()) (H := []) (by simp) (by simp)).trans k2Q (by simp) (by simp)
            have kVQ : Kept [] V Q := (HV6.out.trans HK1.out (H := []) (by simp) (by simp)).trans k1Q (by simp) (by simp)
            have HVQ : Hid (Kept [] V Q) := kVQ
            have HQ1 : Hid (∀ W, Kept [] Q W → (W.cell? ⟨R1.heap.size, 0, none⟩ = some (.int .u8 (rt.op : Nat)) ∧ W.cell? ⟨R1.heap.size, 1, none⟩ = some (.string rt.name) ∧ W.cell? ⟨R1.heap.size, 2, none⟩ = some (.slice gad' rt.kids.length gcap')) ∧ (W.cell? ⟨R2.heap.size, 0, none⟩ = some (.int .u8 (f.op : Nat)) ∧ W.cell? ⟨R2.heap.size, 1, none⟩ = some (.string f.name) ∧ W.cell? ⟨R2.heap.size, 2, none⟩ = some (.slice kad' f.kids.length kcap')) ∧ (W.cell? ⟨w.heap.size, 0, none⟩ = some (.int .u8 (f.op : Nat)) ∧ W.cell? ⟨w.heap.size, 1, none⟩ = some (.string f.name) ∧ W.cell? ⟨w.heap.size, 2, none⟩ = some (.slice fad f.kids.length fcap))) := fun W k => ⟨box_cells (V := Q) (For3.kept (For3.kept (For3.new _ _ _ _) (HK2.out ())) k2Q) k, box_cells (V := Q) (by rw [← hQ]; exact For3.new _ _ _ _) k, HB0.out W (kVQ.trans k (by simp) (by simp))⟩
            have HIR : Hid (∀ W, Kept [] Q W → IsF W rt (.slice gad' rt.kids.length gcap')) := fun W k => IsF.kept (IsF.kept (IsT.isF (HI1.out ())) k1Q) k
            have HIK : Hid (∀ W, Kept [] Q W → IsF W f (.slice kad' f.kids.length kcap')) := fun W k => IsF.kept (IsF.kept (IsT.isF (HI2.out ())) k2Q) k
            have HCM1 : Hid _ := fun W (k : Kept [] Q W) => HCM.out W (HVQ.out.trans k (by simp) (by simp)) _ (HIK.out W k)
            have HCG1 : Hid _ := fun W (k : Kept [] Q W) => HCG.out W (HVQ.out.trans k (by simp) (by simp)) _ (HIR.out W k)
            have HSG1 : Hid _ := fun W (k : Kept [] Q W) => HSG.out W _ (HIR.out W k)
            have HSF1 : Hid _ := fun W (k : Kept [] Q W) => HSF.out W (HVQ.out.trans k (by simp) (by simp))
            obtain ⟨sz, hsz⟩ : ∃ sz, f.size = sz := ⟨_, rfl⟩
            simp only [hsz] at HSG1 HSF1
            rw [hQ]
            clear hQ k2Q k1Q kVQ HI1 HI2 HK1 HK2 HCM HCG HSG HSF HIR HIK hsz HRN2
            go_cut [4] from 172 to 204 (fun s wx => s = .bool true ∧ Hid (Kept [] Q wx))
            case first =>
              obtain ⟨⟨a0, a1, a2⟩, ⟨b0, b1, b2⟩, ⟨c0, c1, c2⟩⟩ := HQ1.out _ (Kept.refl [] Q)
              by_cases hn0 : f.names.length = 0
              · exact absurd HNE.out (by omega)
              · have hn1 : ((f.names.length : Int) == 0) = false := by rw [beq_eq_false_iff_ne]; omega
                have hd1 : (d != 0) = true := by rw [bne_iff_ne]; exact HDN.out (by omega)
                go_region_held3 (fun w' => (w'.cell? ⟨R1.heap.size, 0, none⟩ = some (.int .u8 (rt.op : Nat)) ∧ w'.cell? ⟨R1.heap.size, 1, none⟩ = some (.string rt.name) ∧ w'.cell? ⟨R1.heap.size, 2, none⟩ = some (.slice gad' rt.kids.length gcap')) ∧ (w'.cell? ⟨R2.heap.size, 0, none⟩ = some (.int .u8 (f.op : Nat)) ∧ w'.cell? ⟨R2.heap.size, 1, none⟩ = some (.string f.name) ∧ w'.cell? ⟨R2.heap.size, 2, none⟩ = some (.slice kad' f.kids.length kcap')) ∧ (w'.cell? ⟨w.heap.size, 0, none⟩ = some (.int .u8 (f.op : Nat)) ∧ w'.cell? ⟨w.heap.size, 1, none⟩ = some (.string f.name) ∧ w'.cell? ⟨w.heap.size, 2, none⟩ = some (.slice fad f.kids.length fcap)))
                  ((refine HQ1.out _ ?_; (repeat (first | with_reducible exact Kept.refl [] _ | with_reducible refine Kept.drew ?_ | with_reducible refine Kept.alloc ?_ _ | with_reducible refine Kept.trans (F := []) (G := []) (H := []) ?_ HKd.out (by simp) (by simp) | with_reducible refine Kept.trans (F := []) (G := []) (H := []) ?_ HKc.out (by simp) (by simp) | with_reducible refine Kept.trans (F := []) (G := []) (H := []) ?_ HKb.out (by simp) (by simp) | with_reducible refine Kept.trans (F := []) (G := []) (H := []) ?_ HKa.out (by simp) (by simp) ))))
                  (first
                  | (go_at_call 11; refine (HCM1.out _ (by (repeat (first | with_reducible exact Kept.refl [] _ | with_reducible refine Kept.drew ?_ | with_reducible refine Kept.alloc ?_ _ | with_reducible refine Kept.trans (F := []) (G := []) (H := []) ?_ HKd.out (by simp) (by simp) | with_reducible refine Kept.trans (F := []) (G := []) (H := []) ?_ HKc.out (by simp) (by simp) | with_reducible refine Kept.trans (F := []) (G := []) (H := []) ?_ HKb.out (by simp) (by simp) | with_reducible refine Kept.trans (F := []) (G := []) (H := []) ?_ HKa.out (by simp) (by simp) )))).mono ?_; rintro e Wa ⟨rfl, ka⟩; have HKa : Hid _ := ka.kept; clear ka HCM1)
                  | (go_at_call 11; refine (HCG1.out _ (by (repeat (first | with_reducible exact Kept.refl [] _ | with_reducible refine Kept.drew ?_ | with_reducible refine Kept.alloc ?_ _ | with_reducible refine Kept.trans (F := []) (G := []) (H := []) ?_ HKd.out (by simp) (by simp) | with_reducible refine Kept.trans (F := []) (G := []) (H := []) ?_ HKc.out (by simp) (by simp) | with_reducible refine Kept.trans (F := []) (G := []) (H := []) ?_ HKb.out (by simp) (by simp) | with_reducible refine Kept.trans (F := []) (G := []) (H := []) ?_ HKa.out (by simp) (by simp) )))).mono ?_; rintro e Wb ⟨rfl, kb⟩; have HKb : Hid _ := kb.kept; clear kb HCG1)
                  | (go_at_call 13; refine (HSG1.out _ (by (repeat (first | with_reducible exact Kept.refl [] _ | with_reducible refine Kept.drew ?_ | with_reducible refine Kept.alloc ?_ _ | with_reducible refine Kept.trans (F := []) (G := []) (H := []) ?_ HKd.out (by simp) (by simp) | with_reducible refine Kept.trans (F := []) (G := []) (H := []) ?_ HKc.out (by simp) (by simp) | with_reducible refine Kept.trans (F := []) (G := []) (H := []) ?_ HKb.out (by simp) (by simp) | with_reducible refine Kept.trans (F := []) (G := []) (H := []) ?_ HKa.out (by simp) (by simp) )))).mono ?_; rintro e Wc ⟨rfl, kc⟩; have HKc : Hid _ := kc; clear kc HSG1)
                  | (go_at_call 13; refine (HSF1.out _ (by (repeat (first | with_reducible exact Kept.refl [] _ | with_reducible refine Kept.drew ?_ | with_reducible refine Kept.alloc ?_ _ | with_reducible refine Kept.trans (F := []) (G := []) (H := []) ?_ HKd.out (by simp) (by simp) | with_reducible refine Kept.trans (F := []) (G := []) (H := []) ?_ HKc.out (by simp) (by simp) | with_reducible refine Kept.trans (F := []) (G := []) (H := []) ?_ HKb.out (by simp) (by simp) | with_reducible refine Kept.trans (F := []) (G := []) (H := []) ?_ HKa.out (by simp) (by simp) )))).mono ?_; rintro e Wd ⟨rfl, kd⟩; have HKd : Hid _ := kd; clear kd HSF1))
                all_goals (go_wp2_with fail; go_meet)
                all_goals refine ⟨rfl, ?_⟩
                all_goals (show Kept [] Q _; (repeat (first | with_reducible exact Kept.refl [] _ | with_reducible refine Kept.drew ?_ | with_reducible refine Kept.alloc ?_ _ | with_reducible refine Kept.trans (F := []) (G := []) (H := []) ?_ HKd.out (by simp) (by simp) | with_reducible refine Kept.trans (F := []) (G := []) (H := []) ?_ HKc.out (by simp) (by simp) | with_reducible refine Kept.trans (F := []) (G := []) (H := []) ?_ HKb.out (by simp) (by simp) | with_reducible refine Kept.trans (F := []) (G := []) (H := []) ?_ HKa.out (by simp) (by simp) )))
            case rest =>
              obtain ⟨rfl, HX7⟩ := hcut
              go_wp2
              go_ret
              exact ⟨rfl, (HKV.out.trans HVQ.out (H := []) (by simp) (by simp)).trans HX7.out (by simp) (by simp)⟩
end Go.Proofs.YtjcfgmoppmjnmaaGreatDoor
