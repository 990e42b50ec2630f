/- unlike's second function: the walk through a tree. -/
import Derived.Test.YtnjajafmmociiaaGreatDoorTrVis0
namespace Go.Proofs.YtnjajafmmociiaaGreatDoor
open Go.RowKit Go.Shelf Go.Maps

theorem Tryz.infoSized : (Tryz.prog.info? 101).map (fun i => (i.zero, i.size, i.bytes)) = some (some (.agg #[.int .i64 0, .int .u8 0, .string ⟨#[]⟩, .slice none 0 0]), 4, 56) := by kernel_rfl
def VisitDoes (w : World) (Bl Bm Mb Bn Bv : Nat) (t : Tr) : Prop :=
  ∀ (kv : Value) (rows : List Rw) (l : List En) (W : World), IsF w t kv → t.Fine → UnAt w Bl Bm Mb Bn Bv rows l W → rows.length + 3 * t.size ≤ 1125899906842624 → l.length + t.size ≤ 2199023255552 →
    Calls Tryz.prog 92 #[.agg #[.int .u8 (t.op : Nat), .string t.name, kv], .pointer (some ⟨Bn, 0, none⟩), .pointer (some ⟨Bv, 0, none⟩), .pointer (some ⟨Bl, 0, none⟩)] W fun e W' =>
      e = .returned (.tuple #[.int .i64 ((visitP t (rows, l.map En.key)).1 : Nat), .int .i64 ((visitP t (rows, l.map En.key)).2.1 : Nat)]) ∧ ∃ l', UnAt w Bl Bm Mb Bn Bv (visitP t (rows, l.map En.key)).2.2.1 l' W' ∧ l'.map En.key = (visitP t (rows, l.map En.key)).2.2.2 ∧ KeepF W W'
/-- The numbering, where unlike's walk is. -/
theorem UnAt.number {w W : World} {Bl Bm Mb Bn Bv : Nat} {rows : List Rw} {l : List En} (h : UnAt w Bl Bm Mb Bn Bv rows l W) (r : Rw) (hr : r.Ok) (hl : rows.length ≤ 1125899906842624) :
    Calls Tryz.prog 91 #[.agg #[.int .u8 (r.op : Nat), .string r.name, .int .i64 (r.ahead : Nat), .int .i64 (r.kid : Nat)], .pointer (some ⟨Bm, 0, none⟩)] W fun e W' => e = .returned (.tuple #[.int .i64 ((numRow rows r).1 : Nat), .bool (numRow rows r).2.1]) ∧ UnAt w Bl Bm Mb Bn Bv (numRow rows r).2.2 l W' ∧ KeepF W W' := by
  obtain ⟨D, m1, m2⟩ := h.map
  refine (number_any r hr Bm Mb rows D W h.mapb m1 m2 hl).mono ?_
  rintro e W' ⟨rfl, k, hb, D', d1, d2⟩
  exact ⟨rfl, h.num k hb d1 d2⟩

theorem UnAt.numHead {w W : World} {Bl Bm Mb Bn Bv : Nat} {rows : List Rw} {l : List En} (h : UnAt w Bl Bm Mb Bn Bv rows l W) (o : Nat) (nm : ByteArray) (ho : o < 256) (hn : nm.size ≤ maxLen) (hl : rows.length ≤ 1125899906842624) :
    Calls Tryz.prog 91 #[.agg #[.int .u8 (o : Nat), .string nm, .int .i64 0, .int .i64 0], .pointer (some ⟨Bm, 0, none⟩)] W fun e W' => e = .returned (.tuple #[.int .i64 ((numRow rows ⟨o, nm, 0, 0⟩).1 : Nat), .bool (numRow rows ⟨o, nm, 0, 0⟩).2.1]) ∧ UnAt w Bl Bm Mb Bn Bv (numRow rows ⟨o, nm, 0, 0⟩).2.2 l W' ∧ KeepF W W' :=
  h.number ⟨o, nm, 0, 0⟩ ⟨ho, hn, by show 0 < _; omega, by show 0 < _; omega⟩ hl
theorem UnAt.numKid {w W : World} {Bl Bm Mb Bn Bv : Nat} {rows : List Rw} {l : List En} (h : UnAt w Bl Bm Mb Bn Bv rows l W) (a k : Nat) (ha : a < 9223372036854775808) (hk : k < 9223372036854775808) (hl : rows.length ≤ 1125899906842624) :
    Calls Tryz.prog 91 #[.agg #[.int .u8 0, .string ⟨#[]⟩, .int .i64 (a : Nat), .int .i64 (k : Nat)], .pointer (some ⟨Bm, 0, none⟩)] W fun e W' => e = .returned (.tuple #[.int .i64 ((numRow rows ⟨0, ⟨#[]⟩, a, k⟩).1 : Nat), .bool (numRow rows ⟨0, ⟨#[]⟩, a, k⟩).2.1]) ∧ UnAt w Bl Bm Mb Bn Bv (numRow rows ⟨0, ⟨#[]⟩, a, k⟩).2.2 l W' ∧ KeepF W W' :=
  h.number ⟨0, ⟨#[]⟩, a, k⟩ ⟨by show 0 < _; omega, by show 0 ≤ _; omega, ha, hk⟩ hl
theorem UnAt.numLast {w W : World} {Bl Bm Mb Bn Bv : Nat} {rows : List Rw} {l : List En} (h : UnAt w Bl Bm Mb Bn Bv rows l W) (a : Nat) (ha : a < 9223372036854775808) (hl : rows.length ≤ 1125899906842624) :
    Calls Tryz.prog 91 #[.agg #[.int .u8 0, .string ⟨#[]⟩, .int .i64 (a : Nat), .int .i64 0], .pointer (some ⟨Bm, 0, none⟩)] W fun e W' => e = .returned (.tuple #[.int .i64 ((numRow rows ⟨0, ⟨#[]⟩, a, 0⟩).1 : Nat), .bool (numRow rows ⟨0, ⟨#[]⟩, a, 0⟩).2.1]) ∧ UnAt w Bl Bm Mb Bn Bv (numRow rows ⟨0, ⟨#[]⟩, a, 0⟩).2.2 l W' ∧ KeepF W W' :=
  h.number ⟨0, ⟨#[]⟩, a, 0⟩ ⟨by show 0 < _; omega, by show 0 ≤ _; omega, ha, by show 0 < _; omega⟩ hl

theorem own_slice {W : World} {n₀ : Nat} {e : TypeId} {size : Nat} {v : Value} {n : Nat} {xs : List Value} (h : W.ownsRow n₀ e size v n xs) : ∃ ad cap, v = .slice ad n cap := by
  rcases h.2 with ⟨rfl, h0⟩ | ⟨g', cap', cur, rfl, _⟩
  · cases h0; exact ⟨none, 0, rfl⟩
  · exact ⟨_, _, rfl⟩
set_option maxHeartbeats 2000000 in
set_option maxRecDepth 20000 in
theorem visit_any (w : World) (Bl Bm Mb Bn Bv : Nat) (t : Tr) : VisitDoes w Bl Bm Mb Bn Bv t := by
  induction t using Tr.ind with
  | h t ih =>
    intro kv rows l W hI hF hU hr hl
    have hsz := sizes_all t
    obtain ⟨kad, kcap, rfl⟩ := hI.slice
    obtain ⟨st, hst⟩ : ∃ st : USt, ((rows, l.map En.key) : USt) = st := ⟨_, rfl⟩
    have hs1 : st.1 = rows := by rw [← hst]
    have hs2 : st.2 = l.map En.key := by rw [← hst]
    have hs3 : st.2.length = l.length := by rw [hs2, List.length_map]
    rw [hst]
    have hFt := (Tr.all_eq t).1 hF
    have HBK : Hid _ := bnd_kids t (fun k _ st => bnd_visit k st) st
    have HI : Hid (IsF w t (.slice kad t.kids.length kcap)) := hI
    have HF : Hid _ := hFt
    have HU : Hid (UnAt w Bl Bm Mb Bn Bv rows l W) := hU
    have HIH : Hid _ := ih
    have HS : Hid (st.1 = rows ∧ st.2 = l.map En.key ∧ st.2.length = l.length) := ⟨hs1, hs2, hs3⟩
    have HV : Hid _ := visitP_eq t st
    have cn := hU.nb.cell
    have cv := hU.vb.cell
    have lW := hU.low
    have hkn := Tr.kids_size t
    have cnA := fun o => cell_kept0 ((Kept.refl [] W).alloc o) cn
    clear hI hF hU hst hs1 hs2 hs3 hFt ih
    have kW : Kept [] W (W.alloc (.cells #[.int .u8 (t.op : Nat), .string t.name, .slice kad t.kids.length kcap] 25)) := (Kept.refl [] W).alloc _
    have HN1 : Hid _ := fun (_ : Unit) => (HU.out.keep0 kW).numHead t.op t.name HF.out.1.1 HF.out.1.2 (by omega)
    have HW : Hid (For3 (W.alloc (.cells #[.int .u8 (t.op : Nat), .string t.name, .slice kad t.kids.length kcap] 25)) W.heap.size (.int .u8 (t.op : Nat)) (.string t.name) (.slice kad t.kids.length kcap)) := al0 _ _
    have HKW : Hid _ := kW
    clear kW
    go_enter Tryz.func92, Tryz.ntmps92
    go_wp2_with (go_at_call 91; refine (HN1.out ()).mono ?_; rintro e W1 ⟨rfl, hu1, hk1⟩; obtain ⟨f0, f1, f2, ff⟩ := (hk1.for3 HW.out).cells; have HU1 : Hid (UnAt w Bl Bm Mb Bn Bv _ l W1) := hu1; have HK1 : Hid (KeepF _ W1) := hk1; clear hu1 hk1)
    obtain ⟨W0, hW0⟩ : ∃ W0, W.alloc (.cells #[.int .u8 (t.op : Nat), .string t.name, .slice kad t.kids.length kcap] 25) = W0 := ⟨_, rfl⟩
    rw [hW0] at HW HK1 HKW
    clear cn cv cnA HN1 hW0 f0 f1 f2 ff
    go_loopw [7, 9, 28] (fun vn vs vi wr => ∃ i n sz : Nat, vn = .int .i64 (n : Nat) ∧ vs = .int .i64 (sz : Nat) ∧ vi = .int .i64 (i : Nat) ∧ i ≤ t.kids.length ∧ Hid ((kidsP t i st).1 = n ∧ (kidsP t i st).2.1 = sz) ∧ Hid (∃ l', UnAt w Bl Bm Mb Bn Bv (kidsP t i st).2.2.1 l' wr ∧ l'.map En.key = (kidsP t i st).2.2.2) ∧ Hid (KeepF W0 wr)) (fun _ _ vi _ => t.kids.length - (intOf vi).toNat)
    case atStart =>
      refine ⟨0, _, 1, rfl, rfl, rfl, Nat.zero_le _, ⟨by rw [kidsP_zero, ← HS.out.1]; rfl, rfl⟩, ⟨l, ?_, ?_⟩, HK1.out⟩
      · rw [kidsP_zero]; unfold headStep; rw [HS.out.1]; exact HU1.out
      · rw [kidsP_zero]; exact HS.out.2.1.symm
    case round =>
      obtain ⟨i, n, sz, rfl, rfl, rfl, hi, HE, HUr, HKr⟩ := hrel
      obtain ⟨l', hu', hl'⟩ := HUr.out
      obtain ⟨f0, f1, f2, ff⟩ := (HKr.out.for3 HW.out).cells
      have hb := HBK.out i hi
      have hbn := hb.num
      have hbr := hb.rows
      have hbl := hb.list
      have hbs := hb.size
      have hsl := sizes_le t i hi
      rw [HE.out.1] at hbn
      rw [HE.out.2] at hbs
      rw [HS.out.1] at hbr
      rw [HS.out.2.2, ← hl', List.length_map] at hbl
      have cn := hu'.nb.cell
      have cv := hu'.vb.cell
      have HU' : Hid (UnAt w Bl Bm Mb Bn Bv (kidsP t i st).2.2.1 l' wr) := hu'
      have HL' : Hid _ := hl'
      clear hb hu' hl' HUr
      by_cases hlt : i < t.kids.length
      · obtain ⟨b, off, rfl, hbX, hcs⟩ := IsT.kid HI.out (show 0 < t.kids.length by omega)
        obtain ⟨kv', q0, q1, q2, q3⟩ := hcs i hlt
        obtain ⟨lad, lcap, rfl⟩ := IsT.slice q3
        have hmem := List.getElem_mem hlt
        obtain ⟨k, hk⟩ : ∃ k, t.kids[i] = k := ⟨_, rfl⟩
        rw [hk] at hmem q0 q1 q2 q3
        have HKE : Hid _ := kidsP_succ t i hlt st
        rw [hk] at HKE
        have hss := sizes_succ t i hlt
        rw [hk] at hss
        have hsl2 := sizes_le t (i + 1) hlt
        have kwr := kept_of_below HU'.out.below
        have e0 := cell_kept0 kwr q0
        have e1 := cell_kept0 kwr q1
        have e2 := cell_kept0 kwr q2
        have HQ3 : Hid (IsF w k (.slice lad k.kids.length lcap)) := q3
        have HKF : Hid k.Fine := HF.out.2 k hmem
        obtain ⟨v, hv⟩ : ∃ v, visitP k (kidsP t i st).2.2 = v := ⟨_, rfl⟩
        have hbv := bnd_visit k (kidsP t i st).2.2
        rw [hv] at hbv
        have hv1 := hbv.num
        have hv2 := hbv.rows
        have hv3 := hbv.list
        have hv4 := hbv.size
        have HVI : Hid _ := fun W' (hk : Kept [] wr W') => HIH.out k hmem _ _ l' W' HQ3.out HKF.out (HU'.out.keep0 hk) (by omega) (by omega)
        rw [HL'.out, show (((kidsP t i st).2.2.1, (kidsP t i st).2.2.2) : USt) = (kidsP t i st).2.2 from rfl, hv] at HVI
        have HVV : Hid _ := hv
        have hili : (i : Int) < (t.kids.length : Int) := by omega
        have hkp := Tr.size_pos k
        have cvA := fun o => cell_kept0 ((Kept.refl [] wr).alloc o) cv
        have hl2 : (kidsP t i st).2.2.2.length = l'.length := by rw [← HL'.out, List.length_map]
        have hvn : v.1 < 9223372036854775808 := by omega
        have hnn : n < 9223372036854775808 := by omega
        have hvr : v.2.2.1.length ≤ 1125899906842624 := by omega
        have hsz2 : v.2.1 ≤ 1099511627776000 := by omega
        have hsz3 : sz ≤ 1099511627776000 := by omega
        clear hcs q0 q1 q2 q3 kwr hk HIH hbv hv cv
        go_wp2_with (first | (go_at_call 92; refine (HVI.out _ ((Kept.refl [] wr).alloc _)).mono ?_; rintro e W2 ⟨rfl, l2, hu2, hl2', hk2⟩; have cn2 := hu2.nb.cell; have HU2 : Hid (UnAt w Bl Bm Mb Bn Bv v.2.2.1 l2 W2) := hu2; have HK2 : Hid (KeepF _ W2) := hk2; have HL2 : Hid _ := hl2'; clear hu2 hk2 hl2') | (go_at_call 91; refine (HU2.out.numKid n v.1 hnn hvn hvr).mono ?_; rintro e W3 ⟨rfl, hu3, hk3⟩; have HU3 : Hid (UnAt w Bl Bm Mb Bn Bv _ l2 W3) := hu3; have HK3 : Hid (KeepF W2 W3) := hk3; clear hu3 hk3))
        refine ⟨⟨i + 1, _, 1 + sizes t i + k.size, rfl, by simp, by simp, by omega, ⟨?_, ?_⟩, ⟨l2, ?_, ?_⟩, ?_⟩, by simp only [intOf]; omega⟩
        · rw [HKE.out]; unfold kidStep; rw [HVV.out, HE.out.1]
        · rw [HKE.out]; unfold kidStep; rw [HVV.out, HE.out.2, hv4]; show sz + k.size = _; omega
        · rw [HKE.out]; unfold kidStep; rw [HVV.out, HE.out.1]; exact HU3.out
        · rw [HKE.out]; unfold kidStep; rw [HVV.out]; exact HL2.out
        · exact HKr.out.trans ((KeepF.kept ((Kept.refl [] wr).alloc _)).trans (HK2.out.trans HK3.out))
      · obtain rfl : i = t.kids.length := by omega
        clear hlt hsl cv
        obtain ⟨b, hb⟩ : ∃ b, kidsP t t.kids.length st = b := ⟨_, rfl⟩
        rw [hb] at HE HU' HL' HV hbr hbn
        obtain ⟨r, hr'⟩ : ∃ r, numRow b.2.2.1 ⟨0, ⟨#[]⟩, n, 0⟩ = r := ⟨_, rfl⟩
        have hnn : n < 9223372036854775808 := by omega
        have HNL : Hid _ := fun (_ : Unit) => HU'.out.numLast n hnn (by omega)
        rw [hr'] at HNL
        have HVE : Hid (visitP t st = (r.1, sz, (r.2.2, if r.2.1 then l'.map En.key ++ [(sz, t)] else l'.map En.key))) := by
          show visitP t st = _
          rw [HV.out]; unfold lastStep; rw [HE.out.1, HE.out.2, hr', HL'.out]; rfl
        obtain ⟨i0, hi0, hz0⟩ := Option.map_eq_some_iff.1 Tryz.infoSized
        simp only [Prod.mk.injEq] at hz0
        obtain ⟨hz1, hz2, hz3⟩ := hz0
        have hlb : l'.length + 1 ≤ 2199023255552 := by omega
        have hszb : sz ≤ 2199023255552 := by omega
        clear HV HBK HIH hb hr' hbr hbl hbs hbn
        cases hf : r.2.1 with
        | false =>
          rw [hf] at HNL
          go_wp2_with (go_at_call 91; refine (HNL.out ()).mono ?_; rintro e W3 ⟨rfl, hu3, hk3⟩; have HU3 : Hid (UnAt w Bl Bm Mb Bn Bv r.2.2 l' W3) := hu3; have HK3 : Hid (KeepF wr W3) := hk3; clear hu3 hk3)
          go_ret2
          rw [HVE.out, hf]
          exact ⟨rfl, l', HU3.out, rfl, (KeepF.kept HKW.out).trans (HKr.out.trans HK3.out)⟩
        | true =>
          rw [hf] at HNL
          go_wp2_with (first | (go_at_call 91; refine (HNL.out ()).mono ?_; rintro e W3 ⟨rfl, hu3, hk3⟩; obtain ⟨f0, f1, f2, ff⟩ := (hk3.for3 (HKr.out.for3 HW.out)).cells; obtain ⟨vl, c1, c2⟩ := hu3.coll; have cl := c1.cell; have clA := fun o => cell_kept0 ((Kept.refl [] W3).alloc o) cl; have HC1 : Hid (Boxed W3 Bl 97 vl) := c1; have HC2 : Hid (W3.ownsRow w.heap.size 101 4 vl l'.length (ents l')) := c2; have HU3 : Hid (UnAt w Bl Bm Mb Bn Bv r.2.2 l' W3) := hu3; have HK3 : Hid (KeepF wr W3) := hk3; clear hu3 hk3 c1 c2) | (at_builtin; refine wpList_append_own _ rfl (.tmp 58) (.tmp 62) 97 rfl w.heap.size 101 i0 _ 4 56 (by kernel_rfl) hi0 hz1 hz2 hz3 rfl (by decide) _ _ _ rfl (HC2.out.alloc _) ⟨W3.heap.size, 0, none⟩ 1 1 (En.cells ⟨sz, t, kad, kcap⟩) rfl rfl (World.news_of_block (cs := #[.int .i64 (sz : Nat), .int .u8 (t.op : Nat), .string t.name, .slice kad t.kids.length kcap]) (t := 101) (fr := (0, 0)) (heap_alloc_new W3 _)) (by simp [En.cells, Value.oneCell']) (by unfold maxLen; omega) (by omega) (by have := HU3.out.low; simp; omega) ?_; intro v' w1 hown' hgrow hnil; clear hnil; obtain ⟨ad', cap', rfl⟩ := own_slice hown'; have hadd := HU3.out.add (x := ⟨sz, t, kad, kcap⟩) HC1.out HC2.out HI.out hown' hgrow; have cl1 := hadd.1.cell; have fl1 := hadd.1.frozen; have HADD : Hid _ := hadd; clear hadd))
          go_ret2
          rw [HVE.out, hf]
          exact ⟨rfl, l' ++ [⟨sz, t, kad, kcap⟩], HADD.out.2.1, by simp [En.key], (KeepF.kept HKW.out).trans (HKr.out.trans (HK3.out.trans HADD.out.2.2))⟩
end Go.Proofs.YtnjajafmmociiaaGreatDoor
