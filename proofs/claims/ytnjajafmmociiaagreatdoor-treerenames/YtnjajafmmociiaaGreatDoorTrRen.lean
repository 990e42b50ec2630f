/- tree.Rename. -/
import Derived.Test.YtnjajafmmociiaaGreatDoorTrNames
import Derived.Test.YtnjajafmmociiaaGreatDoorTrPut
namespace Go.Proofs.YtnjajafmmociiaaGreatDoor
open Go.RowKit Go.Shelf Go.Maps

theorem makeMap_hint (w : World) (k : Nat) : (Instr.makeMap 92 (some (.int .i64 (k : Nat)))).run Tryz.prog w = .ok (.map (some w.heap.size)) (w.alloc (.map #[] 0)) := by
  simp [Instr.makeMap, asInt, asIntOf]
/-- A list of texts in memory. -/
def StrsAt (w : World) (l : List ByteArray) (v : Value) : Prop := ∃ ad cap, v = .slice ad l.length cap ∧ (l.length = 0 ∨ ∃ b off, ad = some ⟨b, off, none⟩ ∧ ∀ i (h : i < l.length), w.cell? ⟨b, off + i, none⟩ = some (.string l[i]))
theorem StrsAt.kept {w w' : World} {l : List ByteArray} {v : Value} (h : StrsAt w l v) (k : Kept [] w w') : StrsAt w' l v := by
  obtain ⟨ad, cap, e, h⟩ := h
  exact ⟨ad, cap, e, h.imp id (fun ⟨b, off, e1, hc⟩ => ⟨b, off, e1, fun i hi => cell_kept0 k (hc i hi)⟩)⟩
/-- Do two lists of names go together, as far as the first i. -/
def pairB (frs tos : List ByteArray) : Nat → Bool
  | 0 => true
  | i + 1 => pairB frs tos i && !((frs.take i).any fun x => x.data.toList == (frs.getD i ⟨#[]⟩).data.toList) && nameB (frs.getD i ⟨#[]⟩).data.toList && nameB (tos.getD i ⟨#[]⟩).data.toList
theorem pairB_le {frs tos : List ByteArray} {i n : Nat} (h : i ≤ n) (hn : pairB frs tos n = true) : pairB frs tos i = true := by
  induction n with
  | zero => obtain rfl : i = 0 := by omega
            rfl
  | succ n ih =>
    rcases Nat.lt_or_ge i (n + 1) with h' | h'
    · refine ih (by omega) ?_
      unfold pairB at hn
      simp only [Bool.and_eq_true] at hn
      exact hn.1.1.1
    · obtain rfl : i = n + 1 := by omega
      exact hn
theorem lawInt : Keyed Tryz.prog 9 := lawStr
theorem zeroInt (w : World) : (zeroValue 3).run Tryz.prog w = .ok (.int .i64 0) w := by kernel_rfl
/-- What the map tells behind the first i. -/
def PlacesOf (frs : List ByteArray) (i : Nat) (D : DataW Unit) : Prop :=
  Maps.IsMap D ∧ (∀ q : List UInt8, Maps.has D (.string q) = (frs.take i).any (fun x => x.data.toList == q)) ∧ ∀ j (h : j < frs.length), j < i → D.atKey (.string frs[j].data.toList) (.lit (.int .i64 0)) = .lit (.int .i64 (j : Nat))
theorem PlacesOf.next {frs : List ByteArray} {i : Nat} {D : DataW Unit} (h : PlacesOf frs i D) (hi : i < frs.length) (hno : ((frs.take i).any fun x => x.data.toList == frs[i].data.toList) = false) : PlacesOf frs (i + 1) (D.put (.string frs[i].data.toList) (.lit (.int .i64 (i : Nat)))) := by
  obtain ⟨h1, h2, h3⟩ := h
  refine ⟨h1.put _ _, fun q => ?_, fun j hj hji => ?_⟩
  · rw [List.take_succ_eq_append_getElem hi, List.any_append]
    by_cases e : q = frs[i].data.toList
    · subst e; rw [Maps.has_put_same h1 (by trivial)]; simp
    · rw [Maps.has_put_other (fun h => e (Lit.string.inj h)), h2 q]
      have : (frs[i].data.toList == q) = false := by rw [beq_eq_false_iff_ne]; exact fun h => e h.symm
      simp [this]
  · rcases Nat.lt_or_ge j i with h' | h'
    · have hne : frs[j].data.toList ≠ frs[i].data.toList := fun e => by
        rw [List.any_eq_false] at hno
        refine hno frs[j] ?_ (by rw [beq_iff_eq]; exact e)
        rw [List.mem_iff_getElem]
        exact ⟨j, by simp; omega, by simp⟩
      rw [Maps.atKey_put_other (fun h => hne (Lit.string.inj h))]
      exact h3 j hj h'
    · obtain rfl : j = i := by omega
      exact Maps.atKey_put_same h1 (by trivial) _ _

set_option maxHeartbeats 2000000 in
set_option maxRecDepth 20000 in
theorem pairable_any (frs tos : List ByteArray) (fv tv : Value) (w : World) (hf : StrsAt w frs fv) (ht : StrsAt w tos tv) (hl : frs.length ≤ 1099511627776) (hfs : ∀ x ∈ frs, x.size ≤ maxLen) (hts : ∀ x ∈ tos, x.size ≤ maxLen) :
    Calls Tryz.prog 64 #[fv, tv] w fun e w' => Kept [] w w' ∧
      ((frs.length = tos.length ∧ pairB frs tos frs.length = true ∧ ∃ Bm D, e = .returned (.tuple #[.map (some Bm), .bool true]) ∧ w.heap.size ≤ Bm ∧ w'.ownsMap Tryz.prog 9 (plainElem Tryz.prog 3) Bm frs.length D ∧ PlacesOf frs frs.length D) ∨
       (¬ (frs.length = tos.length ∧ pairB frs tos frs.length = true) ∧ e = .returned (.tuple #[.map none, .bool false]))) := by
  obtain ⟨fad, fcap, rfl, hfc⟩ := hf
  obtain ⟨tad, tcap, rfl, htc⟩ := ht
  have HFC : Hid _ := hfc
  have HTC : Hid _ := htc
  have HFS : Hid _ := hfs
  have HTS : Hid _ := hts
  clear hfc htc hfs hts
  by_cases hne : frs.length = tos.length
  · have hb : ((frs.length : Int) != (tos.length : Int)) = false := by rw [bne_eq_false_iff_eq]; omega
    have HNE : Hid _ := hne
    have hmk := fun W => makeMap_hint W frs.length
    clear hne
    go_enter Tryz.func64, Tryz.ntmps64
    go_wp2
    go_loopw [21] (fun v wr => ∃ i : Nat, v = .int .i64 (i : Nat) ∧ i ≤ frs.length ∧ Hid (Kept [] w wr ∧ pairB frs tos i = true ∧ ∃ D, wr.ownsMap Tryz.prog 9 (plainElem Tryz.prog 3) w.heap.size i D ∧ PlacesOf frs i D)) (fun v _ => frs.length - (intOf v).toNat)
    case atStart =>
      exact ⟨0, rfl, Nat.zero_le _, (Kept.refl [] w).alloc _, rfl, _, World.ownsMap_made w _ _ _, ⟨⟨_, rfl⟩, fun q => by simp [Maps.has], fun j _ h => by omega⟩⟩
    case round =>
      obtain ⟨i, rfl, hi, HR⟩ := hrel
      clear hmk
      by_cases hlt : i < frs.length
      · obtain ⟨fb, foff, rfl, hfc⟩ := HFC.out.resolve_left (by omega)
        obtain ⟨tb, toff, rfl, htc⟩ := HTC.out.resolve_left (by have := HNE.out; omega)
        have hlt2 : i < tos.length := by have := HNE.out; omega
        obtain ⟨kw, hp, D, hm, hpl⟩ := HR.out
        have c0 := cell_kept0 kw (hfc i hlt)
        have c1 := cell_kept0 kw (htc i hlt2)
        obtain ⟨s, hs⟩ : ∃ s, frs[i] = s := ⟨_, rfl⟩
        obtain ⟨u, hu⟩ : ∃ u, tos[i] = u := ⟨_, rfl⟩
        have hsz : s.size ≤ maxLen := by rw [← hs]; exact HFS.out _ (List.getElem_mem _)
        have husz : u.size ≤ maxLen := by rw [← hu]; exact HTS.out _ (List.getElem_mem _)
        rw [hs] at c0
        rw [hu] at c1
        have HKEY : Hid (keyOf Tryz.prog 9 (.string s) = some (.string s.data.toList)) := WideMaps.keyOf_string_mk Tryz.underlying9 hsz
        have HNF : Hid _ := fun W => isName_any s W hsz
        have HNT : Hid _ := fun W => isName_any u W husz
        have hpn : pairB frs tos (i + 1) = (true && !((frs.take i).any fun x => x.data.toList == s.data.toList) && nameB s.data.toList && nameB u.data.toList) := by
          unfold pairB; rw [hp]; simp [List.getD_eq_getElem?_getD, List.getElem?_eq_getElem hlt, List.getElem?_eq_getElem hlt2, hs, hu]
        have hhas := hpl.2.1 s.data.toList
        have HPN : Hid _ := hpn
        have HM : Hid _ := hm
        have HPL : Hid _ := hpl
        have HKW : Hid (Kept [] w wr) := kw
        have HS : Hid _ := hs
        have hii : (i : Int) < (frs.length : Int) := by omega
        have hii2 : (i : Int) < (tos.length : Int) := by omega
        clear hfc htc hp hm hpl kw hpn hs hu
        have hbad : pairB frs tos (i + 1) = false → ¬ (frs.length = tos.length ∧ pairB frs tos frs.length = true) := fun h q => by
          have := pairB_le (i := i + 1) (by omega) q.2
          rw [h] at this; cases this
        have HBAD : Hid _ := hbad
        clear hbad
        cases hq : ((frs.take i).any fun x => x.data.toList == s.data.toList) with
        | true =>
          have hhas' : Maps.has D (.string s.data.toList) = true := hhas.trans hq
          have HB : Hid (pairB frs tos (i + 1) = false) := by show pairB frs tos (i + 1) = false; rw [HPN.out, hq]; rfl
          clear hq hhas
          go_wp2_with (first | (at_lookup; refine wpList_lookup_own_ok_int _ rfl _ _ 92 rfl 9 3 .i64 lawStr Tryz.underlying92 Tryz.underlying3 (zeroInt _) w.heap.size i D rfl HM.out _ _ rfl HKEY.out ?_; intro c hat hwc; rw [hhas']; clear hat hwc) | go_in)
          go_ret2
          exact ⟨HKW.out, .inr ⟨HBAD.out HB.out, rfl⟩⟩
        | false =>
          have hhas' : Maps.has D (.string s.data.toList) = false := hhas.trans hq
          have HQ : Hid _ := hq
          clear hq hhas
          cases hnf : nameB s.data.toList with
          | false =>
            simp only [hnf] at HNF
            have HB : Hid (pairB frs tos (i + 1) = false) := by show pairB frs tos (i + 1) = false; rw [HPN.out, HQ.out, hnf]; rfl
            clear hnf
            go_wp2_with (first | (at_lookup; refine wpList_lookup_own_ok_int _ rfl _ _ 92 rfl 9 3 .i64 lawStr Tryz.underlying92 Tryz.underlying3 (zeroInt _) w.heap.size i D rfl HM.out _ _ rfl HKEY.out ?_; intro c hat hwc; rw [hhas']; clear hat hwc) | (go_at_call_of 40 (Value.string s); refine (HNF.out _).mono ?_; rintro e w5 ⟨rfl, rfl⟩) | go_in)
            go_ret2
            exact ⟨HKW.out, .inr ⟨HBAD.out HB.out, rfl⟩⟩
          | true =>
            simp only [hnf] at HNF
            cases hnt : nameB u.data.toList with
            | false =>
              simp only [hnt] at HNT
              have HB : Hid (pairB frs tos (i + 1) = false) := by show pairB frs tos (i + 1) = false; rw [HPN.out, HQ.out, hnf, hnt]; rfl
              clear hnf hnt
              go_wp2_with (first | (at_lookup; refine wpList_lookup_own_ok_int _ rfl _ _ 92 rfl 9 3 .i64 lawStr Tryz.underlying92 Tryz.underlying3 (zeroInt _) w.heap.size i D rfl HM.out _ _ rfl HKEY.out ?_; intro c hat hwc; rw [hhas']; clear hat hwc) | (go_at_call_of 40 (Value.string s); refine (HNF.out _).mono ?_; rintro e w5 ⟨rfl, rfl⟩) | (go_at_call_of 40 (Value.string u); refine (HNT.out _).mono ?_; rintro e w6 ⟨rfl, rfl⟩) | go_in)
              go_ret2
              exact ⟨HKW.out, .inr ⟨HBAD.out HB.out, rfl⟩⟩
            | true =>
              simp only [hnt] at HNT
              have HB : Hid (pairB frs tos (i + 1) = true) := by show pairB frs tos (i + 1) = true; rw [HPN.out, HQ.out, hnf, hnt]; rfl
              clear hnf hnt
              go_wp2_with (first | (at_lookup; refine wpList_lookup_own_ok_int _ rfl _ _ 92 rfl 9 3 .i64 lawStr Tryz.underlying92 Tryz.underlying3 (zeroInt _) w.heap.size i D rfl HM.out _ _ rfl HKEY.out ?_; intro c hat hwc; rw [hhas']; clear hat hwc) | (go_at_call_of 40 (Value.string s); refine (HNF.out _).mono ?_; rintro e w5 ⟨rfl, rfl⟩) | (go_at_call_of 40 (Value.string u); refine (HNT.out _).mono ?_; rintro e w6 ⟨rfl, rfl⟩) | (at_mapUpdate; refine wpList_mapUpdate_own _ rfl _ _ _ 92 rfl 9 3 lawStr Tryz.underlying92 _ w.heap.size i D rfl HM.out (by unfold maxLen; omega) _ _ _ rfl rfl HKEY.out (.lit (.int .i64 (i : Nat))) [] (plainElem_int Tryz.underlying3 (WalkArith.wf_i64 (by omega))) ?_; intro w1 hown1 hg1) | go_in)
              go_roundw
              case rel =>
                refine ⟨i + 1, by go_num, by omega, HKW.out.grown hg1 (fun k e => by cases e; exact .inr (Nat.le_refl _)), HB.out, _, hown1, ?_⟩
                have := PlacesOf.next HPL.out hlt (by rw [HS.out]; exact HQ.out)
                rw [HS.out] at this
                exact this
              case measure => simp [intOf]; omega
      · obtain rfl : i = frs.length := by omega
        go_wp2
        go_ret2
        obtain ⟨kw, hp, D, hm, hpl⟩ := HR.out
        exact ⟨kw, .inl ⟨HNE.out, hp, _, D, rfl, Nat.le_refl _, hm, hpl⟩⟩
  · have hb : ((frs.length : Int) != (tos.length : Int)) = true := by rw [bne_iff_ne]; omega
    have HNE : Hid _ := hne
    clear hne
    go_enter Tryz.func64, Tryz.ntmps64
    go_wp2
    go_ret2
    exact ⟨Kept.refl [] w, .inr ⟨fun h => HNE.out h.1, rfl⟩⟩

/-- Other names, all at one time. -/
def leafRen (frs tos : List ByteArray) (x : Tr) : Tr := if frs.any (fun y => y.data.toList == x.name.data.toList) then ⟨x.op, tos.getD (frs.findIdx fun y => y.data.toList == x.name.data.toList) ⟨#[]⟩, x.kids⟩ else x
set_option maxHeartbeats 1000000 in
theorem renLeaf (frs tos : List ByteArray) (tv : Value) (Bp Bt Bm : Nat) (D : DataW Unit) (w0 : World) (hp : Boxed w0 Bp 92 (.map (some Bm))) (ht : Boxed w0 Bt 51 tv) (hm : w0.ownsMap Tryz.prog 9 (plainElem Tryz.prog 3) Bm frs.length D) (hD : PlacesOf frs frs.length D) (hS : StrsAt w0 tos tv) (hl : frs.length = tos.length) (hlen : frs.length ≤ 1099511627776) :
    LeafDoes 65 #[.pointer (some ⟨Bp, 0, none⟩), .pointer (some ⟨Bt, 0, none⟩)] (leafRen frs tos) w0 := by
  intro o on W k0 _ hon
  show Calls Tryz.prog 65 #[.agg #[.int .u8 (o : Nat), .string on, .slice none 0 0], .pointer (some ⟨Bp, 0, none⟩), .pointer (some ⟨Bt, 0, none⟩)] W _
  have hpW : Boxed W Bp 92 (.map (some Bm)) := k0.at hp (by simp)
  have htW : Boxed W Bt 51 tv := k0.at ht (by simp)
  have hmW := hm.kept (grownBy_of_kept k0) (by simp)
  obtain ⟨ad, cap, rfl, hsc⟩ := hS.kept k0
  have cp := fun a b => cell_kept0 (((Kept.refl [] W).alloc a).alloc b) hpW.cell
  have ct := fun a b => cell_kept0 (((Kept.refl [] W).alloc a).alloc b) htW.cell
  have HM : Hid (∀ a b, ((W.alloc a).alloc b).ownsMap Tryz.prog 9 (plainElem Tryz.prog 3) Bm frs.length D) := fun a b => (hmW.alloc a).alloc b
  have HKEY : Hid (keyOf Tryz.prog 9 (.string on) = some (.string on.data.toList)) := WideMaps.keyOf_string_mk Tryz.underlying9 hon
  have hhas := hD.2.1 on.data.toList
  rw [List.take_length] at hhas
  have HSC : Hid _ := hsc
  have HD : Hid _ := hD.2.2
  have HL : Hid _ := hl
  clear hp ht hm hS k0 hpW htW hmW hsc hD hl
  cases hq : frs.any (fun y => y.data.toList == on.data.toList) with
  | false =>
    rw [show leafRen frs tos ⟨o, on, []⟩ = ⟨o, on, []⟩ from by unfold leafRen; rw [hq]; rfl]
    have hh : Maps.has D (.string on.data.toList) = false := hhas.trans hq
    clear hq hhas
    go_enter Tryz.func65, Tryz.ntmps65
    go_wp2_with (first | (at_lookup; refine wpList_lookup_own_ok_int _ rfl _ _ 92 rfl 9 3 .i64 lawStr Tryz.underlying92 Tryz.underlying3 (zeroInt _) Bm frs.length D rfl (HM.out _ _) _ _ rfl HKEY.out ?_; intro c hat hwc; rw [hh]; clear hat hwc) | go_in)
    exact ret_for rfl rfl rfl (show For3 _ (W.heap.size + 1) _ _ _ from al1 W _ _) ⟨none, 0, rfl, IsT.leaf _ _ rfl _ _, ((Kept.refl [] W).alloc _).alloc _⟩
  | true =>
    obtain ⟨j, hj⟩ : ∃ j, frs.findIdx (fun y => y.data.toList == on.data.toList) = j := ⟨_, rfl⟩
    have hjl : j < frs.length := by rw [← hj]; exact List.findIdx_lt_length_of_exists (by simpa [List.any_eq_true] using hq)
    have hje : frs[j].data.toList = on.data.toList := by
      subst hj
      have := List.findIdx_getElem (p := fun y : ByteArray => y.data.toList == on.data.toList) (xs := frs) (w := hjl)
      simpa using this
    have hjt : j < tos.length := by rw [← HL.out]; exact hjl
    obtain ⟨u, hu⟩ : ∃ u, tos[j] = u := ⟨_, rfl⟩
    rw [show leafRen frs tos ⟨o, on, []⟩ = ⟨o, u, []⟩ from by unfold leafRen; rw [hq, if_pos rfl]; show Tr.mk o (tos.getD (frs.findIdx fun y => y.data.toList == on.data.toList) ⟨#[]⟩) [] = _; rw [hj, List.getD_eq_getElem?_getD, List.getElem?_eq_getElem hjt, hu]; rfl]
    have hh : Maps.has D (.string on.data.toList) = true := hhas.trans hq
    have hjat := HD.out j hjl hjl
    rw [hje] at hjat
    obtain ⟨b, off, rfl, hsc⟩ := HSC.out.resolve_left (by omega)
    have c0 := hsc j hjt
    rw [hu] at c0
    have e0 := fun a b => cell_kept0 (((Kept.refl [] W).alloc a).alloc b) c0
    have HAT : Hid _ := hjat
    have hji : (j : Int) < (tos.length : Int) := by omega
    clear hq hhas hj hje hjat hsc hu HSC
    go_enter Tryz.func65, Tryz.ntmps65
    go_wp2_with (first | (at_lookup; refine wpList_lookup_own_ok_int _ rfl _ _ 92 rfl 9 3 .i64 lawStr Tryz.underlying92 Tryz.underlying3 (zeroInt _) Bm frs.length D rfl (HM.out _ _) _ _ rfl HKEY.out ?_; intro c hat hwc; rw [hh]; obtain rfl : c = (j : Int) := (by rw [HAT.out] at hat; cases hat; rfl); clear hat hwc) | go_in)
    exact ret_for rfl rfl rfl (show For3 _ (W.heap.size + 1) _ _ _ from al1 W _ _) ⟨none, 0, rfl, IsT.leaf _ _ rfl _ _, ((Kept.refl [] W).alloc _).alloc _⟩

/-- What Rename answers. -/
def renE (t : Tr) (frs tos : List ByteArray) : Nat := if t.every formedB then (if frs.length = tos.length ∧ pairB frs tos frs.length = true then 0 else 1) else 30
def renT (t : Tr) (frs tos : List ByteArray) : Tr := if renE t frs tos = 0 then t.reb (leafRen frs tos) else zeroT
set_option maxHeartbeats 2000000 in
set_option maxRecDepth 20000 in
theorem rename_any (t : Tr) (kv : Value) (frs tos : List ByteArray) (fv tv : Value) (w : World) (hI : IsF w t kv) (hs : t.size ≤ 1099511627776) (hF : t.Fine) (hT : KidsTab w) (hf : StrsAt w frs fv) (ht : StrsAt w tos tv) (hl : frs.length ≤ 1099511627776) (hfs : ∀ x ∈ frs, x.size ≤ maxLen) (hts : ∀ x ∈ tos, x.size ≤ maxLen) :
    Calls Tryz.prog 18 #[.agg #[.int .u8 (t.op : Nat), .string t.name, kv], fv, tv] w fun e w' =>
      ∃ kad kcap, e = .returned (.tuple #[.agg #[.int .u8 ((renT t frs tos).op : Nat), .string (renT t frs tos).name, .slice kad (renT t frs tos).kids.length kcap], .int .i64 (renE t frs tos : Nat)]) ∧ IsT (fun k => w.heap.size ≤ k) w' (renT t frs tos) (.slice kad (renT t frs tos).kids.length kcap) ∧ Kept [] w w' := by
  obtain ⟨kad, kcap, rfl⟩ := hI.slice
  have HWT : Hid _ := fun W (k : Kept [] w W) => well_any t _ W (hI.kept k) hs hF (hT.kept k)
  have HPA : Hid _ := fun W (k : Kept [] w W) => pairable_any frs tos fv tv W (hf.kept k) (ht.kept k) hl hfs hts
  have HRE : Hid _ := fun W (k : Kept [] w W) Bp Bt Bm D (hbp : Boxed W Bp 92 (.map (some Bm))) (hbt : Boxed W Bt 51 tv) (hm : W.ownsMap Tryz.prog 9 (plainElem Tryz.prog 3) Bm frs.length D) (hD : PlacesOf frs frs.length D) (he : frs.length = tos.length) => rebuilt_any 65 #[.pointer (some ⟨Bp, 0, none⟩), .pointer (some ⟨Bt, 0, none⟩)] (leafRen frs tos) W (enters_of Tryz.func65 (by kernel_rfl) rfl) (renLeaf frs tos tv Bp Bt Bm D W hbp hbt hm hD (ht.kept k) he hl) t _ W (hI.kept k) (Kept.refl [] W) hs hF
  obtain ⟨fad, fcap, rfl, _⟩ := hf
  obtain ⟨tad, tcap, rfl, _⟩ := ht
  clear hI hF hT hfs hts
  obtain ⟨V, hV⟩ : ∃ V, ((w.alloc (.cells #[.int .u8 (t.op : Nat), .string t.name, .slice kad t.kids.length kcap] 25)).alloc (.cells #[.slice tad tos.length tcap] 51)).alloc (.cells #[.int .u8 0, .string ⟨#[]⟩, .slice none 0 0] 25) = V := ⟨_, rfl⟩
  have kV : Kept [] w V := by rw [← hV]; exact (((Kept.refl [] w).alloc _).alloc _).alloc _
  have v0 : For3 V w.heap.size (.int .u8 (t.op : Nat)) (.string t.name) (.slice kad t.kids.length kcap) := by rw [← hV]; exact alUp (alUp (al0 _ _) _) _
  have v1 : Boxed V (w.heap.size + 1) 51 (.slice tad tos.length tcap) := by rw [← hV]; exact alUp (al1 _ _ _) _
  have v2 : For3 V (w.heap.size + 1 + 1) (.int .u8 0) (.string ⟨#[]⟩) (.slice none 0 0) := by rw [← hV]; exact al2 _ _ _ _
  have HV : Hid _ := hV
  have HK : Hid (Kept [] w V) := kV
  have HV0 : Hid (For3 V w.heap.size (.int .u8 (t.op : Nat)) (.string t.name) (.slice kad t.kids.length kcap)) := v0
  have HV1 : Hid (Boxed V (w.heap.size + 1) 51 (.slice tad tos.length tcap)) := v1
  have HV2 : Hid (For3 V (w.heap.size + 1 + 1) (.int .u8 0) (.string ⟨#[]⟩) (.slice none 0 0)) := v2
  clear hV kV v0 v1 v2
  have hzero : ∀ (e : Nat) W, Kept [] w W → e ≠ 0 → renE t frs tos = e →
      ∃ kad kcap, Ending.returned (.tuple #[.agg #[.int .u8 0, .string ⟨#[]⟩, .slice none 0 0], .int .i64 (e : Nat)]) = .returned (.tuple #[.agg #[.int .u8 ((renT t frs tos).op : Nat), .string (renT t frs tos).name, .slice kad (renT t frs tos).kids.length kcap], .int .i64 (renE t frs tos : Nat)]) ∧ IsT (fun k => w.heap.size ≤ k) W (renT t frs tos) (.slice kad (renT t frs tos).kids.length kcap) ∧ Kept [] w W := fun e W k he hp => by
    have h2 : renT t frs tos = zeroT := by unfold renT; rw [if_neg (by rw [hp]; exact he)]
    rw [h2, hp]
    exact ⟨none, 0, rfl, IsT.leaf _ _ rfl _ _, k⟩
  have HZ : Hid _ := hzero
  clear hzero
  cases ha : t.every formedB with
  | false =>
    simp only [ha] at HWT
    have HE : Hid (renE t frs tos = 30) := by show renE t frs tos = 30; unfold renE; rw [ha]; rfl
    clear ha
    go_enter Tryz.func18, Tryz.ntmps18
    go_wp2_with (go_at_call 39; rw [HV.out]; refine (HWT.out _ HK.out).mono ?_; rintro e W2 ⟨rfl, hk2⟩; obtain ⟨d0, d1, d2, df⟩ := (HV2.out.kept hk2).cells; have HK2 : Hid (Kept [] V W2) := hk2; clear hk2)
    exact ret_for2 rfl rfl rfl rfl ((HV2.out.kept HK2.out).set _ _ _) (HZ.out 30 _ (kept_set3 (HK.out.trans HK2.out (by simp) (by simp)) (by omega) _ _ _) (by omega) HE.out)
  | true =>
    simp only [ha] at HWT
    by_cases hpr : frs.length = tos.length ∧ pairB frs tos frs.length = true
    · have HE : Hid (renE t frs tos = 0) := by show renE t frs tos = 0; unfold renE; rw [ha, if_pos rfl, if_pos hpr]
      have HT : Hid (renT t frs tos = t.reb (leafRen frs tos)) := by show renT t frs tos = _; unfold renT; rw [if_pos HE.out]
      have HPR : Hid _ := hpr
      clear ha HZ hpr
      rw [HT.out, HE.out]
      obtain ⟨pt, hpt⟩ : ∃ pt, t.reb (leafRen frs tos) = pt := ⟨_, rfl⟩
      rw [hpt]
      rw [hpt] at HRE
      clear hpt HT HE
      go_enter Tryz.func18, Tryz.ntmps18
      go_wp2_with (first
        | (go_at_call 39; rw [HV.out]; refine (HWT.out _ HK.out).mono ?_; rintro e W2 ⟨rfl, hk2⟩; have c1 : W2.cell? ⟨w.heap.size + 1, 0, none⟩ = some (.slice tad tos.length tcap) := Boxed.cell (hk2.at HV1.out (by simp)); have HK2 : Hid (Kept [] V W2) := hk2; clear hk2)
        | (go_at_call 64; refine (HPA.out _ (HK.out.trans HK2.out (by simp) (by simp))).mono ?_; rintro e W3 ⟨hk3, (⟨_, _, Bm, D, rfl, hBm, hm3, hD3⟩ | ⟨hno, rfl⟩)⟩; rotate_left; exact absurd HPR.out hno; have k3 := HK2.out.trans hk3 (H := []) (by simp) (by simp); have HK3 : Hid (Kept [] V W3) := k3; have HM3 : Hid _ := hm3; have HD3 : Hid _ := hD3; obtain ⟨r0, r1, r2, _⟩ := (HV0.out.kept k3).cells; have g0 := fun o => cell_kept0 ((Kept.refl [] W3).alloc o) r0; have g1 := fun o => cell_kept0 ((Kept.refl [] W3).alloc o) r1; have g2 := fun o => cell_kept0 ((Kept.refl [] W3).alloc o) r2; clear hk3 k3 hm3 hD3 hBm)
        | (go_at_call 42; refine (HRE.out _ ((HK.out.trans HK3.out (H := []) (by simp) (by simp)).alloc _) W3.heap.size (w.heap.size + 1) Bm D (heap_alloc_new W3 _) (alUp (HK3.out.at HV1.out (by simp)) _) (World.ownsMap.alloc HM3.out _) HD3.out HPR.out.1).mono ?_; rintro e W5 ⟨pad, pcap, rfl, hI5, hk5⟩; have k5 := (HK3.out.alloc _).trans hk5 (H := []) (by simp) (by simp); obtain ⟨d0, d1, d2, df⟩ := (HV2.out.kept k5).cells; have l5 := lt_of (HV2.out.kept k5); have n5 : ¬ w.heap.size + 1 + 1 = W5.heap.size := (by omega); have n6 : ¬ W5.heap.size = w.heap.size + 1 + 1 := (by omega); have HK5 : Hid (Kept [] V W5) := k5; have HI5 : Hid _ := hI5; clear hk5 k5 hI5))
      have k5 : Kept [] w W5 := HK.out.trans HK5.out (by simp) (by simp)
      have hset := (HV2.out.kept HK5.out).set (.int .u8 (pt.op : Nat)) (.string pt.name) (.slice pad pt.kids.length pcap)
      have kset := kept_set3 k5 (B := w.heap.size + 1 + 1) (by omega) (.int .u8 (pt.op : Nat)) (.string pt.name) (.slice pad pt.kids.length pcap)
      have hl3 := lt_of (HV2.out.kept HK3.out)
      have hz4 := HK3.out.size
      have hzV := HK.out.size
      have hI4 : IsT (fun k => W3.heap.size ≤ k) W5 pt (.slice pad pt.kids.length pcap) := IsT.mono HI5.out (fun k h => by simp at h; omega)
      have hn : ¬ (W3.heap.size ≤ w.heap.size + 1 + 1) := by omega
      have hI6 := ((hI4.other hn 0 (.int .u8 (pt.op : Nat))).other hn 1 (.string pt.name)).other hn 2 (.slice pad pt.kids.length pcap)
      have hI7 := IsT.mono (Y := fun k => w.heap.size ≤ k) hI6 (fun k h => by omega)
      obtain ⟨W6, hW6⟩ : ∃ W6, ((W5.setCell ⟨w.heap.size + 1 + 1, 0, none⟩ (.int .u8 (pt.op : Nat))).setCell ⟨w.heap.size + 1 + 1, 1, none⟩ (.string pt.name)).setCell ⟨w.heap.size + 1 + 1, 2, none⟩ (.slice pad pt.kids.length pcap) = W6 := ⟨_, rfl⟩
      rw [hW6] at hset kset hI7 ⊢
      exact ret_for2 rfl rfl rfl rfl (show For3 _ (w.heap.size + 1 + 1) _ _ _ from alUp hset _) ⟨pad, pcap, rfl, hI7.cells (fun _ h => h) (fun _ _ _ _ c => cell_kept0 ((Kept.refl [] W6).alloc _) c), kset.alloc _⟩
    · have HE : Hid (renE t frs tos = 1) := by show renE t frs tos = 1; unfold renE; rw [ha, if_pos rfl, if_neg hpr]
      have HPR : Hid _ := hpr
      clear ha hpr
      go_enter Tryz.func18, Tryz.ntmps18
      go_wp2_with (first
        | (go_at_call 39; rw [HV.out]; refine (HWT.out _ HK.out).mono ?_; rintro e W2 ⟨rfl, hk2⟩; have c1 : W2.cell? ⟨w.heap.size + 1, 0, none⟩ = some (.slice tad tos.length tcap) := Boxed.cell (hk2.at HV1.out (by simp)); have HK2 : Hid (Kept [] V W2) := hk2; clear hk2)
        | (go_at_call 64; refine (HPA.out _ (HK.out.trans HK2.out (by simp) (by simp))).mono ?_; rintro e W3 ⟨hk3, (⟨h1, h2, _⟩ | ⟨_, rfl⟩)⟩; exact absurd ⟨h1, h2⟩ HPR.out; have k3 := HK2.out.trans hk3 (H := []) (by simp) (by simp); have HK3 : Hid (Kept [] V W3) := k3; obtain ⟨d0, d1, d2, df⟩ := (HV2.out.kept k3).cells; have l3 := lt_of (HV2.out.kept k3); have n5 : ¬ w.heap.size + 1 + 1 = W3.heap.size := (by omega); have n6 : ¬ W3.heap.size = w.heap.size + 1 + 1 := (by omega); clear hk3 k3))
      exact ret_for2 rfl rfl rfl rfl (show For3 _ (w.heap.size + 1 + 1) _ _ _ from alUp ((HV2.out.kept HK3.out).set _ _ _) _) (HZ.out 1 _ ((kept_set3 (HK.out.trans HK3.out (by simp) (by simp)) (by omega) _ _ _).alloc _) (by omega) HE.out)
end Go.Proofs.YtnjajafmmociiaaGreatDoor
