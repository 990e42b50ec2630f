/- Table.row, of any formula. -/
import Derived.Test.YtondmjnagkldpaaDoorEvRow
import Derived.Deep.RegionLaw
namespace Go.Proofs.YtondmjnagkldpaaDoor
open Go.RowKit Go.Shelf Go.Maps

theorem RowLoop.done {w₁ w w2 w7 w10 : World} {p m : Nat} {nv sv lv rv : Value} {q : Wd} {names : List ByteArray} {known : List Tr} {t : Tr} {v8 rvi : Value} {ki : List Tr} {wr : World} {b gr cap : Nat} (h : RowLoop w₁ w2 p m nv sv lv rv q names known t t.kids.length v8 rvi ki wr) (k2 : Kept [] w w2) (k7 : Kept [] wr w7) (hT7 : TabIs w₁ w7 p m nv sv lv rvi q names ki)
    (t10 : TabIs w₁ w10 p m nv sv lv (.slice (some ⟨gr, 0, none⟩) (ki.length + 1) cap) q names (ki ++ [t])) (k10 : Kept (FR p m rvi) w7 w10) (hr : RowB w7 b q.len (rowT q names t)) (a9 : rvi.ownBlock = some gr ∨ w.heap.size ≤ gr) :
    RowPost w₁ w p m nv sv lv rv q names known t (.returned (.slice (some ⟨b, 0, none⟩) q.len q.len)) w10 := by
  have z2 := k2.size
  have zr := h.kept.size
  refine ⟨b, _, ki ++ [t], rfl, hr.keptF k10 (hT7.rowNot hr), t10, ?_, fun g e => ?_, ?_, fun s hs => ?_⟩
  · have ka : Kept (FR p m rv) w wr := k2.trans h.kept (by simp) (fun x hx => .inl hx)
    have kb : Kept (FR p m rv) w w7 := ka.trans k7 (fun x hx => hx) (by simp)
    refine kb.trans k10 (fun x hx => hx) (fun x hx => ?_)
    rcases List.mem_cons.1 hx with e | hx
    · exact .inl (by simp [FR, e])
    · rcases List.mem_cons.1 hx with e | hx
      · exact .inl (by simp [FR, e])
      · rcases h.grow x (by simpa using hx) with e | e
        · exact .inl (by simp [FR, e])
        · exact .inr (by omega)
  · have e1 : gr = g := by simpa [Value.ownBlock] using e
    subst e1
    rcases a9 with e2 | e2
    · rcases h.grow gr e2 with e3 | e3
      · exact .inl e3
      · exact .inr (by omega)
    · exact .inr e2
  · have := h.len
    rw [List.take_of_length_le (by simp)] at this
    rw [List.length_append, List.length_singleton, Tr.size_eq]
    omega
  · rcases List.mem_append.1 hs with e | e
    · exact (h.new s e).imp id (fun q => by omega)
    · rw [List.mem_singleton.1 e]; exact .inr (Nat.le_refl _)
set_option maxHeartbeats 4000000 in
set_option maxRecDepth 20000 in
theorem row_fresh {q : Wd} {names : List ByteArray} (h0 : 0 < q.loop.length) (hn8 : names.length ≤ 8) (t : Tr) (ih : ∀ k ∈ t.kids, RowDoes q names k) (X : Nat → Prop) (kad : Option Addr) (kcap : Nat) (w₁ w : World) (p m : Nat) (nv sv lv rv : Value) (known : List Tr) (hG : t.Good) (hNm : t.Named names) (hF : t.Fine) (hI : IsT X w t (.slice kad t.kids.length kcap)) (hX : ∀ k, X k → k < w.heap.size ∧ k ∉ FR p m rv) (hT : TabIs w₁ w p m nv sv lv rv q names known) (hs : known.length + t.size ≤ 1099511627776) (hx : t.text.length ≤ 1099511627776) (hf : known.findIdx? (fun s => s.text == t.text) = none) :
    Calls Tryd.prog 28 #[.pointer (some ⟨p, 0, none⟩), .agg #[.int .u8 (t.op : Nat), .string t.name, .slice kad t.kids.length kcap]] w (RowPost w₁ w p m nv sv lv rv q names known t) := by
  obtain ⟨D, hm, hD⟩ := hT.map
  have hks := t.kids_size
  have HTX : Hid (Calls Tryd.prog 49 #[.slice none 0 0, .agg #[.int .u8 (t.op : Nat), .string t.name, .slice kad t.kids.length kcap]] (w.alloc (.cells #[.int .u8 (t.op : Nat), .string t.name, .slice kad t.kids.length kcap] 26)) fun e w' =>
      ∃ g cap, e = .returned (.slice (some ⟨g, 0, none⟩) t.text.length cap) ∧ (convert 80 9 (.slice (some ⟨g, 0, none⟩) t.text.length cap)).run Tryd.prog w' = .ok (.string ⟨t.text.toArray⟩) w' ∧ Kept [] (w.alloc (.cells #[.int .u8 (t.op : Nat), .string t.name, .slice kad t.kids.length kcap] 26)) w') := text_call' t kad kcap w (IsT.isF hI) hF (by omega) hx
  have HTT : Hid (TabIs w₁ w p m nv sv lv rv q names known) := hT
  have hq : Maps.has D (.string t.text) = false := by
    rw [hD.has, List.any_eq_false]
    exact fun x hx => by have := List.findIdx?_eq_none_iff.1 hf x hx; simpa using this
  have HKEY : Hid (keyOf Tryd.prog 9 (.string ⟨t.text.toArray⟩) = some (.string t.text)) := WideMaps.keyOf_string_mk Tryd.underlying9 (s := ⟨t.text.toArray⟩) (by show t.text.toArray.size ≤ maxLen; unfold maxLen; simp; omega)
  have HM : Hid (∀ W, Kept [] w W → W.ownsMap Tryd.prog 9 (plainElem Tryd.prog 3) m known.length D) := fun W k => hm.kept (grownBy_of_kept k) (by simp)
  have HI : Hid (IsT X w t (.slice kad t.kids.length kcap)) := hI
  have HX : Hid (∀ k, X k → k < w.heap.size ∧ k ∉ FR p m rv) := hX
  have HIH : Hid (∀ k ∈ t.kids, RowDoes q names k) := ih
  have HG : Hid t.Good := hG
  have HNM : Hid (t.Named names) := hNm
  have HFI : Hid t.Fine := hF
  have HNO : Hid _ := hf
  have HTX2 : Hid (∀ i (h : i < t.kids.length), t.kids[i].text.length ≤ t.text.length) := fun i h => text_kid h
  have lp := hT.plt
  have lm := hT.mlt
  have HFL : Hid (∀ k, k ∈ FR p m rv → k < w.heap.size) := fun k hk => FR_lt hT hk
  have HB0 : Hid (For3 (w.alloc (.cells #[.int .u8 (t.op : Nat), .string t.name, .slice kad t.kids.length kcap] 26)) w.heap.size (.int .u8 (t.op : Nat)) (.string t.name) (.slice kad t.kids.length kcap)) := al0 w _
  obtain ⟨i0, hi0, hz0, hz1, hz2⟩ := info_parts Tryd.infoBools
  have HI0 : Hid _ := hi0
  have HZ0 : Hid _ := hz0
  have HZ1 : Hid _ := hz1
  have HZ2 : Hid _ := hz2
  obtain ⟨ts, hts⟩ : ∃ ts : ByteArray, ⟨t.text.toArray⟩ = ts := ⟨_, rfl⟩
  obtain ⟨tl, htl⟩ : ∃ tl, t.text.length = tl := ⟨_, rfl⟩
  rw [hts, htl] at HTX
  rw [hts] at HKEY
  have HTL : Hid _ := htl
  clear hT hm hI hF hG hNm hX ih hf hi0 hz0 hz1 hz2 hts htl
  go_enter Tryd.func28, Tryd.ntmps28
  go_wp2_with (first
    | (go_at_call 49; refine HTX.out.mono ?_; rintro e w2 ⟨g2, cap2, rfl, hcv, kb2⟩; have k2 : Kept [] w w2 := ((Kept.refl [] w).alloc _).trans kb2 (H := []) (by simp) (by simp); have HK2 : Hid (Kept [] w w2) := k2; have HB2 : Hid (For3 w2 w.heap.size (.int .u8 (t.op : Nat)) (.string t.name) (.slice kad t.kids.length kcap)) := HB0.out.kept kb2; obtain ⟨_, _, _, c3, c4, _⟩ := (HTT.out.tab.kept k2).cells; obtain ⟨_, _, b2, _⟩ := HB2.out.cells; have HT2 : Hid (TabIs w₁ w2 p m nv sv lv rv q names known) := HTT.out.keep0 k2; clear k2 kb2)
    | (at_lookup; refine wpList_lookup_own_ok_int _ rfl _ _ 67 rfl 9 3 .i64 lawStr Tryd.underlying67 Tryd.underlying3 (zeroInt0 _) m known.length D rfl (HM.out _ HK2.out) _ _ rfl HKEY.out ?_; intro c hat hwc; rw [hq]; clear hat hwc))
  go_loopw [8, 35] (fun v8 v35 wr => ∃ (i : Nat) (rvi : Value) (ki : List Tr), v35 = .int .i64 (i : Nat) ∧ i ≤ t.kids.length ∧ Hid (RowLoop w₁ w2 p m nv sv lv rv q names known t i v8 rvi ki wr)) (fun _ v35 _ => t.kids.length - (intOf v35).toNat)
  case atStart =>
    exact ⟨0, rv, known, rfl, Nat.zero_le _, ⟨HT2.out, Kept.refl _ _, fun g e => .inl e, by simp, fun s hs => .inl hs, ⟨[], World.ownsRow_nil _ _ _ _, fun j hj => by omega⟩, fun g e => by cases e⟩⟩
  case round =>
    obtain ⟨i, rvi, ki, rfl, hi, HR⟩ := hrel
    have hz := HK2.out.size
    by_cases hlt : i < t.kids.length
    · obtain ⟨kb, koff, rfl, hXb, hkid⟩ := IsT.kid HI.out (by omega)
      obtain ⟨kv, c0, c1, c2, hIk⟩ := hkid i hlt
      obtain ⟨ckad, ckcap, rfl⟩ := hIk.slice
      obtain ⟨us, hus, hub⟩ := HR.out.own
      have htk := HTX2.out i hlt
      have hnx := fun (W5 w6 : World) (kb0 tmp : Obj) (b5 gr cap : Nat) (rv5 : Value) (k5 : List Tr) => RowLoop.next (us := us) (W5 := W5) (w6 := w6) (kb0 := kb0) (tmp := tmp) (b5 := b5) (gr := gr) (cap := cap) (rv5 := rv5) (k5 := k5) HR.out hlt (by omega) (by omega) (by have := HT2.out.kept.size; exact this)
      obtain ⟨k, hk⟩ : ∃ k, t.kids[i] = k := ⟨_, rfl⟩
      have hkm : k ∈ t.kids := by rw [← hk]; exact List.getElem_mem _
      rw [hk] at c0 c1 c2 hIk htk
      simp only [hk] at hnx
      have hcc : ∀ b o v, X b → w.cell? ⟨b, o, none⟩ = some v → wr.cell? ⟨b, o, none⟩ = some v := fun b o v hb hv => by
        have h2 := cell_kept0 HK2.out hv
        exact (World.cell?_of_block (w := w2) (a := ⟨b, o, none⟩) (HR.out.kept.block b (World.block_lt_of_cell? w2 _ h2) (HX.out b hb).2)).trans h2
      have c0 := hcc _ _ _ hXb c0
      have c1 := hcc _ _ _ hXb c1
      have c2 := hcc _ _ _ hXb c2
      have hIr : IsT X wr k (.slice ckad k.kids.length ckcap) := hIk.cells (fun _ h => h) hcc
      have hzr := HR.out.kept.size
      have hksz := Tr.kid_size hkm
      have hkl : ki.length + k.size ≤ 1099511627776 := by
        have h1 := HR.out.len
        have h2 : ((t.kids.map Tr.size).take (i + 1)).sum ≤ (t.kids.map Tr.size).sum := by
          have := List.take_append_drop (i + 1) (t.kids.map Tr.size)
          have e := congrArg List.sum this
          rw [List.sum_append] at e
          omega
        rw [sum_take _ _ (by simpa using hlt), List.getElem_map, hk] at h2
        have h3 := Tr.size_eq t
        omega
      have hrec := fun (o : Obj) => HIH.out k hkm X (.slice ckad k.kids.length ckcap) w₁ (wr.alloc o) p m nv sv lv rvi ki (good_kid HG.out hkm) (((Tr.all_eq t).1 HNM.out).2 k hkm) (((Tr.all_eq t).1 HFI.out).2 k hkm) (hIr.cells (fun _ h => h) (fun _ _ _ _ cc => cell_kept0 ((Kept.refl [] wr).alloc o) cc)) (fun x hx => ⟨by have := (HX.out x hx).1; simp; omega, fun hin => by
        rcases List.mem_cons.1 hin with e | hin
        · exact (HX.out x hx).2 (by simp [FR, e])
        · rcases List.mem_cons.1 hin with e | hin
          · exact (HX.out x hx).2 (by simp [FR, e])
          · rcases HR.out.grow x (by simpa using hin) with e | e
            · exact (HX.out x hx).2 (by simp [FR, e])
            · have := (HX.out x hx).1; omega⟩) (HR.out.tab.keep0 ((Kept.refl [] wr).alloc o)) hkl (by omega)
      have HREC : Hid (∀ o, Calls Tryd.prog 28 #[.pointer (some ⟨p, 0, none⟩), .agg #[.int .u8 (k.op : Nat), .string k.name, .slice ckad k.kids.length ckcap]] (wr.alloc o) (RowPost w₁ (wr.alloc o) p m nv sv lv rvi q names ki k)) := hrec
      have HNX : Hid _ := hnx
      have HN8 : Hid _ := HR.out.not8 (show p < w2.heap.size by omega) (show m < w2.heap.size by omega)
      obtain ⟨vad, vcap, rfl⟩ := HR.out.slice
      have HUS : Hid _ := hus
      have HUB : Hid _ := hub
      have hii : (i : Int) < (t.kids.length : Int) := by omega
      have lk : kb < wr.heap.size := World.block_lt_of_cell? wr _ c0
      have nk1 : ¬ kb = wr.heap.size := by omega
      have nk2 : ¬ wr.heap.size = kb := by omega
      have hib : i ≤ 1099511627776 := by omega
      clear hkid hIk hcc hIr hrec hnx hus hub hk hkl htk hksz
      go_wp2_with (first
        | (go_at_call 28; refine (HREC.out _).mono ?_; rintro e W5 ⟨b5, rv5, k5, rfl, r5, t5, e5, g5, l5, n5⟩; have HE5 : Hid _ := e5; have HU5 : Hid (W5.ownsRow w2.heap.size 36 1 (.slice vad i vcap) i us) := row_turnF (row_keptF0 HUS.out ((Kept.refl [] wr).alloc _)) e5 HN8.out; have HR5 : Hid _ := r5; have HT5 : Hid _ := t5; have HG5 : Hid _ := g5; have HL5 : Hid _ := l5; have HN5 : Hid _ := n5; have hz5 := e5.size; rw [World.size_alloc] at hz5; clear e5 r5 t5 g5 l5 n5)
        | (at_builtin; refine wpList_append_lies _ rfl _ _ 68 rfl w2.heap.size 36 i0 _ 1 24 Tryd.underlying68 HI0.out HZ0.out HZ1.out HZ2.out rfl (by decide) _ i us rfl (HU5.out.alloc _) ⟨W5.heap.size, 0, none⟩ 1 1 [.slice (some ⟨b5, 0, none⟩) q.len q.len] rfl rfl one_cell (fun u hu => by simp at hu; subst hu; rfl) (by omega) (by unfold maxLen; omega) (by omega) (by rw [World.size_alloc]; omega) _ rfl ?_; intro gr cap6 w6 o6 g6 a6 _; have HR6 : Hid _ := HNX.out W5 w6 _ _ b5 gr cap6 rv5 k5 HT5.out HE5.out HG5.out HL5.out HN5.out HR5.out HUS.out HUB.out o6 g6 a6; clear o6 g6 a6))
      go_roundw
      case rel => exact ⟨i + 1, rv5, k5, by go_num, by omega, HR6.out⟩
      case measure => simp [intOf]; omega
    · obtain rfl : i = t.kids.length := by omega
      have hb0 : For3 wr w.heap.size (.int .u8 (t.op : Nat)) (.string t.name) (.slice kad t.kids.length kcap) := HR.out.kept.at HB2.out (fun hin => by have := HFL.out _ hin; omega)
      obtain ⟨f0, f1, f2, _⟩ := hb0.cells
      obtain ⟨⟨hfo, hop⟩, _⟩ := (Tr.all_eq t).1 HG.out
      have hfd := found_any p nv sv lv rvi (.map (some m)) q names t kad t.kids.length kcap u8 (t.kids.map (rowT q names)) wr HR.out.tab.tab HR.out.tab.isW h0 HR.out.tab.strs hn8 hfo hop (((Tr.all_eq t).1 HNM.out).1) HR.out.kids (by simp)
      rw [← rowT_eq] at hfd
      have HFD : Hid (Calls Tryd.prog 50 #[.pointer (some ⟨p, 0, none⟩), .agg #[.int .u8 (t.op : Nat), .string t.name, .slice kad t.kids.length kcap], u8] wr fun e w' => ∃ v, e = .returned v ∧ Bools w' v q.len (rowT q names t) ∧ Kept [] wr w') := hfd
      obtain ⟨vs, hvs⟩ := HR.out.tab.rows
      obtain ⟨rad, rcap, hrv⟩ : ∃ rad rcap, rvi = .slice rad ki.length rcap := by
        rcases hvs.1.2 with ⟨e, h1⟩ | ⟨g, c', cur, e, _⟩
        · exact ⟨none, 0, by rw [e, h1]⟩
        · exact ⟨_, c', e⟩
      subst hrv
      have hkil : ki.length ≤ 1099511627776 := by
        have h1 := HR.out.len
        rw [List.take_of_length_le (by simp)] at h1
        have h3 := Tr.size_eq t
        omega
      have HVS : Hid (RowsAre wr w₁.heap.size (.slice rad ki.length rcap) q names ki vs) := hvs
      obtain ⟨D7, hm7, hD7⟩ := HR.out.tab.map
      have HUP : Hid (∀ W, Kept [] wr W → ∃ w', (Instr.mapUpdate 67 (.map (some m)) (.string ts) (.int .i64 (ki.length : Nat))).run Tryd.prog W = .ok () w' ∧ w'.ownsMap Tryd.prog 9 (plainElem Tryd.prog 3) m (ki.length + 1) (D7.put (.string t.text) (.lit (.int .i64 (ki.length : Nat)))) ∧ W.grownBy w' (some m)) := fun W k =>
        (hm7.kept (grownBy_of_kept k) (by simp)).update lawStr Tryd.underlying67 (by unfold maxLen; omega) HKEY.out (plainElem_int Tryd.underlying3 (WalkArith.wf_i64 (by omega)))
      have HM7 : Hid (wr.ownsMap Tryd.prog 9 (plainElem Tryd.prog 3) m ki.length D7) := hm7
      have HD7 : Hid (KnownOf ki D7) := hD7
      have HNK : Hid _ := none_of hD7 HG.out HNO.out HR.out.new
      clear hb0 hfo hop hfd hvs hm7 hD7 hlt hi
      have hpm : (some p : Option Nat) ≠ some m := fun e => by
        obtain ⟨es, cc, hb⟩ := HR.out.tab.mAt
        have h1 := HR.out.tab.tab
        unfold Tab5 at h1
        rw [Option.some.inj e, hb] at h1
        cases h1
      have HPM : Hid _ := hpm
      clear hpm
      go_wp2_with (first
        | (go_at_call 50; refine HFD.out.mono ?_; rintro e w7 ⟨v7, rfl, ⟨b7, rfl, hr7⟩, k7⟩; have HR7 : Hid (RowB w7.drew b7 q.len (rowT q names t)) := hr7; have HK7 : Hid (Kept [] wr w7.drew) := k7.drew; obtain ⟨w8, hrun, hm8, hg8⟩ := HUP.out w7.drew k7.drew; have HM8 : Hid (w8.ownsMap Tryd.prog 9 (plainElem Tryd.prog 3) m (ki.length + 1) (D7.put (.string t.text) (.lit (.int .i64 (ki.length : Nat))))) := hm8; have HG8 : Hid (w7.drew.grownBy w8 (some m)) := hg8; obtain ⟨_, _, _, e3, e4, _⟩ := (HR.out.tab.tab.kept k7).cells; have HMW : Hid (w7.drew.ownsMap Tryd.prog 9 (plainElem Tryd.prog 3) m ki.length D7) := HM7.out.kept (grownBy_of_kept k7.drew) (by simp); have HVW : Hid (w7.drew.ownsRow w₁.heap.size 36 1 (.slice rad ki.length rcap) ki.length vs) := row_keptF0 HVS.out.1 k7.drew; have HV8 : Hid (w8.ownsRow w₁.heap.size 36 1 (.slice rad ki.length rcap) ki.length vs) := row_turn HVW.out hg8 (row_not_map HVW.out HMW.out); have x8 := hg8.cell (a := ⟨p, 3, none⟩) (show w7.drew.cell? ⟨p, 3, none⟩ = some (.slice rad ki.length rcap) from e3) HPM.out; have z8 := hg8.size; have z7 := HK7.out.size; clear hr7 k7 hm8 hg8))
      go_region
      all_goals
        go_wp2_with (at_builtin; refine wpList_append_lies _ rfl _ _ 68 rfl w₁.heap.size 36 i0 _ 1 24 Tryd.underlying68 HI0.out HZ0.out HZ1.out HZ2.out rfl (by decide) _ ki.length vs rfl (HV8.out.alloc _) ⟨w8.heap.size, 0, none⟩ 1 1 [.slice (some ⟨b7, 0, none⟩) q.len q.len] rfl rfl one_cell (fun u hu => by simp at hu; subst hu; rfl) (by omega) (by unfold maxLen; omega) (by omega) (by rw [World.size_alloc]; have := HR.out.tab.kept.size; omega) _ rfl ?_; intro gr cap9 w9 o9 g9 a9 _; obtain ⟨ht9, htab, hkk⟩ := TabIs.add (HR.out.tab.keep0 HK7.out) HG.out HNK.out HR7.out HMW.out HD7.out ⟨HVW.out, fun i hi => (HVS.out.2 i hi).imp fun b h => ⟨h.1, h.2.kept HK7.out⟩⟩ HM8.out HG8.out o9 g9 a9; have HTA : Hid (TabIs w₁ _ p m nv sv lv _ q names (ki ++ [t])) := htab; have HKK : Hid (Kept _ w7.drew _) := hkk; have HA9 : Hid _ := a9; obtain ⟨_, _, _, y3, _, yf⟩ := ht9.cells; have yf3 := yf 3; clear o9 g9 a9 ht9 htab hkk yf)
        go_ret
        exact RowLoop.done HR.out HK2.out HK7.out (HR.out.tab.keep0 HK7.out) HTA.out HKK.out HR7.out (HA9.out.imp id (fun e => by have hz8 := HK2.out.size; have := HR.out.kept.size; have e' : w7.drew.heap.size = w7.heap.size := rfl; rw [World.size_alloc] at e; omega))
theorem row_any {q : Wd} {names : List ByteArray} (h0 : 0 < q.loop.length) (hn8 : names.length ≤ 8) (t : Tr) : RowDoes q names t := by
  induction t using Tr.ind with
  | h t ih =>
    intro X kv w₁ w p m nv sv lv rv known hG hN hF hI hX hT hs hx
    obtain ⟨kad, kcap, rfl⟩ := hI.slice
    cases hf : known.findIdx? (fun s => s.text == t.text) with
    | some i => exact row_known t X kad kcap w₁ w p m nv sv lv rv known hG hF hI hT hs hx hf
    | none => exact row_fresh h0 hn8 t ih X kad kcap w₁ w p m nv sv lv rv known hG hN hF hI hX hT hs hx hf
end Go.Proofs.YtondmjnagkldpaaDoor
