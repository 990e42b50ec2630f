/- eval.fits, eval.isList: which formulas and names may be asked. -/
import Derived.Test.YtnpeghaficghaaaGreatDoorEvStrM
import Derived.Test.YtnpeghaficghaaaGreatDoorEvRow2M
import Derived.Test.YtnpeghaficghaaaGreatDoorGO
import Derived.WalkLawsBesides
namespace Go.Proofs.YtnpeghaficghaaaGreatDoor
open Go.RowKit Go.Shelf

theorem mem_rowsFrom {β : Type} {p : List Nat} : ∀ {rs : List (List Nat → List β)} {i : Nat} {r : List Nat → List β}, r ∈ rs → ∃ qq, ∀ x ∈ r qq, x ∈ rowsFrom p i rs
  | [], _, _, h => by cases h
  | s :: rs, i, r, h => by
    rcases List.mem_cons.1 h with rfl | h
    · exact ⟨p ++ [i], fun x hx => by rw [rowsFrom]; exact List.mem_append_left _ hx⟩
    · obtain ⟨qq, hq⟩ := mem_rowsFrom (p := p) (i := i + 1) h
      exact ⟨qq, fun x hx => by rw [rowsFrom]; exact List.mem_append_right _ (hq x hx)⟩
theorem all_of_parts {q : Tr → Prop} (t : Tr) : ∀ p, (∀ x ∈ t.parts p, q x.2) → t.All q := by
  induction t using Tr.ind with
  | h t ih =>
    intro p h
    rw [Tr.parts_eq] at h
    refine (Tr.all_eq t).2 ⟨h (p, t) (by simp), fun k hk => ?_⟩
    obtain ⟨qq, hq⟩ := mem_rowsFrom (p := p) (i := 0) (List.mem_map.2 ⟨k, hk, rfl⟩ : k.parts ∈ t.kids.map Tr.parts)
    exact ih k hk qq (fun x hx => h x (List.mem_cons_of_mem _ (hq x hx)))
theorem good_of_right {t : Tr} (h : rightN pastB t = 0) : t.Good ∧ t.size ≤ 1000 := by
  unfold rightN at h
  split at h
  · rename_i he
    split at h
    · rename_i hm
      rw [Bool.and_eq_true, decide_eq_true_eq, decide_eq_true_eq] at hm
      refine ⟨all_of_parts t [] (fun x hx => ?_), hm.1⟩
      unfold Tr.every at he
      rw [List.all_eq_true] at he
      have := he x hx
      simp only [rightQ, Bool.and_eq_true, Bool.not_eq_true', pastB, Bool.and_eq_false_iff, decide_eq_false_iff_not] at this
      refine ⟨this.1, ?_⟩
      have h1 := this.1
      simp only [formedB, Bool.and_eq_true, decide_eq_true_eq] at h1
      omega
    · cases h
  · cases h
theorem right_of_good {t : Tr} (h : t.Good) (hs : t.size ≤ 1000) (hd : t.depth ≤ 100) : rightN pastB t = 0 := by
  unfold rightN
  rw [if_pos, if_pos]
  · simp [hs, hd]
  · unfold Tr.every
    rw [List.all_eq_true]
    intro x hx
    have := Tr.All.part h hx
    simp only [rightQ, Bool.and_eq_true, Bool.not_eq_true', pastB, Bool.and_eq_false_iff, decide_eq_false_iff_not]
    exact ⟨this.1, .inl (by omega)⟩
/-- The names of a formula. -/
theorem addName_mem {l : List ByteArray} {t : Tr} {s : ByteArray} (h : s ∈ addName l t) : s ∈ l ∨ (t.op = 3 ∧ s = t.name) := by
  unfold addName at h
  split at h
  · rename_i h3
    split at h
    · exact .inl h
    · rcases List.mem_append.1 h with e | e
      · exact .inl e
      · exact .inr ⟨h3, List.mem_singleton.1 e⟩
  · exact .inl h
theorem addName_keeps {l : List ByteArray} {t : Tr} {s : ByteArray} (h : s ∈ l) : s ∈ addName l t := by
  unfold addName
  split
  · split
    · exact h
    · exact List.mem_append_left _ h
  · exact h
theorem addName_has {l : List ByteArray} {t : Tr} (h : t.op = 3) : ∃ s ∈ addName l t, s.data.toList = t.name.data.toList := by
  unfold addName
  rw [if_pos h]
  split
  · rename_i ha
    obtain ⟨s, hs, he⟩ := List.any_eq_true.1 ha
    exact ⟨s, hs, by simpa using he⟩
  · exact ⟨t.name, by simp, rfl⟩
theorem fold_mem {s : ByteArray} : ∀ (l : List (List Nat × Tr)) (a : List ByteArray), s ∈ l.foldl (fun l x => addName l x.2) a → s ∈ a ∨ ∃ x ∈ l, x.2.op = 3 ∧ s = x.2.name
  | [], _, h => .inl h
  | x :: r, a, h => by
    rcases fold_mem r _ h with e | ⟨y, hy, e⟩
    · rcases addName_mem e with e | e
      · exact .inl e
      · exact .inr ⟨x, by simp, e⟩
    · exact .inr ⟨y, by simp [hy], e⟩
theorem fold_keeps {s : ByteArray} : ∀ (l : List (List Nat × Tr)) (a : List ByteArray), s ∈ a → s ∈ l.foldl (fun l x => addName l x.2) a
  | [], _, h => h
  | _ :: r, _, h => fold_keeps r _ (addName_keeps h)
theorem fold_has : ∀ (l : List (List Nat × Tr)) (a : List ByteArray) (x : List Nat × Tr), x ∈ l → x.2.op = 3 → ∃ s ∈ l.foldl (fun l x => addName l x.2) a, s.data.toList = x.2.name.data.toList
  | [], _, _, h, _ => by cases h
  | y :: r, a, x, h, h3 => by
    rcases List.mem_cons.1 h with rfl | h
    · obtain ⟨s, hs, e⟩ := addName_has (l := a) h3
      exact ⟨s, fold_keeps r _ hs, e⟩
    · exact fold_has r _ x h h3
theorem names_small {t : Tr} (hF : t.Fine) : ∀ s ∈ t.names, s.size ≤ maxLen := by
  intro s hs
  rcases fold_mem _ _ hs with e | ⟨x, hx, _, e⟩
  · cases e
  · rw [e]; exact (Tr.All.part hF hx).2
theorem names_few (t : Tr) : t.names.length ≤ t.size := by
  have := namesOf_len (t.parts [])
  rw [Tr.parts_length] at this
  exact this
theorem hasN_congr {xs : List ByteArray} {s s' : ByteArray} (h : s.data.toList = s'.data.toList) : hasN xs s = hasN xs s' := by
  rw [WideShapes.bytes_inj h]
theorem named_of_lack {t : Tr} {xs : List ByteArray} (h : lackN t.names xs = false) : t.Named xs := by
  refine all_of_parts t [] (fun x hx h3 => ?_)
  obtain ⟨s, hs, e⟩ := fold_has (t.parts []) [] x hx h3
  unfold lackN at h
  rw [List.any_eq_false] at h
  have := h s hs
  rw [← hasN_congr e]
  simpa using this
theorem lack_of_named {t : Tr} {xs : List ByteArray} (h : t.Named xs) : lackN t.names xs = false := by
  unfold lackN
  rw [List.any_eq_false]
  intro s hs
  rcases fold_mem _ _ hs with e | ⟨x, hx, h3, e⟩
  · cases e
  · have := Tr.All.part h hx h3
    rw [e, this]; simp
/-- What fits tells. -/
def fitsN (t : Tr) (xs : List ByteArray) : Nat := if rightN pastB t ≠ 0 then rightN pastB t else if lackN t.names xs then 60 else 0

set_option maxHeartbeats 1000000 in
set_option maxRecDepth 20000 in
theorem efits_any (t : Tr) (kv : Value) (v : Value) (xs : List ByteArray) (w : World) (hI : IsF w t kv) (hs : t.size ≤ 1099511627776) (hd : t.depth ≤ 1099511627776) (hF : t.Fine) (hT : KidsTab w) (hN : Strs w v xs) :
    Calls Tryz.prog 22 #[.agg #[.int .u8 (t.op : Nat), .string t.name, kv], v] w fun e w' => e = .returned (.int .i64 (fitsN t xs : Nat)) ∧ Kept [] w w' := by
  obtain ⟨kad, kcap, rfl⟩ := hI.slice
  obtain ⟨ad, c, rfl, _⟩ := hN.form
  obtain ⟨V, hV⟩ : ∃ V, (w.alloc (.cells #[.int .u8 (t.op : Nat), .string t.name, .slice kad t.kids.length kcap] 25)).alloc (.cells #[.slice ad xs.length c] 26) = V := ⟨_, rfl⟩
  have kV : Kept [] w V := by rw [← hV]; exact ((Kept.refl [] w).alloc _).alloc _
  have v0 : For3 V w.heap.size (.int .u8 (t.op : Nat)) (.string t.name) (.slice kad t.kids.length kcap) := by rw [← hV]; exact alUp (al0 _ _) _
  have v1 : Boxed V (w.heap.size + 1) 26 (.slice ad xs.length c) := by rw [← hV]; exact al1 _ _ _
  have HR : Hid (Calls Tryz.prog 14 #[.agg #[.int .u8 (t.op : Nat), .string t.name, .slice kad t.kids.length kcap]] V fun e w' => e = .returned (.int .i64 (rightN pastB t : Nat)) ∧ Kept [] V w') := right_any t _ V (hI.kept kV) hs hd hF (hT.kept kV)
  have HNA : Hid (∀ W, Kept [] V W → Calls Tryz.prog 58 #[.agg #[.int .u8 (t.op : Nat), .string t.name, .slice kad t.kids.length kcap]] W fun e w' => ∃ u, e = .returned u ∧ w'.ownsRow W.heap.size 9 1 u t.names.length (strs t.names) ∧ Kept [] W w') := fun W k => names_any t _ W ((hI.kept kV).kept k) hs hF
  have HC : Hid (∀ W u, Kept [] V W → Strs W u t.names → Calls Tryz.prog 57 #[u, .func (.func 55) #[] #[.pointer (some ⟨w.heap.size + 1, 0, none⟩)]] W fun e w' => e = .returned (.bool (lackN t.names xs)) ∧ w' = W) := fun W u k hu => containsL_any u _ t.names xs _ W hu ((hN.kept kV).kept k) (cell_kept0 k v1.cell)
  have HSM : Hid _ := names_small hF
  have HV0 : Hid (For3 V w.heap.size (.int .u8 (t.op : Nat)) (.string t.name) (.slice kad t.kids.length kcap)) := v0
  have HKV : Hid (Kept [] w V) := kV
  have hnl := names_few t
  have HVV : Hid (_ = V) := hV
  rw [← hV] at HR
  clear hI hF hT hN kV v0 v1 hV
  by_cases h0 : rightN pastB t = 0
  · rw [h0] at HR
    have hfn : fitsN t xs = if lackN t.names xs then 60 else 0 := by unfold fitsN; rw [if_neg (by simp [h0])]
    rw [hfn]
    clear h0 hfn
    cases hl : lackN t.names xs with
    | true =>
      rw [hl] at HC
      go_enter Tryz.func22, Tryz.ntmps22
      go_wp2_with (first
        | (go_at_call 14; refine HR.out.mono ?_; rintro e w1 ⟨rfl, k1⟩; rw [HVV.out] at k1; have HK1 : Hid (Kept [] V w1) := k1; obtain ⟨f0, f1, f2, _⟩ := (HV0.out.kept k1).cells; clear k1)
        | (go_at_call 58; refine (HNA.out _ HK1.out).mono ?_; rintro e w2 ⟨u, rfl, ho, k2⟩; have HK2 : Hid (Kept [] V w2) := HK1.out.trans k2 (by simp) (by simp); have HSU : Hid (Strs w2 u t.names) := strs_own ho HSM.out (by omega); clear ho k2)
        | (go_at_call 57; refine (HC.out _ _ HK2.out HSU.out).mono ?_; rintro e w3 ⟨rfl, rfl⟩))
      go_ret
      exact ⟨rfl, HKV.out.trans HK2.out (by simp) (by simp)⟩
    | false =>
      rw [hl] at HC
      go_enter Tryz.func22, Tryz.ntmps22
      go_wp2_with (first
        | (go_at_call 14; refine HR.out.mono ?_; rintro e w1 ⟨rfl, k1⟩; rw [HVV.out] at k1; have HK1 : Hid (Kept [] V w1) := k1; obtain ⟨f0, f1, f2, _⟩ := (HV0.out.kept k1).cells; clear k1)
        | (go_at_call 58; refine (HNA.out _ HK1.out).mono ?_; rintro e w2 ⟨u, rfl, ho, k2⟩; have HK2 : Hid (Kept [] V w2) := HK1.out.trans k2 (by simp) (by simp); have HSU : Hid (Strs w2 u t.names) := strs_own ho HSM.out (by omega); clear ho k2)
        | (go_at_call 57; refine (HC.out _ _ HK2.out HSU.out).mono ?_; rintro e w3 ⟨rfl, rfl⟩))
      go_ret
      exact ⟨rfl, HKV.out.trans HK2.out (by simp) (by simp)⟩
  · have hne : ((rightN pastB t : Int) != 0) = true := by rw [bne_iff_ne]; omega
    have hfn : fitsN t xs = rightN pastB t := by unfold fitsN; rw [if_pos h0]
    rw [hfn]
    clear h0 hfn
    go_enter Tryz.func22, Tryz.ntmps22
    go_wp2_with (go_at_call 14; refine HR.out.mono ?_; rintro e w1 ⟨rfl, k1⟩; rw [HVV.out] at k1; have HK1 : Hid (Kept [] V w1) := k1; clear k1)
    go_ret
    exact ⟨rfl, HKV.out.trans HK1.out (by simp) (by simp)⟩
end Go.Proofs.YtnpeghaficghaaaGreatDoor

/- eval.isList, slices.Clone, eval.New. -/
namespace Go.Proofs.YtnpeghaficghaaaGreatDoor
open Go.RowKit Go.Shelf

/-- Is it a list of names. -/
def listTo (xs : List ByteArray) (k : Nat) : Prop := ∀ j (h : j < xs.length), j < k → nameB xs[j].data.toList = true ∧ hasN (xs.take j) xs[j] = false
def listB (xs : List ByteArray) : Prop := xs.length ≤ 8 ∧ listTo xs xs.length
theorem right_name (s : ByteArray) : rightN pastB ⟨3, s, []⟩ = if nameB s.data.toList then 0 else 30 := by
  unfold rightN Tr.every
  rw [Tr.parts_eq]
  have e : kidsParts [] ([] : List Tr) = [] := rfl
  simp only [e, List.all_cons, List.all_nil, Bool.and_true]
  have h1 : rightQ pastB ⟨3, s, []⟩ = nameB s.data.toList := by
    unfold rightQ formedB
    simp [pastB, kidsN, kidsL]
  rw [h1]
  have hs : (⟨3, s, []⟩ : Tr).size = 1 := by rw [Tr.size_eq]; rfl
  have hd : (⟨3, s, []⟩ : Tr).depth = 1 := by rw [Tr.depth_eq]; rfl
  rw [hs, hd]
  cases nameB s.data.toList <;> rfl
theorem Strs.take {W : World} {b o c : Nat} {xs : List ByteArray} (h : Strs W (.slice (some ⟨b, o, none⟩) xs.length c) xs) (n : Nat) (hn : n ≤ xs.length) : Strs W (.slice (some ⟨b, o, none⟩) n c) (xs.take n) := by
  have hl : (xs.take n).length = n := by rw [List.length_take]; omega
  refine ⟨by have := h.few; omega, fun x hx => h.small x (List.mem_of_mem_take hx), .inr ⟨b, o, c, by rw [hl], ?_⟩⟩
  rcases h.lie with ⟨h1, _⟩ | ⟨b', o', c', h1, h2, h3, h4⟩
  · cases h1
  · simp only [Value.slice.injEq, Option.some.injEq, Addr.mk.injEq, and_true, true_and] at h1
    obtain ⟨⟨rfl, rfl⟩, rfl⟩ := h1
    refine ⟨by omega, h3, fun i hi => ?_⟩
    rw [h4 i (by omega)]
    simp
theorem leafF (w : World) (s : ByteArray) : IsF w ⟨3, s, []⟩ (.slice none 0 0) := IsT.leaf _ w rfl none 0

set_option maxHeartbeats 2000000 in
set_option maxRecDepth 20000 in
theorem isList_any (v : Value) (xs : List ByteArray) (w : World) (hx : Strs w v xs) (hT : KidsTab w) (bb : Bool) (hb : bb = true ↔ listB xs) :
    Calls Tryz.prog 59 #[v] w fun e w' => e = .returned (.bool bb) ∧ Kept [] w w' := by
  have fx := hx.few
  by_cases h8 : xs.length ≤ 8
  · have h8i : ¬ (8 : Int) < (xs.length : Int) := by omega
    have HB : Hid (bb = true ↔ listTo xs xs.length) := by show _ ↔ _; rw [hb]; exact ⟨fun h => h.2, fun h => ⟨h8, h⟩⟩
    clear hb
    by_cases h0 : 0 < xs.length
    · obtain ⟨b, o, c, rfl, hc1, hc2, hc⟩ := hx.there h0
      have HC : Hid (∀ i (h : i < xs.length), w.cell? ⟨b, o + i, none⟩ = some (.string xs[i])) := hc
      have HRI : Hid (∀ W (s : ByteArray), Kept [] w W → s.size ≤ maxLen → Calls Tryz.prog 14 #[.agg #[.int .u8 3, .string s, .slice none 0 0]] W fun e w' => e = .returned (.int .i64 ((if nameB s.data.toList then 0 else 30 : Nat) : Nat)) ∧ Kept [] W w') := fun W s k hs => by
        have := right_any ⟨3, s, []⟩ (.slice none 0 0) W (leafF W s) (by rw [show (⟨3, s, []⟩ : Tr).size = 1 from by rw [Tr.size_eq]; rfl]; omega) (by rw [show (⟨3, s, []⟩ : Tr).depth = 1 from by rw [Tr.depth_eq]; rfl]; omega) ((Tr.all_eq _).2 ⟨⟨by show 3 < 256; omega, hs⟩, fun k hk => by cases hk⟩) (hT.kept k)
        rw [right_name] at this
        exact this
      have HCO : Hid (∀ W (n : Nat) (s : ByteArray), Kept [] w W → n ≤ xs.length → Calls Tryz.prog 56 #[.slice (some ⟨b, o, none⟩) n c, .string s] W fun e w' => e = .returned (.bool (hasN (xs.take n) s)) ∧ w' = W) := fun W n s k hn => containsS_any _ _ s W ((hx.kept k).take n hn)
      have HSM : Hid _ := hx.small
      clear hx hT hc
      go_enter Tryz.func59, Tryz.ntmps59
      go_wp2_with fail
      go_loopw [10] (fun v10 wr => ∃ k : Nat, k ≤ xs.length ∧ v10 = .int .i64 (k : Nat) ∧ Hid (Kept [] w wr ∧ listTo xs k)) (fun v10 _ => xs.length - (intOf v10).toNat)
      case atStart => exact ⟨0, Nat.zero_le _, rfl, Kept.refl [] w, fun j _ h => by omega⟩
      case round =>
        obtain ⟨k, hk, rfl, HF⟩ := hrel
        by_cases hlt : k < xs.length
        · have hlt' : (k : Int) < (xs.length : Int) := by omega
          have b0 : (0 : Int) ≤ (k : Int) := by omega
          have d1 := cell_kept0 HF.out.1 (HC.out k hlt)
          have hkc : (k : Int) ≤ (c : Int) := by omega
          have HRK : Hid _ := HRI.out wr xs[k] HF.out.1 (HSM.out _ (List.getElem_mem _))
          have HCK : Hid (∀ W, Kept [] w W → Calls Tryz.prog 56 #[.slice (some ⟨b, o, none⟩) k c, .string xs[k]] W fun e w' => e = .returned (.bool (hasN (xs.take k) xs[k])) ∧ w' = W) := fun W kk => HCO.out W k xs[k] kk hk
          cases hn : nameB xs[k].data.toList with
          | false =>
            have HNO : Hid (bb = false) := by
              show bb = false
              cases hbb : bb with
              | false => rfl
              | true => have := (HB.out.1 hbb k hlt hlt).1; rw [hn] at this; cases this
            have HRK2 : Hid (Calls Tryz.prog 14 #[.agg #[.int .u8 3, .string xs[k], .slice none 0 0]] wr fun e w' => e = .returned (.int .i64 30) ∧ Kept [] wr w') := by have := HRI.out wr xs[k] HF.out.1 (HSM.out _ (List.getElem_mem _)); rw [hn] at this; exact this
            obtain ⟨x, hxk⟩ : ∃ x, xs[k] = x := ⟨_, rfl⟩
            rw [hxk] at d1 HRK2
            clear hxk hn HRK HCK
            go_wp2_with (go_at_call 14; refine HRK2.out.mono ?_; rintro e W2 ⟨rfl, hk2⟩; have HK2 : Hid (Kept [] wr W2) := hk2; clear hk2)
            go_ret
            exact ⟨ret_bool HNO.out.symm, HF.out.1.trans HK2.out (by simp) (by simp)⟩
          | true =>
            have HRK2 : Hid (Calls Tryz.prog 14 #[.agg #[.int .u8 3, .string xs[k], .slice none 0 0]] wr fun e w' => e = .returned (.int .i64 0) ∧ Kept [] wr w') := by have := HRI.out wr xs[k] HF.out.1 (HSM.out _ (List.getElem_mem _)); rw [hn] at this; exact this
            cases hh : hasN (xs.take k) xs[k] with
            | true =>
              have HNO : Hid (bb = false) := by
                show bb = false
                cases hbb : bb with
                | false => rfl
                | true => have := (HB.out.1 hbb k hlt hlt).2; rw [hh] at this; cases this
              rw [hh] at HCK
              obtain ⟨x, hxk⟩ : ∃ x, xs[k] = x := ⟨_, rfl⟩
              rw [hxk] at d1 HRK2 HCK
              clear hxk hn HRK hh
              go_wp2_with (first
                | (go_at_call 14; refine HRK2.out.mono ?_; rintro e W2 ⟨rfl, hk2⟩; have HK2 : Hid (Kept [] wr W2) := hk2; clear hk2)
                | (go_at_call 56; refine (HCK.out _ (HF.out.1.trans HK2.out (by simp) (by simp))).mono ?_; rintro e W3 ⟨rfl, rfl⟩))
              go_ret
              exact ⟨ret_bool HNO.out.symm, HF.out.1.trans HK2.out (by simp) (by simp)⟩
            | false =>
              have HLT : Hid (listTo xs (k + 1)) := fun j hj hjk => by
                rcases Nat.lt_or_ge j k with h' | h'
                · exact HF.out.2 j hj h'
                · obtain rfl : j = k := by omega
                  exact ⟨hn, hh⟩
              rw [hh] at HCK
              obtain ⟨x, hxk⟩ : ∃ x, xs[k] = x := ⟨_, rfl⟩
              rw [hxk] at d1 HRK2 HCK
              clear hxk hn HRK hh
              go_wp2_with (first
                | (go_at_call 14; refine HRK2.out.mono ?_; rintro e W2 ⟨rfl, hk2⟩; have HK2 : Hid (Kept [] wr W2) := hk2; clear hk2)
                | (go_at_call 56; refine (HCK.out _ (HF.out.1.trans HK2.out (by simp) (by simp))).mono ?_; rintro e W3 ⟨rfl, rfl⟩))
              go_roundw
              case rel => exact ⟨k + 1, by omega, by go_num, HF.out.1.trans HK2.out (by simp) (by simp), HLT.out⟩
              case measure => simp [intOf]; omega
        · obtain rfl : k = xs.length := by omega
          have HYES : Hid (bb = true) := HB.out.2 HF.out.2
          go_wp2
          go_ret
          exact ⟨ret_bool HYES.out.symm, HF.out.1⟩
    · obtain rfl : xs = [] := List.length_eq_zero_iff.1 (by omega)
      obtain ⟨ad, c, rfl, _⟩ := hx.form
      have HYES : Hid (bb = true) := HB.out.2 (fun j h => by simp at h)
      clear hx hT
      simp only [List.length_nil]
      go_enter Tryz.func59, Tryz.ntmps59
      go_wp2_with fail
      go_loopw [10] (fun v10 wr => v10 = .int .i64 0 ∧ wr = w) (fun _ _ => 0)
      case atStart => exact ⟨rfl, rfl⟩
      case round =>
        obtain ⟨rfl, rfl⟩ := hrel
        go_wp2
        go_ret
        exact ⟨ret_bool HYES.out.symm, Kept.refl [] _⟩
  · have h8i : (8 : Int) < (xs.length : Int) := by omega
    have HNO : Hid (bb = false) := by
      show bb = false
      cases hbb : bb with
      | false => rfl
      | true => exact absurd (hb.1 hbb).1 h8
    obtain ⟨ad, c, rfl, _⟩ := hx.form
    clear hx hT hb
    go_enter Tryz.func59, Tryz.ntmps59
    go_wp2
    go_ret
    exact ⟨ret_bool HNO.out.symm, Kept.refl [] w⟩

/-- slices.Clone. -/
theorem ownsS_empty (w : World) : (w.alloc (.cells #[] 9)).ownsRow w.heap.size 9 1 (.slice (some ⟨w.heap.size, 0, none⟩) 0 0) 0 [] :=
  ⟨rfl, Or.inr ⟨w.heap.size, 0, #[], rfl, Nat.le_refl _, heap_alloc_new _ _, Nat.le_refl _, by unfold maxLen; omega, rfl, rfl⟩⟩
theorem ownsU_empty (w : World) : (w.alloc (.cells #[] 90)).ownsRow w.heap.size 90 1 (.slice (some ⟨w.heap.size, 0, none⟩) 0 0) 0 [] :=
  ⟨rfl, Or.inr ⟨w.heap.size, 0, #[], rfl, Nat.le_refl _, heap_alloc_new _ _, Nat.le_refl _, by unfold maxLen; omega, rfl, rfl⟩⟩
theorem strs_news {W : World} {b o : Nat} {xs : List ByteArray} (h : ∀ i (h : i < xs.length), W.cell? ⟨b, o + i, none⟩ = some (.string xs[i])) : ∀ j u, (strs xs)[j]? = some u → W.cell? ((⟨b, o, none⟩ : Addr).add j) = some u := by
  intro j u hj
  have hl : j < xs.length := by
    rcases Nat.lt_or_ge j xs.length with h' | h'
    · exact h'
    · rw [List.getElem?_eq_none (by simpa [strs] using h')] at hj; cases hj
  rw [addr_add, h j hl]
  simp [strs, hl] at hj
  rw [← hj]
set_option maxHeartbeats 800000 in
theorem cloneS_any (v : Value) (xs : List ByteArray) (w : World) (hx : Strs w v xs) :
    Calls Tryz.prog 61 #[v] w fun e w' => ∃ u, e = .returned u ∧ Strs w' u xs ∧ Kept [] w w' := by
  have fx := hx.few
  have hsm := hx.small
  rcases hx.lie with ⟨rfl, rfl⟩ | ⟨b, o, c, rfl, h2, h3, h4⟩
  · have heq : ∀ w, (binOp .eql 26 (.slice none 0 0) (.slice none 0 0)).run Tryz.prog w = .ok (.bool true) w := fun w => (Lib.run_eql_slice_nil (P := Tryz.prog) w 26 9 none 0 0 0 0 (by kernel_rfl))
    have HX : Hid _ := hx
    clear hx hsm
    go_enter Tryz.func61, Tryz.ntmps61
    go_wp2
    go_ret
    exact ⟨_, rfl, HX.out, Kept.refl [] w⟩
  · have heq : ∀ w, (binOp .eql 26 (.slice (some ⟨b, o, none⟩) xs.length c) (.slice none 0 0)).run Tryz.prog w = .ok (.bool false) w := fun w => (Lib.run_eql_slice_nil (P := Tryz.prog) w 26 9 (some ⟨b, o, none⟩) xs.length c 0 0 (by kernel_rfl))
    obtain ⟨i0, hi, hz0, hz1, hz2⟩ := info_parts Tryz.infoStr
    have HN : Hid (∀ W, Kept [] w W → ∀ j u, (strs xs)[j]? = some u → W.cell? ((⟨b, o, none⟩ : Addr).add j) = some u) := fun W k => strs_news (fun i h => cell_kept0 k (h4 i h))
    have HSM : Hid _ := hsm
    clear hx h4 hsm
    go_enter Tryz.func61, Tryz.ntmps61
    go_wp2_with (at_builtin; refine wpList_append_own _ rfl (.tmp 5) (.tmp 6) 26 rfl w.heap.size 9 i0 _ 1 16 (by kernel_rfl) hi hz0 hz1 hz2 rfl (by decide) (.slice (some ⟨w.heap.size, 0, none⟩) 0 0) 0 [] rfl (ownsS_empty w) ⟨b, o, none⟩ xs.length c (strs xs) rfl (by simp [strs]) (HN.out _ ((Kept.refl [] w).alloc _)) (fun u hu => by obtain ⟨x, _, rfl⟩ := List.mem_map.1 hu; rfl) (by unfold maxLen; omega) (by omega) (by simp) ?_; intro v' w1 hown hgrow hnil)
    have hk : Kept [] w w1 := ((Kept.refl [] w).alloc _).grown hgrow (fun k hk => by simp [Value.ownBlock] at hk; right; omega)
    go_ret
    exact ⟨_, rfl, strs_own (by simpa using hown) HSM.out fx, hk⟩
set_option maxHeartbeats 800000 in
theorem cloneU_any (v : Value) (xs : List Nat) (w : World) (hx : Lets w v xs) :
    Calls Tryz.prog 62 #[v] w fun e w' => ∃ u, e = .returned u ∧ Lets w' u xs ∧ Kept [] w w' := by
  have fx := hx.few
  have hsm := hx.small
  rcases hx.lie with ⟨rfl, rfl⟩ | ⟨b, o, c, rfl, h2, h3, h4⟩
  · have heq : ∀ w, (binOp .eql 27 (.slice none 0 0) (.slice none 0 0)).run Tryz.prog w = .ok (.bool true) w := fun w => (Lib.run_eql_slice_nil (P := Tryz.prog) w 27 90 none 0 0 0 0 (by kernel_rfl))
    have HX : Hid _ := hx
    clear hx hsm
    go_enter Tryz.func62, Tryz.ntmps62
    go_wp2
    go_ret
    exact ⟨_, rfl, HX.out, Kept.refl [] w⟩
  · have heq : ∀ w, (binOp .eql 27 (.slice (some ⟨b, o, none⟩) xs.length c) (.slice none 0 0)).run Tryz.prog w = .ok (.bool false) w := fun w => (Lib.run_eql_slice_nil (P := Tryz.prog) w 27 90 (some ⟨b, o, none⟩) xs.length c 0 0 (by kernel_rfl))
    obtain ⟨i0, hi, hz0, hz1, hz2⟩ := info_parts Tryz.infoU16
    have HN : Hid (∀ W, Kept [] w W → ∀ j u, (u16s xs)[j]? = some u → W.cell? ((⟨b, o, none⟩ : Addr).add j) = some u) := fun W k => lets_news (fun i h => cell_kept0 k (h4 i h))
    have HSM : Hid _ := hsm
    clear hx h4 hsm
    go_enter Tryz.func62, Tryz.ntmps62
    go_wp2_with (at_builtin; refine wpList_append_own _ rfl (.tmp 5) (.tmp 6) 27 rfl w.heap.size 90 i0 _ 1 2 (by kernel_rfl) hi hz0 hz1 hz2 rfl (by decide) (.slice (some ⟨w.heap.size, 0, none⟩) 0 0) 0 [] rfl (ownsU_empty w) ⟨b, o, none⟩ xs.length c (u16s xs) rfl (by simp [u16s]) (HN.out _ ((Kept.refl [] w).alloc _)) (u16s_one xs) (by unfold maxLen; omega) (by omega) (by simp) ?_; intro v' w1 hown hgrow hnil)
    have hk : Kept [] w w1 := ((Kept.refl [] w).alloc _).grown hgrow (fun k hk => by simp [Value.ownBlock] at hk; right; omega)
    go_ret
    exact ⟨_, rfl, lets_own (by simpa using hown) HSM.out fx, hk⟩
end Go.Proofs.YtnpeghaficghaaaGreatDoor

/- eval.New. -/
namespace Go.Proofs.YtnpeghaficghaaaGreatDoor
open Go.RowKit Go.Shelf Go.Maps

def listBool (xs : List ByteArray) : Bool := decide (xs.length ≤ 8) && (List.range xs.length).all fun j => nameB (xs.getD j ⟨#[]⟩).data.toList && !hasN (xs.take j) (xs.getD j ⟨#[]⟩)
theorem listBool_iff (xs : List ByteArray) : listBool xs = true ↔ listB xs := by
  unfold listBool listB listTo
  rw [Bool.and_eq_true, decide_eq_true_eq, List.all_eq_true]
  refine and_congr_right fun _ => ⟨fun h j hj _ => ?_, fun h j hj => ?_⟩
  · have := h j (List.mem_range.2 hj)
    rw [Bool.and_eq_true, List.getD_eq_getElem?_getD, List.getElem?_eq_getElem hj] at this
    exact ⟨this.1, by simpa using this.2⟩
  · have hj' := List.mem_range.1 hj
    have := h j hj' hj'
    rw [Bool.and_eq_true, List.getD_eq_getElem?_getD, List.getElem?_eq_getElem hj']
    exact ⟨this.1, by simpa using this.2⟩
theorem check_zero {q : Wd} {n : Nat} (h : checkE q n = 0) : 0 < q.loop.length := by
  unfold checkE at h
  split at h
  · cases h
  · split at h
    · cases h
    · rename_i h1; omega
/-- What New leaves where it makes a table. -/
def NewPost (w : World) (q : Wd) (xs : List ByteArray) (e : Ending) (w' : World) : Prop :=
  ∃ p m nv sv lv w₁, e = .returned (.tuple #[.pointer (some ⟨p, 0, none⟩), .int .i64 0]) ∧ TabIs w₁ w' p m nv sv lv (.slice none 0 0) q xs [] ∧ Kept [] w w' ∧ w.heap.size ≤ m ∧ w.heap.size ≤ w₁.heap.size
theorem newPost_of {w w₁ : World} {q : Wd} {xs : List ByteArray} {nv su lu : Value} {m P : Nat} (hP : w₁.heap.size = P) (hW : IsW w₁ su lu q) (hN : Strs w₁ nv xs) (hm : w₁.ownsMap Tryz.prog 9 (plainElem Tryz.prog 3) m 0 (.map [] : DataW Unit)) (hk : Kept [] w w₁) (hw : w.heap.size ≤ m) :
    NewPost w q xs (.returned (.tuple #[.pointer (some ⟨P, 0, none⟩), .int .i64 0])) (w₁.alloc (.cells #[nv, su, lu, .slice none 0 0, .map (some m)] 94)) := by
  subst hP
  have hmb : ∃ es c, w₁.heap[m]? = some (.map es c) := by
    obtain ⟨es, c, hb, _⟩ := hm
    exact ⟨es, c, hb⟩
  refine ⟨w₁.heap.size, m, nv, su, lu, w₁, rfl, ⟨hW, hN, hmb, (Kept.refl [m] w₁).alloc _, Nat.le_refl _, heap_alloc_new _ _, ⟨[], World.ownsRow_nil _ _ _ _, fun i hi => by simp at hi⟩, ⟨_, hm.alloc _, KnownOf.nil⟩⟩, hk.alloc _, hw, hk.size⟩

set_option maxHeartbeats 4000000 in
set_option maxRecDepth 20000 in
theorem new_ok (v sv lv : Value) (xs : List ByteArray) (q : Wd) (w : World) (hN : Strs w v xs) (hW : IsW w sv lv q) (hT : KidsTab w) (hl : listBool xs = true) (hc : checkE q xs.length = 0) :
    Calls Tryz.prog 23 #[v, .agg #[sv, lv]] w (NewPost w q xs) := by
  have h8 : xs.length ≤ 8 := ((listBool_iff xs).1 hl).1
  have hmm := @run_makeMap Tryz.prog
  obtain ⟨V, hV⟩ : ∃ V, w.alloc (.cells #[sv, lv] 29) = V := ⟨_, rfl⟩
  have kV : Kept [] w V := by rw [← hV]; exact (Kept.refl [] w).alloc _
  have v0 : Wd2 V w.heap.size sv lv := by rw [← hV]; exact heap_alloc_new w _
  have HL : Hid (Calls Tryz.prog 59 #[v] V fun e w' => e = .returned (.bool true) ∧ Kept [] V w') := isList_any v xs V (hN.kept kV) (hT.kept kV) true (by rw [← listBool_iff, hl])
  have HCH : Hid (∀ W, Kept [] V W → Calls Tryz.prog 60 #[.agg #[sv, lv], .int .i64 (xs.length : Nat)] W fun e w' => e = .returned (.int .i64 0) ∧ Kept [] W w') := fun W k => by
    have := check_good sv lv q xs.length W ((hW.kept kV).kept k) h8
    rw [hc] at this
    exact this
  have HCS : Hid (∀ W, Kept [] V W → Calls Tryz.prog 61 #[v] W fun e w' => ∃ u, e = .returned u ∧ Strs w' u xs ∧ Kept [] W w') := fun W k => cloneS_any v xs W ((hN.kept kV).kept k)
  have HU1 : Hid (∀ W, Kept [] V W → Calls Tryz.prog 62 #[sv] W fun e w' => ∃ u, e = .returned u ∧ Lets w' u q.stem ∧ Kept [] W w') := fun W k => cloneU_any sv q.stem W ((hW.kept kV).kept k).st
  have HU2 : Hid (∀ W, Kept [] V W → Calls Tryz.prog 62 #[lv] W fun e w' => ∃ u, e = .returned u ∧ Lets w' u q.loop ∧ Kept [] W w') := fun W k => cloneU_any lv q.loop W ((hW.kept kV).kept k).lp
  have HFW : Hid _ := hW.few
  obtain ⟨ad, c, rfl, _⟩ := hN.form
  obtain ⟨ast, cs, rfl, _, _⟩ := hW.st.form
  obtain ⟨al, cl, rfl, _, _⟩ := hW.lp.form
  have HKV : Hid (Kept [] w V) := kV
  have HV0 : Hid (Wd2 V w.heap.size (.slice ast q.stem.length cs) (.slice al q.loop.length cl)) := v0
  have HVV : Hid (_ = V) := hV
  rw [← hV] at HL
  clear hN hW hT hl hc kV v0 hV
  go_enter Tryz.func23, Tryz.ntmps23
  go_wp2_with (first
    | (go_at_call 59; refine HL.out.mono ?_; rintro e w1 ⟨rfl, k1⟩; rw [HVV.out] at k1; have HK1 : Hid (Kept [] V w1) := k1; obtain ⟨f0, f1, _, _⟩ := (HV0.out.kept k1).cells; clear k1)
    | (go_at_call 60; refine (HCH.out _ HK1.out).mono ?_; rintro e U ⟨rfl, k2⟩; have HKU : Hid (Kept [] V U) := HK1.out.trans k2 (by simp) (by simp); clear k2))
  have hS : ∀ W, Kept [] U W → (W.cell? ⟨w.heap.size, 0, none⟩ = some (.slice ast q.stem.length cs) ∧ W.cell? ⟨w.heap.size, 1, none⟩ = some (.slice al q.loop.length cl)) := fun W k => by
    obtain ⟨g0, g1, _, _⟩ := ((HV0.out.kept HKU.out).kept k).cells
    exact ⟨g0, g1⟩
  have HS : Hid _ := hS
  obtain ⟨e0, e1⟩ := hS U (Kept.refl [] U)
  have hzU := (HKV.out.trans HKU.out (H := []) (by simp) (by simp)).size
  have HZU : Hid _ := hzU
  clear hS hzU
  go_region_held3 (fun w' => w'.cell? ⟨w.heap.size, 0, none⟩ = some (.slice ast q.stem.length cs) ∧ w'.cell? ⟨w.heap.size, 1, none⟩ = some (.slice al q.loop.length cl))
    ((refine HS.out _ ?_; (repeat (first | exact Kept.refl [] _ | refine Kept.drew ?_ | refine Kept.alloc ?_ _ | refine Kept.trans (F := []) (G := []) (H := []) ?_ HKS.out (by simp) (by simp) | refine Kept.trans (F := []) (G := []) (H := []) ?_ HKA.out (by simp) (by simp) | refine Kept.trans (F := []) (G := []) (H := []) ?_ HKB.out (by simp) (by simp)))))
    (first
    | (go_at_call 61; refine (HCS.out _ (by repeat (first | exact HKU.out | refine Kept.drew ?_ | refine Kept.alloc ?_ _ | refine Kept.trans (F := []) (G := []) (H := []) ?_ HKA.out (by simp) (by simp) | refine Kept.trans (F := []) (G := []) (H := []) ?_ HKB.out (by simp) (by simp)))).mono ?_; rintro e WS ⟨us, rfl, hs, ks⟩; obtain ⟨sad, scp, rfl, _, _⟩ := hs.form; have HKS : Hid _ := ks; have HSS : Hid (Strs WS (.slice sad xs.length scp) xs) := hs; clear ks hs)
    | (go_at_call 62; (with_reducible show Calls _ _ #[.slice ast _ _] _ _); refine (HU1.out _ (by repeat (first | exact HKU.out | refine Kept.drew ?_ | refine Kept.alloc ?_ _ | refine Kept.trans (F := []) (G := []) (H := []) ?_ HKS.out (by simp) (by simp) | refine Kept.trans (F := []) (G := []) (H := []) ?_ HKB.out (by simp) (by simp)))).mono ?_; rintro e WA ⟨ua, rfl, ha, ka⟩; obtain ⟨aad, acp, rfl, _, _⟩ := ha.form; have HKA : Hid _ := ka; have HAA : Hid (Lets WA (.slice aad q.stem.length acp) q.stem) := ha; clear ka ha)
    | (go_at_call 62; (with_reducible show Calls _ _ #[.slice al _ _] _ _); refine (HU2.out _ (by repeat (first | exact HKU.out | refine Kept.drew ?_ | refine Kept.alloc ?_ _ | refine Kept.trans (F := []) (G := []) (H := []) ?_ HKS.out (by simp) (by simp) | refine Kept.trans (F := []) (G := []) (H := []) ?_ HKA.out (by simp) (by simp)))).mono ?_; rintro e WB ⟨ub, rfl, hb, kb⟩; obtain ⟨bad, bcp, rfl, _, _⟩ := hb.form; have HKB : Hid _ := kb; have HBB : Hid (Lets WB (.slice bad q.loop.length bcp) q.loop) := hb; clear kb hb))
  all_goals
    have z1 := HZU.out
    have z2 := HKS.out.size
    have z3 := HKA.out.size
    have z4 := HKB.out.size
    try simp only [drew_heap] at z2 z3 z4
    try simp only [World.size_alloc] at z2 z3 z4
    have HZ : Hid (w.heap.size ≤ U.heap.size ∧ w.heap.size ≤ WS.heap.size ∧ w.heap.size ≤ WA.heap.size ∧ w.heap.size ≤ WB.heap.size) := ⟨by omega, by omega, by omega, by omega⟩
    clear z1 z2 z3 z4
    go_wp2_with fail
    go_ret2
    refine newPost_of (w₁ := _) ?_ ⟨?_, ?_, HFW.out⟩ ?_ ?_ ?_ ?_
    · first | rfl | exact World.size_alloc _ _
    · repeat (first | exact HAA.out | refine Lets.kept ?_ HKB.out | refine Lets.kept ?_ ((Kept.refl [] _).alloc _))
    · repeat (first | exact HBB.out | refine Lets.kept ?_ ((Kept.refl [] _).alloc _))
    · repeat (first | exact HSS.out | refine Strs.kept ?_ HKB.out | refine Strs.kept ?_ HKA.out | refine Strs.kept ?_ ((Kept.refl [] _).alloc _))
    · repeat (first | exact World.ownsMap_made _ _ _ _ | refine World.ownsMap.kept ?_ (grownBy_of_kept HKB.out) (by simp) | refine World.ownsMap.kept ?_ (grownBy_of_kept HKA.out) (by simp) | refine World.ownsMap.kept ?_ (grownBy_of_kept HKS.out) (by simp))
    · repeat (first | exact HKV.out.trans HKU.out (by simp) (by simp) | refine Kept.drew ?_ | refine Kept.alloc ?_ _ | refine Kept.trans (F := []) (G := []) (H := []) ?_ HKB.out (by simp) (by simp) | refine Kept.trans (F := []) (G := []) (H := []) ?_ HKA.out (by simp) (by simp) | refine Kept.trans (F := []) (G := []) (H := []) ?_ HKS.out (by simp) (by simp))
    · obtain ⟨y1, y2, y3, y4⟩ := HZ.out
      assumption

set_option maxHeartbeats 1000000 in
set_option maxRecDepth 20000 in
theorem new_list (v sv lv : Value) (xs : List ByteArray) (q : Wd) (w : World) (hN : Strs w v xs) (hW : IsW w sv lv q) (hT : KidsTab w) (hl : listBool xs = false) :
    Calls Tryz.prog 23 #[v, .agg #[sv, lv]] w fun e w' => e = .returned (.tuple #[.pointer none, .int .i64 60]) ∧ Kept [] w w' := by
  have kV := (Kept.refl [] w).alloc (.cells #[sv, lv] 29)
  have HL : Hid (Calls Tryz.prog 59 #[v] (w.alloc (.cells #[sv, lv] 29)) fun e w' => e = .returned (.bool false) ∧ Kept [] (w.alloc (.cells #[sv, lv] 29)) w') := isList_any v xs _ (hN.kept kV) (hT.kept kV) false (by rw [← listBool_iff, hl])
  obtain ⟨ad, c, rfl, _⟩ := hN.form
  obtain ⟨ast, cs, rfl, _, _⟩ := hW.st.form
  obtain ⟨al, cl, rfl, _, _⟩ := hW.lp.form
  clear hN hW hT hl kV
  go_enter Tryz.func23, Tryz.ntmps23
  go_wp2_with (go_at_call 59; refine HL.out.mono ?_; rintro e w1 ⟨rfl, k1⟩; have HK1 : Hid (Kept [] _ w1) := k1; clear k1)
  go_ret2
  exact ⟨rfl, ((Kept.refl [] w).alloc _).trans HK1.out (by simp) (by simp)⟩
set_option maxHeartbeats 1000000 in
set_option maxRecDepth 20000 in
theorem new_word (v sv lv : Value) (xs : List ByteArray) (q : Wd) (w : World) (hN : Strs w v xs) (hW : IsW w sv lv q) (hT : KidsTab w) (hl : listBool xs = true) (hc : checkE q xs.length ≠ 0) :
    Calls Tryz.prog 23 #[v, .agg #[sv, lv]] w fun e w' => e = .returned (.tuple #[.pointer none, .int .i64 61]) ∧ Kept [] w w' := by
  have h8 : xs.length ≤ 8 := ((listBool_iff xs).1 hl).1
  obtain ⟨V, hV⟩ : ∃ V, w.alloc (.cells #[sv, lv] 29) = V := ⟨_, rfl⟩
  have kV : Kept [] w V := by rw [← hV]; exact (Kept.refl [] w).alloc _
  have v0 : Wd2 V w.heap.size sv lv := by rw [← hV]; exact heap_alloc_new w _
  have HL : Hid (Calls Tryz.prog 59 #[v] V fun e w' => e = .returned (.bool true) ∧ Kept [] V w') := isList_any v xs V (hN.kept kV) (hT.kept kV) true (by rw [← listBool_iff, hl])
  obtain ⟨ce, hce⟩ : ∃ ce, checkE q xs.length = ce := ⟨_, rfl⟩
  have HCH : Hid (∀ W, Kept [] V W → Calls Tryz.prog 60 #[.agg #[sv, lv], .int .i64 (xs.length : Nat)] W fun e w' => e = .returned (.int .i64 (ce : Nat)) ∧ Kept [] W w') := fun W k => by
    have := check_good sv lv q xs.length W ((hW.kept kV).kept k) h8
    rw [hce] at this
    exact this
  rw [hce] at hc
  have hne : ((ce : Int) != 0) = true := by rw [bne_iff_ne]; omega
  obtain ⟨ad, c, rfl, _⟩ := hN.form
  obtain ⟨ast, cs, rfl, _, _⟩ := hW.st.form
  obtain ⟨al, cl, rfl, _, _⟩ := hW.lp.form
  have HKV : Hid (Kept [] w V) := kV
  have HV0 : Hid (Wd2 V w.heap.size (.slice ast q.stem.length cs) (.slice al q.loop.length cl)) := v0
  have HVV : Hid (_ = V) := hV
  rw [← hV] at HL
  clear hN hW hT hl hc kV v0 hV hce
  go_enter Tryz.func23, Tryz.ntmps23
  go_wp2_with (first
    | (go_at_call 59; refine HL.out.mono ?_; rintro e w1 ⟨rfl, k1⟩; rw [HVV.out] at k1; have HK1 : Hid (Kept [] V w1) := k1; obtain ⟨f0, f1, _, _⟩ := (HV0.out.kept k1).cells; clear k1)
    | (go_at_call 60; refine (HCH.out _ HK1.out).mono ?_; rintro e U ⟨rfl, k2⟩; have HKU : Hid (Kept [] V U) := HK1.out.trans k2 (by simp) (by simp); clear k2))
  go_ret2
  exact ⟨rfl, HKV.out.trans HKU.out (by simp) (by simp)⟩
end Go.Proofs.YtnpeghaficghaaaGreatDoor

/- eval.Along, eval.Holds. -/
namespace Go.Proofs.YtnpeghaficghaaaGreatDoor
open Go.RowKit Go.Shelf Go.Maps

theorem text_small (t : Tr) : t.Good → t.text.length ≤ 33 * t.size := by
  induction t using Tr.ind with
  | h t ih =>
    intro hG
    obtain ⟨⟨hf, _⟩, hk⟩ := (Tr.all_eq t).1 hG
    have hn : t.name.data.toList.length ≤ 32 := by
      simp only [formedB, Bool.and_eq_true] at hf
      have h2 := hf.2
      split at h2
      · simp only [nameB, Bool.and_eq_true, decide_eq_true_eq] at h2
        omega
      · rw [empty_of h2]; decide
    have hs : ((t.kids.map Tr.text).flatten).length ≤ 33 * (t.kids.map Tr.size).sum := by
      have key : ∀ l : List Tr, (∀ k ∈ l, k.text.length ≤ 33 * k.size) → ((l.map Tr.text).flatten).length ≤ 33 * (l.map Tr.size).sum := by
        intro l
        induction l with
        | nil => intro _; simp
        | cons a l ih2 =>
          intro h
          have h1 := h a (by simp)
          have h2 := ih2 (fun k hk => h k (by simp [hk]))
          simp only [List.map_cons, List.flatten_cons, List.length_append, List.sum_cons]
          omega
      exact key t.kids (fun k hk' => ih k hk' (hk k hk'))
    rw [Tr.text_eq, Tr.size_eq]
    simp only [List.length_cons, List.length_append]
    omega
def alongE (t : Tr) (xs : List ByteArray) (q : Wd) : Nat := if fitsN t xs ≠ 0 then fitsN t xs else if listBool xs = false then 60 else if checkE q xs.length ≠ 0 then 61 else 0
theorem fits_zero {t : Tr} {xs : List ByteArray} (h : fitsN t xs = 0) : t.Good ∧ t.size ≤ 1000 ∧ t.Named xs ∧ rightN pastB t = 0 := by
  unfold fitsN at h
  split at h
  · rename_i h1; exact absurd h h1
  · rename_i h1
    have h1' : rightN pastB t = 0 := by simpa using h1
    split at h
    · cases h
    · rename_i h2
      obtain ⟨g1, g2⟩ := good_of_right h1'
      exact ⟨g1, g2, named_of_lack (by simpa using h2), h1'⟩
theorem along_zero {t : Tr} {xs : List ByteArray} {q : Wd} (h : alongE t xs q = 0) : fitsN t xs = 0 ∧ listBool xs = true ∧ checkE q xs.length = 0 := by
  unfold alongE at h
  split at h
  · rename_i h1; exact absurd h h1
  · rename_i h1
    split at h
    · cases h
    · rename_i h2
      split at h
      · cases h
      · rename_i h3
        exact ⟨by simpa using h1, by simpa using h2, by simpa using h3⟩
/-- What row leaves, behind New. -/
theorem row_behind {w V W W' : World} {q : Wd} {xs : List ByteArray} {t : Tr} {p m : Nat} {nv sv lv : Value} {w₁ : World} {e : Ending} (hk : Kept [] w V) (hk2 : Kept [] V W) (hm : V.heap.size ≤ m) (h1 : V.heap.size ≤ w₁.heap.size) (hlow : w₁.heap.size ≤ p) (h : RowPost w₁ W p m nv sv lv (.slice none 0 0) q xs [] t e W') : ∃ b, e = .returned (.slice (some ⟨b, 0, none⟩) q.len q.len) ∧ RowB W' b q.len (rowT q xs t) ∧ Kept [] w W' := by
  obtain ⟨b, rv', known', he, hr, _, k, _⟩ := h
  refine ⟨b, he, hr, (hk.trans hk2 (H := []) (by simp) (by simp)).trans k (by simp) (fun x hx => .inr ?_)⟩
  have hz := hk.size
  rcases List.mem_cons.1 hx with e | hx
  · omega
  · rcases List.mem_cons.1 hx with e | hx
    · omega
    · simp [Value.ownBlock] at hx

set_option maxHeartbeats 2000000 in
set_option maxRecDepth 20000 in
theorem along_ok (t : Tr) (kv v sv lv : Value) (xs : List ByteArray) (q : Wd) (w : World) (hI : IsF w t kv) (hF : t.Fine) (hN : Strs w v xs) (hW : IsW w sv lv q) (hT : KidsTab w) (hs : t.size ≤ 1099511627776) (hd : t.depth ≤ 1099511627776) (he : alongE t xs q = 0) :
    Calls Tryz.prog 13 #[.agg #[.int .u8 (t.op : Nat), .string t.name, kv], v, .agg #[sv, lv]] w fun e w' => ∃ b, e = .returned (.tuple #[.slice (some ⟨b, 0, none⟩) q.len q.len, .int .i64 0]) ∧ RowB w' b q.len (rowT q xs t) ∧ Kept [] w w' := by
  obtain ⟨e1, e2, e3⟩ := along_zero he
  obtain ⟨hG, hsz, hNm, _⟩ := fits_zero e1
  have h0 := check_zero e3
  have h8 : xs.length ≤ 8 := ((listBool_iff xs).1 e2).1
  have htx := text_small t hG
  obtain ⟨kad, kcap, rfl⟩ := hI.slice
  obtain ⟨V, hV⟩ : ∃ V, (w.alloc (.cells #[.int .u8 (t.op : Nat), .string t.name, .slice kad t.kids.length kcap] 25)).alloc (.cells #[sv, lv] 29) = V := ⟨_, rfl⟩
  have kV : Kept [] w V := by rw [← hV]; exact ((Kept.refl [] w).alloc _).alloc _
  have v0 : For3 V w.heap.size (.int .u8 (t.op : Nat)) (.string t.name) (.slice kad t.kids.length kcap) := by rw [← hV]; exact alUp (al0 _ _) _
  have v1 : Wd2 V (w.heap.size + 1) sv lv := by rw [← hV]; exact al1 _ _ _
  have HFI : Hid (Calls Tryz.prog 22 #[.agg #[.int .u8 (t.op : Nat), .string t.name, .slice kad t.kids.length kcap], v] V fun e w' => e = .returned (.int .i64 0) ∧ Kept [] V w') := by
    have := efits_any t _ v xs V (hI.kept kV) hs hd hF (hT.kept kV) (hN.kept kV)
    rw [e1] at this
    exact this
  have HNE : Hid (∀ W, Kept [] V W → Calls Tryz.prog 23 #[v, .agg #[sv, lv]] W (NewPost W q xs)) := fun W k => new_ok v sv lv xs q W ((hN.kept kV).kept k) ((hW.kept kV).kept k) ((hT.kept kV).kept k) e2 e3
  have HRO : Hid (∀ (U W : World) (p m : Nat) (nv su lu : Value) (w₁ : World), Kept [] V U → Kept [] U W → U.heap.size ≤ m → U.heap.size ≤ w₁.heap.size → TabIs w₁ W p m nv su lu (.slice none 0 0) q xs [] → Calls Tryz.prog 24 #[.pointer (some ⟨p, 0, none⟩), .agg #[.int .u8 (t.op : Nat), .string t.name, .slice kad t.kids.length kcap]] W fun e w' => ∃ b, e = .returned (.slice (some ⟨b, 0, none⟩) q.len q.len) ∧ RowB w' b q.len (rowT q xs t) ∧ Kept [] V w') := fun U W p m nv su lu w₁ k1 k2 hm h1 hTb => by
    have kW := kV.trans k1 (H := []) (by simp) (by simp)
    have kWW := kW.trans k2 (H := []) (by simp) (by simp)
    have hz := kWW.size
    have hzu := kW.size
    refine (row_any h0 h8 t (fun k => k < w.heap.size) _ w₁ W p m nv su lu _ [] hG hNm hF (IsT.cells (fun _ h => h) (fun _ _ _ _ c => cell_kept0 kWW c) hI) (fun k hk => ⟨by omega, fun hin => ?_⟩) hTb (by simp; omega) (by omega)).mono (fun e w' hp => row_behind k1 k2 hm h1 hTb.low hp)
    have hl := hTb.low
    rcases List.mem_cons.1 hin with e | hin
    · omega
    · rcases List.mem_cons.1 hin with e | hin
      · omega
      · simp [Value.ownBlock] at hin
  obtain ⟨ad, c, rfl, _⟩ := hN.form
  obtain ⟨ast, cs, rfl, _, _⟩ := hW.st.form
  obtain ⟨al, cl, rfl, _, _⟩ := hW.lp.form
  have HKV : Hid (Kept [] w V) := kV
  have HV0 : Hid (For3 V w.heap.size (.int .u8 (t.op : Nat)) (.string t.name) (.slice kad t.kids.length kcap)) := v0
  have HV1 : Hid (Wd2 V (w.heap.size + 1) (.slice ast q.stem.length cs) (.slice al q.loop.length cl)) := v1
  have HVV : Hid (_ = V) := hV
  rw [← hV] at HFI
  clear hI hF hN hW hT he e1 e2 e3 hG hNm hsz kV v0 v1 hV htx
  go_enter Tryz.func13, Tryz.ntmps13
  go_wp2_with (first
    | (go_at_call 22; refine HFI.out.mono ?_; rintro e U ⟨rfl, k1⟩; rw [HVV.out] at k1; have HKU : Hid (Kept [] V U) := k1; obtain ⟨g0, g1, _, _⟩ := (HV1.out.kept k1).cells; clear k1)
    | (go_at_call 23; refine (HNE.out _ HKU.out).mono ?_; rintro e W ⟨p, m, nv, su, lu, w₁, rfl, hTb, k2, hm, h1⟩; have HTB : Hid (TabIs w₁ W p m nv su lu (.slice none 0 0) q xs []) := hTb; have HK2 : Hid (Kept [] U W) := k2; obtain ⟨f0, f1, f2, _⟩ := ((HV0.out.kept HKU.out).kept k2).cells; have HMM : Hid _ := hm; have HH1 : Hid _ := h1; clear hTb k2 hm h1)
    | (go_at_call 24; refine (HRO.out U W p m nv su lu w₁ HKU.out HK2.out HMM.out HH1.out HTB.out).mono ?_; rintro e W3 ⟨b, rfl, hr, k3⟩; have HRR : Hid _ := hr; have HK3 : Hid (Kept [] V W3) := k3; clear hr k3))
  go_ret2
  exact ⟨b, rfl, HRR.out, HKV.out.trans HK3.out (by simp) (by simp)⟩
set_option maxHeartbeats 2000000 in
set_option maxRecDepth 20000 in
theorem along_bad (t : Tr) (kv v sv lv : Value) (xs : List ByteArray) (q : Wd) (w : World) (hI : IsF w t kv) (hF : t.Fine) (hN : Strs w v xs) (hW : IsW w sv lv q) (hT : KidsTab w) (hs : t.size ≤ 1099511627776) (hd : t.depth ≤ 1099511627776) (he : alongE t xs q ≠ 0) :
    Calls Tryz.prog 13 #[.agg #[.int .u8 (t.op : Nat), .string t.name, kv], v, .agg #[sv, lv]] w fun e w' => e = .returned (.tuple #[.slice none 0 0, .int .i64 (alongE t xs q : Nat)]) ∧ Kept [] w w' := by
  obtain ⟨kad, kcap, rfl⟩ := hI.slice
  obtain ⟨V, hV⟩ : ∃ V, (w.alloc (.cells #[.int .u8 (t.op : Nat), .string t.name, .slice kad t.kids.length kcap] 25)).alloc (.cells #[sv, lv] 29) = V := ⟨_, rfl⟩
  have kV : Kept [] w V := by rw [← hV]; exact ((Kept.refl [] w).alloc _).alloc _
  have v1 : Wd2 V (w.heap.size + 1) sv lv := by rw [← hV]; exact al1 _ _ _
  have HFI : Hid (Calls Tryz.prog 22 #[.agg #[.int .u8 (t.op : Nat), .string t.name, .slice kad t.kids.length kcap], v] V fun e w' => e = .returned (.int .i64 (fitsN t xs : Nat)) ∧ Kept [] V w') := efits_any t _ v xs V (hI.kept kV) hs hd hF (hT.kept kV) (hN.kept kV)
  have HKV : Hid (Kept [] w V) := kV
  have HVV : Hid (_ = V) := hV
  rw [← hV] at HFI
  by_cases e1 : fitsN t xs = 0
  · have HNE : Hid (∀ W, Kept [] V W → Calls Tryz.prog 23 #[v, .agg #[sv, lv]] W fun e w' => e = .returned (.tuple #[.pointer none, .int .i64 (alongE t xs q : Nat)]) ∧ Kept [] W w') := fun W k => by
      cases hl : listBool xs with
      | false =>
        have := new_list v sv lv xs q W ((hN.kept kV).kept k) ((hW.kept kV).kept k) ((hT.kept kV).kept k) hl
        rw [show alongE t xs q = 60 from by unfold alongE; rw [if_neg (by simp [e1]), if_pos hl]]
        exact this
      | true =>
        have hc : checkE q xs.length ≠ 0 := fun h => he (by unfold alongE; rw [if_neg (by simp [e1]), if_neg (by simp [hl]), if_neg (by simp [h])])
        have := new_word v sv lv xs q W ((hN.kept kV).kept k) ((hW.kept kV).kept k) ((hT.kept kV).kept k) hl hc
        rw [show alongE t xs q = 61 from by unfold alongE; rw [if_neg (by simp [e1]), if_neg (by simp [hl]), if_pos hc]]
        exact this
    rw [e1] at HFI
    obtain ⟨ae, hae⟩ : ∃ ae, alongE t xs q = ae := ⟨_, rfl⟩
    rw [hae] at HNE he ⊢
    have hne : ((ae : Int) != 0) = true := by rw [bne_iff_ne]; omega
    obtain ⟨ad, c, rfl, _⟩ := hN.form
    obtain ⟨ast, cs, rfl, _, _⟩ := hW.st.form
    obtain ⟨al, cl, rfl, _, _⟩ := hW.lp.form
    have HV1 : Hid (Wd2 V (w.heap.size + 1) (.slice ast q.stem.length cs) (.slice al q.loop.length cl)) := v1
    clear hI hF hN hW hT e1 kV v1 hV hae
    go_enter Tryz.func13, Tryz.ntmps13
    go_wp2_with (first
      | (go_at_call 22; refine HFI.out.mono ?_; rintro e U ⟨rfl, k1⟩; rw [HVV.out] at k1; have HKU : Hid (Kept [] V U) := k1; obtain ⟨g0, g1, _, _⟩ := (HV1.out.kept k1).cells; clear k1)
      | (go_at_call 23; refine (HNE.out _ HKU.out).mono ?_; rintro e W ⟨rfl, k2⟩; have HK2 : Hid (Kept [] V W) := HKU.out.trans k2 (by simp) (by simp); clear k2))
    go_ret2
    exact ⟨rfl, HKV.out.trans HK2.out (by simp) (by simp)⟩
  · rw [show alongE t xs q = fitsN t xs from by unfold alongE; rw [if_pos e1]]
    have hne : ((fitsN t xs : Int) != 0) = true := by rw [bne_iff_ne]; omega
    obtain ⟨ad, c, rfl, _⟩ := hN.form
    obtain ⟨ast, cs, rfl, _, _⟩ := hW.st.form
    obtain ⟨al, cl, rfl, _, _⟩ := hW.lp.form
    clear hI hF hN hW hT e1 kV v1 hV he
    go_enter Tryz.func13, Tryz.ntmps13
    go_wp2_with (go_at_call 22; refine HFI.out.mono ?_; rintro e U ⟨rfl, k1⟩; rw [HVV.out] at k1; have HKU : Hid (Kept [] V U) := k1; clear k1)
    go_ret2
    exact ⟨rfl, HKV.out.trans HKU.out (by simp) (by simp)⟩
set_option maxHeartbeats 2000000 in
set_option maxRecDepth 20000 in
theorem holds_ok (t : Tr) (kv v sv lv : Value) (xs : List ByteArray) (q : Wd) (w : World) (hI : IsF w t kv) (hF : t.Fine) (hN : Strs w v xs) (hW : IsW w sv lv q) (hT : KidsTab w) (hs : t.size ≤ 1099511627776) (hd : t.depth ≤ 1099511627776) (he : alongE t xs q = 0) :
    Calls Tryz.prog 6 #[.agg #[.int .u8 (t.op : Nat), .string t.name, kv], v, .agg #[sv, lv]] w fun e w' => e = .returned (.tuple #[.bool (rowT q xs t 0), .int .i64 0]) ∧ Kept [] w w' := by
  have h0 := check_zero (along_zero he).2.2
  have hq : 0 < q.len := by unfold Wd.len; omega
  obtain ⟨kad, kcap, rfl⟩ := hI.slice
  have kV := ((Kept.refl [] w).alloc (.cells #[.int .u8 (t.op : Nat), .string t.name, .slice kad t.kids.length kcap] 25)).alloc (.cells #[sv, lv] 29)
  have HAL : Hid (Calls Tryz.prog 13 #[.agg #[.int .u8 (t.op : Nat), .string t.name, .slice kad t.kids.length kcap], v, .agg #[sv, lv]] ((w.alloc (.cells #[.int .u8 (t.op : Nat), .string t.name, .slice kad t.kids.length kcap] 25)).alloc (.cells #[sv, lv] 29)) fun e w' => ∃ b, e = .returned (.tuple #[.slice (some ⟨b, 0, none⟩) q.len q.len, .int .i64 0]) ∧ RowB w' b q.len (rowT q xs t) ∧ Kept [] ((w.alloc (.cells #[.int .u8 (t.op : Nat), .string t.name, .slice kad t.kids.length kcap] 25)).alloc (.cells #[sv, lv] 29)) w') := along_ok t _ v sv lv xs q _ (hI.kept kV) hF (hN.kept kV) (hW.kept kV) (hT.kept kV) hs hd he
  obtain ⟨ad, c, rfl, _⟩ := hN.form
  obtain ⟨ast, cs, rfl, _, _⟩ := hW.st.form
  obtain ⟨al, cl, rfl, _, _⟩ := hW.lp.form
  obtain ⟨n, hn⟩ : ∃ n, q.len = n := ⟨_, rfl⟩
  rw [hn] at HAL hq
  have hqi : (0 : Int) < (n : Int) := by omega
  clear hI hF hN hW hT he kV hn h0
  go_enter Tryz.func6, Tryz.ntmps6
  go_wp2_with (go_at_call 13; refine HAL.out.mono ?_; rintro e W ⟨b, rfl, hr, k1⟩; have c0 := hr.cell hq; have HK1 : Hid (Kept [] w W) := (((Kept.refl [] w).alloc _).alloc _).trans k1 (by simp) (by simp); clear hr k1)
  go_ret2
  exact ⟨rfl, HK1.out⟩
set_option maxHeartbeats 2000000 in
set_option maxRecDepth 20000 in
theorem holds_bad (t : Tr) (kv v sv lv : Value) (xs : List ByteArray) (q : Wd) (w : World) (hI : IsF w t kv) (hF : t.Fine) (hN : Strs w v xs) (hW : IsW w sv lv q) (hT : KidsTab w) (hs : t.size ≤ 1099511627776) (hd : t.depth ≤ 1099511627776) (he : alongE t xs q ≠ 0) :
    Calls Tryz.prog 6 #[.agg #[.int .u8 (t.op : Nat), .string t.name, kv], v, .agg #[sv, lv]] w fun e w' => e = .returned (.tuple #[.bool false, .int .i64 (alongE t xs q : Nat)]) ∧ Kept [] w w' := by
  obtain ⟨kad, kcap, rfl⟩ := hI.slice
  have kV := ((Kept.refl [] w).alloc (.cells #[.int .u8 (t.op : Nat), .string t.name, .slice kad t.kids.length kcap] 25)).alloc (.cells #[sv, lv] 29)
  have HAL : Hid (Calls Tryz.prog 13 #[.agg #[.int .u8 (t.op : Nat), .string t.name, .slice kad t.kids.length kcap], v, .agg #[sv, lv]] ((w.alloc (.cells #[.int .u8 (t.op : Nat), .string t.name, .slice kad t.kids.length kcap] 25)).alloc (.cells #[sv, lv] 29)) fun e w' => e = .returned (.tuple #[.slice none 0 0, .int .i64 (alongE t xs q : Nat)]) ∧ Kept [] ((w.alloc (.cells #[.int .u8 (t.op : Nat), .string t.name, .slice kad t.kids.length kcap] 25)).alloc (.cells #[sv, lv] 29)) w') := along_bad t _ v sv lv xs q _ (hI.kept kV) hF (hN.kept kV) (hW.kept kV) (hT.kept kV) hs hd he
  obtain ⟨ad, c, rfl, _⟩ := hN.form
  obtain ⟨ast, cs, rfl, _, _⟩ := hW.st.form
  obtain ⟨al, cl, rfl, _, _⟩ := hW.lp.form
  obtain ⟨ae, hae⟩ : ∃ ae, alongE t xs q = ae := ⟨_, rfl⟩
  rw [hae] at HAL he ⊢
  have hne : ((ae : Int) != 0) = true := by rw [bne_iff_ne]; omega
  clear hI hF hN hW hT kV hae
  go_enter Tryz.func6, Tryz.ntmps6
  go_wp2_with (go_at_call 13; refine HAL.out.mono ?_; rintro e W ⟨rfl, k1⟩; have HK1 : Hid (Kept [] w W) := (((Kept.refl [] w).alloc _).alloc _).trans k1 (by simp) (by simp); clear k1)
  go_ret2
  exact ⟨rfl, HK1.out⟩
end Go.Proofs.YtnpeghaficghaaaGreatDoor
