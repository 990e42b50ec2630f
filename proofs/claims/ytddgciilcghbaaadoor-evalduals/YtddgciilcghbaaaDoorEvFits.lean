/- eval.fits, eval.isList: which formulas and names may be asked. -/
import Derived.Test.YtddgciilcghbaaaDoorEvStr
import Derived.Test.YtddgciilcghbaaaDoorEvRow2
namespace Go.Proofs.YtddgciilcghbaaaDoor
open Go.RowKit Go.Shelf

theorem mem_rowsFrom {β : Type} {p : List Nat} : ∀ {rs : List (List Nat → List β)} {i : Nat} {r : List Nat → List β}, r ∈ rs → ∃ qq, ∀ x ∈ r qq, x ∈ rowsFrom p i rs
  | [], _, _, h => by cases h
  | s :: rs, i, r, h => by
    rcases List.mem_cons.1 h with rfl | h
    · exact ⟨p ++ [i], fun x hx => by rw [rowsFrom]; exact List.mem_append_left _ hx⟩
    · obtain ⟨qq, hq⟩ := mem_rowsFrom (p := p) (i := i + 1) h
      exact ⟨qq, fun x hx => by rw [rowsFrom]; exact List.mem_append_right _ (hq x hx)⟩
theorem all_of_parts {q : Tr → Prop} (t : Tr) : ∀ p, (∀ x ∈ t.parts p, q x.2) → t.All q := by
  induction t using Tr.ind with
  | h t ih =>
    intro p h
    rw [Tr.parts_eq] at h
    refine (Tr.all_eq t).2 ⟨h (p, t) (by simp), fun k hk => ?_⟩
    obtain ⟨qq, hq⟩ := mem_rowsFrom (p := p) (i := 0) (List.mem_map.2 ⟨k, hk, rfl⟩ : k.parts ∈ t.kids.map Tr.parts)
    exact ih k hk qq (fun x hx => h x (List.mem_cons_of_mem _ (hq x hx)))
theorem good_of_right {t : Tr} (h : rightN pastB t = 0) : t.Good ∧ t.size ≤ 1000 := by
  unfold rightN at h
  split at h
  · rename_i he
    split at h
    · rename_i hm
      rw [Bool.and_eq_true, decide_eq_true_eq, decide_eq_true_eq] at hm
      refine ⟨all_of_parts t [] (fun x hx => ?_), hm.1⟩
      unfold Tr.every at he
      rw [List.all_eq_true] at he
      have := he x hx
      simp only [rightQ, Bool.and_eq_true, Bool.not_eq_true', pastB, Bool.and_eq_false_iff, decide_eq_false_iff_not] at this
      refine ⟨this.1, ?_⟩
      have h1 := this.1
      simp only [formedB, Bool.and_eq_true, decide_eq_true_eq] at h1
      omega
    · cases h
  · cases h
theorem right_of_good {t : Tr} (h : t.Good) (hs : t.size ≤ 1000) (hd : t.depth ≤ 100) : rightN pastB t = 0 := by
  unfold rightN
  rw [if_pos, if_pos]
  · simp [hs, hd]
  · unfold Tr.every
    rw [List.all_eq_true]
    intro x hx
    have := Tr.All.part h hx
    simp only [rightQ, Bool.and_eq_true, Bool.not_eq_true', pastB, Bool.and_eq_false_iff, decide_eq_false_iff_not]
    exact ⟨this.1, .inl (by omega)⟩
/-- The names of a formula. -/
theorem addName_mem {l : List ByteArray} {t : Tr} {s : ByteArray} (h : s ∈ addName l t) : s ∈ l ∨ (t.op = 3 ∧ s = t.name) := by
  unfold addName at h
  split at h
  · rename_i h3
    split at h
    · exact .inl h
    · rcases List.mem_append.1 h with e | e
      · exact .inl e
      · exact .inr ⟨h3, List.mem_singleton.1 e⟩
  · exact .inl h
theorem addName_keeps {l : List ByteArray} {t : Tr} {s : ByteArray} (h : s ∈ l) : s ∈ addName l t := by
  unfold addName
  split
  · split
    · exact h
    · exact List.mem_append_left _ h
  · exact h
theorem addName_has {l : List ByteArray} {t : Tr} (h : t.op = 3) : ∃ s ∈ addName l t, s.data.toList = t.name.data.toList := by
  unfold addName
  rw [if_pos h]
  split
  · rename_i ha
    obtain ⟨s, hs, he⟩ := List.any_eq_true.1 ha
    exact ⟨s, hs, by simpa using he⟩
  · exact ⟨t.name, by simp, rfl⟩
theorem fold_mem {s : ByteArray} : ∀ (l : List (List Nat × Tr)) (a : List ByteArray), s ∈ l.foldl (fun l x => addName l x.2) a → s ∈ a ∨ ∃ x ∈ l, x.2.op = 3 ∧ s = x.2.name
  | [], _, h => .inl h
  | x :: r, a, h => by
    rcases fold_mem r _ h with e | ⟨y, hy, e⟩
    · rcases addName_mem e with e | e
      · exact .inl e
      · exact .inr ⟨x, by simp, e⟩
    · exact .inr ⟨y, by simp [hy], e⟩
theorem fold_keeps {s : ByteArray} : ∀ (l : List (List Nat × Tr)) (a : List ByteArray), s ∈ a → s ∈ l.foldl (fun l x => addName l x.2) a
  | [], _, h => h
  | _ :: r, _, h => fold_keeps r _ (addName_keeps h)
theorem fold_has : ∀ (l : List (List Nat × Tr)) (a : List ByteArray) (x : List Nat × Tr), x ∈ l → x.2.op = 3 → ∃ s ∈ l.foldl (fun l x => addName l x.2) a, s.data.toList = x.2.name.data.toList
  | [], _, _, h, _ => by cases h
  | y :: r, a, x, h, h3 => by
    rcases List.mem_cons.1 h with rfl | h
    · obtain ⟨s, hs, e⟩ := addName_has (l := a) h3
      exact ⟨s, fold_keeps r _ hs, e⟩
    · exact fold_has r _ x h h3
theorem names_small {t : Tr} (hF : t.Fine) : ∀ s ∈ t.names, s.size ≤ maxLen := by
  intro s hs
  rcases fold_mem _ _ hs with e | ⟨x, hx, _, e⟩
  · cases e
  · rw [e]; exact (Tr.All.part hF hx).2
theorem names_few (t : Tr) : t.names.length ≤ t.size := by
  have := namesOf_len (t.parts [])
  rw [Tr.parts_length] at this
  exact this
theorem hasN_congr {xs : List ByteArray} {s s' : ByteArray} (h : s.data.toList = s'.data.toList) : hasN xs s = hasN xs s' := by
  rw [WideShapes.bytes_inj h]
theorem named_of_lack {t : Tr} {xs : List ByteArray} (h : lackN t.names xs = false) : t.Named xs := by
  refine all_of_parts t [] (fun x hx h3 => ?_)
  obtain ⟨s, hs, e⟩ := fold_has (t.parts []) [] x hx h3
  unfold lackN at h
  rw [List.any_eq_false] at h
  have := h s hs
  rw [← hasN_congr e]
  simpa using this
theorem lack_of_named {t : Tr} {xs : List ByteArray} (h : t.Named xs) : lackN t.names xs = false := by
  unfold lackN
  rw [List.any_eq_false]
  intro s hs
  rcases fold_mem _ _ hs with e | ⟨x, hx, h3, e⟩
  · cases e
  · have := Tr.All.part h hx h3
    rw [e, this]; simp
/-- What fits tells. -/
def fitsN (t : Tr) (xs : List ByteArray) : Nat := if rightN pastB t ≠ 0 then rightN pastB t else if lackN t.names xs then 60 else 0

set_option maxHeartbeats 1000000 in
set_option maxRecDepth 20000 in
theorem efits_any (t : Tr) (kv : Value) (v : Value) (xs : List ByteArray) (w : World) (hI : IsF w t kv) (hs : t.size ≤ 1099511627776) (hd : t.depth ≤ 1099511627776) (hF : t.Fine) (hT : KidsTab w) (hN : Strs w v xs) :
    Calls Tryd.prog 38 #[.agg #[.int .u8 (t.op : Nat), .string t.name, kv], v] w fun e w' => e = .returned (.int .i64 (fitsN t xs : Nat)) ∧ Kept [] w w' := by
  obtain ⟨kad, kcap, rfl⟩ := hI.slice
  obtain ⟨ad, c, rfl, _⟩ := hN.form
  obtain ⟨V, hV⟩ : ∃ V, (w.alloc (.cells #[.int .u8 (t.op : Nat), .string t.name, .slice kad t.kids.length kcap] 25)).alloc (.cells #[.slice ad xs.length c] 26) = V := ⟨_, rfl⟩
  have kV : Kept [] w V := by rw [← hV]; exact ((Kept.refl [] w).alloc _).alloc _
  have v0 : For3 V w.heap.size (.int .u8 (t.op : Nat)) (.string t.name) (.slice kad t.kids.length kcap) := by rw [← hV]; exact alUp (al0 _ _) _
  have v1 : Boxed V (w.heap.size + 1) 26 (.slice ad xs.length c) := by rw [← hV]; exact al1 _ _ _
  have HR : Hid (Calls Tryd.prog 19 #[.agg #[.int .u8 (t.op : Nat), .string t.name, .slice kad t.kids.length kcap]] V fun e w' => e = .returned (.int .i64 (rightN pastB t : Nat)) ∧ Kept [] V w') := right_any t _ V (hI.kept kV) hs hd hF (hT.kept kV)
  have HNA : Hid (∀ W, Kept [] V W → Calls Tryd.prog 24 #[.agg #[.int .u8 (t.op : Nat), .string t.name, .slice kad t.kids.length kcap]] W fun e w' => ∃ u, e = .returned u ∧ w'.ownsRow W.heap.size 9 1 u t.names.length (strs t.names) ∧ Kept [] W w') := fun W k => names_any t _ W ((hI.kept kV).kept k) hs hF
  have HC : Hid (∀ W u, Kept [] V W → Strs W u t.names → Calls Tryd.prog 72 #[u, .func (.func 70) #[] #[.pointer (some ⟨w.heap.size + 1, 0, none⟩)]] W fun e w' => e = .returned (.bool (lackN t.names xs)) ∧ w' = W) := fun W u k hu => containsL_any u _ t.names xs _ W hu ((hN.kept kV).kept k) (cell_kept0 k v1.cell)
  have HSM : Hid _ := names_small hF
  have HV0 : Hid (For3 V w.heap.size (.int .u8 (t.op : Nat)) (.string t.name) (.slice kad t.kids.length kcap)) := v0
  have HKV : Hid (Kept [] w V) := kV
  have hnl := names_few t
  have HVV : Hid (_ = V) := hV
  rw [← hV] at HR
  clear hI hF hT hN kV v0 v1 hV
  by_cases h0 : rightN pastB t = 0
  · rw [h0] at HR
    have hfn : fitsN t xs = if lackN t.names xs then 60 else 0 := by unfold fitsN; rw [if_neg (by simp [h0])]
    rw [hfn]
    clear h0 hfn
    cases hl : lackN t.names xs with
    | true =>
      rw [hl] at HC
      go_enter Tryd.func38, Tryd.ntmps38
      go_wp2_with (first
        | (go_at_call 19; refine HR.out.mono ?_; rintro e w1 ⟨rfl, k1⟩; rw [HVV.out] at k1; have HK1 : Hid (Kept [] V w1) := k1; obtain ⟨f0, f1, f2, _⟩ := (HV0.out.kept k1).cells; clear k1)
        | (go_at_call 24; refine (HNA.out _ HK1.out).mono ?_; rintro e w2 ⟨u, rfl, ho, k2⟩; have HK2 : Hid (Kept [] V w2) := HK1.out.trans k2 (by simp) (by simp); have HSU : Hid (Strs w2 u t.names) := strs_own ho HSM.out (by omega); clear ho k2)
        | (go_at_call 72; refine (HC.out _ _ HK2.out HSU.out).mono ?_; rintro e w3 ⟨rfl, rfl⟩))
      go_ret
      exact ⟨rfl, HKV.out.trans HK2.out (by simp) (by simp)⟩
    | false =>
      rw [hl] at HC
      go_enter Tryd.func38, Tryd.ntmps38
      go_wp2_with (first
        | (go_at_call 19; refine HR.out.mono ?_; rintro e w1 ⟨rfl, k1⟩; rw [HVV.out] at k1; have HK1 : Hid (Kept [] V w1) := k1; obtain ⟨f0, f1, f2, _⟩ := (HV0.out.kept k1).cells; clear k1)
        | (go_at_call 24; refine (HNA.out _ HK1.out).mono ?_; rintro e w2 ⟨u, rfl, ho, k2⟩; have HK2 : Hid (Kept [] V w2) := HK1.out.trans k2 (by simp) (by simp); have HSU : Hid (Strs w2 u t.names) := strs_own ho HSM.out (by omega); clear ho k2)
        | (go_at_call 72; refine (HC.out _ _ HK2.out HSU.out).mono ?_; rintro e w3 ⟨rfl, rfl⟩))
      go_ret
      exact ⟨rfl, HKV.out.trans HK2.out (by simp) (by simp)⟩
  · have hne : ((rightN pastB t : Int) != 0) = true := by rw [bne_iff_ne]; omega
    have hfn : fitsN t xs = rightN pastB t := by unfold fitsN; rw [if_pos h0]
    rw [hfn]
    clear h0 hfn
    go_enter Tryd.func38, Tryd.ntmps38
    go_wp2_with (go_at_call 19; refine HR.out.mono ?_; rintro e w1 ⟨rfl, k1⟩; rw [HVV.out] at k1; have HK1 : Hid (Kept [] V w1) := k1; clear k1)
    go_ret
    exact ⟨rfl, HKV.out.trans HK1.out (by simp) (by simp)⟩
end Go.Proofs.YtddgciilcghbaaaDoor
