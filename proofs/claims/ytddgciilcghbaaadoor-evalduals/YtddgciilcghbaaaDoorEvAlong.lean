/- eval.Along, eval.Holds. -/
import Derived.Test.YtddgciilcghbaaaDoorEvMake
import Derived.Test.YtddgciilcghbaaaDoorEvRow2
namespace Go.Proofs.YtddgciilcghbaaaDoor
open Go.RowKit Go.Shelf Go.Maps

theorem text_small (t : Tr) : t.Good → t.text.length ≤ 33 * t.size := by
  induction t using Tr.ind with
  | h t ih =>
    intro hG
    obtain ⟨⟨hf, _⟩, hk⟩ := (Tr.all_eq t).1 hG
    have hn : t.name.data.toList.length ≤ 32 := by
      simp only [formedB, Bool.and_eq_true] at hf
      have h2 := hf.2
      split at h2
      · simp only [nameB, Bool.and_eq_true, decide_eq_true_eq] at h2
        omega
      · rw [empty_of h2]; decide
    have hs : ((t.kids.map Tr.text).flatten).length ≤ 33 * (t.kids.map Tr.size).sum := by
      have key : ∀ l : List Tr, (∀ k ∈ l, k.text.length ≤ 33 * k.size) → ((l.map Tr.text).flatten).length ≤ 33 * (l.map Tr.size).sum := by
        intro l
        induction l with
        | nil => intro _; simp
        | cons a l ih2 =>
          intro h
          have h1 := h a (by simp)
          have h2 := ih2 (fun k hk => h k (by simp [hk]))
          simp only [List.map_cons, List.flatten_cons, List.length_append, List.sum_cons]
          omega
      exact key t.kids (fun k hk' => ih k hk' (hk k hk'))
    rw [Tr.text_eq, Tr.size_eq]
    simp only [List.length_cons, List.length_append]
    omega
def alongE (t : Tr) (xs : List ByteArray) (q : Wd) : Nat := if fitsN t xs ≠ 0 then fitsN t xs else if listBool xs = false then 60 else if checkE q xs.length ≠ 0 then 61 else 0
theorem fits_zero {t : Tr} {xs : List ByteArray} (h : fitsN t xs = 0) : t.Good ∧ t.size ≤ 1000 ∧ t.Named xs ∧ rightN pastB t = 0 := by
  unfold fitsN at h
  split at h
  · rename_i h1; exact absurd h h1
  · rename_i h1
    have h1' : rightN pastB t = 0 := by simpa using h1
    split at h
    · cases h
    · rename_i h2
      obtain ⟨g1, g2⟩ := good_of_right h1'
      exact ⟨g1, g2, named_of_lack (by simpa using h2), h1'⟩
theorem along_zero {t : Tr} {xs : List ByteArray} {q : Wd} (h : alongE t xs q = 0) : fitsN t xs = 0 ∧ listBool xs = true ∧ checkE q xs.length = 0 := by
  unfold alongE at h
  split at h
  · rename_i h1; exact absurd h h1
  · rename_i h1
    split at h
    · cases h
    · rename_i h2
      split at h
      · cases h
      · rename_i h3
        exact ⟨by simpa using h1, by simpa using h2, by simpa using h3⟩
/-- What row leaves, behind New. -/
theorem row_behind {w V W W' : World} {q : Wd} {xs : List ByteArray} {t : Tr} {p m : Nat} {nv sv lv : Value} {w₁ : World} {e : Ending} (hk : Kept [] w V) (hk2 : Kept [] V W) (hm : V.heap.size ≤ m) (h1 : V.heap.size ≤ w₁.heap.size) (hlow : w₁.heap.size ≤ p) (h : RowPost w₁ W p m nv sv lv (.slice none 0 0) q xs [] t e W') : ∃ b, e = .returned (.slice (some ⟨b, 0, none⟩) q.len q.len) ∧ RowB W' b q.len (rowT q xs t) ∧ Kept [] w W' := by
  obtain ⟨b, rv', known', he, hr, _, k, _⟩ := h
  refine ⟨b, he, hr, (hk.trans hk2 (H := []) (by simp) (by simp)).trans k (by simp) (fun x hx => .inr ?_)⟩
  have hz := hk.size
  rcases List.mem_cons.1 hx with e | hx
  · omega
  · rcases List.mem_cons.1 hx with e | hx
    · omega
    · simp [Value.ownBlock] at hx

set_option maxHeartbeats 2000000 in
set_option maxRecDepth 20000 in
theorem along_ok (t : Tr) (kv v sv lv : Value) (xs : List ByteArray) (q : Wd) (w : World) (hI : IsF w t kv) (hF : t.Fine) (hN : Strs w v xs) (hW : IsW w sv lv q) (hT : KidsTab w) (hs : t.size ≤ 1099511627776) (hd : t.depth ≤ 1099511627776) (he : alongE t xs q = 0) :
    Calls Tryd.prog 12 #[.agg #[.int .u8 (t.op : Nat), .string t.name, kv], v, .agg #[sv, lv]] w fun e w' => ∃ b, e = .returned (.tuple #[.slice (some ⟨b, 0, none⟩) q.len q.len, .int .i64 0]) ∧ RowB w' b q.len (rowT q xs t) ∧ Kept [] w w' := by
  obtain ⟨e1, e2, e3⟩ := along_zero he
  obtain ⟨hG, hsz, hNm, _⟩ := fits_zero e1
  have h0 := check_zero e3
  have h8 : xs.length ≤ 8 := ((listBool_iff xs).1 e2).1
  have htx := text_small t hG
  obtain ⟨kad, kcap, rfl⟩ := hI.slice
  obtain ⟨V, hV⟩ : ∃ V, (w.alloc (.cells #[.int .u8 (t.op : Nat), .string t.name, .slice kad t.kids.length kcap] 25)).alloc (.cells #[sv, lv] 29) = V := ⟨_, rfl⟩
  have kV : Kept [] w V := by rw [← hV]; exact ((Kept.refl [] w).alloc _).alloc _
  have v0 : For3 V w.heap.size (.int .u8 (t.op : Nat)) (.string t.name) (.slice kad t.kids.length kcap) := by rw [← hV]; exact alUp (al0 _ _) _
  have v1 : Wd2 V (w.heap.size + 1) sv lv := by rw [← hV]; exact al1 _ _ _
  have HFI : Hid (Calls Tryd.prog 38 #[.agg #[.int .u8 (t.op : Nat), .string t.name, .slice kad t.kids.length kcap], v] V fun e w' => e = .returned (.int .i64 0) ∧ Kept [] V w') := by
    have := efits_any t _ v xs V (hI.kept kV) hs hd hF (hT.kept kV) (hN.kept kV)
    rw [e1] at this
    exact this
  have HNE : Hid (∀ W, Kept [] V W → Calls Tryd.prog 30 #[v, .agg #[sv, lv]] W (NewPost W q xs)) := fun W k => new_ok v sv lv xs q W ((hN.kept kV).kept k) ((hW.kept kV).kept k) ((hT.kept kV).kept k) e2 e3
  have HRO : Hid (∀ (U W : World) (p m : Nat) (nv su lu : Value) (w₁ : World), Kept [] V U → Kept [] U W → U.heap.size ≤ m → U.heap.size ≤ w₁.heap.size → TabIs w₁ W p m nv su lu (.slice none 0 0) q xs [] → Calls Tryd.prog 39 #[.pointer (some ⟨p, 0, none⟩), .agg #[.int .u8 (t.op : Nat), .string t.name, .slice kad t.kids.length kcap]] W fun e w' => ∃ b, e = .returned (.slice (some ⟨b, 0, none⟩) q.len q.len) ∧ RowB w' b q.len (rowT q xs t) ∧ Kept [] V w') := fun U W p m nv su lu w₁ k1 k2 hm h1 hTb => by
    have kW := kV.trans k1 (H := []) (by simp) (by simp)
    have kWW := kW.trans k2 (H := []) (by simp) (by simp)
    have hz := kWW.size
    have hzu := kW.size
    refine (row_any h0 h8 t (fun k => k < w.heap.size) _ w₁ W p m nv su lu _ [] hG hNm hF (IsT.cells (fun _ h => h) (fun _ _ _ _ c => cell_kept0 kWW c) hI) (fun k hk => ⟨by omega, fun hin => ?_⟩) hTb (by simp; omega) (by omega)).mono (fun e w' hp => row_behind k1 k2 hm h1 hTb.low hp)
    have hl := hTb.low
    rcases List.mem_cons.1 hin with e | hin
    · omega
    · rcases List.mem_cons.1 hin with e | hin
      · omega
      · simp [Value.ownBlock] at hin
  obtain ⟨ad, c, rfl, _⟩ := hN.form
  obtain ⟨ast, cs, rfl, _, _⟩ := hW.st.form
  obtain ⟨al, cl, rfl, _, _⟩ := hW.lp.form
  have HKV : Hid (Kept [] w V) := kV
  have HV0 : Hid (For3 V w.heap.size (.int .u8 (t.op : Nat)) (.string t.name) (.slice kad t.kids.length kcap)) := v0
  have HV1 : Hid (Wd2 V (w.heap.size + 1) (.slice ast q.stem.length cs) (.slice al q.loop.length cl)) := v1
  have HVV : Hid (_ = V) := hV
  rw [← hV] at HFI
  clear hI hF hN hW hT he e1 e2 e3 hG hNm hsz kV v0 v1 hV htx
  go_enter Tryd.func12, Tryd.ntmps12
  go_wp2_with (first
    | (go_at_call 38; refine HFI.out.mono ?_; rintro e U ⟨rfl, k1⟩; rw [HVV.out] at k1; have HKU : Hid (Kept [] V U) := k1; obtain ⟨g0, g1, _, _⟩ := (HV1.out.kept k1).cells; clear k1)
    | (go_at_call 30; refine (HNE.out _ HKU.out).mono ?_; rintro e W ⟨p, m, nv, su, lu, w₁, rfl, hTb, k2, hm, h1⟩; have HTB : Hid (TabIs w₁ W p m nv su lu (.slice none 0 0) q xs []) := hTb; have HK2 : Hid (Kept [] U W) := k2; obtain ⟨f0, f1, f2, _⟩ := ((HV0.out.kept HKU.out).kept k2).cells; have HMM : Hid _ := hm; have HH1 : Hid _ := h1; clear hTb k2 hm h1)
    | (go_at_call 39; refine (HRO.out U W p m nv su lu w₁ HKU.out HK2.out HMM.out HH1.out HTB.out).mono ?_; rintro e W3 ⟨b, rfl, hr, k3⟩; have HRR : Hid _ := hr; have HK3 : Hid (Kept [] V W3) := k3; clear hr k3))
  go_ret2
  exact ⟨b, rfl, HRR.out, HKV.out.trans HK3.out (by simp) (by simp)⟩
set_option maxHeartbeats 2000000 in
set_option maxRecDepth 20000 in
theorem along_bad (t : Tr) (kv v sv lv : Value) (xs : List ByteArray) (q : Wd) (w : World) (hI : IsF w t kv) (hF : t.Fine) (hN : Strs w v xs) (hW : IsW w sv lv q) (hT : KidsTab w) (hs : t.size ≤ 1099511627776) (hd : t.depth ≤ 1099511627776) (he : alongE t xs q ≠ 0) :
    Calls Tryd.prog 12 #[.agg #[.int .u8 (t.op : Nat), .string t.name, kv], v, .agg #[sv, lv]] w fun e w' => e = .returned (.tuple #[.slice none 0 0, .int .i64 (alongE t xs q : Nat)]) ∧ Kept [] w w' := by
  obtain ⟨kad, kcap, rfl⟩ := hI.slice
  obtain ⟨V, hV⟩ : ∃ V, (w.alloc (.cells #[.int .u8 (t.op : Nat), .string t.name, .slice kad t.kids.length kcap] 25)).alloc (.cells #[sv, lv] 29) = V := ⟨_, rfl⟩
  have kV : Kept [] w V := by rw [← hV]; exact ((Kept.refl [] w).alloc _).alloc _
  have v1 : Wd2 V (w.heap.size + 1) sv lv := by rw [← hV]; exact al1 _ _ _
  have HFI : Hid (Calls Tryd.prog 38 #[.agg #[.int .u8 (t.op : Nat), .string t.name, .slice kad t.kids.length kcap], v] V fun e w' => e = .returned (.int .i64 (fitsN t xs : Nat)) ∧ Kept [] V w') := efits_any t _ v xs V (hI.kept kV) hs hd hF (hT.kept kV) (hN.kept kV)
  have HKV : Hid (Kept [] w V) := kV
  have HVV : Hid (_ = V) := hV
  rw [← hV] at HFI
  by_cases e1 : fitsN t xs = 0
  · have HNE : Hid (∀ W, Kept [] V W → Calls Tryd.prog 30 #[v, .agg #[sv, lv]] W fun e w' => e = .returned (.tuple #[.pointer none, .int .i64 (alongE t xs q : Nat)]) ∧ Kept [] W w') := fun W k => by
      cases hl : listBool xs with
      | false =>
        have := new_list v sv lv xs q W ((hN.kept kV).kept k) ((hW.kept kV).kept k) ((hT.kept kV).kept k) hl
        rw [show alongE t xs q = 60 from by unfold alongE; rw [if_neg (by simp [e1]), if_pos hl]]
        exact this
      | true =>
        have hc : checkE q xs.length ≠ 0 := fun h => he (by unfold alongE; rw [if_neg (by simp [e1]), if_neg (by simp [hl]), if_neg (by simp [h])])
        have := new_word v sv lv xs q W ((hN.kept kV).kept k) ((hW.kept kV).kept k) ((hT.kept kV).kept k) hl hc
        rw [show alongE t xs q = 61 from by unfold alongE; rw [if_neg (by simp [e1]), if_neg (by simp [hl]), if_pos hc]]
        exact this
    rw [e1] at HFI
    obtain ⟨ae, hae⟩ : ∃ ae, alongE t xs q = ae := ⟨_, rfl⟩
    rw [hae] at HNE he ⊢
    have hne : ((ae : Int) != 0) = true := by rw [bne_iff_ne]; omega
    obtain ⟨ad, c, rfl, _⟩ := hN.form
    obtain ⟨ast, cs, rfl, _, _⟩ := hW.st.form
    obtain ⟨al, cl, rfl, _, _⟩ := hW.lp.form
    have HV1 : Hid (Wd2 V (w.heap.size + 1) (.slice ast q.stem.length cs) (.slice al q.loop.length cl)) := v1
    clear hI hF hN hW hT e1 kV v1 hV hae
    go_enter Tryd.func12, Tryd.ntmps12
    go_wp2_with (first
      | (go_at_call 38; refine HFI.out.mono ?_; rintro e U ⟨rfl, k1⟩; rw [HVV.out] at k1; have HKU : Hid (Kept [] V U) := k1; obtain ⟨g0, g1, _, _⟩ := (HV1.out.kept k1).cells; clear k1)
      | (go_at_call 30; refine (HNE.out _ HKU.out).mono ?_; rintro e W ⟨rfl, k2⟩; have HK2 : Hid (Kept [] V W) := HKU.out.trans k2 (by simp) (by simp); clear k2))
    go_ret2
    exact ⟨rfl, HKV.out.trans HK2.out (by simp) (by simp)⟩
  · rw [show alongE t xs q = fitsN t xs from by unfold alongE; rw [if_pos e1]]
    have hne : ((fitsN t xs : Int) != 0) = true := by rw [bne_iff_ne]; omega
    obtain ⟨ad, c, rfl, _⟩ := hN.form
    obtain ⟨ast, cs, rfl, _, _⟩ := hW.st.form
    obtain ⟨al, cl, rfl, _, _⟩ := hW.lp.form
    clear hI hF hN hW hT e1 kV v1 hV he
    go_enter Tryd.func12, Tryd.ntmps12
    go_wp2_with (go_at_call 38; refine HFI.out.mono ?_; rintro e U ⟨rfl, k1⟩; rw [HVV.out] at k1; have HKU : Hid (Kept [] V U) := k1; clear k1)
    go_ret2
    exact ⟨rfl, HKV.out.trans HKU.out (by simp) (by simp)⟩
set_option maxHeartbeats 2000000 in
set_option maxRecDepth 20000 in
theorem holds_ok (t : Tr) (kv v sv lv : Value) (xs : List ByteArray) (q : Wd) (w : World) (hI : IsF w t kv) (hF : t.Fine) (hN : Strs w v xs) (hW : IsW w sv lv q) (hT : KidsTab w) (hs : t.size ≤ 1099511627776) (hd : t.depth ≤ 1099511627776) (he : alongE t xs q = 0) :
    Calls Tryd.prog 13 #[.agg #[.int .u8 (t.op : Nat), .string t.name, kv], v, .agg #[sv, lv]] w fun e w' => e = .returned (.tuple #[.bool (rowT q xs t 0), .int .i64 0]) ∧ Kept [] w w' := by
  have h0 := check_zero (along_zero he).2.2
  have hq : 0 < q.len := by unfold Wd.len; omega
  obtain ⟨kad, kcap, rfl⟩ := hI.slice
  have kV := ((Kept.refl [] w).alloc (.cells #[.int .u8 (t.op : Nat), .string t.name, .slice kad t.kids.length kcap] 25)).alloc (.cells #[sv, lv] 29)
  have HAL : Hid (Calls Tryd.prog 12 #[.agg #[.int .u8 (t.op : Nat), .string t.name, .slice kad t.kids.length kcap], v, .agg #[sv, lv]] ((w.alloc (.cells #[.int .u8 (t.op : Nat), .string t.name, .slice kad t.kids.length kcap] 25)).alloc (.cells #[sv, lv] 29)) fun e w' => ∃ b, e = .returned (.tuple #[.slice (some ⟨b, 0, none⟩) q.len q.len, .int .i64 0]) ∧ RowB w' b q.len (rowT q xs t) ∧ Kept [] ((w.alloc (.cells #[.int .u8 (t.op : Nat), .string t.name, .slice kad t.kids.length kcap] 25)).alloc (.cells #[sv, lv] 29)) w') := along_ok t _ v sv lv xs q _ (hI.kept kV) hF (hN.kept kV) (hW.kept kV) (hT.kept kV) hs hd he
  obtain ⟨ad, c, rfl, _⟩ := hN.form
  obtain ⟨ast, cs, rfl, _, _⟩ := hW.st.form
  obtain ⟨al, cl, rfl, _, _⟩ := hW.lp.form
  obtain ⟨n, hn⟩ : ∃ n, q.len = n := ⟨_, rfl⟩
  rw [hn] at HAL hq
  have hqi : (0 : Int) < (n : Int) := by omega
  clear hI hF hN hW hT he kV hn h0
  go_enter Tryd.func13, Tryd.ntmps13
  go_wp2_with (go_at_call 12; refine HAL.out.mono ?_; rintro e W ⟨b, rfl, hr, k1⟩; have c0 := hr.cell hq; have HK1 : Hid (Kept [] w W) := (((Kept.refl [] w).alloc _).alloc _).trans k1 (by simp) (by simp); clear hr k1)
  go_ret2
  exact ⟨rfl, HK1.out⟩
set_option maxHeartbeats 2000000 in
set_option maxRecDepth 20000 in
theorem holds_bad (t : Tr) (kv v sv lv : Value) (xs : List ByteArray) (q : Wd) (w : World) (hI : IsF w t kv) (hF : t.Fine) (hN : Strs w v xs) (hW : IsW w sv lv q) (hT : KidsTab w) (hs : t.size ≤ 1099511627776) (hd : t.depth ≤ 1099511627776) (he : alongE t xs q ≠ 0) :
    Calls Tryd.prog 13 #[.agg #[.int .u8 (t.op : Nat), .string t.name, kv], v, .agg #[sv, lv]] w fun e w' => e = .returned (.tuple #[.bool false, .int .i64 (alongE t xs q : Nat)]) ∧ Kept [] w w' := by
  obtain ⟨kad, kcap, rfl⟩ := hI.slice
  have kV := ((Kept.refl [] w).alloc (.cells #[.int .u8 (t.op : Nat), .string t.name, .slice kad t.kids.length kcap] 25)).alloc (.cells #[sv, lv] 29)
  have HAL : Hid (Calls Tryd.prog 12 #[.agg #[.int .u8 (t.op : Nat), .string t.name, .slice kad t.kids.length kcap], v, .agg #[sv, lv]] ((w.alloc (.cells #[.int .u8 (t.op : Nat), .string t.name, .slice kad t.kids.length kcap] 25)).alloc (.cells #[sv, lv] 29)) fun e w' => e = .returned (.tuple #[.slice none 0 0, .int .i64 (alongE t xs q : Nat)]) ∧ Kept [] ((w.alloc (.cells #[.int .u8 (t.op : Nat), .string t.name, .slice kad t.kids.length kcap] 25)).alloc (.cells #[sv, lv] 29)) w') := along_bad t _ v sv lv xs q _ (hI.kept kV) hF (hN.kept kV) (hW.kept kV) (hT.kept kV) hs hd he
  obtain ⟨ad, c, rfl, _⟩ := hN.form
  obtain ⟨ast, cs, rfl, _, _⟩ := hW.st.form
  obtain ⟨al, cl, rfl, _, _⟩ := hW.lp.form
  obtain ⟨ae, hae⟩ : ∃ ae, alongE t xs q = ae := ⟨_, rfl⟩
  rw [hae] at HAL he ⊢
  have hne : ((ae : Int) != 0) = true := by rw [bne_iff_ne]; omega
  clear hI hF hN hW hT kV hae
  go_enter Tryd.func13, Tryd.ntmps13
  go_wp2_with (go_at_call 12; refine HAL.out.mono ?_; rintro e W ⟨rfl, k1⟩; have HK1 : Hid (Kept [] w W) := (((Kept.refl [] w).alloc _).alloc _).trans k1 (by simp) (by simp); clear k1)
  go_ret2
  exact ⟨rfl, HK1.out⟩
end Go.Proofs.YtddgciilcghbaaaDoor
