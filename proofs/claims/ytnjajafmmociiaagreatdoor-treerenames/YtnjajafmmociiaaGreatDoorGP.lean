/- augurref03.Place, put: trees in the places of names, as the document makes them. -/
import Derived.Test.YtnjajafmmociiaaGreatDoorGK
import Derived.Test.YtnjajafmmociiaaGreatDoorTrRen
namespace Go.Proofs.YtnjajafmmociiaaGreatDoor
open Go.RowKit Go.Shelf

theorem sameB_list (y x : ByteArray) : (y.data.toList == x.data.toList) = (y.toList == x.toList) := by
  rw [ByteArray.toList_eq, ByteArray.toList_eq]
theorem StrsAt.at {W : World} {l : List ByteArray} {ad : Option Addr} {cap : Nat} (h : StrsAt W l (.slice ad l.length cap)) {k : Nat} (hk : k < l.length) : ∃ b o, ad = some ⟨b, o, none⟩ ∧ W.cell? ⟨b, o + k, none⟩ = some (.string l[k]) := by
  obtain ⟨ad', cap', e, h⟩ := h
  cases e
  rcases h with h | ⟨b, o, e1, h⟩
  · omega
  · exact ⟨b, o, e1, h k hk⟩
/-- Where a name stands in a list. -/
def plR (l : List ByteArray) (s : ByteArray) : Int := if l.any (fun y => y.data.toList == s.data.toList) then ((l.findIdx fun y => y.data.toList == s.data.toList : Nat) : Int) else -1
theorem plR_found {l : List ByteArray} {s : ByteArray} {k : Nat} (hk : k < l.length) (h : (l[k].data.toList == s.data.toList) = true) (hb : ∀ j (hj : j < l.length), j < k → (l[j].data.toList == s.data.toList) = false) : plR l s = (k : Int) := by
  have ha : l.any (fun y => y.data.toList == s.data.toList) = true := List.any_eq_true.2 ⟨l[k], List.getElem_mem hk, h⟩
  unfold plR
  rw [if_pos ha]
  congr 1
  rw [List.findIdx_eq hk]
  exact ⟨h, fun j hj => hb j (by omega) hj⟩
theorem plR_none {l : List ByteArray} {s : ByteArray} (h : ∀ j (hj : j < l.length), (l[j].data.toList == s.data.toList) = false) : plR l s = -1 := by
  unfold plR
  rw [if_neg]
  rw [Bool.not_eq_true, List.any_eq_false]
  intro x hx
  obtain ⟨j, hj, rfl⟩ := List.getElem_of_mem hx
  simp [h j hj]
theorem ret_intR {a b : Int} (h : a = b) : Ending.returned (.int .i64 a) = Ending.returned (.int .i64 b) := by rw [h]
set_option maxHeartbeats 1000000 in
theorem refPlaceT_any (l : List ByteArray) (lv : Value) (s : ByteArray) (w : World) (h : StrsAt w l lv) (hl : l.length ≤ 1099511627776) :
    Calls Tryz.prog 63 #[lv, .string s] w fun e w' => e = .returned (.int .i64 (plR l s)) ∧ w' = w := by
  obtain ⟨ad, cap, rfl, _⟩ := (show ∃ ad cap, lv = .slice ad l.length cap ∧ True from by obtain ⟨ad, cap, e, _⟩ := h; exact ⟨ad, cap, e, trivial⟩)
  have HC : Hid (∀ k (hk : k < l.length), ∃ b o, ad = some ⟨b, o, none⟩ ∧ w.cell? ⟨b, o + k, none⟩ = some (.string l[k])) := fun k hk => h.at hk
  obtain ⟨R, hR⟩ : ∃ R, plR l s = R := ⟨_, rfl⟩
  have HR : Hid (plR l s = R) := hR
  rw [hR]
  clear h hR
  go_enter Tryz.func63, Tryz.ntmps63
  go_wp2_with fail
  go_loopw [5] (fun i wr => ∃ k : Nat, i = .int .i64 (k : Nat) ∧ k ≤ l.length ∧ wr = w ∧ Hid (∀ j (hj : j < l.length), j < k → (l[j].data.toList == s.data.toList) = false)) (fun i _ => l.length - (intOf i).toNat)
  case atStart => exact ⟨0, rfl, Nat.zero_le _, rfl, fun j _ h => by omega⟩
  case round =>
    obtain ⟨k, rfl, hk, hwr, HA⟩ := hrel
    have HWR : Hid (wr = w) := hwr
    clear hwr
    by_cases hlt : k < l.length
    · have z0 : (k : Int) < (l.length : Int) := by omega
      have z00 : (0 : Int) ≤ (k : Int) := by omega
      obtain ⟨b, o, rfl, c0⟩ := HC.out k hlt
      rw [← HWR.out] at c0
      obtain ⟨x, hx⟩ : ∃ x, l[k] = x := ⟨_, rfl⟩
      have HX : Hid (l[k] = x) := hx
      rw [hx] at c0
      obtain ⟨sb, hsb⟩ : ∃ sb, (x.toList == s.toList) = sb := ⟨_, rfl⟩
      have HSB : Hid ((l[k].data.toList == s.data.toList) = sb) := by
        show _ = _
        rw [hx, ← hsb]
        exact sameB_list x s
      clear hx
      cases sb with
      | true =>
        have HE : Hid ((k : Int) = R) := by show _ = R; rw [← HR.out]; exact (plR_found hlt HSB.out HA.out).symm
        go_wp2_with fail
        go_ret
        exact ⟨ret_intR HE.out, HWR.out⟩
      | false =>
        have HY : Hid (∀ j (hj : j < l.length), j < k + 1 → (l[j].data.toList == s.data.toList) = false) := fun j hj h' => by
          rcases Nat.lt_or_ge j k with q | q
          · exact HA.out j hj q
          · obtain rfl : j = k := by omega
            exact HSB.out
        go_wp2_with fail
        go_roundw
        case rel => exact ⟨k + 1, by go_num, by omega, HWR.out, HY.out⟩
        case measure => simp [intOf]; omega
    · obtain rfl : k = l.length := by omega
      have z0 : ¬ ((l.length : Int) < (l.length : Int)) := by omega
      have HE : Hid ((-1 : Int) = R) := by show _ = R; rw [← HR.out]; exact (plR_none (fun j hj => HA.out j hj hj)).symm
      go_wp2
      go_ret
      exact ⟨ret_intR HE.out, HWR.out⟩
end Go.Proofs.YtnjajafmmociiaaGreatDoor

/- augurref03.put: trees in the places of names, as the document makes them. -/
namespace Go.Proofs.YtnjajafmmociiaaGreatDoor
open Go.RowKit Go.Shelf

/-- A name as a tree. -/
def leafP (s : ByteArray) : Tr := ⟨3, s, []⟩
/-- The tree that put makes. -/
def hitP (frs : List ByteArray) (t : Tr) : Bool := decide (t.op = 3) && frs.any (fun y => y.data.toList == t.name.data.toList)
def putR (frs tos : List ByteArray) : Tr → Tr := Tr.para (fun t rs => if hitP frs t then leafP (tos.getD (frs.findIdx fun y => y.data.toList == t.name.data.toList) ⟨#[]⟩) else ⟨t.op, t.name, rs⟩)
theorem putR_hit {frs tos : List ByteArray} {t : Tr} (h : hitP frs t = true) : putR frs tos t = leafP (tos.getD (frs.findIdx fun y => y.data.toList == t.name.data.toList) ⟨#[]⟩) := by
  unfold putR
  rw [Tr.para_eq, if_pos h]
theorem putR_node {frs tos : List ByteArray} {t : Tr} (h : hitP frs t = false) : putR frs tos t = ⟨t.op, t.name, t.kids.map (putR frs tos)⟩ := by
  unfold putR
  rw [Tr.para_eq, if_neg (by rw [h]; simp)]
def RPutDoes (frs tos : List ByteArray) (t : Tr) : Prop := ∀ (kv fv bv : Value) (nb : Nat) (w : World), IsF w t kv → t.size ≤ 1099511627776 → StrsAt w frs fv → GrowK w nb bv (tos.map leafP) → frs.length = tos.length → frs.length ≤ 1099511627776 →
  Calls Tryz.prog 36 #[.agg #[.int .u8 (t.op : Nat), .string t.name, kv], fv, bv] w fun e w' => ∃ kad kcap, e = .returned (.agg #[.int .u8 ((putR frs tos t).op : Nat), .string (putR frs tos t).name, .slice kad (putR frs tos t).kids.length kcap]) ∧ IsT (fun k => w.heap.size ≤ k) w' (putR frs tos t) (.slice kad (putR frs tos t).kids.length kcap) ∧ Kept [] w w'
theorem GrowK.leafAt {W : World} {n0 : Nat} {ad : Option Addr} {cap : Nat} {tos : List ByteArray} (h : GrowK W n0 (.slice ad tos.length cap) (tos.map leafP)) {j : Nat} (hj : j < tos.length) : ∃ g kad kcap, ad = some ⟨g, 0, none⟩ ∧ W.cell? ⟨g, j * 3, none⟩ = some (.int .u8 3) ∧ W.cell? ⟨g, j * 3 + 1, none⟩ = some (.string tos[j]) ∧ W.cell? ⟨g, j * 3 + 2, none⟩ = some (.slice kad 0 kcap) := by
  obtain ⟨xs, h1, h2, h3⟩ := h
  rw [List.length_map] at h1 h2
  obtain ⟨g, cap', e, _, _⟩ := h2.form (by omega)
  cases e
  obtain ⟨kvj, e, hI⟩ := h3 j (by simpa using hj) (by omega)
  rw [List.getElem_map] at e hI
  obtain ⟨c0, c1, c2⟩ := owns_atF (l := j) (x := xs[j]'(by omega)) h2 (List.getElem?_eq_getElem (by omega))
  rw [e] at c0 c1 c2
  obtain ⟨kad, kcap, rfl⟩ := hI.slice
  exact ⟨g, kad, kcap, rfl, c0, c1, c2⟩
set_option maxHeartbeats 4000000 in
set_option maxRecDepth 20000 in
theorem refPut_any (frs tos : List ByteArray) (t : Tr) : RPutDoes frs tos t := by
  induction t using Tr.ind with
  | h t ih =>
    intro kv fv bv nb w hI hs hf hb hl hfl
    obtain ⟨fad, kcap, rfl⟩ := hI.slice
    obtain ⟨frad, frcap, rfl, _⟩ := (show ∃ ad cap, fv = .slice ad frs.length cap ∧ True from by obtain ⟨ad, cap, e, _⟩ := hf; exact ⟨ad, cap, e, trivial⟩)
    obtain ⟨bad, bcap, rfl⟩ := hb.form
    rw [List.length_map] at hb ⊢
    have HIH : Hid (∀ k ∈ t.kids, RPutDoes frs tos k) := ih
    have HI : Hid (IsT (fun k => k < w.heap.size) w t (.slice fad t.kids.length kcap)) := hI
    have HSZ : Hid (t.size ≤ 1099511627776 ∧ frs.length = tos.length ∧ frs.length ≤ 1099511627776) := ⟨hs, hl, hfl⟩
    have HFB : Hid (∀ W, Kept [] w W → StrsAt W frs (.slice frad frs.length frcap) ∧ GrowK W nb (.slice bad tos.length bcap) (tos.map leafP)) := fun W k => ⟨hf.kept k, hb.keptF k (by simp)⟩
    have HPL : Hid (∀ W, Kept [] w W → Calls Tryz.prog 63 #[.slice frad frs.length frcap, .string t.name] W fun e w' => e = .returned (.int .i64 (plR frs t.name)) ∧ w' = W) := fun W k => refPlaceT_any frs _ t.name W (hf.kept k) hfl
    obtain ⟨A, hA⟩ : ∃ A, w.heap.size = A := ⟨_, rfl⟩
    obtain ⟨U, hU⟩ : ∃ U, (w.alloc (.cells #[.int .u8 (t.op : Nat), .string t.name, .slice fad t.kids.length kcap] 25)).alloc (.cells #[.int .u8 0, .string ⟨#[]⟩, .slice none 0 0] 25) = U := ⟨_, rfl⟩
    obtain ⟨G, hG⟩ : ∃ G, A + 1 + 1 = G := ⟨_, rfl⟩
    have hzu : U.heap.size = G := by rw [← hU, ← hG, ← hA]; simp
    have HGE : Hid (A + 1 + 1 = G) := hG
    have kU : Kept [] w U := by rw [← hU]; exact ((Kept.refl [] w).alloc _).alloc _
    have hu0 : For3 U A (.int .u8 (t.op : Nat)) (.string t.name) (.slice fad t.kids.length kcap) := by rw [← hU, ← hA]; exact alUp (al0 _ _) _
    have hu1 : For3 U (A + 1) (.int .u8 0) (.string ⟨#[]⟩) (.slice none 0 0) := by rw [← hU, ← hA]; exact al1 _ _ _
    obtain ⟨c0, c1, c2, _⟩ := hu0.cells
    have HKU : Hid (Kept [] w U) := kU
    have HU1 : Hid (For3 U (A + 1) (.int .u8 0) (.string ⟨#[]⟩) (.slice none 0 0)) := hu1
    have HA : Hid (w.heap.size = A) := hA
    have HUU : Hid (_ = U) := hU
    cases hh : hitP frs t with
    | true =>
      rw [putR_hit hh]
      unfold hitP at hh
      rw [Bool.and_eq_true, decide_eq_true_eq] at hh
      obtain ⟨h3, hany⟩ := hh
      obtain ⟨j, hj⟩ : ∃ j, frs.findIdx (fun y => y.data.toList == t.name.data.toList) = j := ⟨_, rfl⟩
      have hjl : j < frs.length := by rw [← hj]; exact List.findIdx_lt_length_of_exists (by simpa [List.any_eq_true] using hany)
      have hjt : j < tos.length := by omega
      have hpl : plR frs t.name = (j : Int) := by unfold plR; rw [if_pos hany, hj]
      obtain ⟨g, lad, lcap, hbad, l0, l1, l2⟩ := (hb.keptF kU (by simp)).leafAt hjt
      obtain ⟨u, hu⟩ : ∃ u, tos[j] = u := ⟨_, rfl⟩
      rw [hj, List.getD_eq_getElem?_getD, List.getElem?_eq_getElem hjt]
      rw [hu] at l1
      show Calls _ _ _ _ fun e w' => ∃ kad kcap, e = .returned (.agg #[.int .u8 3, .string (tos[j]), .slice kad 0 kcap]) ∧ IsT (fun k => w.heap.size ≤ k) w' (leafP tos[j]) (.slice kad 0 kcap) ∧ Kept [] w w'
      rw [hu]
      have HCP : Hid (Calls Tryz.prog 83 #[.agg #[.int .u8 3, .string u, .slice lad 0 lcap]] U fun e w' => ∃ kad kcap, e = .returned (.agg #[.int .u8 3, .string u, .slice kad 0 kcap]) ∧ IsT (fun k => U.heap.size ≤ k) w' (leafP u) (.slice kad 0 kcap) ∧ Kept [] U w') := refCopy_any (leafP u) (.slice lad 0 lcap) U (IsT.leaf _ _ rfl _ _) (by rw [Tr.size_eq]; simp [leafP])
      rw [hpl] at HPL
      subst hbad
      have e3 : ((t.op : Int) == 3) = true := by rw [beq_iff_eq]; omega
      have z0 : (0 : Int) ≤ (j : Int) := by omega
      have z1 : (j : Int) < (tos.length : Int) := by omega
      clear hI hs hf hb hl hfl ih hU hu0 hu1 kU h3 hany hj hjl hpl hu
      go_enter Tryz.func36, Tryz.ntmps36
      go_upto_region 1 with fail
      rw [HUU.out]
      go_wp2_with (first
        | (go_at_call 63; refine (HPL.out U HKU.out).mono ?_; rintro e w1 ⟨rfl, hw1⟩; rw [hw1]; clear hw1)
        | (go_at_call 83; refine Calls.mono HCP.out ?_; rintro e W5 ⟨kad5, kcap5, rfl, hI5, k5⟩; obtain ⟨r0, r1, r2, rf⟩ := (HU1.out.kept k5).cells; have HI5 : Hid (IsT (fun k => U.heap.size ≤ k) W5 (leafP u) (.slice kad5 0 kcap5)) := hI5; have HK5 : Hid (Kept [] U W5) := k5; clear hI5 k5))
      have k5 : Kept [] w W5 := HKU.out.trans HK5.out (by simp) (by simp)
      refine ret_for rfl rfl rfl ((HU1.out.kept HK5.out).set _ _ _) ⟨kad5, kcap5, rfl, IsT.leaf _ _ rfl _ _, kept_set3 k5 (by rw [HA.out]; omega) _ _ _⟩
    | false =>
      rw [putR_node hh]
      have hcond : t.op ≠ 3 ∨ (t.op = 3 ∧ plR frs t.name = -1) := by
        rcases Nat.decEq t.op 3 with h | h
        · exact .inl h
        · unfold hitP at hh
          rw [decide_eq_true h, Bool.true_and] at hh
          exact .inr ⟨h, by unfold plR; rw [if_neg (by rw [hh]; simp)]⟩
      obtain ⟨ks, hks⟩ : ∃ ks, t.kids.map (putR frs tos) = ks := ⟨_, rfl⟩
      have hkl : ks.length = t.kids.length := by rw [← hks, List.length_map]
      have HKS : Hid (∀ i (h : i < t.kids.length) (h' : i < ks.length), ks[i] = putR frs tos t.kids[i]) := fun i h h' => by subst hks; simp
      rw [hks]
      show Calls _ _ _ _ fun e w' => ∃ kad kcap, e = .returned (.agg #[.int .u8 (t.op : Nat), .string t.name, .slice kad ks.length kcap]) ∧ IsT (fun k => w.heap.size ≤ k) w' ⟨t.op, t.name, ks⟩ (.slice kad ks.length kcap) ∧ Kept [] w w'
      obtain ⟨V, hV⟩ : ∃ V, U.alloc (.cells #[.int .u8 (t.op : Nat), .string t.name, .slice none 0 0] 25) = V := ⟨_, rfl⟩
      have hz : V.heap.size = G + 1 := by rw [← hV, World.size_alloc, hzu]
      have HST : Hid (KAt w A G (G + 1) (.int .u8 (t.op : Nat)) (.string t.name) (.slice fad t.kids.length kcap) t.op t.name ks 0 V) := by
        refine ⟨?_, ?_, ⟨none, 0, ?_, by rw [List.take_zero]; exact GrowK.nil _ _⟩, by rw [← hV]; exact kU.alloc _, by omega⟩
        · rw [← hV]; exact alUp hu0 _
        · rw [← hV]; exact alUp hu1 _
        · rw [← hV, ← hzu]; exact al0 _ _
      obtain ⟨n, hn⟩ : ∃ n, t.kids.length = n := ⟨_, rfl⟩
      have HN : Hid (t.kids.length = n) := hn
      have HKL : Hid (ks.length = n) := hkl.trans hn
      have HVV : Hid (U.alloc (.cells #[.int .u8 (t.op : Nat), .string t.name, .slice none 0 0] 25) = V) := hV
      rw [hkl]
      rw [hn] at HI HST HUU c2 ⊢
      have hn8 : n ≤ 1099511627776 := by have := t.kids_size; omega
      clear hI hs hf hb hl hfl ih hn hV hU hu0 hu1 kU hks hkl hh
      rcases hcond with h3 | ⟨h3, hpl⟩
      · have e3 : ((t.op : Int) == 3) = false := by rw [beq_eq_false_iff_ne]; omega
        obtain ⟨R, hR⟩ : ∃ R, plR frs t.name = R := ⟨_, rfl⟩
        rw [hR] at HPL
        clear h3 hR
        go_enter Tryz.func36, Tryz.ntmps36
        go_upto_region 1 with fail
        rw [HUU.out]
        go_upto_region 5 with (go_at_call 63; refine (HPL.out U HKU.out).mono ?_; rintro e w1 ⟨rfl, hw1⟩; rw [hw1]; clear hw1)
        rw [HVV.out]
        clear c0 c1 c2 HUU
        go_wp2_with fail
        go_loopw [9] (fun v wr => ∃ i : Nat, v = .int .i64 (i : Nat) ∧ i ≤ n ∧ Hid (KAt w A G (G + 1) (.int .u8 (t.op : Nat)) (.string t.name) (.slice fad n kcap) t.op t.name ks i wr)) (fun v _ => n - (intOf v).toNat)
        case atStart => exact ⟨0, rfl, Nat.zero_le _, HST.out⟩
        case round =>
          obtain ⟨i, rfl, hi, HR⟩ := hrel
          obtain ⟨s0, s1, s2, _⟩ := HR.out.src.cells
          by_cases hlt : i < n
          · have z0 : (i : Int) < (n : Int) := by omega
            have z00 : (0 : Int) ≤ (i : Int) := by omega
            have hik : i < t.kids.length := by rw [HN.out]; exact hlt
            have hik2 : i < ks.length := by rw [HKL.out]; exact hlt
            obtain ⟨kad, gcap, hbx, hgr⟩ := HR.out.box
            obtain ⟨kb, koff, rfl, hkbl, hkid⟩ := (show IsT (fun k => k < w.heap.size) w t (.slice fad t.kids.length kcap) from by rw [HN.out]; exact HI.out).kid (by omega)
            obtain ⟨kvi, a0, a1, a2, hIk⟩ := hkid i hik
            obtain ⟨ckad, ckcap, rfl⟩ := hIk.slice
            have hkb : kb < A := by rw [← HA.out]; exact hkbl
            have kw : Kept [] w wr := HR.out.kept
            have hsize := Tr.kid_size (List.getElem_mem hik)
            have HREC : Hid (∀ W, Kept [] wr W → Calls Tryz.prog 36 #[.agg #[.int .u8 (t.kids[i].op : Nat), .string t.kids[i].name, .slice ckad t.kids[i].kids.length ckcap], .slice frad frs.length frcap, .slice bad tos.length bcap] W fun e w' => ∃ kad kcap, e = .returned (.agg #[.int .u8 (ks[i].op : Nat), .string ks[i].name, .slice kad ks[i].kids.length kcap]) ∧ IsT (fun k => W.heap.size ≤ k) w' ks[i] (.slice kad ks[i].kids.length kcap) ∧ Kept [] W w') := fun W k => by rw [HKS.out i hik hik2]; exact HIH.out _ (List.getElem_mem hik) _ _ _ nb W (IsF.kept (IsF.kept hIk kw) k) (by have := HSZ.out.1; omega) (HFB.out W (kw.trans k (by simp) (by simp))).1 (HFB.out W (kw.trans k (by simp) (by simp))).2 HSZ.out.2.1 HSZ.out.2.2
            have HNX : Hid (∀ W5, Kept [] wr W5 → ∀ uad ucap, IsT (fun k => wr.heap.size ≤ k) W5 ks[i] (.slice uad ks[i].kids.length ucap) → _) := fun W5 k5 uad ucap hu => KAt.next (w := w) (A := A) (G := G) (n0 := G + 1) (by rw [HA.out]; exact Nat.le_refl _) (by have := HGE.out; omega) (by omega) HR.out.src HR.out.res hbx hgr HR.out.kept HR.out.big k5 hik2 (by rw [HKL.out]; omega) hu
            have HSS : Hid (∀ Y : World, Y.heap[A]? = wr.heap[A]? → Y.heap[kb]? = wr.heap[kb]? → Y.cell? ⟨A, 2, none⟩ = some (.slice (some ⟨kb, koff, none⟩) n kcap) ∧ Y.cell? ⟨kb, koff + i * 3, none⟩ = some (.int .u8 (t.kids[i].op : Nat)) ∧ Y.cell? ⟨kb, koff + i * 3 + 1, none⟩ = some (.string t.kids[i].name) ∧ Y.cell? ⟨kb, koff + i * 3 + 2, none⟩ = some (.slice ckad t.kids[i].kids.length ckcap)) := fun Y h1 h2 => by
              refine ⟨?_, ?_, ?_, ?_⟩
              · rw [World.cell?_of_block (w := wr) (a := ⟨A, 2, none⟩) h1]; exact s2
              · rw [World.cell?_of_block (w := wr) (a := ⟨kb, koff + i * 3, none⟩) h2]; exact cell_kept0 kw a0
              · rw [World.cell?_of_block (w := wr) (a := ⟨kb, koff + i * 3 + 1, none⟩) h2]; exact cell_kept0 kw a1
              · rw [World.cell?_of_block (w := wr) (a := ⟨kb, koff + i * 3 + 2, none⟩) h2]; exact cell_kept0 kw a2
            have HBX : Hid (∀ W, Kept [] wr W → W.cell? ⟨G, 2, none⟩ = some (.slice kad i gcap)) := fun W k => (hbx.kept k).cells.2.2.1
            have hAl : A < wr.heap.size := lt_of HR.out.src
            obtain ⟨V6, hV6⟩ : ∃ V6, wr.drew = V6 := ⟨_, rfl⟩
            have k6 : Kept [] wr V6 := by rw [← hV6]; exact (Kept.refl [] wr).drew
            have HV6 : Hid (wr.drew = V6) := hV6
            have HK6 : Hid (Kept [] wr V6) := k6
            have HS6 := HSS.out V6 (k6.block A hAl (by simp)) (k6.block kb (by omega) (by simp))
            have HS6 : Hid _ := HS6
            have HG6 : Hid (V6.cell? ⟨G, 2, none⟩ = some (.slice kad i gcap)) := HBX.out V6 k6
            obtain ⟨ko, hko⟩ : ∃ x, t.kids[i].op = x := ⟨_, rfl⟩
            obtain ⟨kn, hkn⟩ : ∃ x, t.kids[i].name = x := ⟨_, rfl⟩
            obtain ⟨kl, hkl⟩ : ∃ x, t.kids[i].kids.length = x := ⟨_, rfl⟩
            obtain ⟨uo, huo⟩ : ∃ x, ks[i].op = x := ⟨_, rfl⟩
            obtain ⟨un, hun⟩ : ∃ x, ks[i].name = x := ⟨_, rfl⟩
            obtain ⟨ul, hul⟩ : ∃ x, ks[i].kids.length = x := ⟨_, rfl⟩
            have HCALL : Hid (Calls Tryz.prog 36 #[.agg #[.int .u8 (ko : Nat), .string kn, .slice ckad kl ckcap], .slice frad frs.length frcap, .slice bad tos.length bcap] V6 fun e W5 => ∃ uad ucap g cap Wp, e = .returned (.agg #[.int .u8 (uo : Nat), .string un, .slice uad ul ucap]) ∧ (∀ ty, (Builtin.append_ #[23, 23] ty #[.slice kad i gcap, .slice (some ⟨W5.heap.size, 0, none⟩) 1 1]).run Tryz.prog (W5.alloc (.cells #[.int .u8 (uo : Nat), .string un, .slice uad ul ucap] 25)) = .ok (.slice (some ⟨g, 0, none⟩) (i + 1) cap) Wp) ∧ TT A (G) kb koff i n kcap ko kn ckad kl ckcap kad gcap W5 (W5.alloc (.cells #[.int .u8 (uo : Nat), .string un, .slice uad ul ucap] 25)) Wp (Wp.setCell ⟨G, 2, none⟩ (.slice (some ⟨g, 0, none⟩) (i + 1) cap)) ∧ KAt w A (G) (G + 1) (.int .u8 (t.op : Nat)) (.string t.name) (.slice (some ⟨kb, koff, none⟩) n kcap) t.op t.name ks (i + 1) (Wp.setCell ⟨G, 2, none⟩ (.slice (some ⟨g, 0, none⟩) (i + 1) cap))) := by
              rw [← hko, ← hkn, ← hkl, ← huo, ← hun, ← hul]
              refine Calls.mono (HREC.out V6 k6) ?_
              rintro e W5 ⟨uad, ucap, rfl, hI5, hk5⟩
              have k5 : Kept [] wr W5 := k6.trans hk5 (by simp) (by simp)
              have hI6 := hI5.mono (Y := fun k => wr.heap.size ≤ k) (fun k q => Nat.le_trans k6.size q)
              obtain ⟨g, cap, Wp, r1, r2, r3, r4, r5⟩ := HNX.out W5 k5 uad ucap hI6
              refine ⟨uad, ucap, g, cap, Wp, rfl, r1, ⟨HSS.out W5 (k5.block A hAl (by simp)) (k5.block kb (by omega) (by simp)), HBX.out W5 k5, HSS.out _ ((k5.alloc _).block A hAl (by simp)) ((k5.alloc _).block kb (by omega) (by simp)), HBX.out _ (k5.alloc _), HSS.out _ (r2 A (by have := HGE.out; omega)) (r2 kb (by have := HGE.out; omega)), HSS.out _ (r4 A (by have := HGE.out; omega) (by have := HGE.out; omega)) (r4 kb (by have := HGE.out; omega) (by have := HGE.out; omega)), r3⟩, r5⟩
            rw [hko, hkn, hkl] at HS6
            have HI1 : Hid (i + 1 = i + 1) := rfl
            obtain ⟨i1, hi1⟩ : ∃ i1, i + 1 = i1 := ⟨_, rfl⟩
            clear hbx hgr hkid a0 a1 a2 hIk kw hsize hV6 k6 hko hkn hkl huo hun hul hik2 HNX HSS HREC HBX hAl hkbl
            go_wp2_with fail
            refine wp_regionHp (fun Y => Y.cell? ⟨A, 2, none⟩ = some (.slice (some ⟨kb, koff, none⟩) n kcap) ∧ Y.cell? ⟨kb, koff + i * 3, none⟩ = some (.int .u8 (ko : Nat)) ∧ Y.cell? ⟨kb, koff + i * 3 + 1, none⟩ = some (.string kn) ∧ Y.cell? ⟨kb, koff + i * 3 + 2, none⟩ = some (.slice ckad kl ckcap)) (by kernel_rfl) ?_
            rw [HV6.out]
            refine heldTakeHp 0 (some 38) (.pointer (some ⟨G, 2, none⟩)) rfl rfl rfl (by kernel_rfl) (by kernel_rfl) (by kernel_rfl) (fun Y hY => ?_) HS6.out ?_
            · obtain ⟨y0, y1, y2, y3⟩ := hY
              go_simp
            simp only [Act.put, List.setIfInBounds_toArray, List.set_cons_zero, List.set_cons_succ]
            refine heldTakeHp 2 (some 40) (.pointer (some ⟨A, 2, none⟩)) rfl rfl rfl (by kernel_rfl) (by kernel_rfl) (by kernel_rfl) (fun Y hY => ?_) HS6.out ?_
            · obtain ⟨y0, y1, y2, y3⟩ := hY
              go_simp
            simp only [Act.put, List.setIfInBounds_toArray, List.set_cons_zero, List.set_cons_succ]
            refine heldTakeHp 3 (some 41) (.slice (some ⟨kb, koff, none⟩) n kcap) rfl rfl rfl (by kernel_rfl) (by kernel_rfl) (by kernel_rfl) (fun Y hY => ?_) HS6.out ?_
            · obtain ⟨y0, y1, y2, y3⟩ := hY
              go_simp
            simp only [Act.put, List.setIfInBounds_toArray, List.set_cons_zero, List.set_cons_succ]
            refine heldTakeHp 4 (some 42) (.int .i64 (i : Nat)) rfl rfl rfl (by kernel_rfl) (by kernel_rfl) (by kernel_rfl) (fun Y hY => ?_) HS6.out ?_
            · obtain ⟨y0, y1, y2, y3⟩ := hY
              go_simp
            simp only [Act.put, List.setIfInBounds_toArray, List.set_cons_zero, List.set_cons_succ]
            refine heldTakeHp 5 (some 43) (.pointer (some ⟨kb, koff + i * 3, none⟩)) rfl rfl rfl (by kernel_rfl) (by kernel_rfl) (by kernel_rfl) (fun Y hY => ?_) HS6.out ?_
            · obtain ⟨y0, y1, y2, y3⟩ := hY
              go_simp
            simp only [Act.put, List.setIfInBounds_toArray, List.set_cons_zero, List.set_cons_succ]
            refine heldTakeHp 6 (some 44) (.agg #[.int .u8 (ko : Nat), .string kn, .slice ckad kl ckcap]) rfl rfl rfl (by kernel_rfl) (by kernel_rfl) (by kernel_rfl) (fun Y hY => ?_) HS6.out ?_
            · obtain ⟨y0, y1, y2, y3⟩ := hY
              go_simp
            simp only [Act.put, List.setIfInBounds_toArray, List.set_cons_zero, List.set_cons_succ]
            refine heldTakeHp 7 (some 45) (.slice frad frs.length frcap) rfl rfl rfl (by kernel_rfl) (by kernel_rfl) (by kernel_rfl) (fun Y hY => ?_) HS6.out ?_
            · obtain ⟨y0, y1, y2, y3⟩ := hY
              go_simp
            simp only [Act.put, List.setIfInBounds_toArray, List.set_cons_zero, List.set_cons_succ]
            refine heldTakeHp 8 (some 46) (.slice bad tos.length bcap) rfl rfl rfl (by kernel_rfl) (by kernel_rfl) (by kernel_rfl) (fun Y hY => ?_) HS6.out ?_
            · obtain ⟨y0, y1, y2, y3⟩ := hY
              go_simp
            simp only [Act.put, List.setIfInBounds_toArray, List.set_cons_zero, List.set_cons_succ]
            refine heldTwoHp 1 9 (by kernel_rfl) ?_ ?_
            · skip
              refine opValueHp (some 39) (.slice kad i gcap) V6 rfl rfl rfl ?_ ⟨HS6.out, ?_⟩
              · have y0 := HG6.out
                go_simp
              simp only [Act.put, List.setIfInBounds_toArray, List.set_cons_zero, List.set_cons_succ]
              refine heldOneHp 9 (by kernel_rfl) ?_
              refine opCallHp (some 47) 36 #[.agg #[.int .u8 (ko : Nat), .string kn, .slice ckad kl ckcap], .slice frad frs.length frcap, .slice bad tos.length bcap] rfl rfl rfl ?_ ?_
              · go_simp
              refine HCALL.out.mono ?_
              rintro e W5 ⟨uad, ucap, g, cap, Wp, rfl, hrun, hT, hK⟩
              rw [hi1] at hrun hT hK
              have HRUN : Hid (∀ ty, (Builtin.append_ #[23, 23] ty #[.slice kad i gcap, .slice (some ⟨W5.heap.size, 0, none⟩) 1 1]).run Tryz.prog (W5.alloc (.cells #[.int .u8 (uo : Nat), .string un, .slice uad ul ucap] 25)) = .ok (.slice (some ⟨g, 0, none⟩) i1 cap) Wp) := hrun
              have HT : Hid (TT (A) (G) kb koff i n kcap ko kn ckad kl ckcap kad gcap W5 (W5.alloc (.cells #[.int .u8 (uo : Nat), .string un, .slice uad ul ucap] 25)) Wp (Wp.setCell ⟨G, 2, none⟩ (.slice (some ⟨g, 0, none⟩) i1 cap))) := hT
              have HK : Hid (KAt w A G (G + 1) (.int .u8 (t.op : Nat)) (.string t.name) (.slice (some ⟨kb, koff, none⟩) n kcap) t.op t.name ks (i + 1) (Wp.setCell ⟨G, 2, none⟩ (.slice (some ⟨g, 0, none⟩) i1 cap))) := by show KAt _ _ _ _ _ _ _ _ _ _ _ _; rw [hi1]; exact hK
              clear hrun hT hK
              refine ⟨_, rfl, HT.out.1, ?_⟩
              simp only [Act.put, List.setIfInBounds_toArray, List.set_cons_zero, List.set_cons_succ]
              refine heldOneHp 10 (by kernel_rfl) ?_
              refine opValueHp (some 48) (.slice (some ⟨W5.heap.size, 0, none⟩) 1 1) (W5.alloc (.cells #[.int .u8 (uo : Nat), .string un, .slice uad ul ucap] 25)) rfl rfl rfl ?_ ⟨HT.out.2.2.1, ?_⟩
              · go_simp
              simp only [Act.put, List.setIfInBounds_toArray, List.set_cons_zero, List.set_cons_succ]
              refine heldOneHp 11 (by kernel_rfl) ?_
              refine opAppHp (some 49) (.slice (some ⟨g, 0, none⟩) i1 cap) Wp rfl rfl rfl rfl rfl rfl HRUN.out ⟨HT.out.2.2.2.2.1, ?_⟩
              simp only [Act.put, List.setIfInBounds_toArray, List.set_cons_zero, List.set_cons_succ]
              refine heldTakeHp 12 (some 50) (.pointer (some ⟨G, 2, none⟩)) rfl rfl rfl (by kernel_rfl) (by kernel_rfl) (by kernel_rfl) (fun Y hY => ?_) HT.out.2.2.2.2.1 ?_
              · obtain ⟨y0, y1, y2, y3⟩ := hY
                go_simp
              simp only [Act.put, List.setIfInBounds_toArray, List.set_cons_zero, List.set_cons_succ]
              refine heldOneHp 13 (by kernel_rfl) ?_
              refine opSkipHp (Wp.setCell ⟨G, 2, none⟩ (.slice (some ⟨g, 0, none⟩) i1 cap)) rfl rfl rfl ?_ ⟨HT.out.2.2.2.2.2.1, ?_⟩
              · have y0 := HT.out.2.2.2.2.2.2.1
                have y1 := HT.out.2.2.2.2.2.2.2
                go_simp
              refine wpAnyH_done (by kernel_rfl) ?_ _
              simp only [Q1Hp]
              go_wp2
              go_roundw
              case rel => exact ⟨i + 1, by go_num, by omega, HK.out⟩
              case measure => simp [intOf]; omega
            · skip
              refine opCallHp (some 47) 36 #[.agg #[.int .u8 (ko : Nat), .string kn, .slice ckad kl ckcap], .slice frad frs.length frcap, .slice bad tos.length bcap] rfl rfl rfl ?_ ?_
              · go_simp
              refine HCALL.out.mono ?_
              rintro e W5 ⟨uad, ucap, g, cap, Wp, rfl, hrun, hT, hK⟩
              rw [hi1] at hrun hT hK
              have HRUN : Hid (∀ ty, (Builtin.append_ #[23, 23] ty #[.slice kad i gcap, .slice (some ⟨W5.heap.size, 0, none⟩) 1 1]).run Tryz.prog (W5.alloc (.cells #[.int .u8 (uo : Nat), .string un, .slice uad ul ucap] 25)) = .ok (.slice (some ⟨g, 0, none⟩) i1 cap) Wp) := hrun
              have HT : Hid (TT (A) (G) kb koff i n kcap ko kn ckad kl ckcap kad gcap W5 (W5.alloc (.cells #[.int .u8 (uo : Nat), .string un, .slice uad ul ucap] 25)) Wp (Wp.setCell ⟨G, 2, none⟩ (.slice (some ⟨g, 0, none⟩) i1 cap))) := hT
              have HK : Hid (KAt w A G (G + 1) (.int .u8 (t.op : Nat)) (.string t.name) (.slice (some ⟨kb, koff, none⟩) n kcap) t.op t.name ks (i + 1) (Wp.setCell ⟨G, 2, none⟩ (.slice (some ⟨g, 0, none⟩) i1 cap))) := by show KAt _ _ _ _ _ _ _ _ _ _ _ _; rw [hi1]; exact hK
              clear hrun hT hK
              refine ⟨_, rfl, HT.out.1, ?_⟩
              simp only [Act.put, List.setIfInBounds_toArray, List.set_cons_zero, List.set_cons_succ]
              refine heldTwoHp 1 10 (by kernel_rfl) ?_ ?_
              · skip
                refine opValueHp (some 39) (.slice kad i gcap) W5 rfl rfl rfl ?_ ⟨HT.out.1, ?_⟩
                · have y0 := HT.out.2.1
                  go_simp
                simp only [Act.put, List.setIfInBounds_toArray, List.set_cons_zero, List.set_cons_succ]
                refine heldOneHp 10 (by kernel_rfl) ?_
                refine opValueHp (some 48) (.slice (some ⟨W5.heap.size, 0, none⟩) 1 1) (W5.alloc (.cells #[.int .u8 (uo : Nat), .string un, .slice uad ul ucap] 25)) rfl rfl rfl ?_ ⟨HT.out.2.2.1, ?_⟩
                · go_simp
                simp only [Act.put, List.setIfInBounds_toArray, List.set_cons_zero, List.set_cons_succ]
                refine heldOneHp 11 (by kernel_rfl) ?_
                refine opAppHp (some 49) (.slice (some ⟨g, 0, none⟩) i1 cap) Wp rfl rfl rfl rfl rfl rfl HRUN.out ⟨HT.out.2.2.2.2.1, ?_⟩
                simp only [Act.put, List.setIfInBounds_toArray, List.set_cons_zero, List.set_cons_succ]
                refine heldTakeHp 12 (some 50) (.pointer (some ⟨G, 2, none⟩)) rfl rfl rfl (by kernel_rfl) (by kernel_rfl) (by kernel_rfl) (fun Y hY => ?_) HT.out.2.2.2.2.1 ?_
                · obtain ⟨y0, y1, y2, y3⟩ := hY
                  go_simp
                simp only [Act.put, List.setIfInBounds_toArray, List.set_cons_zero, List.set_cons_succ]
                refine heldOneHp 13 (by kernel_rfl) ?_
                refine opSkipHp (Wp.setCell ⟨G, 2, none⟩ (.slice (some ⟨g, 0, none⟩) i1 cap)) rfl rfl rfl ?_ ⟨HT.out.2.2.2.2.2.1, ?_⟩
                · have y0 := HT.out.2.2.2.2.2.2.1
                  have y1 := HT.out.2.2.2.2.2.2.2
                  go_simp
                refine wpAnyH_done (by kernel_rfl) ?_ _
                simp only [Q1Hp]
                go_wp2
                go_roundw
                case rel => exact ⟨i + 1, by go_num, by omega, HK.out⟩
                case measure => simp [intOf]; omega
              · skip
                refine opValueHp (some 48) (.slice (some ⟨W5.heap.size, 0, none⟩) 1 1) (W5.alloc (.cells #[.int .u8 (uo : Nat), .string un, .slice uad ul ucap] 25)) rfl rfl rfl ?_ ⟨HT.out.2.2.1, ?_⟩
                · go_simp
                simp only [Act.put, List.setIfInBounds_toArray, List.set_cons_zero, List.set_cons_succ]
                refine heldOneHp 1 (by kernel_rfl) ?_
                refine opValueHp (some 39) (.slice kad i gcap) (W5.alloc (.cells #[.int .u8 (uo : Nat), .string un, .slice uad ul ucap] 25)) rfl rfl rfl ?_ ⟨HT.out.2.2.1, ?_⟩
                · have y0 := HT.out.2.2.2.1
                  go_simp
                simp only [Act.put, List.setIfInBounds_toArray, List.set_cons_zero, List.set_cons_succ]
                refine heldOneHp 11 (by kernel_rfl) ?_
                refine opAppHp (some 49) (.slice (some ⟨g, 0, none⟩) i1 cap) Wp rfl rfl rfl rfl rfl rfl HRUN.out ⟨HT.out.2.2.2.2.1, ?_⟩
                simp only [Act.put, List.setIfInBounds_toArray, List.set_cons_zero, List.set_cons_succ]
                refine heldTakeHp 12 (some 50) (.pointer (some ⟨G, 2, none⟩)) rfl rfl rfl (by kernel_rfl) (by kernel_rfl) (by kernel_rfl) (fun Y hY => ?_) HT.out.2.2.2.2.1 ?_
                · obtain ⟨y0, y1, y2, y3⟩ := hY
                  go_simp
                simp only [Act.put, List.setIfInBounds_toArray, List.set_cons_zero, List.set_cons_succ]
                refine heldOneHp 13 (by kernel_rfl) ?_
                refine opSkipHp (Wp.setCell ⟨G, 2, none⟩ (.slice (some ⟨g, 0, none⟩) i1 cap)) rfl rfl rfl ?_ ⟨HT.out.2.2.2.2.2.1, ?_⟩
                · have y0 := HT.out.2.2.2.2.2.2.1
                  have y1 := HT.out.2.2.2.2.2.2.2
                  go_simp
                refine wpAnyH_done (by kernel_rfl) ?_ _
                simp only [Q1Hp]
                go_wp2
                go_roundw
                case rel => exact ⟨i + 1, by go_num, by omega, HK.out⟩
                case measure => simp [intOf]; omega
          · obtain rfl : i = n := by omega
            have z0 : ¬ ((i : Int) < (i : Int)) := by omega
            obtain ⟨kad, gcap, hbx, hgr⟩ := HR.out.box
            obtain ⟨e0, e1, e2, _⟩ := hbx.cells
            obtain ⟨r0, r1, r2, rf⟩ := HR.out.res.cells
            have HGR : Hid (GrowK wr (G + 1) (.slice kad i gcap) (ks.take i)) := hgr
            clear hbx hgr hlt
            go_wp2
            refine ret_for rfl rfl rfl (HR.out.res.set _ _ _) ⟨kad, gcap, rfl, ?_, kept_set3 HR.out.kept (by omega) _ _ _⟩
            have hn' : ¬ (G + 1 ≤ A + 1) := by have := HGE.out; omega
            have hI2 := HGR.out.isT t.op t.name
            rw [List.take_of_length_le (by rw [HKL.out]; exact Nat.le_refl _)] at hI2
            have hI3 : IsT (fun k => G + 1 ≤ k) wr ⟨t.op, t.name, ks⟩ (.slice kad i gcap) := hI2
            have hI4 := ((hI3.other hn' 0 (.int .u8 (t.op : Nat))).other hn' 1 (.string t.name)).other hn' 2 (.slice kad i gcap)
            exact hI4.mono (fun k q => by have := HGE.out; omega)
      · have e3 : ((t.op : Int) == 3) = true := by rw [beq_iff_eq]; omega
        rw [hpl] at HPL
        clear h3 hpl
        go_enter Tryz.func36, Tryz.ntmps36
        go_upto_region 1 with fail
        rw [HUU.out]
        go_upto_region 5 with (go_at_call 63; refine (HPL.out U HKU.out).mono ?_; rintro e w1 ⟨rfl, hw1⟩; rw [hw1]; clear hw1)
        rw [HVV.out]
        clear c0 c1 c2 HUU
        go_wp2_with fail
        go_loopw [9] (fun v wr => ∃ i : Nat, v = .int .i64 (i : Nat) ∧ i ≤ n ∧ Hid (KAt w A G (G + 1) (.int .u8 (t.op : Nat)) (.string t.name) (.slice fad n kcap) t.op t.name ks i wr)) (fun v _ => n - (intOf v).toNat)
        case atStart => exact ⟨0, rfl, Nat.zero_le _, HST.out⟩
        case round =>
          obtain ⟨i, rfl, hi, HR⟩ := hrel
          obtain ⟨s0, s1, s2, _⟩ := HR.out.src.cells
          by_cases hlt : i < n
          · have z0 : (i : Int) < (n : Int) := by omega
            have z00 : (0 : Int) ≤ (i : Int) := by omega
            have hik : i < t.kids.length := by rw [HN.out]; exact hlt
            have hik2 : i < ks.length := by rw [HKL.out]; exact hlt
            obtain ⟨kad, gcap, hbx, hgr⟩ := HR.out.box
            obtain ⟨kb, koff, rfl, hkbl, hkid⟩ := (show IsT (fun k => k < w.heap.size) w t (.slice fad t.kids.length kcap) from by rw [HN.out]; exact HI.out).kid (by omega)
            obtain ⟨kvi, a0, a1, a2, hIk⟩ := hkid i hik
            obtain ⟨ckad, ckcap, rfl⟩ := hIk.slice
            have hkb : kb < A := by rw [← HA.out]; exact hkbl
            have kw : Kept [] w wr := HR.out.kept
            have hsize := Tr.kid_size (List.getElem_mem hik)
            have HREC : Hid (∀ W, Kept [] wr W → Calls Tryz.prog 36 #[.agg #[.int .u8 (t.kids[i].op : Nat), .string t.kids[i].name, .slice ckad t.kids[i].kids.length ckcap], .slice frad frs.length frcap, .slice bad tos.length bcap] W fun e w' => ∃ kad kcap, e = .returned (.agg #[.int .u8 (ks[i].op : Nat), .string ks[i].name, .slice kad ks[i].kids.length kcap]) ∧ IsT (fun k => W.heap.size ≤ k) w' ks[i] (.slice kad ks[i].kids.length kcap) ∧ Kept [] W w') := fun W k => by rw [HKS.out i hik hik2]; exact HIH.out _ (List.getElem_mem hik) _ _ _ nb W (IsF.kept (IsF.kept hIk kw) k) (by have := HSZ.out.1; omega) (HFB.out W (kw.trans k (by simp) (by simp))).1 (HFB.out W (kw.trans k (by simp) (by simp))).2 HSZ.out.2.1 HSZ.out.2.2
            have HNX : Hid (∀ W5, Kept [] wr W5 → ∀ uad ucap, IsT (fun k => wr.heap.size ≤ k) W5 ks[i] (.slice uad ks[i].kids.length ucap) → _) := fun W5 k5 uad ucap hu => KAt.next (w := w) (A := A) (G := G) (n0 := G + 1) (by rw [HA.out]; exact Nat.le_refl _) (by have := HGE.out; omega) (by omega) HR.out.src HR.out.res hbx hgr HR.out.kept HR.out.big k5 hik2 (by rw [HKL.out]; omega) hu
            have HSS : Hid (∀ Y : World, Y.heap[A]? = wr.heap[A]? → Y.heap[kb]? = wr.heap[kb]? → Y.cell? ⟨A, 2, none⟩ = some (.slice (some ⟨kb, koff, none⟩) n kcap) ∧ Y.cell? ⟨kb, koff + i * 3, none⟩ = some (.int .u8 (t.kids[i].op : Nat)) ∧ Y.cell? ⟨kb, koff + i * 3 + 1, none⟩ = some (.string t.kids[i].name) ∧ Y.cell? ⟨kb, koff + i * 3 + 2, none⟩ = some (.slice ckad t.kids[i].kids.length ckcap)) := fun Y h1 h2 => by
              refine ⟨?_, ?_, ?_, ?_⟩
              · rw [World.cell?_of_block (w := wr) (a := ⟨A, 2, none⟩) h1]; exact s2
              · rw [World.cell?_of_block (w := wr) (a := ⟨kb, koff + i * 3, none⟩) h2]; exact cell_kept0 kw a0
              · rw [World.cell?_of_block (w := wr) (a := ⟨kb, koff + i * 3 + 1, none⟩) h2]; exact cell_kept0 kw a1
              · rw [World.cell?_of_block (w := wr) (a := ⟨kb, koff + i * 3 + 2, none⟩) h2]; exact cell_kept0 kw a2
            have HBX : Hid (∀ W, Kept [] wr W → W.cell? ⟨G, 2, none⟩ = some (.slice kad i gcap)) := fun W k => (hbx.kept k).cells.2.2.1
            have hAl : A < wr.heap.size := lt_of HR.out.src
            obtain ⟨V6, hV6⟩ : ∃ V6, wr.drew = V6 := ⟨_, rfl⟩
            have k6 : Kept [] wr V6 := by rw [← hV6]; exact (Kept.refl [] wr).drew
            have HV6 : Hid (wr.drew = V6) := hV6
            have HK6 : Hid (Kept [] wr V6) := k6
            have HS6 := HSS.out V6 (k6.block A hAl (by simp)) (k6.block kb (by omega) (by simp))
            have HS6 : Hid _ := HS6
            have HG6 : Hid (V6.cell? ⟨G, 2, none⟩ = some (.slice kad i gcap)) := HBX.out V6 k6
            obtain ⟨ko, hko⟩ : ∃ x, t.kids[i].op = x := ⟨_, rfl⟩
            obtain ⟨kn, hkn⟩ : ∃ x, t.kids[i].name = x := ⟨_, rfl⟩
            obtain ⟨kl, hkl⟩ : ∃ x, t.kids[i].kids.length = x := ⟨_, rfl⟩
            obtain ⟨uo, huo⟩ : ∃ x, ks[i].op = x := ⟨_, rfl⟩
            obtain ⟨un, hun⟩ : ∃ x, ks[i].name = x := ⟨_, rfl⟩
            obtain ⟨ul, hul⟩ : ∃ x, ks[i].kids.length = x := ⟨_, rfl⟩
            have HCALL : Hid (Calls Tryz.prog 36 #[.agg #[.int .u8 (ko : Nat), .string kn, .slice ckad kl ckcap], .slice frad frs.length frcap, .slice bad tos.length bcap] V6 fun e W5 => ∃ uad ucap g cap Wp, e = .returned (.agg #[.int .u8 (uo : Nat), .string un, .slice uad ul ucap]) ∧ (∀ ty, (Builtin.append_ #[23, 23] ty #[.slice kad i gcap, .slice (some ⟨W5.heap.size, 0, none⟩) 1 1]).run Tryz.prog (W5.alloc (.cells #[.int .u8 (uo : Nat), .string un, .slice uad ul ucap] 25)) = .ok (.slice (some ⟨g, 0, none⟩) (i + 1) cap) Wp) ∧ TT A (G) kb koff i n kcap ko kn ckad kl ckcap kad gcap W5 (W5.alloc (.cells #[.int .u8 (uo : Nat), .string un, .slice uad ul ucap] 25)) Wp (Wp.setCell ⟨G, 2, none⟩ (.slice (some ⟨g, 0, none⟩) (i + 1) cap)) ∧ KAt w A (G) (G + 1) (.int .u8 (t.op : Nat)) (.string t.name) (.slice (some ⟨kb, koff, none⟩) n kcap) t.op t.name ks (i + 1) (Wp.setCell ⟨G, 2, none⟩ (.slice (some ⟨g, 0, none⟩) (i + 1) cap))) := by
              rw [← hko, ← hkn, ← hkl, ← huo, ← hun, ← hul]
              refine Calls.mono (HREC.out V6 k6) ?_
              rintro e W5 ⟨uad, ucap, rfl, hI5, hk5⟩
              have k5 : Kept [] wr W5 := k6.trans hk5 (by simp) (by simp)
              have hI6 := hI5.mono (Y := fun k => wr.heap.size ≤ k) (fun k q => Nat.le_trans k6.size q)
              obtain ⟨g, cap, Wp, r1, r2, r3, r4, r5⟩ := HNX.out W5 k5 uad ucap hI6
              refine ⟨uad, ucap, g, cap, Wp, rfl, r1, ⟨HSS.out W5 (k5.block A hAl (by simp)) (k5.block kb (by omega) (by simp)), HBX.out W5 k5, HSS.out _ ((k5.alloc _).block A hAl (by simp)) ((k5.alloc _).block kb (by omega) (by simp)), HBX.out _ (k5.alloc _), HSS.out _ (r2 A (by have := HGE.out; omega)) (r2 kb (by have := HGE.out; omega)), HSS.out _ (r4 A (by have := HGE.out; omega) (by have := HGE.out; omega)) (r4 kb (by have := HGE.out; omega) (by have := HGE.out; omega)), r3⟩, r5⟩
            rw [hko, hkn, hkl] at HS6
            have HI1 : Hid (i + 1 = i + 1) := rfl
            obtain ⟨i1, hi1⟩ : ∃ i1, i + 1 = i1 := ⟨_, rfl⟩
            clear hbx hgr hkid a0 a1 a2 hIk kw hsize hV6 k6 hko hkn hkl huo hun hul hik2 HNX HSS HREC HBX hAl hkbl
            go_wp2_with fail
            refine wp_regionHp (fun Y => Y.cell? ⟨A, 2, none⟩ = some (.slice (some ⟨kb, koff, none⟩) n kcap) ∧ Y.cell? ⟨kb, koff + i * 3, none⟩ = some (.int .u8 (ko : Nat)) ∧ Y.cell? ⟨kb, koff + i * 3 + 1, none⟩ = some (.string kn) ∧ Y.cell? ⟨kb, koff + i * 3 + 2, none⟩ = some (.slice ckad kl ckcap)) (by kernel_rfl) ?_
            rw [HV6.out]
            refine heldTakeHp 0 (some 38) (.pointer (some ⟨G, 2, none⟩)) rfl rfl rfl (by kernel_rfl) (by kernel_rfl) (by kernel_rfl) (fun Y hY => ?_) HS6.out ?_
            · obtain ⟨y0, y1, y2, y3⟩ := hY
              go_simp
            simp only [Act.put, List.setIfInBounds_toArray, List.set_cons_zero, List.set_cons_succ]
            refine heldTakeHp 2 (some 40) (.pointer (some ⟨A, 2, none⟩)) rfl rfl rfl (by kernel_rfl) (by kernel_rfl) (by kernel_rfl) (fun Y hY => ?_) HS6.out ?_
            · obtain ⟨y0, y1, y2, y3⟩ := hY
              go_simp
            simp only [Act.put, List.setIfInBounds_toArray, List.set_cons_zero, List.set_cons_succ]
            refine heldTakeHp 3 (some 41) (.slice (some ⟨kb, koff, none⟩) n kcap) rfl rfl rfl (by kernel_rfl) (by kernel_rfl) (by kernel_rfl) (fun Y hY => ?_) HS6.out ?_
            · obtain ⟨y0, y1, y2, y3⟩ := hY
              go_simp
            simp only [Act.put, List.setIfInBounds_toArray, List.set_cons_zero, List.set_cons_succ]
            refine heldTakeHp 4 (some 42) (.int .i64 (i : Nat)) rfl rfl rfl (by kernel_rfl) (by kernel_rfl) (by kernel_rfl) (fun Y hY => ?_) HS6.out ?_
            · obtain ⟨y0, y1, y2, y3⟩ := hY
              go_simp
            simp only [Act.put, List.setIfInBounds_toArray, List.set_cons_zero, List.set_cons_succ]
            refine heldTakeHp 5 (some 43) (.pointer (some ⟨kb, koff + i * 3, none⟩)) rfl rfl rfl (by kernel_rfl) (by kernel_rfl) (by kernel_rfl) (fun Y hY => ?_) HS6.out ?_
            · obtain ⟨y0, y1, y2, y3⟩ := hY
              go_simp
            simp only [Act.put, List.setIfInBounds_toArray, List.set_cons_zero, List.set_cons_succ]
            refine heldTakeHp 6 (some 44) (.agg #[.int .u8 (ko : Nat), .string kn, .slice ckad kl ckcap]) rfl rfl rfl (by kernel_rfl) (by kernel_rfl) (by kernel_rfl) (fun Y hY => ?_) HS6.out ?_
            · obtain ⟨y0, y1, y2, y3⟩ := hY
              go_simp
            simp only [Act.put, List.setIfInBounds_toArray, List.set_cons_zero, List.set_cons_succ]
            refine heldTakeHp 7 (some 45) (.slice frad frs.length frcap) rfl rfl rfl (by kernel_rfl) (by kernel_rfl) (by kernel_rfl) (fun Y hY => ?_) HS6.out ?_
            · obtain ⟨y0, y1, y2, y3⟩ := hY
              go_simp
            simp only [Act.put, List.setIfInBounds_toArray, List.set_cons_zero, List.set_cons_succ]
            refine heldTakeHp 8 (some 46) (.slice bad tos.length bcap) rfl rfl rfl (by kernel_rfl) (by kernel_rfl) (by kernel_rfl) (fun Y hY => ?_) HS6.out ?_
            · obtain ⟨y0, y1, y2, y3⟩ := hY
              go_simp
            simp only [Act.put, List.setIfInBounds_toArray, List.set_cons_zero, List.set_cons_succ]
            refine heldTwoHp 1 9 (by kernel_rfl) ?_ ?_
            · skip
              refine opValueHp (some 39) (.slice kad i gcap) V6 rfl rfl rfl ?_ ⟨HS6.out, ?_⟩
              · have y0 := HG6.out
                go_simp
              simp only [Act.put, List.setIfInBounds_toArray, List.set_cons_zero, List.set_cons_succ]
              refine heldOneHp 9 (by kernel_rfl) ?_
              refine opCallHp (some 47) 36 #[.agg #[.int .u8 (ko : Nat), .string kn, .slice ckad kl ckcap], .slice frad frs.length frcap, .slice bad tos.length bcap] rfl rfl rfl ?_ ?_
              · go_simp
              refine HCALL.out.mono ?_
              rintro e W5 ⟨uad, ucap, g, cap, Wp, rfl, hrun, hT, hK⟩
              rw [hi1] at hrun hT hK
              have HRUN : Hid (∀ ty, (Builtin.append_ #[23, 23] ty #[.slice kad i gcap, .slice (some ⟨W5.heap.size, 0, none⟩) 1 1]).run Tryz.prog (W5.alloc (.cells #[.int .u8 (uo : Nat), .string un, .slice uad ul ucap] 25)) = .ok (.slice (some ⟨g, 0, none⟩) i1 cap) Wp) := hrun
              have HT : Hid (TT (A) (G) kb koff i n kcap ko kn ckad kl ckcap kad gcap W5 (W5.alloc (.cells #[.int .u8 (uo : Nat), .string un, .slice uad ul ucap] 25)) Wp (Wp.setCell ⟨G, 2, none⟩ (.slice (some ⟨g, 0, none⟩) i1 cap))) := hT
              have HK : Hid (KAt w A G (G + 1) (.int .u8 (t.op : Nat)) (.string t.name) (.slice (some ⟨kb, koff, none⟩) n kcap) t.op t.name ks (i + 1) (Wp.setCell ⟨G, 2, none⟩ (.slice (some ⟨g, 0, none⟩) i1 cap))) := by show KAt _ _ _ _ _ _ _ _ _ _ _ _; rw [hi1]; exact hK
              clear hrun hT hK
              refine ⟨_, rfl, HT.out.1, ?_⟩
              simp only [Act.put, List.setIfInBounds_toArray, List.set_cons_zero, List.set_cons_succ]
              refine heldOneHp 10 (by kernel_rfl) ?_
              refine opValueHp (some 48) (.slice (some ⟨W5.heap.size, 0, none⟩) 1 1) (W5.alloc (.cells #[.int .u8 (uo : Nat), .string un, .slice uad ul ucap] 25)) rfl rfl rfl ?_ ⟨HT.out.2.2.1, ?_⟩
              · go_simp
              simp only [Act.put, List.setIfInBounds_toArray, List.set_cons_zero, List.set_cons_succ]
              refine heldOneHp 11 (by kernel_rfl) ?_
              refine opAppHp (some 49) (.slice (some ⟨g, 0, none⟩) i1 cap) Wp rfl rfl rfl rfl rfl rfl HRUN.out ⟨HT.out.2.2.2.2.1, ?_⟩
              simp only [Act.put, List.setIfInBounds_toArray, List.set_cons_zero, List.set_cons_succ]
              refine heldTakeHp 12 (some 50) (.pointer (some ⟨G, 2, none⟩)) rfl rfl rfl (by kernel_rfl) (by kernel_rfl) (by kernel_rfl) (fun Y hY => ?_) HT.out.2.2.2.2.1 ?_
              · obtain ⟨y0, y1, y2, y3⟩ := hY
                go_simp
              simp only [Act.put, List.setIfInBounds_toArray, List.set_cons_zero, List.set_cons_succ]
              refine heldOneHp 13 (by kernel_rfl) ?_
              refine opSkipHp (Wp.setCell ⟨G, 2, none⟩ (.slice (some ⟨g, 0, none⟩) i1 cap)) rfl rfl rfl ?_ ⟨HT.out.2.2.2.2.2.1, ?_⟩
              · have y0 := HT.out.2.2.2.2.2.2.1
                have y1 := HT.out.2.2.2.2.2.2.2
                go_simp
              refine wpAnyH_done (by kernel_rfl) ?_ _
              simp only [Q1Hp]
              go_wp2
              go_roundw
              case rel => exact ⟨i + 1, by go_num, by omega, HK.out⟩
              case measure => simp [intOf]; omega
            · skip
              refine opCallHp (some 47) 36 #[.agg #[.int .u8 (ko : Nat), .string kn, .slice ckad kl ckcap], .slice frad frs.length frcap, .slice bad tos.length bcap] rfl rfl rfl ?_ ?_
              · go_simp
              refine HCALL.out.mono ?_
              rintro e W5 ⟨uad, ucap, g, cap, Wp, rfl, hrun, hT, hK⟩
              rw [hi1] at hrun hT hK
              have HRUN : Hid (∀ ty, (Builtin.append_ #[23, 23] ty #[.slice kad i gcap, .slice (some ⟨W5.heap.size, 0, none⟩) 1 1]).run Tryz.prog (W5.alloc (.cells #[.int .u8 (uo : Nat), .string un, .slice uad ul ucap] 25)) = .ok (.slice (some ⟨g, 0, none⟩) i1 cap) Wp) := hrun
              have HT : Hid (TT (A) (G) kb koff i n kcap ko kn ckad kl ckcap kad gcap W5 (W5.alloc (.cells #[.int .u8 (uo : Nat), .string un, .slice uad ul ucap] 25)) Wp (Wp.setCell ⟨G, 2, none⟩ (.slice (some ⟨g, 0, none⟩) i1 cap))) := hT
              have HK : Hid (KAt w A G (G + 1) (.int .u8 (t.op : Nat)) (.string t.name) (.slice (some ⟨kb, koff, none⟩) n kcap) t.op t.name ks (i + 1) (Wp.setCell ⟨G, 2, none⟩ (.slice (some ⟨g, 0, none⟩) i1 cap))) := by show KAt _ _ _ _ _ _ _ _ _ _ _ _; rw [hi1]; exact hK
              clear hrun hT hK
              refine ⟨_, rfl, HT.out.1, ?_⟩
              simp only [Act.put, List.setIfInBounds_toArray, List.set_cons_zero, List.set_cons_succ]
              refine heldTwoHp 1 10 (by kernel_rfl) ?_ ?_
              · skip
                refine opValueHp (some 39) (.slice kad i gcap) W5 rfl rfl rfl ?_ ⟨HT.out.1, ?_⟩
                · have y0 := HT.out.2.1
                  go_simp
                simp only [Act.put, List.setIfInBounds_toArray, List.set_cons_zero, List.set_cons_succ]
                refine heldOneHp 10 (by kernel_rfl) ?_
                refine opValueHp (some 48) (.slice (some ⟨W5.heap.size, 0, none⟩) 1 1) (W5.alloc (.cells #[.int .u8 (uo : Nat), .string un, .slice uad ul ucap] 25)) rfl rfl rfl ?_ ⟨HT.out.2.2.1, ?_⟩
                · go_simp
                simp only [Act.put, List.setIfInBounds_toArray, List.set_cons_zero, List.set_cons_succ]
                refine heldOneHp 11 (by kernel_rfl) ?_
                refine opAppHp (some 49) (.slice (some ⟨g, 0, none⟩) i1 cap) Wp rfl rfl rfl rfl rfl rfl HRUN.out ⟨HT.out.2.2.2.2.1, ?_⟩
                simp only [Act.put, List.setIfInBounds_toArray, List.set_cons_zero, List.set_cons_succ]
                refine heldTakeHp 12 (some 50) (.pointer (some ⟨G, 2, none⟩)) rfl rfl rfl (by kernel_rfl) (by kernel_rfl) (by kernel_rfl) (fun Y hY => ?_) HT.out.2.2.2.2.1 ?_
                · obtain ⟨y0, y1, y2, y3⟩ := hY
                  go_simp
                simp only [Act.put, List.setIfInBounds_toArray, List.set_cons_zero, List.set_cons_succ]
                refine heldOneHp 13 (by kernel_rfl) ?_
                refine opSkipHp (Wp.setCell ⟨G, 2, none⟩ (.slice (some ⟨g, 0, none⟩) i1 cap)) rfl rfl rfl ?_ ⟨HT.out.2.2.2.2.2.1, ?_⟩
                · have y0 := HT.out.2.2.2.2.2.2.1
                  have y1 := HT.out.2.2.2.2.2.2.2
                  go_simp
                refine wpAnyH_done (by kernel_rfl) ?_ _
                simp only [Q1Hp]
                go_wp2
                go_roundw
                case rel => exact ⟨i + 1, by go_num, by omega, HK.out⟩
                case measure => simp [intOf]; omega
              · skip
                refine opValueHp (some 48) (.slice (some ⟨W5.heap.size, 0, none⟩) 1 1) (W5.alloc (.cells #[.int .u8 (uo : Nat), .string un, .slice uad ul ucap] 25)) rfl rfl rfl ?_ ⟨HT.out.2.2.1, ?_⟩
                · go_simp
                simp only [Act.put, List.setIfInBounds_toArray, List.set_cons_zero, List.set_cons_succ]
                refine heldOneHp 1 (by kernel_rfl) ?_
                refine opValueHp (some 39) (.slice kad i gcap) (W5.alloc (.cells #[.int .u8 (uo : Nat), .string un, .slice uad ul ucap] 25)) rfl rfl rfl ?_ ⟨HT.out.2.2.1, ?_⟩
                · have y0 := HT.out.2.2.2.1
                  go_simp
                simp only [Act.put, List.setIfInBounds_toArray, List.set_cons_zero, List.set_cons_succ]
                refine heldOneHp 11 (by kernel_rfl) ?_
                refine opAppHp (some 49) (.slice (some ⟨g, 0, none⟩) i1 cap) Wp rfl rfl rfl rfl rfl rfl HRUN.out ⟨HT.out.2.2.2.2.1, ?_⟩
                simp only [Act.put, List.setIfInBounds_toArray, List.set_cons_zero, List.set_cons_succ]
                refine heldTakeHp 12 (some 50) (.pointer (some ⟨G, 2, none⟩)) rfl rfl rfl (by kernel_rfl) (by kernel_rfl) (by kernel_rfl) (fun Y hY => ?_) HT.out.2.2.2.2.1 ?_
                · obtain ⟨y0, y1, y2, y3⟩ := hY
                  go_simp
                simp only [Act.put, List.setIfInBounds_toArray, List.set_cons_zero, List.set_cons_succ]
                refine heldOneHp 13 (by kernel_rfl) ?_
                refine opSkipHp (Wp.setCell ⟨G, 2, none⟩ (.slice (some ⟨g, 0, none⟩) i1 cap)) rfl rfl rfl ?_ ⟨HT.out.2.2.2.2.2.1, ?_⟩
                · have y0 := HT.out.2.2.2.2.2.2.1
                  have y1 := HT.out.2.2.2.2.2.2.2
                  go_simp
                refine wpAnyH_done (by kernel_rfl) ?_ _
                simp only [Q1Hp]
                go_wp2
                go_roundw
                case rel => exact ⟨i + 1, by go_num, by omega, HK.out⟩
                case measure => simp [intOf]; omega
          · obtain rfl : i = n := by omega
            have z0 : ¬ ((i : Int) < (i : Int)) := by omega
            obtain ⟨kad, gcap, hbx, hgr⟩ := HR.out.box
            obtain ⟨e0, e1, e2, _⟩ := hbx.cells
            obtain ⟨r0, r1, r2, rf⟩ := HR.out.res.cells
            have HGR : Hid (GrowK wr (G + 1) (.slice kad i gcap) (ks.take i)) := hgr
            clear hbx hgr hlt
            go_wp2
            refine ret_for rfl rfl rfl (HR.out.res.set _ _ _) ⟨kad, gcap, rfl, ?_, kept_set3 HR.out.kept (by omega) _ _ _⟩
            have hn' : ¬ (G + 1 ≤ A + 1) := by have := HGE.out; omega
            have hI2 := HGR.out.isT t.op t.name
            rw [List.take_of_length_le (by rw [HKL.out]; exact Nat.le_refl _)] at hI2
            have hI3 : IsT (fun k => G + 1 ≤ k) wr ⟨t.op, t.name, ks⟩ (.slice kad i gcap) := hI2
            have hI4 := ((hI3.other hn' 0 (.int .u8 (t.op : Nat))).other hn' 1 (.string t.name)).other hn' 2 (.slice kad i gcap)
            exact hI4.mono (fun k q => by have := HGE.out; omega)
end Go.Proofs.YtnjajafmmociiaaGreatDoor
