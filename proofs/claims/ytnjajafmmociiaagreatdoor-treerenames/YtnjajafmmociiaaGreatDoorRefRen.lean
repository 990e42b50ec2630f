/- augurref03.Rename: names in the places of names, as the document has them. -/
import Derived.Test.YtnjajafmmociiaaGreatDoorGP
import Derived.Test.YtnjajafmmociiaaGreatDoorGR
namespace Go.Proofs.YtnjajafmmociiaaGreatDoor
open Go.RowKit Go.Shelf

section
variable {P : Program} {ops : Array Oper} {md : Region.Mode} {J : Act → World → Prop} {S : World → Prop}
theorem heldTakeGHp (i : Nat) (d : Option Tmp) (v : Value) {o : Oper} {fuel : Nat} {L : Array Bool} {a : Act} {w : World} (hi : ops[i]? = some o) (hg : Region.wanted o (yielded ops a.tmps) = true) (hdd : o.dst = d)
    (hs : Region.noSelect ops = true) (hf : Region.free md ops L i = true) (hr : (Region.ready md ops L).contains i = true) (hy : ∀ w, S w → (execOp a.eval o).run P w = .ok (.value v) w) (hS : S w)
    (h : wpAnyH P md ops (Q1Hp J) S fuel (L.setIfInBounds i true) (a.put d v) w) : wpAnyH P md ops (Q1Hp J) S (fuel + 1) L a w :=
  wpAnyH_take hi hs hf hr (fun _ _ _ h => h) (.inl ⟨hg, hy⟩) hS (by rw [hdd]; exact h)
theorem heldSkipHp (i : Nat) (d : Option Tmp) {o : Oper} {fuel : Nat} {L : Array Bool} {a : Act} {w : World} (hi : ops[i]? = some o) (hg : Region.wanted o (yielded ops a.tmps) = false) (hdd : o.dst = d)
    (hs : Region.noSelect ops = true) (hf : Region.free md ops L i = true) (hr : (Region.ready md ops L).contains i = true) (hS : S w)
    (h : wpAnyH P md ops (Q1Hp J) S fuel (L.setIfInBounds i true) (a.put d undef) w) : wpAnyH P md ops (Q1Hp J) S (fuel + 1) L a w :=
  wpAnyH_take hi hs hf hr (fun _ _ _ h => h) (.inr ⟨hg, rfl⟩) hS (by rw [hdd]; exact h)
theorem opCallGHp (d : Option Tmp) (g : Nat) (vs : Array Value) {i : Nat} {o : Oper} {K : Act → World → Prop} {a : Act} {w : World} (hi : ops[i]? = some o) (hg : Region.wanted o (yielded ops a.tmps) = true) (hdd : o.dst = d) (hx : (execOp a.eval o).run P w = .ok (.enter g vs) w)
    (h : Calls P g vs w fun e w' => ∃ v, e = .returned v ∧ K (a.put d v) w') : wpOp P ops (Q1Hp J) i K a w := by
  unfold wpOp
  simp only [hi]
  rw [if_pos hg]
  refine .inl ?_
  unfold Oper.wp
  rw [hx]
  simp only [Oper.upon]
  refine h.mono fun e w' ⟨v, he, hk⟩ => ?_
  subst he
  subst hdd
  exact hk
end
theorem pairB_name {frs tos : List ByteArray} {n : Nat} (hn : pairB frs tos n = true) {j : Nat} (h : j < frs.length) (hj : j < n) : nameB frs[j].data.toList = true := by
  have h1 := pairB_le (i := j + 1) (by omega) hn
  unfold pairB at h1
  rw [Bool.and_eq_true, Bool.and_eq_true] at h1
  have h2 := h1.1.2
  rw [List.getD_eq_getElem?_getD, List.getElem?_eq_getElem h] at h2
  exact h2
/-- On a tree that is well formed, put does what the package's leaves do. -/
theorem putR_reb {frs tos : List ByteArray} (hf : ∀ x ∈ frs, nameB x.data.toList = true) (t : Tr) : t.every formedB = true → putR frs tos t = t.reb (leafRen frs tos) := by
  induction t using Tr.ind with
  | h t ih =>
    intro hq
    rw [every_eq, Bool.and_eq_true] at hq
    obtain ⟨h1, h2⟩ := hq
    unfold formedB at h1
    simp only [Bool.and_eq_true, decide_eq_true_eq, beq_iff_eq] at h1
    obtain ⟨⟨⟨ha, hb⟩, hk⟩, hn⟩ := h1
    by_cases h0 : t.kids.length = 0
    · rw [Tr.reb_leaf _ t h0]
      have hnil : t.kids = [] := List.eq_nil_of_length_eq_zero h0
      cases hh : hitP frs t with
      | true =>
        rw [putR_hit hh]
        unfold hitP at hh
        rw [Bool.and_eq_true, decide_eq_true_eq] at hh
        unfold leafRen
        rw [if_pos (show (frs.any fun y => y.data.toList == (Tr.mk t.op t.name []).name.data.toList) = true from hh.2)]
        show leafP _ = Tr.mk t.op _ []
        rw [hh.1]
        rfl
      | false =>
        have hno : (frs.any fun y => y.data.toList == t.name.data.toList) = false := by
          by_cases h3 : t.op = 3
          · unfold hitP at hh
            rw [decide_eq_true h3, Bool.true_and] at hh
            exact hh
          · rw [if_neg h3, ByteArray.toList_eq, List.isEmpty_iff] at hn
            rw [List.any_eq_false]
            intro x hx e
            rw [beq_iff_eq] at e
            have hx' := hf x hx
            rw [e, nameB_short (by rw [hn]; rfl)] at hx'
            cases hx'
        rw [putR_node hh, hnil]
        unfold leafRen
        rw [if_neg (show ¬ (frs.any fun y => y.data.toList == (Tr.mk t.op t.name []).name.data.toList) = true from by rw [show (frs.any fun y => y.data.toList == (Tr.mk t.op t.name []).name.data.toList) = false from hno]; simp)]
        rfl
    · rw [Tr.reb_node _ t h0]
      have h3 : t.op ≠ 3 := fun e => h0 (by rw [hk, e]; rfl)
      have hh : hitP frs t = false := by unfold hitP; rw [decide_eq_false h3]; rfl
      rw [putR_node hh]
      congr 1
      exact List.map_congr_left fun k hk' => ih k hk' (List.all_eq_true.1 h2 k hk')
/-- One name more, as a tree. -/
theorem GrowK.put1 {W : World} {n0 i cap : Nat} {ad : Option Addr} {us : List Tr} (v : ByteArray) (h : GrowK W n0 (.slice ad i cap) us) (hi : us.length = i) (hn0 : n0 ≤ W.heap.size) (hus : i ≤ 1099511627776) :
    ∃ g cap' w', (∀ ty, (Builtin.append_ #[23, 23] ty #[.slice ad i cap, .slice (some ⟨W.heap.size, 0, none⟩) 1 1]).run Tryz.prog (W.alloc (.cells #[.int .u8 3, .string v, .slice none 0 0] 25)) = .ok (.slice (some ⟨g, 0, none⟩) (i + 1) cap') w') ∧ GrowK w' n0 (.slice (some ⟨g, 0, none⟩) (i + 1) cap') (us ++ [leafP v]) ∧ (∀ w0, w0.heap.size ≤ n0 → Kept [] w0 W → Kept [] w0 w') := by
  subst hi
  obtain ⟨g, cap', w', h1, h2, h3, _⟩ := h.put (W5 := W) (u := leafP v) (ku := .slice none 0 0) hn0 (Kept.refl [] W) (IsT.leaf _ _ rfl _ _) hus
  exact ⟨g, cap', w', h1, h2, h3⟩
theorem StrsAt.take {W : World} {l : List ByteArray} {ad : Option Addr} {cap : Nat} (h : StrsAt W l (.slice ad l.length cap)) {i : Nat} (hi : i ≤ l.length) (cap' : Nat) : StrsAt W (l.take i) (.slice ad i cap') := by
  have e : (l.take i).length = i := by rw [List.length_take, Nat.min_eq_left hi]
  refine ⟨ad, cap', by rw [e], ?_⟩
  rcases Nat.eq_zero_or_pos i with h0 | h0
  · exact .inl (by rw [e]; exact h0)
  · obtain ⟨b, o, rfl, _⟩ := h.at (k := 0) (by omega)
    refine .inr ⟨b, o, rfl, fun j hj => ?_⟩
    obtain ⟨b', o', e', c⟩ := h.at (k := j) (by omega)
    cases e'
    rw [List.getElem_take]
    exact c
set_option maxHeartbeats 4000000 in
set_option maxRecDepth 20000 in
theorem refRename_any (t : Tr) (kv : Value) (frs tos : List ByteArray) (fv tv : Value) (w : World) (hI : IsF w t kv) (hs : t.size ≤ 1099511627776) (hF : t.Fine) (hf : StrsAt w frs fv) (ht : StrsAt w tos tv) (hc : ∃ ad cap, fv = .slice ad frs.length cap ∧ frs.length ≤ cap) (hl : frs.length ≤ 1099511627776) (hfs : ∀ x ∈ frs, x.size ≤ maxLen) (hts : ∀ x ∈ tos, x.size ≤ maxLen) :
    Calls Tryz.prog 16 #[.agg #[.int .u8 (t.op : Nat), .string t.name, kv], fv, tv] w fun e w' =>
      ∃ kad kcap, e = .returned (.tuple #[.agg #[.int .u8 ((renT t frs tos).op : Nat), .string (renT t frs tos).name, .slice kad (renT t frs tos).kids.length kcap], .int .i64 (renE t frs tos : Nat)]) ∧ IsT (fun k => w.heap.size ≤ k) w' (renT t frs tos) (.slice kad (renT t frs tos).kids.length kcap) ∧ Kept [] w w' := by
  obtain ⟨kad, kcap, rfl⟩ := hI.slice
  obtain ⟨fad, fcap, rfl, hcap⟩ := hc
  obtain ⟨tad, tcap, rfl, _⟩ := (show ∃ ad cap, tv = .slice ad tos.length cap ∧ True from by obtain ⟨ad, cap, e, _⟩ := ht; exact ⟨ad, cap, e, trivial⟩)
  have HFM : Hid _ := fun W (k : Kept [] w W) => refFormed_any t _ W (hI.kept k) hs hF
  have HSF : Hid (∀ W, Kept [] w W → StrsAt W frs (.slice fad frs.length fcap)) := fun W k => hf.kept k
  have HST : Hid (∀ W, Kept [] w W → StrsAt W tos (.slice tad tos.length tcap)) := fun W k => ht.kept k
  have HPU : Hid (∀ W, Kept [] w W → ∀ bv nb, GrowK W nb bv (tos.map leafP) → frs.length = tos.length → Calls Tryz.prog 36 #[.agg #[.int .u8 (t.op : Nat), .string t.name, .slice kad t.kids.length kcap], .slice fad frs.length fcap, bv] W fun e w' => ∃ kad kcap, e = .returned (.agg #[.int .u8 ((putR frs tos t).op : Nat), .string (putR frs tos t).name, .slice kad (putR frs tos t).kids.length kcap]) ∧ IsT (fun k => W.heap.size ≤ k) w' (putR frs tos t) (.slice kad (putR frs tos t).kids.length kcap) ∧ Kept [] W w') := fun W k bv nb hb he => refPut_any frs tos t _ _ bv nb W (hI.kept k) hs (hf.kept k) hb he hl
  have HSZ : Hid (frs.length ≤ fcap ∧ frs.length ≤ 1099511627776 ∧ (∀ x ∈ frs, x.size ≤ maxLen) ∧ (∀ x ∈ tos, x.size ≤ maxLen)) := ⟨hcap, hl, hfs, hts⟩
  clear hI hF hf ht hfs hts hl hcap
  obtain ⟨A, hA⟩ : ∃ A, w.heap.size = A := ⟨_, rfl⟩
  obtain ⟨V, hV⟩ : ∃ V, (w.alloc (.cells #[.int .u8 (t.op : Nat), .string t.name, .slice kad t.kids.length kcap] 25)).alloc (.cells #[.int .u8 0, .string ⟨#[]⟩, .slice none 0 0] 25) = V := ⟨_, rfl⟩
  have kV : Kept [] w V := by rw [← hV]; exact ((Kept.refl [] w).alloc _).alloc _
  have v0 : For3 V A (.int .u8 (t.op : Nat)) (.string t.name) (.slice kad t.kids.length kcap) := by rw [← hV, ← hA]; exact alUp (al0 _ _) _
  have v1 : For3 V (A + 1) (.int .u8 0) (.string ⟨#[]⟩) (.slice none 0 0) := by rw [← hV, ← hA]; exact al1 _ _ _
  have hz : V.heap.size = A + 1 + 1 := by rw [← hV, ← hA]; simp
  have HV : Hid (_ = V) := hV
  have HK : Hid (Kept [] w V) := kV
  have HA : Hid (w.heap.size = A) := hA
  have HZV : Hid (V.heap.size = A + 1 + 1) := hz
  have HV0 : Hid (For3 V A (.int .u8 (t.op : Nat)) (.string t.name) (.slice kad t.kids.length kcap)) := v0
  have HV1 : Hid (For3 V (A + 1) (.int .u8 0) (.string ⟨#[]⟩) (.slice none 0 0)) := v1
  have HC : Hid _ := v0.cells
  have HZ : Hid (∀ (e : Nat) W, Kept [] w W → e ≠ 0 → renE t frs tos = e →
      ∃ kad kcap, Ending.returned (.tuple #[.agg #[.int .u8 0, .string ⟨#[]⟩, .slice none 0 0], .int .i64 (e : Nat)]) = .returned (.tuple #[.agg #[.int .u8 ((renT t frs tos).op : Nat), .string (renT t frs tos).name, .slice kad (renT t frs tos).kids.length kcap], .int .i64 (renE t frs tos : Nat)]) ∧ IsT (fun k => w.heap.size ≤ k) W (renT t frs tos) (.slice kad (renT t frs tos).kids.length kcap) ∧ Kept [] w W) := fun e W k he hp => by
    have h2 : renT t frs tos = zeroT := by unfold renT; rw [if_neg (by rw [hp]; exact he)]
    rw [h2, hp]
    exact ⟨none, 0, rfl, IsT.leaf _ _ rfl _ _, k⟩
  obtain ⟨c0, c1, c2, _⟩ := HC.out
  clear hA hV kV v0 v1 hz HC
  cases ha : t.every formedB with
  | false =>
    simp only [ha] at HFM
    have HE : Hid (renE t frs tos = 30) := by show renE t frs tos = 30; unfold renE; rw [ha]; rfl
    clear ha
    go_enter Tryz.func16, Tryz.ntmps16
    go_upto_region 1 with fail
    rw [HV.out, HA.out]
    go_wp2_with (go_at_call 32; refine (HFM.out _ HK.out).mono ?_; rintro e W2 ⟨rfl, hk2⟩; obtain ⟨d0, d1, d2, df⟩ := (HV1.out.kept hk2).cells; have HK2 : Hid (Kept [] V W2) := hk2; clear hk2)
    exact ret_for2 rfl rfl rfl rfl ((HV1.out.kept HK2.out).set _ _ _) (HZ.out 30 _ (kept_set3 (HK.out.trans HK2.out (by simp) (by simp)) (by rw [HA.out]; omega) _ _ _) (by omega) HE.out)
  | true =>
    simp only [ha] at HFM
    have HFT : Hid (t.every formedB = true) := ha
    by_cases hne : frs.length = tos.length
    · have HNE : Hid (frs.length = tos.length) := hne
      have hb : ((frs.length : Int) != (tos.length : Int)) = false := by rw [bne_eq_false_iff_eq]; omega
      clear ha hne
      go_enter Tryz.func16, Tryz.ntmps16
      go_upto_region 1 with fail
      rw [HV.out, HA.out]
      go_wp2_with (go_at_call 32; refine (HFM.out _ HK.out).mono ?_; rintro e W2 ⟨rfl, hk2⟩; have HK2 : Hid (Kept [] V W2) := hk2; clear hk2)
      clear c0 c1 c2 hb
      go_loopw [9, 10, 11, 12] (fun b v _ _ wr => ∃ i : Nat, v = .int .i64 (i : Nat) ∧ i ≤ frs.length ∧ ∃ bad bcap, b = .slice bad i bcap ∧ Hid (Kept [] V wr ∧ GrowK wr (A + 1 + 1) (.slice bad i bcap) ((tos.take i).map leafP) ∧ pairB frs tos i = true)) (fun _ v _ _ _ => frs.length - (intOf v).toNat)
      case atStart => exact ⟨0, rfl, Nat.zero_le _, none, 0, rfl, HK2.out, by rw [List.take_zero]; exact GrowK.nil _ _, rfl⟩
      case round =>
        obtain ⟨i, rfl, hi, bad, bcap, rfl, HR⟩ := hrel
        by_cases hlt : i < frs.length
        · have z0 : (i : Int) < (frs.length : Int) := by omega
          have z00 : (0 : Int) ≤ (i : Int) := by omega
          have hlt2 : i < tos.length := by have := HNE.out; omega
          have z1 : (i : Int) < (tos.length : Int) := by omega
          have z2 : (i : Int) ≤ (fcap : Int) := by have := HSZ.out.1; omega
          have kw : Kept [] w wr := HK.out.trans HR.out.1 (by simp) (by simp)
          obtain ⟨fb, fo, rfl, c0⟩ := (HSF.out wr kw).at hlt
          obtain ⟨tb, tof, rfl, c1⟩ := (HST.out wr kw).at hlt2
          obtain ⟨s, hs'⟩ : ∃ s, frs[i] = s := ⟨_, rfl⟩
          obtain ⟨u, hu⟩ : ∃ u, tos[i] = u := ⟨_, rfl⟩
          have hsz : s.size ≤ maxLen := by rw [← hs']; exact HSZ.out.2.2.1 _ (List.getElem_mem _)
          have husz : u.size ≤ maxLen := by rw [← hu]; exact HSZ.out.2.2.2 _ (List.getElem_mem _)
          rw [hs'] at c0
          rw [hu] at c1
          obtain ⟨a, hqa⟩ : ∃ a, nameB s.data.toList = a := ⟨_, rfl⟩
          obtain ⟨b, hqb⟩ : ∃ b, nameB u.data.toList = b := ⟨_, rfl⟩
          obtain ⟨p, hqp⟩ : ∃ p, (frs.take i).any (fun x => x.data.toList == s.data.toList) = p := ⟨_, rfl⟩
          have HNF : Hid (∀ W, Calls Tryz.prog 33 #[.string s] W fun e w' => e = .returned (.bool a) ∧ w' = W) := fun W => by rw [← hqa]; exact refName_any s W hsz
          have HNT : Hid (∀ W, Calls Tryz.prog 33 #[.string u] W fun e w' => e = .returned (.bool b) ∧ w' = W) := fun W => by rw [← hqb]; exact refName_any u W husz
          have HPL : Hid (∀ W, Kept [] wr W → Calls Tryz.prog 63 #[.slice (some ⟨fb, fo, none⟩) i fcap, .string s] W fun e w' => e = .returned (.int .i64 (plR (frs.take i) s)) ∧ w' = W) := fun W k => refPlaceT_any (frs.take i) _ s W (((HSF.out wr kw).take (Nat.le_of_lt hlt) fcap).kept k) (by rw [List.length_take]; have := HSZ.out.2.1; omega)
          have HPT : Hid (p = true → 0 ≤ plR (frs.take i) s) := fun h => by unfold plR; rw [if_pos (by rw [hqp]; exact h)]; omega
          have HPF : Hid (p = false → plR (frs.take i) s = -1) := fun h => by unfold plR; rw [if_neg (by rw [hqp, h]; simp)]
          have HPN : Hid (pairB frs tos (i + 1) = (a && b && !p)) := by
            show pairB frs tos (i + 1) = (a && b && !p)
            unfold pairB
            rw [HR.out.2.2]
            simp only [List.getD_eq_getElem?_getD, List.getElem?_eq_getElem hlt, List.getElem?_eq_getElem hlt2, Option.getD_some, hs', hu, hqa, hqb, hqp]
            cases a <;> cases b <;> cases p <;> rfl
          have HCF : Hid (∀ W, Kept [] wr W → W.cell? ⟨fb, fo + i, none⟩ = some (.string s)) := fun W k => cell_kept0 k c0
          have HCT : Hid (∀ W, Kept [] wr W → W.cell? ⟨tb, tof + i, none⟩ = some (.string u)) := fun W k => cell_kept0 k c1
          have HTT : Hid ((tos.take (i + 1)).map leafP = (tos.take i).map leafP ++ [leafP u]) := by show _ = _; rw [List.take_succ_eq_append_getElem hlt2, List.map_append, hu]; rfl
          obtain ⟨pl, hpl⟩ : ∃ pl, plR (frs.take i) s = pl := ⟨_, rfl⟩
          rw [hpl] at HPL HPT HPF
          obtain ⟨q, hq⟩ : ∃ q, (a && b && !p) = q := ⟨_, rfl⟩
          rw [hq] at HPN
          have HQ : Hid ((a && b && !p) = q) := hq
          clear kw hsz husz hs' hu hqa hqb hqp hpl hq hlt2
          go_upto_region 11 with (go_at_call 33; refine (HNF.out _).mono ?_; rintro e w' ⟨rfl, hw⟩; rw [hw]; clear hw)
          go_upto_region 12 with (go_at_call 33; refine (HNT.out _).mono ?_; rintro e w' ⟨rfl, hw⟩; rw [hw]; clear hw)
          go_cut [56] from 40 to 56 (fun s56 wx => s56 = .bool (!q) ∧ Hid (Kept [] wr wx))
          case first =>
            clear HNF HNT HPN HCT HTT c1 HFM HSF HST HPU HSZ HV HV0 HV1 HZ HFT HK2 HR
            obtain ⟨V6, hV6⟩ : ∃ V6, wr.drew = V6 := ⟨_, rfl⟩
            have k6 : Kept [] wr V6 := by rw [← hV6]; exact (Kept.refl [] wr).drew
            have HV6 : Hid (wr.drew = V6) := hV6
            have HK6 : Hid (Kept [] wr V6) := k6
            have HS6 : Hid (V6.cell? ⟨fb, fo + i, none⟩ = some (.string s)) := HCF.out V6 k6
            clear hV6 k6 HCF c0
            refine wp_regionHp (fun Y => Y.cell? ⟨fb, fo + i, none⟩ = some (.string s)) (by kernel_rfl) ?_
            rw [HV6.out]
            cases a with
            | false =>
              obtain rfl : q = false := by rw [← HQ.out]; rfl
              refine heldTakeHp 0 (some 40) (.bool false) rfl rfl rfl (by kernel_rfl) (by kernel_rfl) (by kernel_rfl) (fun Y hY => ?_) HS6.out ?_
              · have y0 : _ = _ := hY
                go_simp
              simp only [Act.put, List.setIfInBounds_toArray, List.set_cons_zero, List.set_cons_succ]
              refine heldTakeHp 1 (some 41) (.bool true) rfl rfl rfl (by kernel_rfl) (by kernel_rfl) (by kernel_rfl) (fun Y hY => ?_) HS6.out ?_
              · have y0 : _ = _ := hY
                go_simp
              simp only [Act.put, List.setIfInBounds_toArray, List.set_cons_zero, List.set_cons_succ]
              refine heldTakeHp 2 (some 42) (.bool true) rfl rfl rfl (by kernel_rfl) (by kernel_rfl) (by kernel_rfl) (fun Y hY => ?_) HS6.out ?_
              · have y0 : _ = _ := hY
                go_simp
              simp only [Act.put, List.setIfInBounds_toArray, List.set_cons_zero, List.set_cons_succ]
              refine heldSkipHp 3 (some 43) rfl (by kernel_rfl) rfl (by kernel_rfl) (by kernel_rfl) (by kernel_rfl) HS6.out ?_
              simp only [Act.put, List.setIfInBounds_toArray, List.set_cons_zero, List.set_cons_succ]
              refine heldSkipHp 4 (some 44) rfl (by kernel_rfl) rfl (by kernel_rfl) (by kernel_rfl) (by kernel_rfl) HS6.out ?_
              simp only [Act.put, List.setIfInBounds_toArray, List.set_cons_zero, List.set_cons_succ]
              refine heldTakeHp 5 (some 45) (.bool true) rfl rfl rfl (by kernel_rfl) (by kernel_rfl) (by kernel_rfl) (fun Y hY => ?_) HS6.out ?_
              · have y0 : _ = _ := hY
                go_simp
              simp only [Act.put, List.setIfInBounds_toArray, List.set_cons_zero, List.set_cons_succ]
              refine heldTakeHp 6 (some 46) (.bool true) rfl rfl rfl (by kernel_rfl) (by kernel_rfl) (by kernel_rfl) (fun Y hY => ?_) HS6.out ?_
              · have y0 : _ = _ := hY
                go_simp
              simp only [Act.put, List.setIfInBounds_toArray, List.set_cons_zero, List.set_cons_succ]
              refine heldSkipHp 7 (some 47) rfl (by kernel_rfl) rfl (by kernel_rfl) (by kernel_rfl) (by kernel_rfl) HS6.out ?_
              simp only [Act.put, List.setIfInBounds_toArray, List.set_cons_zero, List.set_cons_succ]
              refine heldSkipHp 8 (some 48) rfl (by kernel_rfl) rfl (by kernel_rfl) (by kernel_rfl) (by kernel_rfl) HS6.out ?_
              simp only [Act.put, List.setIfInBounds_toArray, List.set_cons_zero, List.set_cons_succ]
              refine heldSkipHp 9 (some 49) rfl (by kernel_rfl) rfl (by kernel_rfl) (by kernel_rfl) (by kernel_rfl) HS6.out ?_
              simp only [Act.put, List.setIfInBounds_toArray, List.set_cons_zero, List.set_cons_succ]
              refine heldSkipHp 10 (some 50) rfl (by kernel_rfl) rfl (by kernel_rfl) (by kernel_rfl) (by kernel_rfl) HS6.out ?_
              simp only [Act.put, List.setIfInBounds_toArray, List.set_cons_zero, List.set_cons_succ]
              refine heldSkipHp 11 (some 51) rfl (by kernel_rfl) rfl (by kernel_rfl) (by kernel_rfl) (by kernel_rfl) HS6.out ?_
              simp only [Act.put, List.setIfInBounds_toArray, List.set_cons_zero, List.set_cons_succ]
              refine heldSkipHp 12 (some 52) rfl (by kernel_rfl) rfl (by kernel_rfl) (by kernel_rfl) (by kernel_rfl) HS6.out ?_
              simp only [Act.put, List.setIfInBounds_toArray, List.set_cons_zero, List.set_cons_succ]
              refine heldSkipHp 13 (some 53) rfl (by kernel_rfl) rfl (by kernel_rfl) (by kernel_rfl) (by kernel_rfl) HS6.out ?_
              simp only [Act.put, List.setIfInBounds_toArray, List.set_cons_zero, List.set_cons_succ]
              refine heldSkipHp 14 (some 54) rfl (by kernel_rfl) rfl (by kernel_rfl) (by kernel_rfl) (by kernel_rfl) HS6.out ?_
              simp only [Act.put, List.setIfInBounds_toArray, List.set_cons_zero, List.set_cons_succ]
              refine heldSkipHp 15 (some 55) rfl (by kernel_rfl) rfl (by kernel_rfl) (by kernel_rfl) (by kernel_rfl) HS6.out ?_
              simp only [Act.put, List.setIfInBounds_toArray, List.set_cons_zero, List.set_cons_succ]
              refine heldTakeHp 16 (some 56) (.bool true) rfl rfl rfl (by kernel_rfl) (by kernel_rfl) (by kernel_rfl) (fun Y hY => ?_) HS6.out ?_
              · have y0 : _ = _ := hY
                go_simp
              simp only [Act.put, List.setIfInBounds_toArray, List.set_cons_zero, List.set_cons_succ]
              refine wpAnyH_done (by kernel_rfl) ?_ _
              simp only [Q1Hp]
              go_wp2_with fail
              go_meet
              exact ⟨rfl, HK6.out⟩
            | true =>
              cases b with
              | false =>
                obtain rfl : q = false := by rw [← HQ.out]; rfl
                refine heldTakeHp 0 (some 40) (.bool true) rfl rfl rfl (by kernel_rfl) (by kernel_rfl) (by kernel_rfl) (fun Y hY => ?_) HS6.out ?_
                · have y0 : _ = _ := hY
                  go_simp
                simp only [Act.put, List.setIfInBounds_toArray, List.set_cons_zero, List.set_cons_succ]
                refine heldTakeHp 1 (some 41) (.bool false) rfl rfl rfl (by kernel_rfl) (by kernel_rfl) (by kernel_rfl) (fun Y hY => ?_) HS6.out ?_
                · have y0 : _ = _ := hY
                  go_simp
                simp only [Act.put, List.setIfInBounds_toArray, List.set_cons_zero, List.set_cons_succ]
                refine heldTakeHp 2 (some 42) (.bool false) rfl rfl rfl (by kernel_rfl) (by kernel_rfl) (by kernel_rfl) (fun Y hY => ?_) HS6.out ?_
                · have y0 : _ = _ := hY
                  go_simp
                simp only [Act.put, List.setIfInBounds_toArray, List.set_cons_zero, List.set_cons_succ]
                refine heldTakeGHp 3 (some 43) (.bool false) rfl (by kernel_rfl) rfl (by kernel_rfl) (by kernel_rfl) (by kernel_rfl) (fun Y hY => ?_) HS6.out ?_
                · have y0 : _ = _ := hY
                  go_simp
                simp only [Act.put, List.setIfInBounds_toArray, List.set_cons_zero, List.set_cons_succ]
                refine heldTakeGHp 4 (some 44) (.bool true) rfl (by kernel_rfl) rfl (by kernel_rfl) (by kernel_rfl) (by kernel_rfl) (fun Y hY => ?_) HS6.out ?_
                · have y0 : _ = _ := hY
                  go_simp
                simp only [Act.put, List.setIfInBounds_toArray, List.set_cons_zero, List.set_cons_succ]
                refine heldTakeHp 5 (some 45) (.bool true) rfl rfl rfl (by kernel_rfl) (by kernel_rfl) (by kernel_rfl) (fun Y hY => ?_) HS6.out ?_
                · have y0 : _ = _ := hY
                  go_simp
                simp only [Act.put, List.setIfInBounds_toArray, List.set_cons_zero, List.set_cons_succ]
                refine heldTakeHp 6 (some 46) (.bool true) rfl rfl rfl (by kernel_rfl) (by kernel_rfl) (by kernel_rfl) (fun Y hY => ?_) HS6.out ?_
                · have y0 : _ = _ := hY
                  go_simp
                simp only [Act.put, List.setIfInBounds_toArray, List.set_cons_zero, List.set_cons_succ]
                refine heldSkipHp 7 (some 47) rfl (by kernel_rfl) rfl (by kernel_rfl) (by kernel_rfl) (by kernel_rfl) HS6.out ?_
                simp only [Act.put, List.setIfInBounds_toArray, List.set_cons_zero, List.set_cons_succ]
                refine heldSkipHp 8 (some 48) rfl (by kernel_rfl) rfl (by kernel_rfl) (by kernel_rfl) (by kernel_rfl) HS6.out ?_
                simp only [Act.put, List.setIfInBounds_toArray, List.set_cons_zero, List.set_cons_succ]
                refine heldSkipHp 9 (some 49) rfl (by kernel_rfl) rfl (by kernel_rfl) (by kernel_rfl) (by kernel_rfl) HS6.out ?_
                simp only [Act.put, List.setIfInBounds_toArray, List.set_cons_zero, List.set_cons_succ]
                refine heldSkipHp 10 (some 50) rfl (by kernel_rfl) rfl (by kernel_rfl) (by kernel_rfl) (by kernel_rfl) HS6.out ?_
                simp only [Act.put, List.setIfInBounds_toArray, List.set_cons_zero, List.set_cons_succ]
                refine heldSkipHp 11 (some 51) rfl (by kernel_rfl) rfl (by kernel_rfl) (by kernel_rfl) (by kernel_rfl) HS6.out ?_
                simp only [Act.put, List.setIfInBounds_toArray, List.set_cons_zero, List.set_cons_succ]
                refine heldSkipHp 12 (some 52) rfl (by kernel_rfl) rfl (by kernel_rfl) (by kernel_rfl) (by kernel_rfl) HS6.out ?_
                simp only [Act.put, List.setIfInBounds_toArray, List.set_cons_zero, List.set_cons_succ]
                refine heldSkipHp 13 (some 53) rfl (by kernel_rfl) rfl (by kernel_rfl) (by kernel_rfl) (by kernel_rfl) HS6.out ?_
                simp only [Act.put, List.setIfInBounds_toArray, List.set_cons_zero, List.set_cons_succ]
                refine heldSkipHp 14 (some 54) rfl (by kernel_rfl) rfl (by kernel_rfl) (by kernel_rfl) (by kernel_rfl) HS6.out ?_
                simp only [Act.put, List.setIfInBounds_toArray, List.set_cons_zero, List.set_cons_succ]
                refine heldSkipHp 15 (some 55) rfl (by kernel_rfl) rfl (by kernel_rfl) (by kernel_rfl) (by kernel_rfl) HS6.out ?_
                simp only [Act.put, List.setIfInBounds_toArray, List.set_cons_zero, List.set_cons_succ]
                refine heldTakeHp 16 (some 56) (.bool true) rfl rfl rfl (by kernel_rfl) (by kernel_rfl) (by kernel_rfl) (fun Y hY => ?_) HS6.out ?_
                · have y0 : _ = _ := hY
                  go_simp
                simp only [Act.put, List.setIfInBounds_toArray, List.set_cons_zero, List.set_cons_succ]
                refine wpAnyH_done (by kernel_rfl) ?_ _
                simp only [Q1Hp]
                go_wp2_with fail
                go_meet
                exact ⟨rfl, HK6.out⟩
              | true =>
                cases p with
                | false =>
                  obtain rfl : q = true := by rw [← HQ.out]; rfl
                  obtain rfl : pl = -1 := HPF.out rfl
                  refine heldTakeHp 0 (some 40) (.bool true) rfl rfl rfl (by kernel_rfl) (by kernel_rfl) (by kernel_rfl) (fun Y hY => ?_) HS6.out ?_
                  · have y0 : _ = _ := hY
                    go_simp
                  simp only [Act.put, List.setIfInBounds_toArray, List.set_cons_zero, List.set_cons_succ]
                  refine heldTakeHp 1 (some 41) (.bool false) rfl rfl rfl (by kernel_rfl) (by kernel_rfl) (by kernel_rfl) (fun Y hY => ?_) HS6.out ?_
                  · have y0 : _ = _ := hY
                    go_simp
                  simp only [Act.put, List.setIfInBounds_toArray, List.set_cons_zero, List.set_cons_succ]
                  refine heldTakeHp 2 (some 42) (.bool false) rfl rfl rfl (by kernel_rfl) (by kernel_rfl) (by kernel_rfl) (fun Y hY => ?_) HS6.out ?_
                  · have y0 : _ = _ := hY
                    go_simp
                  simp only [Act.put, List.setIfInBounds_toArray, List.set_cons_zero, List.set_cons_succ]
                  refine heldTakeGHp 3 (some 43) (.bool true) rfl (by kernel_rfl) rfl (by kernel_rfl) (by kernel_rfl) (by kernel_rfl) (fun Y hY => ?_) HS6.out ?_
                  · have y0 : _ = _ := hY
                    go_simp
                  simp only [Act.put, List.setIfInBounds_toArray, List.set_cons_zero, List.set_cons_succ]
                  refine heldTakeGHp 4 (some 44) (.bool false) rfl (by kernel_rfl) rfl (by kernel_rfl) (by kernel_rfl) (by kernel_rfl) (fun Y hY => ?_) HS6.out ?_
                  · have y0 : _ = _ := hY
                    go_simp
                  simp only [Act.put, List.setIfInBounds_toArray, List.set_cons_zero, List.set_cons_succ]
                  refine heldTakeHp 5 (some 45) (.bool false) rfl rfl rfl (by kernel_rfl) (by kernel_rfl) (by kernel_rfl) (fun Y hY => ?_) HS6.out ?_
                  · have y0 : _ = _ := hY
                    go_simp
                  simp only [Act.put, List.setIfInBounds_toArray, List.set_cons_zero, List.set_cons_succ]
                  refine heldTakeHp 6 (some 46) (.bool false) rfl rfl rfl (by kernel_rfl) (by kernel_rfl) (by kernel_rfl) (fun Y hY => ?_) HS6.out ?_
                  · have y0 : _ = _ := hY
                    go_simp
                  simp only [Act.put, List.setIfInBounds_toArray, List.set_cons_zero, List.set_cons_succ]
                  refine heldTakeGHp 7 (some 47) (.slice (some ⟨fb, fo, none⟩) frs.length fcap) rfl (by kernel_rfl) rfl (by kernel_rfl) (by kernel_rfl) (by kernel_rfl) (fun Y hY => ?_) HS6.out ?_
                  · have y0 : _ = _ := hY
                    go_simp
                  simp only [Act.put, List.setIfInBounds_toArray, List.set_cons_zero, List.set_cons_succ]
                  refine heldTakeGHp 8 (some 48) (.int .i64 (i : Nat)) rfl (by kernel_rfl) rfl (by kernel_rfl) (by kernel_rfl) (by kernel_rfl) (fun Y hY => ?_) HS6.out ?_
                  · have y0 : _ = _ := hY
                    go_simp
                  simp only [Act.put, List.setIfInBounds_toArray, List.set_cons_zero, List.set_cons_succ]
                  refine heldTakeGHp 9 (some 49) (.slice (some ⟨fb, fo, none⟩) i fcap) rfl (by kernel_rfl) rfl (by kernel_rfl) (by kernel_rfl) (by kernel_rfl) (fun Y hY => ?_) HS6.out ?_
                  · have y0 : _ = _ := hY
                    go_simp
                  simp only [Act.put, List.setIfInBounds_toArray, List.set_cons_zero, List.set_cons_succ]
                  refine heldTakeGHp 10 (some 50) (.slice (some ⟨fb, fo, none⟩) frs.length fcap) rfl (by kernel_rfl) rfl (by kernel_rfl) (by kernel_rfl) (by kernel_rfl) (fun Y hY => ?_) HS6.out ?_
                  · have y0 : _ = _ := hY
                    go_simp
                  simp only [Act.put, List.setIfInBounds_toArray, List.set_cons_zero, List.set_cons_succ]
                  refine heldTakeGHp 11 (some 51) (.int .i64 (i : Nat)) rfl (by kernel_rfl) rfl (by kernel_rfl) (by kernel_rfl) (by kernel_rfl) (fun Y hY => ?_) HS6.out ?_
                  · have y0 : _ = _ := hY
                    go_simp
                  simp only [Act.put, List.setIfInBounds_toArray, List.set_cons_zero, List.set_cons_succ]
                  refine heldTakeGHp 12 (some 52) (.pointer (some ⟨fb, fo + i, none⟩)) rfl (by kernel_rfl) rfl (by kernel_rfl) (by kernel_rfl) (by kernel_rfl) (fun Y hY => ?_) HS6.out ?_
                  · have y0 : _ = _ := hY
                    go_simp
                  simp only [Act.put, List.setIfInBounds_toArray, List.set_cons_zero, List.set_cons_succ]
                  refine heldTakeGHp 13 (some 53) (.string s) rfl (by kernel_rfl) rfl (by kernel_rfl) (by kernel_rfl) (by kernel_rfl) (fun Y hY => ?_) HS6.out ?_
                  · have y0 : _ = _ := hY
                    go_simp
                  simp only [Act.put, List.setIfInBounds_toArray, List.set_cons_zero, List.set_cons_succ]
                  refine heldOneHp 14 (by kernel_rfl) ?_
                  refine opCallGHp (some 54) 63 #[.slice (some ⟨fb, fo, none⟩) i fcap, .string s] rfl (by kernel_rfl) rfl ?_ ?_
                  · go_simp
                  refine (HPL.out V6 HK6.out).mono ?_
                  rintro e w7 ⟨rfl, hw⟩
                  rw [hw]
                  clear hw
                  refine ⟨_, rfl, HS6.out, ?_⟩
                  simp only [Act.put, List.setIfInBounds_toArray, List.set_cons_zero, List.set_cons_succ]
                  refine heldTakeGHp 15 (some 55) (.bool false) rfl (by kernel_rfl) rfl (by kernel_rfl) (by kernel_rfl) (by kernel_rfl) (fun Y hY => ?_) HS6.out ?_
                  · have y0 : _ = _ := hY
                    go_simp
                  simp only [Act.put, List.setIfInBounds_toArray, List.set_cons_zero, List.set_cons_succ]
                  refine heldTakeHp 16 (some 56) (.bool false) rfl rfl rfl (by kernel_rfl) (by kernel_rfl) (by kernel_rfl) (fun Y hY => ?_) HS6.out ?_
                  · have y0 : _ = _ := hY
                    go_simp
                  simp only [Act.put, List.setIfInBounds_toArray, List.set_cons_zero, List.set_cons_succ]
                  refine wpAnyH_done (by kernel_rfl) ?_ _
                  simp only [Q1Hp]
                  go_wp2_with fail
                  go_meet
                  exact ⟨rfl, HK6.out⟩
                | true =>
                  obtain rfl : q = false := by rw [← HQ.out]; rfl
                  have hp0 : (0 : Int) ≤ pl := HPT.out rfl
                  refine heldTakeHp 0 (some 40) (.bool true) rfl rfl rfl (by kernel_rfl) (by kernel_rfl) (by kernel_rfl) (fun Y hY => ?_) HS6.out ?_
                  · have y0 : _ = _ := hY
                    go_simp
                  simp only [Act.put, List.setIfInBounds_toArray, List.set_cons_zero, List.set_cons_succ]
                  refine heldTakeHp 1 (some 41) (.bool false) rfl rfl rfl (by kernel_rfl) (by kernel_rfl) (by kernel_rfl) (fun Y hY => ?_) HS6.out ?_
                  · have y0 : _ = _ := hY
                    go_simp
                  simp only [Act.put, List.setIfInBounds_toArray, List.set_cons_zero, List.set_cons_succ]
                  refine heldTakeHp 2 (some 42) (.bool false) rfl rfl rfl (by kernel_rfl) (by kernel_rfl) (by kernel_rfl) (fun Y hY => ?_) HS6.out ?_
                  · have y0 : _ = _ := hY
                    go_simp
                  simp only [Act.put, List.setIfInBounds_toArray, List.set_cons_zero, List.set_cons_succ]
                  refine heldTakeGHp 3 (some 43) (.bool true) rfl (by kernel_rfl) rfl (by kernel_rfl) (by kernel_rfl) (by kernel_rfl) (fun Y hY => ?_) HS6.out ?_
                  · have y0 : _ = _ := hY
                    go_simp
                  simp only [Act.put, List.setIfInBounds_toArray, List.set_cons_zero, List.set_cons_succ]
                  refine heldTakeGHp 4 (some 44) (.bool false) rfl (by kernel_rfl) rfl (by kernel_rfl) (by kernel_rfl) (by kernel_rfl) (fun Y hY => ?_) HS6.out ?_
                  · have y0 : _ = _ := hY
                    go_simp
                  simp only [Act.put, List.setIfInBounds_toArray, List.set_cons_zero, List.set_cons_succ]
                  refine heldTakeHp 5 (some 45) (.bool false) rfl rfl rfl (by kernel_rfl) (by kernel_rfl) (by kernel_rfl) (fun Y hY => ?_) HS6.out ?_
                  · have y0 : _ = _ := hY
                    go_simp
                  simp only [Act.put, List.setIfInBounds_toArray, List.set_cons_zero, List.set_cons_succ]
                  refine heldTakeHp 6 (some 46) (.bool false) rfl rfl rfl (by kernel_rfl) (by kernel_rfl) (by kernel_rfl) (fun Y hY => ?_) HS6.out ?_
                  · have y0 : _ = _ := hY
                    go_simp
                  simp only [Act.put, List.setIfInBounds_toArray, List.set_cons_zero, List.set_cons_succ]
                  refine heldTakeGHp 7 (some 47) (.slice (some ⟨fb, fo, none⟩) frs.length fcap) rfl (by kernel_rfl) rfl (by kernel_rfl) (by kernel_rfl) (by kernel_rfl) (fun Y hY => ?_) HS6.out ?_
                  · have y0 : _ = _ := hY
                    go_simp
                  simp only [Act.put, List.setIfInBounds_toArray, List.set_cons_zero, List.set_cons_succ]
                  refine heldTakeGHp 8 (some 48) (.int .i64 (i : Nat)) rfl (by kernel_rfl) rfl (by kernel_rfl) (by kernel_rfl) (by kernel_rfl) (fun Y hY => ?_) HS6.out ?_
                  · have y0 : _ = _ := hY
                    go_simp
                  simp only [Act.put, List.setIfInBounds_toArray, List.set_cons_zero, List.set_cons_succ]
                  refine heldTakeGHp 9 (some 49) (.slice (some ⟨fb, fo, none⟩) i fcap) rfl (by kernel_rfl) rfl (by kernel_rfl) (by kernel_rfl) (by kernel_rfl) (fun Y hY => ?_) HS6.out ?_
                  · have y0 : _ = _ := hY
                    go_simp
                  simp only [Act.put, List.setIfInBounds_toArray, List.set_cons_zero, List.set_cons_succ]
                  refine heldTakeGHp 10 (some 50) (.slice (some ⟨fb, fo, none⟩) frs.length fcap) rfl (by kernel_rfl) rfl (by kernel_rfl) (by kernel_rfl) (by kernel_rfl) (fun Y hY => ?_) HS6.out ?_
                  · have y0 : _ = _ := hY
                    go_simp
                  simp only [Act.put, List.setIfInBounds_toArray, List.set_cons_zero, List.set_cons_succ]
                  refine heldTakeGHp 11 (some 51) (.int .i64 (i : Nat)) rfl (by kernel_rfl) rfl (by kernel_rfl) (by kernel_rfl) (by kernel_rfl) (fun Y hY => ?_) HS6.out ?_
                  · have y0 : _ = _ := hY
                    go_simp
                  simp only [Act.put, List.setIfInBounds_toArray, List.set_cons_zero, List.set_cons_succ]
                  refine heldTakeGHp 12 (some 52) (.pointer (some ⟨fb, fo + i, none⟩)) rfl (by kernel_rfl) rfl (by kernel_rfl) (by kernel_rfl) (by kernel_rfl) (fun Y hY => ?_) HS6.out ?_
                  · have y0 : _ = _ := hY
                    go_simp
                  simp only [Act.put, List.setIfInBounds_toArray, List.set_cons_zero, List.set_cons_succ]
                  refine heldTakeGHp 13 (some 53) (.string s) rfl (by kernel_rfl) rfl (by kernel_rfl) (by kernel_rfl) (by kernel_rfl) (fun Y hY => ?_) HS6.out ?_
                  · have y0 : _ = _ := hY
                    go_simp
                  simp only [Act.put, List.setIfInBounds_toArray, List.set_cons_zero, List.set_cons_succ]
                  refine heldOneHp 14 (by kernel_rfl) ?_
                  refine opCallGHp (some 54) 63 #[.slice (some ⟨fb, fo, none⟩) i fcap, .string s] rfl (by kernel_rfl) rfl ?_ ?_
                  · go_simp
                  refine (HPL.out V6 HK6.out).mono ?_
                  rintro e w7 ⟨rfl, hw⟩
                  rw [hw]
                  clear hw
                  refine ⟨_, rfl, HS6.out, ?_⟩
                  simp only [Act.put, List.setIfInBounds_toArray, List.set_cons_zero, List.set_cons_succ]
                  refine heldTakeGHp 15 (some 55) (.bool true) rfl (by kernel_rfl) rfl (by kernel_rfl) (by kernel_rfl) (by kernel_rfl) (fun Y hY => ?_) HS6.out ?_
                  · have y0 : _ = _ := hY
                    go_simp
                  simp only [Act.put, List.setIfInBounds_toArray, List.set_cons_zero, List.set_cons_succ]
                  refine heldTakeHp 16 (some 56) (.bool true) rfl rfl rfl (by kernel_rfl) (by kernel_rfl) (by kernel_rfl) (fun Y hY => ?_) HS6.out ?_
                  · have y0 : _ = _ := hY
                    go_simp
                  simp only [Act.put, List.setIfInBounds_toArray, List.set_cons_zero, List.set_cons_succ]
                  refine wpAnyH_done (by kernel_rfl) ?_ _
                  simp only [Q1Hp]
                  go_wp2_with fail
                  go_meet
                  exact ⟨rfl, HK6.out⟩
          case rest =>
            obtain ⟨rfl, HX⟩ := hcut
            have HKX : Hid (Kept [] V wc) := HR.out.1.trans HX.out (by simp) (by simp)
            cases q with
            | false =>
              have HE : Hid (renE t frs tos = 1) := by
                show renE t frs tos = 1
                unfold renE
                rw [HFT.out, if_pos rfl, if_neg (fun h => by have := pairB_le (i := i + 1) (by omega) h.2; rw [HPN.out] at this; cases this)]
              obtain ⟨d0, d1, d2, df⟩ := (HV1.out.kept HKX.out).cells
              clear c0 c1
              go_wp2_with fail
              exact ret_for2 rfl rfl rfl rfl ((HV1.out.kept HKX.out).set _ _ _) (HZ.out 1 _ (kept_set3 (HK.out.trans HKX.out (by simp) (by simp)) (by rw [HA.out]; omega) _ _ _) (by omega) HE.out)
            | true =>
              have hgr : GrowK wc (A + 1 + 1) (.slice bad i bcap) ((tos.take i).map leafP) := HR.out.2.1.keptF HX.out (by simp)
              obtain ⟨g, cap', w9, hrun, hgr9, hk9⟩ := hgr.put1 u (by rw [List.length_map, List.length_take]; have := HNE.out; omega) (by rw [← HZV.out]; exact HKX.out.size) (by have := HSZ.out.2.1; omega)
              have HRUN : Hid (∀ ty, (Builtin.append_ #[23, 23] ty #[.slice bad i bcap, .slice (some ⟨wc.heap.size, 0, none⟩) 1 1]).run Tryz.prog (wc.alloc (.cells #[.int .u8 3, .string u, .slice none 0 0] 25)) = .ok (.slice (some ⟨g, 0, none⟩) (i + 1) cap') w9) := hrun
              have HN : Hid (Kept [] V w9 ∧ GrowK w9 (A + 1 + 1) (.slice (some ⟨g, 0, none⟩) (i + 1) cap') ((tos.take (i + 1)).map leafP) ∧ pairB frs tos (i + 1) = true) := by
                refine ⟨hk9 V (by rw [HZV.out]; exact Nat.le_refl _) HKX.out, ?_, HPN.out⟩
                rw [HTT.out]
                exact hgr9
              have e1 := HCT.out wc HX.out
              have hl8 := HSZ.out.2.1
              clear hgr hrun hgr9 hk9 c0 c1 HCF HCT HNF HNT HPL HPT HPF HQ
              go_wp2_with (at_builtin; refine Lib.wpList_append_run _ rfl _ _ _ _ rfl _ _ rfl rfl _ _ (HRUN.out _) ?_)
              go_roundw
              case rel => exact ⟨i + 1, by go_num, by omega, _, _, rfl, HN.out⟩
              case measure => simp [intOf]; omega
        · obtain rfl : i = frs.length := by omega
          have z0 : ¬ ((frs.length : Int) < (frs.length : Int)) := by omega
          have HE : Hid (renE t frs tos = 0) := by show renE t frs tos = 0; unfold renE; rw [HFT.out, if_pos rfl, if_pos ⟨HNE.out, HR.out.2.2⟩]
          have HT : Hid (renT t frs tos = putR frs tos t) := by
            show renT t frs tos = _
            unfold renT
            rw [if_pos HE.out, putR_reb (fun x hx => by obtain ⟨j, hj, rfl⟩ := List.getElem_of_mem hx; exact pairB_name HR.out.2.2 hj hj) t HFT.out]
          obtain ⟨pt, hpt⟩ : ∃ pt, putR frs tos t = pt := ⟨_, rfl⟩
          have HFI : Hid (∀ W pad pcap, IsT (fun k => w.heap.size ≤ k) W pt (.slice pad pt.kids.length pcap) → Kept [] w W → ∃ kad kcap, Ending.returned (.tuple #[.agg #[.int .u8 (pt.op : Nat), .string pt.name, .slice pad pt.kids.length pcap], .int .i64 0]) = .returned (.tuple #[.agg #[.int .u8 ((renT t frs tos).op : Nat), .string (renT t frs tos).name, .slice kad (renT t frs tos).kids.length kcap], .int .i64 (renE t frs tos : Nat)]) ∧ IsT (fun k => w.heap.size ≤ k) W (renT t frs tos) (.slice kad (renT t frs tos).kids.length kcap) ∧ Kept [] w W) := fun W pad pcap h k => by
            rw [HT.out, HE.out, hpt]
            exact ⟨pad, pcap, rfl, h, k⟩
          have kw : Kept [] w wr := HK.out.trans HR.out.1 (by simp) (by simp)
          have hgt : GrowK wr (A + 1 + 1) (.slice bad frs.length bcap) (tos.map leafP) := by have h := HR.out.2.1; rw [HNE.out, List.take_length] at h; rw [HNE.out]; exact h
          have hp := HPU.out wr kw _ _ hgt HNE.out
          rw [hpt] at hp
          have HP : Hid (Calls Tryz.prog 36 #[.agg #[.int .u8 (t.op : Nat), .string t.name, .slice kad t.kids.length kcap], .slice fad frs.length fcap, .slice bad frs.length bcap] wr fun e w' => ∃ kad kcap, e = .returned (.agg #[.int .u8 (pt.op : Nat), .string pt.name, .slice kad pt.kids.length kcap]) ∧ IsT (fun k => wr.heap.size ≤ k) w' pt (.slice kad pt.kids.length kcap) ∧ Kept [] wr w') := hp
          obtain ⟨s0, s1, s2, _⟩ := (HV0.out.kept HR.out.1).cells
          clear hgt kw hpt hp HPU HT hlt
          go_wp2_with (go_at_call 36; refine Calls.mono HP.out ?_; rintro e W5 ⟨pad, pcap, rfl, hI5, hk5⟩; have k5 := HR.out.1.trans hk5 (H := []) (by simp) (by simp); obtain ⟨d0, d1, d2, df⟩ := (HV1.out.kept k5).cells; have HK5 : Hid (Kept [] V W5) := k5; have HI5 : Hid (IsT (fun k => wr.heap.size ≤ k) W5 pt (.slice pad pt.kids.length pcap)) := hI5; clear hk5 k5 hI5)
          have k5 : Kept [] w W5 := HK.out.trans HK5.out (by simp) (by simp)
          have hset := (HV1.out.kept HK5.out).set (.int .u8 (pt.op : Nat)) (.string pt.name) (.slice pad pt.kids.length pcap)
          have kset := kept_set3 k5 (B := A + 1) (by rw [HA.out]; omega) (.int .u8 (pt.op : Nat)) (.string pt.name) (.slice pad pt.kids.length pcap)
          have hz5 := HR.out.1.size
          have hzV := HZV.out
          have hn : ¬ (wr.heap.size ≤ A + 1) := by omega
          have hI6 := ((HI5.out.other hn 0 (.int .u8 (pt.op : Nat))).other hn 1 (.string pt.name)).other hn 2 (.slice pad pt.kids.length pcap)
          have hzw := HA.out
          have hI7 := IsT.mono (Y := fun k => w.heap.size ≤ k) hI6 (fun k h => by omega)
          exact ret_for2 rfl rfl rfl rfl hset (HFI.out _ pad pcap hI7 kset)
    · have HE : Hid (renE t frs tos = 1) := by show renE t frs tos = 1; unfold renE; rw [ha, if_pos rfl, if_neg (fun h => hne h.1)]
      have hb : ((frs.length : Int) != (tos.length : Int)) = true := by rw [bne_iff_ne]; omega
      clear ha hne
      go_enter Tryz.func16, Tryz.ntmps16
      go_upto_region 1 with fail
      rw [HV.out, HA.out]
      go_wp2_with (go_at_call 32; refine (HFM.out _ HK.out).mono ?_; rintro e W2 ⟨rfl, hk2⟩; obtain ⟨d0, d1, d2, df⟩ := (HV1.out.kept hk2).cells; have HK2 : Hid (Kept [] V W2) := hk2; clear hk2)
      exact ret_for2 rfl rfl rfl rfl ((HV1.out.kept HK2.out).set _ _ _) (HZ.out 1 _ (kept_set3 (HK.out.trans HK2.out (by simp) (by simp)) (by rw [HA.out]; omega) _ _ _) (by omega) HE.out)
end Go.Proofs.YtnjajafmmociiaaGreatDoor
