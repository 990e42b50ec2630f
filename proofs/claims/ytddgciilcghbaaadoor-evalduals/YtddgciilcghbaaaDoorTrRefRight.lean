/- augurref03.formed, right, Right, RightPast. -/
import Derived.Test.YtddgciilcghbaaaDoorTrRefs
import Derived.Test.YtddgciilcghbaaaDoorTrFits
import Derived.Deep.RegionHeld3
import Derived.Deep.CutRange
namespace Go.Proofs.YtddgciilcghbaaaDoor
open Go.RowKit Go.Shelf

theorem all_parts (q : Tr → Bool) (t : Tr) : ∀ p, ((t.parts p).all fun x => q x.2) = (q t && t.kids.all fun k => k.every q) := by
  induction t using Tr.ind with
  | h t ih =>
    intro p
    rw [Tr.parts_eq, List.all_cons]
    congr 1
    have key : ∀ (ks : List Tr) (i : Nat), (∀ k ∈ ks, ∀ p, ((k.parts p).all fun x => q x.2) = (q k && k.kids.all fun k => k.every q)) → ((rowsFrom p i (ks.map Tr.parts)).all fun x => q x.2) = ks.all fun k => k.every q := by
      intro ks
      induction ks with
      | nil => intro i _; rfl
      | cons k ks ih2 =>
        intro i hk
        rw [List.map_cons, rowsFrom, List.all_append, List.all_cons, ih2 (i + 1) (fun k h => hk k (by simp [h]))]
        congr 1
        unfold Tr.every
        rw [hk k (by simp), hk k (by simp)]
    exact key t.kids 0 (fun k hk p => ih k hk p)
theorem every_eq (q : Tr → Bool) (t : Tr) : t.every q = (q t && t.kids.all fun k => k.every q) := all_parts q t []
theorem every_bad {q : Tr → Bool} {t : Tr} (h : q t = false) : t.every q = false := by rw [every_eq, h]; rfl
theorem every_kid {q : Tr → Bool} {t k : Tr} (hk : k ∈ t.kids) (h : k.every q = false) : t.every q = false := by
  rw [every_eq, show (t.kids.all fun k => k.every q) = false from List.all_eq_false.2 ⟨k, hk, by simp [h]⟩, Bool.and_false]
theorem every_good {q : Tr → Bool} {t : Tr} (h : q t = true) (hk : ∀ i (hi : i < t.kids.length), (t.kids[i]).every q = true) : t.every q = true := by
  rw [every_eq, h, show (t.kids.all fun k => k.every q) = true from List.all_eq_true.2 fun k hk' => by obtain ⟨i, hi, rfl⟩ := List.getElem_of_mem hk'; exact hk i hi]; rfl
theorem formed_no1 {t : Tr} (h : ¬ (1 ≤ t.op ∧ t.op ≤ 21)) : formedB t = false := by
  unfold formedB
  rw [show (decide (1 ≤ t.op) && decide (t.op ≤ 21)) = false from by rw [← Bool.decide_and, decide_eq_false_iff_not]; exact h]; rfl
theorem formed_no2 {t : Tr} (h : t.kids.length ≠ kidsN t.op) : formedB t = false := by
  unfold formedB
  rw [show (t.kids.length == kidsN t.op) = false from by rw [beq_eq_false_iff_ne]; exact h, Bool.and_false]; rfl
theorem formed_no3 {t : Tr} (h : (if t.op = 3 then nameB t.name.data.toList else t.name.toList.isEmpty) = false) : formedB t = false := by
  unfold formedB; rw [h, Bool.and_false]
theorem formed_yes {t : Tr} (h1 : 1 ≤ t.op ∧ t.op ≤ 21) (h2 : t.kids.length = kidsN t.op) (h3 : (if t.op = 3 then nameB t.name.data.toList else t.name.toList.isEmpty) = true) : formedB t = true := by
  unfold formedB; rw [h3, decide_eq_true h1.1, decide_eq_true h1.2, show (t.kids.length == kidsN t.op) = true from by rw [beq_iff_eq]; exact h2]; rfl
theorem right_no {ob : Nat → Bool} {t : Tr} (h : formedB t = false) : rightQ ob t = false := by unfold rightQ; rw [h]; rfl

theorem right_kids {ob : Nat → Bool} {t : Tr} (h : rightQ ob t = true) : kidsR t.op = ((t.kids.length : Nat) : Int) := by
  unfold rightQ formedB at h
  simp only [Bool.and_eq_true, decide_eq_true_eq, beq_iff_eq] at h
  obtain ⟨⟨⟨⟨h1, h2⟩, h3⟩, _⟩, _⟩ := h
  unfold kidsR
  rw [if_pos ⟨h1, h2⟩, h3]
def FormedDoes (m : Int) (ob : Nat → Bool) (t : Tr) : Prop := ∀ (kv : Value) (w : World), IsF w t kv → t.size ≤ 1099511627776 → t.Fine →
  Calls Tryd.prog 111 #[.agg #[.int .u8 (t.op : Nat), .string t.name, kv], .int .i64 m] w fun e w' => e = .returned (.bool (t.every (rightQ ob))) ∧ Kept [] w w'

set_option maxHeartbeats 2000000 in
set_option maxRecDepth 20000 in
theorem formed_ref (m : Int) (ob : Nat → Bool) (hmo : (m = 1 ∧ ob = futureB) ∨ (m = 2 ∧ ob = pastB)) (t : Tr) : FormedDoes m ob t := by
  induction t using Tr.ind with
  | h t ih =>
    intro kv w hI hs hF
    obtain ⟨kad, kcap, rfl⟩ := hI.slice
    obtain ⟨⟨hop, hnm⟩, hFk⟩ := (Tr.all_eq t).1 hF
    have HI : Hid (IsT (fun k => k < w.heap.size) w t (.slice kad t.kids.length kcap)) := hI
    have HIH : Hid _ := fun k hk => ih k hk
    have HFK : Hid _ := hFk
    have hlen : t.kids.length ≤ 1099511627776 := by have := t.kids_size; omega
    obtain ⟨r, hr⟩ : ∃ r, t.every (rightQ ob) = r := ⟨_, rfl⟩
    rw [hr]
    have HR : Hid (t.every (rightQ ob) = r) := hr
    obtain ⟨kn, hkn⟩ : ∃ kn, kidsR t.op = kn := ⟨_, rfl⟩
    obtain ⟨nb, hnb⟩ : ∃ nb, nameB t.name.data.toList = nb := ⟨_, rfl⟩
    have HKN : Hid _ := fun W => refKids_any t.op W
    have HNB : Hid _ := fun W => refName_any t.name W hnm
    simp only [hkn] at HKN
    simp only [hnb] at HNB
    have HKD : Hid _ := hkn
    have HND : Hid _ := hnb
    obtain ⟨V, hV⟩ : ∃ V, w.alloc (.cells #[.int .u8 (t.op : Nat), .string t.name, .slice kad t.kids.length kcap] 25) = V := ⟨_, rfl⟩
    have HKV : Hid (Kept [] w V) := by show Kept [] w V; rw [← hV]; exact (Kept.refl [] w).alloc _
    have HB0 : Hid (For3 V w.heap.size (.int .u8 (t.op : Nat)) (.string t.name) (.slice kad t.kids.length kcap)) := by show For3 V _ _ _ _; rw [← hV]; exact al0 _ _
    have HV : Hid _ := hV
    have HS : Hid _ := hs
    clear hI ih hr hkn hnb hF hFk hV hs
    go_enter Tryd.func111, Tryd.ntmps111
    obtain ⟨b0, b1, b2, _⟩ := HB0.out.cells
    go_upto_region 3 with (first
      | (go_at_call 153; rw [HV.out]; refine (HKN.out _).mono ?_; rintro e w' ⟨rfl, hw⟩; rw [hw]; clear hw)
      | (go_at_call 114; refine (HNB.out _).mono ?_; rintro e w'' ⟨rfl, hw⟩; rw [hw]; clear hw))
    clear HV
    go_cut [7] from 17 to 24 (fun s wx => s = .bool (futureB t.op) ∧ wx = V)
    case first =>
      clear HKN HNB HR HIH HI HFK HKD HND
      by_cases h9 : 9 ≤ (t.op : Int)
      · by_cases h15 : (t.op : Int) ≤ 15
        · go_wp2_with fail
          go_meet
          exact ⟨congrArg Value.bool (by unfold futureB; rw [decide_eq_true (show 9 ≤ t.op by omega), decide_eq_true (show t.op ≤ 15 by omega)]; rfl), rfl⟩
        · go_wp2_with fail
          go_meet
          exact ⟨congrArg Value.bool (by unfold futureB; rw [decide_eq_false (show ¬ t.op ≤ 15 by omega), Bool.and_false]), rfl⟩
      · go_wp2_with fail
        go_meet
        exact ⟨congrArg Value.bool (by unfold futureB; rw [decide_eq_false (show ¬ 9 ≤ t.op by omega), Bool.false_and]), rfl⟩
    case rest =>
    obtain ⟨rfl, hw⟩ := hcut
    rw [hw]
    clear hw
    obtain ⟨fu, hfu⟩ : ∃ fu, futureB t.op = fu := ⟨_, rfl⟩
    rw [hfu]
    have HFU : Hid _ := hfu
    clear hfu
    go_upto_region 5 with fail
    go_cut [69] from 28 to 69 (fun s wx => s = .bool (!rightQ ob t) ∧ wx = V)
    case first =>
      clear HKN HNB HR HIH HI HFK
      rcases hmo with ⟨rfl, rfl⟩ | ⟨rfl, rfl⟩
      · skip
        by_cases ho : 1 ≤ t.op ∧ t.op ≤ 21
        · have hkn : kn = ((kidsN t.op : Nat) : Int) := by rw [← HKD.out]; exact if_pos ho
          have hk0 : ¬ (kn < 0) := by omega
          by_cases hl : t.kids.length = kidsN t.op
          · have hl1 : ((t.kids.length : Int) != kn) = false := by simp only [bne_eq_false_iff_eq]; omega
            by_cases h3 : t.op = 3
            · have h31 : ((t.op : Int) == 3) = true := by rw [beq_iff_eq]; omega
              have h32 : ((t.op : Int) != 3) = false := by simp only [bne_eq_false_iff_eq]; omega
              cases nb with
              | false =>
                have hq : rightQ futureB t = false := right_no (formed_no3 (by rw [if_pos h3]; exact HND.out))
                have HQ : Hid _ := hq
                clear hq hl h3 ho hkn
                go_wp2_with fail
                go_meet
                exact ⟨congrArg Value.bool (by rw [HQ.out]; rfl), rfl⟩
              | true =>
                have hfm : formedB t = true := formed_yes ho hl (by rw [if_pos h3]; exact HND.out)
                cases fu with
                | true =>
                  have hq : rightQ futureB t = false := by unfold rightQ; rw [hfm, HFU.out]; rfl
                  have HQ : Hid _ := hq
                  clear hq hfm hl h3 ho hkn
                  go_wp2_with fail
                  go_meet
                  exact ⟨congrArg Value.bool (by rw [HQ.out]; rfl), rfl⟩
                | false =>
                  have hq : rightQ futureB t = true := by unfold rightQ; rw [hfm, HFU.out]; rfl
                  have HQ : Hid _ := hq
                  clear hq hfm hl h3 ho hkn
                  go_wp2_with fail
                  go_meet
                  exact ⟨congrArg Value.bool (by rw [HQ.out]; rfl), rfl⟩
            · have h31 : ((t.op : Int) == 3) = false := by rw [beq_eq_false_iff_ne]; omega
              have h32 : ((t.op : Int) != 3) = true := by rw [bne_iff_ne]; omega
              cases he : t.name.toList.isEmpty with
              | false =>
                have hq : rightQ futureB t = false := right_no (formed_no3 (by rw [if_neg h3]; exact he))
                have HQ : Hid _ := hq
                clear hq hl h3 ho hkn
                go_wp2_with fail
                go_meet
                exact ⟨congrArg Value.bool (by rw [HQ.out]; rfl), rfl⟩
              | true =>
                have hfm : formedB t = true := formed_yes ho hl (by rw [if_neg h3]; exact he)
                cases fu with
                | true =>
                  have hq : rightQ futureB t = false := by unfold rightQ; rw [hfm, HFU.out]; rfl
                  have HQ : Hid _ := hq
                  clear hq hfm hl h3 ho hkn
                  go_wp2_with fail
                  go_meet
                  exact ⟨congrArg Value.bool (by rw [HQ.out]; rfl), rfl⟩
                | false =>
                  have hq : rightQ futureB t = true := by unfold rightQ; rw [hfm, HFU.out]; rfl
                  have HQ : Hid _ := hq
                  clear hq hfm hl h3 ho hkn
                  go_wp2_with fail
                  go_meet
                  exact ⟨congrArg Value.bool (by rw [HQ.out]; rfl), rfl⟩
          · have hl1 : ((t.kids.length : Int) != kn) = true := by rw [bne_iff_ne]; omega
            have hq : rightQ futureB t = false := right_no (formed_no2 hl)
            have HQ : Hid _ := hq
            clear hq hl ho hkn
            go_wp2_with fail
            go_meet
            exact ⟨congrArg Value.bool (by rw [HQ.out]; rfl), rfl⟩
        · have hkn : kn = -1 := by rw [← HKD.out]; exact if_neg ho
          have hq : rightQ futureB t = false := right_no (formed_no1 ho)
          have HQ : Hid _ := hq
          clear hq ho
          subst hkn
          go_wp2_with fail
          go_meet
          exact ⟨congrArg Value.bool (by rw [HQ.out]; rfl), rfl⟩
      · skip
        by_cases ho : 1 ≤ t.op ∧ t.op ≤ 21
        · have hkn : kn = ((kidsN t.op : Nat) : Int) := by rw [← HKD.out]; exact if_pos ho
          have hk0 : ¬ (kn < 0) := by omega
          by_cases hl : t.kids.length = kidsN t.op
          · have hl1 : ((t.kids.length : Int) != kn) = false := by simp only [bne_eq_false_iff_eq]; omega
            by_cases h3 : t.op = 3
            · have h31 : ((t.op : Int) == 3) = true := by rw [beq_iff_eq]; omega
              have h32 : ((t.op : Int) != 3) = false := by simp only [bne_eq_false_iff_eq]; omega
              cases nb with
              | false =>
                have hq : rightQ pastB t = false := right_no (formed_no3 (by rw [if_pos h3]; exact HND.out))
                have HQ : Hid _ := hq
                clear hq hl h3 ho hkn
                go_wp2_with fail
                go_meet
                exact ⟨congrArg Value.bool (by rw [HQ.out]; rfl), rfl⟩
              | true =>
                have hfm : formedB t = true := formed_yes ho hl (by rw [if_pos h3]; exact HND.out)
                have hq : rightQ pastB t = !(decide (16 ≤ (t.op : Int))) := by
                  unfold rightQ pastB; rw [hfm, decide_eq_true ho.2, Bool.and_true, Bool.true_and]; congr 1; rw [decide_eq_decide]; omega
                have HQ : Hid _ := hq
                clear hq hfm hl h3 ho hkn
                go_wp2_with fail
                go_meet
                exact ⟨congrArg Value.bool (by rw [HQ.out, Bool.not_not]), rfl⟩
            · have h31 : ((t.op : Int) == 3) = false := by rw [beq_eq_false_iff_ne]; omega
              have h32 : ((t.op : Int) != 3) = true := by rw [bne_iff_ne]; omega
              cases he : t.name.toList.isEmpty with
              | false =>
                have hq : rightQ pastB t = false := right_no (formed_no3 (by rw [if_neg h3]; exact he))
                have HQ : Hid _ := hq
                clear hq hl h3 ho hkn
                go_wp2_with fail
                go_meet
                exact ⟨congrArg Value.bool (by rw [HQ.out]; rfl), rfl⟩
              | true =>
                have hfm : formedB t = true := formed_yes ho hl (by rw [if_neg h3]; exact he)
                have hq : rightQ pastB t = !(decide (16 ≤ (t.op : Int))) := by
                  unfold rightQ pastB; rw [hfm, decide_eq_true ho.2, Bool.and_true, Bool.true_and]; congr 1; rw [decide_eq_decide]; omega
                have HQ : Hid _ := hq
                clear hq hfm hl h3 ho hkn
                go_wp2_with fail
                go_meet
                exact ⟨congrArg Value.bool (by rw [HQ.out, Bool.not_not]), rfl⟩
          · have hl1 : ((t.kids.length : Int) != kn) = true := by rw [bne_iff_ne]; omega
            have hq : rightQ pastB t = false := right_no (formed_no2 hl)
            have HQ : Hid _ := hq
            clear hq hl ho hkn
            go_wp2_with fail
            go_meet
            exact ⟨congrArg Value.bool (by rw [HQ.out]; rfl), rfl⟩
        · have hkn : kn = -1 := by rw [← HKD.out]; exact if_neg ho
          have hq : rightQ pastB t = false := right_no (formed_no1 ho)
          have HQ : Hid _ := hq
          clear hq ho
          subst hkn
          go_wp2_with fail
          go_meet
          exact ⟨congrArg Value.bool (by rw [HQ.out]; rfl), rfl⟩
    case rest =>
    obtain ⟨rfl, hw⟩ := hcut
    rw [hw]
    clear hw
    cases hq : rightQ ob t with
    | false =>
      have hrf : r = false := by rw [← HR.out]; exact every_bad hq
      subst hrf
      clear hq
      go_wp2
      go_ret
      exact ⟨rfl, HKV.out⟩
    | true =>
      have hkn : kn = ((t.kids.length : Nat) : Int) := by rw [← HKD.out]; exact right_kids hq
      subst hkn
      have HQ : Hid _ := hq
      clear hq
      rw [Bool.not_true]
      go_wp2
      go_loopw [9, 10] (fun v _ wr => ∃ i : Nat, v = .int .i64 (i : Nat) ∧ i ≤ t.kids.length ∧ Hid (Kept [] V wr ∧ ∀ j (h : j < t.kids.length), j < i → (t.kids[j]).every (rightQ ob) = true)) (fun v _ _ => t.kids.length - (intOf v).toNat)
      case atStart => exact ⟨0, rfl, Nat.zero_le _, Kept.refl [] V, fun j _ h => by omega⟩
      case round =>
        obtain ⟨i, rfl, hi, HW⟩ := hrel
        clear b0 b1 b2
        obtain ⟨_, _, b2, _⟩ := (HB0.out.kept HW.out.1).cells
        by_cases hlt : i < t.kids.length
        · have hli : (i : Int) < (t.kids.length : Int) := by omega
          obtain ⟨kb, koff, rfl, _, hkid⟩ := HI.out.kid (by omega)
          obtain ⟨kv, c0, c1, c2, hIk⟩ := hkid i hlt
          obtain ⟨ckad, ckcap, rfl⟩ := hIk.slice
          obtain ⟨k, hk⟩ : ∃ k, t.kids[i] = k := ⟨_, rfl⟩
          have hkm : k ∈ t.kids := by rw [← hk]; exact List.getElem_mem _
          rw [hk] at c0 c1 c2 hIk
          have kw : Kept [] w wr := HKV.out.trans HW.out.1 (by simp) (by simp)
          have c0 := cell_kept0 kw c0
          have c1 := cell_kept0 kw c1
          have c2 := cell_kept0 kw c2
          obtain ⟨kr, hkr⟩ : ∃ kr, k.every (rightQ ob) = kr := ⟨_, rfl⟩
          have HREC : Hid _ := fun (_ : Unit) => HIH.out k hkm (.slice ckad k.kids.length ckcap) wr (IsF.kept hIk kw) (by have := Tr.kid_size hkm; have := HS.out; omega) (HFK.out k hkm)
          simp only [hkr] at HREC
          have HKK : Hid _ := hk
          have HKM : Hid _ := hkm
          have HKR : Hid _ := hkr
          clear hkid hk hIk hkm kw hkr
          cases kr with
          | true =>
            go_wp2_with (go_at_call 111; refine (HREC.out ()).mono ?_; rintro e W5 ⟨rfl, hk5⟩)
            go_roundw
            case rel =>
              refine ⟨i + 1, by go_num, by omega, HW.out.1.trans hk5 (by simp) (by simp), fun j h hj => ?_⟩
              rcases Nat.lt_or_ge j i with hh | hh
              · exact HW.out.2 j h hh
              · obtain rfl : j = i := by omega
                rw [HKK.out]
                exact HKR.out
            case measure => simp [intOf]; omega
          | false =>
            have hrf : r = false := by rw [← HR.out]; exact every_kid HKM.out HKR.out
            subst hrf
            go_wp2_with (go_at_call 111; refine (HREC.out ()).mono ?_; rintro e W5 ⟨rfl, hk5⟩)
            go_ret
            exact ⟨rfl, HKV.out.trans (HW.out.1.trans hk5 (H := []) (by simp) (by simp)) (by simp) (by simp)⟩
        · obtain rfl : i = t.kids.length := by omega
          have hli : ¬ ((t.kids.length : Int) < (t.kids.length : Int)) := by omega
          have hrf : r = true := by rw [← HR.out]; exact every_good HQ.out (fun i hi => HW.out.2 i hi hi)
          subst hrf
          go_wp2
          go_ret
          exact ⟨rfl, HKV.out.trans HW.out.1 (by simp) (by simp)⟩

def RightDoes (m : Int) (ob : Nat → Bool) (t : Tr) : Prop := ∀ (kv : Value) (w : World), IsF w t kv → t.size ≤ 1099511627776 → t.depth ≤ 1099511627776 → t.Fine →
  Calls Tryd.prog 65 #[.agg #[.int .u8 (t.op : Nat), .string t.name, kv], .int .i64 m] w fun e w' => e = .returned (.int .i64 (rightN ob t : Nat)) ∧ Kept [] w w'
set_option maxHeartbeats 1000000 in
set_option maxRecDepth 20000 in
theorem right_ref (m : Int) (ob : Nat → Bool) (hmo : (m = 1 ∧ ob = futureB) ∨ (m = 2 ∧ ob = pastB)) (t : Tr) : RightDoes m ob t := by
  intro kv w hI hs hd hF
  obtain ⟨kad, kcap, rfl⟩ := hI.slice
  obtain ⟨fr, hfr⟩ : ∃ fr, t.every (rightQ ob) = fr := ⟨_, rfl⟩
  have HFR : Hid _ := fun W (k : Kept [] w W) => formed_ref m ob hmo t _ W (hI.kept k) hs hF
  have HSZ : Hid _ := fun W (k : Kept [] w W) => refSize_any t _ W (hI.kept k) hs
  have HDP : Hid _ := fun W (k : Kept [] w W) => refDepth_any t _ W (hI.kept k) hs hd
  have hrn : rightN ob t = if fr then (if decide (t.size ≤ 1000) && decide (t.depth ≤ 100) then 0 else 31) else 30 := by unfold rightN; rw [hfr]
  simp only [hfr] at HFR
  obtain ⟨r, hr⟩ : ∃ r, rightN ob t = r := ⟨_, rfl⟩
  rw [hr] at hrn
  rw [hr]
  have HRN : Hid _ := hrn
  have HU : Hid (∀ W, Kept [] (w.alloc (.cells #[.int .u8 (t.op : Nat), .string t.name, .slice kad t.kids.length kcap] 25)) W → W.cell? ⟨w.heap.size, 0, none⟩ = some (.int .u8 (t.op : Nat)) ∧ W.cell? ⟨w.heap.size, 1, none⟩ = some (.string t.name) ∧ W.cell? ⟨w.heap.size, 2, none⟩ = some (.slice kad t.kids.length kcap)) := fun W k => uS_of (al0 _ _) k
  clear hI hF hr hrn hfr hmo
  cases fr with
  | false =>
    have h30 : r = 30 := HRN.out
    subst h30
    go_enter Tryd.func65, Tryd.ntmps65
    go_wp2_with (go_at_call 111; refine (HFR.out _ ((Kept.refl [] w).alloc _)).mono ?_; rintro e W1 ⟨rfl, hk1⟩)
    go_ret
    exact ⟨rfl, ((Kept.refl [] w).alloc _).trans hk1 (by simp) (by simp)⟩
  | true =>
    by_cases h1 : t.size ≤ 1000
    · have h1i : ¬ ((1000 : Int) < (t.size : Int)) := by omega
      by_cases h2 : t.depth ≤ 100
      · have h2i : ¬ ((100 : Int) < (t.depth : Int)) := by omega
        have h0 : r = 0 := by rw [HRN.out, decide_eq_true h1, decide_eq_true h2]; rfl
        subst h0
        go_enter Tryd.func65, Tryd.ntmps65
        go_wp2_with (first
          | (go_at_call 111; refine (HFR.out _ ((Kept.refl [] w).alloc _)).mono ?_; rintro e W1 ⟨rfl, hk1⟩; obtain ⟨b0, b1, b2⟩ := HU.out _ hk1; have HK1 : Hid _ := hk1; clear hk1)
          | (go_at_call 112; refine (HSZ.out _ (((Kept.refl [] w).alloc _).trans HK1.out (by simp) (by simp))).mono ?_; rintro e W2 ⟨rfl, hk2⟩; have hk12 := HK1.out.trans hk2 (H := []) (by simp) (by simp); clear b0 b1 b2; obtain ⟨b0, b1, b2⟩ := HU.out _ hk12; have HK2 : Hid _ := hk12; clear hk2 hk12)
          | (go_at_call 113; refine (HDP.out _ (((Kept.refl [] w).alloc _).trans HK2.out (by simp) (by simp))).mono ?_; rintro e W3 ⟨rfl, hk3⟩))
        go_ret
        exact ⟨rfl, ((Kept.refl [] w).alloc _).trans (HK2.out.trans hk3 (H := []) (by simp) (by simp)) (by simp) (by simp)⟩
      · have h2i : (100 : Int) < (t.depth : Int) := by omega
        have h0 : r = 31 := by rw [HRN.out, decide_eq_false h2, Bool.and_false]; rfl
        subst h0
        go_enter Tryd.func65, Tryd.ntmps65
        go_wp2_with (first
          | (go_at_call 111; refine (HFR.out _ ((Kept.refl [] w).alloc _)).mono ?_; rintro e W1 ⟨rfl, hk1⟩; obtain ⟨b0, b1, b2⟩ := HU.out _ hk1; have HK1 : Hid _ := hk1; clear hk1)
          | (go_at_call 112; refine (HSZ.out _ (((Kept.refl [] w).alloc _).trans HK1.out (by simp) (by simp))).mono ?_; rintro e W2 ⟨rfl, hk2⟩; have hk12 := HK1.out.trans hk2 (H := []) (by simp) (by simp); clear b0 b1 b2; obtain ⟨b0, b1, b2⟩ := HU.out _ hk12; have HK2 : Hid _ := hk12; clear hk2 hk12)
          | (go_at_call 113; refine (HDP.out _ (((Kept.refl [] w).alloc _).trans HK2.out (by simp) (by simp))).mono ?_; rintro e W3 ⟨rfl, hk3⟩))
        go_ret
        exact ⟨rfl, ((Kept.refl [] w).alloc _).trans (HK2.out.trans hk3 (H := []) (by simp) (by simp)) (by simp) (by simp)⟩
    · have h1i : (1000 : Int) < (t.size : Int) := by omega
      have h0 : r = 31 := by rw [HRN.out, decide_eq_false h1, Bool.false_and]; rfl
      subst h0
      go_enter Tryd.func65, Tryd.ntmps65
      go_wp2_with (first
        | (go_at_call 111; refine (HFR.out _ ((Kept.refl [] w).alloc _)).mono ?_; rintro e W1 ⟨rfl, hk1⟩; obtain ⟨b0, b1, b2⟩ := HU.out _ hk1; have HK1 : Hid _ := hk1; clear hk1)
        | (go_at_call 112; refine (HSZ.out _ (((Kept.refl [] w).alloc _).trans HK1.out (by simp) (by simp))).mono ?_; rintro e W2 ⟨rfl, hk2⟩; have HK2 : Hid _ := hk2; clear hk2))
      go_ret
      exact ⟨rfl, ((Kept.refl [] w).alloc _).trans (HK1.out.trans HK2.out (H := []) (by simp) (by simp)) (by simp) (by simp)⟩
set_option maxHeartbeats 400000 in
theorem refRight_any (t : Tr) (kv : Value) (w : World) (hI : IsF w t kv) (hs : t.size ≤ 1099511627776) (hd : t.depth ≤ 1099511627776) (hF : t.Fine) :
    Calls Tryd.prog 34 #[.agg #[.int .u8 (t.op : Nat), .string t.name, kv]] w fun e w' => e = .returned (.int .i64 (rightN pastB t : Nat)) ∧ Kept [] w w' := by
  obtain ⟨kad, kcap, rfl⟩ := hI.slice
  have HR : Hid _ := fun W (k : Kept [] w W) => right_ref 2 pastB (.inr ⟨rfl, rfl⟩) t _ W (hI.kept k) hs hd hF
  clear hI hF
  go_enter Tryd.func34, Tryd.ntmps34
  go_wp2_with (go_at_call 65; refine (HR.out _ ((Kept.refl [] w).alloc _)).mono ?_; rintro e W1 ⟨rfl, hk1⟩)
  go_ret
  exact ⟨rfl, ((Kept.refl [] w).alloc _).trans hk1 (by simp) (by simp)⟩
end Go.Proofs.YtddgciilcghbaaaDoor
