/- runner.finalOf of any machine: the walk. -/
import Derived.Test.YtbbfajbnklgncaaHI
namespace Go.Proofs.Ytbbfajbnklgncaa
open Go.RowKit Go.Shelf

set_option maxHeartbeats 4000000 in
set_option maxRecDepth 10000 in
theorem finalOf_any (pv nv ov : Value) (next : List (List Int)) (out : List Nat) (w : World) (hn : Rowss w nv next) (ho : Vds w ov out) (hr : RightR next) (hlo : out.length = next.length) :
    Calls Try.prog 54 #[.agg #[pv, nv, ov]] w fun e w' => ∃ FR fin, e = .returned (.slice (some ⟨FR, 0, none⟩) next.length next.length) ∧ Hid (w'.heap[FR]? = some (.cells (fin.map Value.bool).toArray 4 (0, 0))) ∧ Hid (FinOf next out fin) ∧ Hid (w.heap.size ≤ FR) ∧ Hid (Kept [] w w') := by
  obtain ⟨n, hln⟩ : ∃ n, next.length = n := ⟨_, rfl⟩
  have hfew : n ≤ 1000000 := by rw [← hln]; exact hr.few
  have hpos : 0 < n := by rw [← hln]; exact hr.pos
  obtain ⟨V, hV⟩ : ∃ V, w.alloc (.cells #[pv, nv, ov] 26) = V := ⟨_, rfl⟩
  have kV : Kept [] w V := by rw [← hV]; exact (Kept.refl [] w).alloc _
  obtain ⟨M, hM⟩ : ∃ M, w.heap.size = M := ⟨_, rfl⟩
  have hB : Thr 26 V M pv nv ov := by rw [← hV, ← hM]; exact al0 _ _
  have hMV : M < V.heap.size := lt_of hB
  obtain ⟨V1, hV1⟩ : ∃ V1, V.alloc (.cells #[.bool true] 4) = V1 := ⟨_, rfl⟩
  have kV1 : Kept [] V V1 := by rw [← hV1]; exact (Kept.refl [] V).alloc _
  have hA1 : V1.cell? ⟨V.heap.size, 0, none⟩ = some (.bool true) := by rw [← hV1]; exact (cell_of (al0 V _) 0).trans rfl
  have HRP : Hid (Calls Try.prog 65 #[.slice (some ⟨V.heap.size, 0, none⟩) 1 1, .int .i64 (n : Nat)] V1 fun e w' => e = .returned (.slice (some ⟨V1.heap.size, 0, none⟩) n n) ∧ Trus w' V1.heap.size n n ∧ Kept [] V1 w') := repeat_any V.heap.size n V1 hA1 hfew
  obtain ⟨ob, oo, oc, rfl, hout⟩ := ho.there (by rw [hlo, hln]; exact hpos)
  have HO : Hid (∀ W, Kept [] w W → OutAt W ob oo out) := fun W k => hout.kept k
  rcases hn.lie with ⟨hnv, he⟩ | ⟨nb, no, nc, hnv, hc1, hc2, hce⟩
  · have := hr.pos
    rw [he] at this
    simp at this
  have HBK : Hid (∀ W, Kept [] w W → Calls Try.prog 69 #[.agg #[pv, nv, .slice (some ⟨ob, oo, none⟩) out.length oc]] W fun e w' => ∃ B vs bk, e = .returned (.slice (some ⟨B, 0, none⟩) next.length next.length) ∧ Hid (RowsN w' W.heap.size B next.length vs bk) ∧ Hid (BkTo next bk next.length 0) ∧ Hid (Kept [] W w')) := fun W k => backOf_any pv nv _ next W (hn.kept k) hr
  subst hnv
  have HCE : Hid (∀ i (h : i < next.length), ∃ u, w.cell? ⟨nb, no + i, none⟩ = some u ∧ Ints w u next[i]) := hce
  have HRR : Hid (RightR next) := hr
  have HLN : Hid (next.length = n ∧ out.length = n) := ⟨hln, by rw [hlo, hln]⟩
  rw [hln] at hB hc1 HBK ⊢
  rw [hlo, hln] at hB HBK
  have HB : Hid (Thr 26 V M pv (.slice (some ⟨nb, no, none⟩) n nc) (.slice (some ⟨ob, oo, none⟩) n oc)) := hB
  obtain ⟨b0, b1, b2⟩ := hB.cells
  have HC : Hid (∀ W, Kept [] V W → W.cell? ⟨M, 0, none⟩ = some pv ∧ W.cell? ⟨M, 1, none⟩ = some (.slice (some ⟨nb, no, none⟩) n nc) ∧ W.cell? ⟨M, 2, none⟩ = some (.slice (some ⟨ob, oo, none⟩) n oc)) := fun W k => (HB.out.keptF k (by simp)).cells
  have z0 : (0 : Int) ≤ (n : Int) := by omega
  have HV : Hid (w.alloc (.cells #[pv, .slice (some ⟨nb, no, none⟩) n nc, .slice (some ⟨ob, oo, none⟩) n oc] 26) = V) := by show _ = V; rw [← hV, hln, hlo, hln]
  have HV1 : Hid (V.alloc (.cells #[.bool true] 4) = V1) := hV1
  have HKV : Hid (Kept [] w V) := kV
  have HKV1 : Hid (Kept [] V V1) := kV1
  obtain ⟨d0, d1, d2⟩ := HC.out V1 kV1
  rw [hlo, hln]
  clear hn ho hr hV kV hB hV1 kV1 hA1 hlo hce hout hln
  go_enter Try.func54, Try.ntmps54
  go_upto_region 1 with fail
  rw [HV.out]
  clear HV
  go_upto_region 2 with (go_at_call 65; rw [HV1.out]; refine HRP.out.mono ?_; rintro e W1 ⟨rfl, hT, hk⟩; have HT : Hid (Trus W1 V1.heap.size n n) := hT; have HK1 : Hid (Kept [] V1 W1) := hk; clear hT hk)
  obtain ⟨W2, hW2⟩ : ∃ W2, (W1.alloc (.cells #[.slice (some ⟨V1.heap.size, 0, none⟩) n n] 90)).alloc (.cells #[.slice none 0 0] 83) = W2 := ⟨_, rfl⟩
  have HVV1 : Hid (V1.heap.size = V.heap.size + 1) := by show _ = _; rw [← HV1.out, World.size_alloc]
  have kW2 : Kept [] W1 W2 := by rw [← hW2]; exact ((Kept.refl [] W1).alloc _).alloc _
  have HF2 : Hid (FinS W2 V.heap.size W1.heap.size (W1.heap.size + 1) V1.heap.size n (.slice none 0 0) (List.replicate n true) []) := by
    show FinS W2 _ _ _ _ _ _ _ _
    have hz := HK1.out.size
    have hVV1 := HVV1.out
    have ht := kW2.at HT.out (by simp)
    rw [Nat.sub_self, List.replicate_zero, List.append_nil] at ht
    exact ⟨by rw [← hW2]; exact alUp (al0 W1 _) _, by rw [← hW2]; exact al1 W1 _ _, ht, ⟨by omega, by omega⟩, by simp, ⟨rfl, .inl ⟨rfl, rfl⟩⟩, fun s hs => by rw [List.getD_eq_getElem?_getD, List.getElem?_replicate, if_pos hs]; rfl, fun s hs => by simp at hs, by rw [List.countP_eq_length.2 (fun a ha => by rw [List.eq_of_mem_replicate ha]; rfl)]; simp, hfew⟩
  have HKW2 : Hid (Kept [] V W2) := keptB (keptB HKV1.out HK1.out) kW2
  go_upto_region 3 with fail
  obtain ⟨FB, hFB⟩ : ∃ FB, W1.heap.size = FB := ⟨_, rfl⟩
  obtain ⟨LB, hLB⟩ : ∃ LB, FB + 1 = LB := ⟨_, rfl⟩
  obtain ⟨FR, hFR⟩ : ∃ FR, V1.heap.size = FR := ⟨_, rfl⟩
  obtain ⟨bs, hbs⟩ : ∃ bs, V.heap.size = bs := ⟨_, rfl⟩
  have HL0 : Hid (Left1 next out 0 []) := fun s => by simp
  have HBS : Hid (w.heap.size ≤ bs ∧ M < bs) := by show _ ∧ _; rw [← hbs]; exact ⟨HKV.out.size, hMV⟩
  have HKW : Hid (Kept [] w W2) := keptB HKV.out HKW2.out
  have HTH : Hid (Thr 26 W2 M pv (.slice (some ⟨nb, no, none⟩) n nc) (.slice (some ⟨ob, oo, none⟩) n oc)) := HB.out.keptF HKW2.out (by simp)
  obtain ⟨f0, f1, f2⟩ := HTH.out.cells
  rw [hFB, hFR, hbs, hLB] at HF2
  rw [hFB, hLB, hFR, hbs]
  clear HV1 HKV HKV1 HRP HT HK1 hW2 HVV1 kW2 HKW2 hFB hLB hFR hbs hMV HC b0 b1 b2 d0 d1 d2 HB
  go_wp2_with fail
  go_loopw [22] (fun v wr => ∃ k : Nat, v = .int .i64 (k : Nat) ∧ k ≤ n ∧ ∃ lv fin L, Hid (FinS wr bs FB LB FR n lv fin L) ∧ Hid (Left1 next out k L) ∧ Hid (Kept [] w wr) ∧ Hid (Thr 26 wr M pv (.slice (some ⟨nb, no, none⟩) n nc) (.slice (some ⟨ob, oo, none⟩) n oc))) (fun v _ => n - (intOf v).toNat)
  case atStart => exact ⟨0, rfl, Nat.zero_le _, _, _, _, HF2, HL0, HKW, HTH⟩
  case round =>
    obtain ⟨k, rfl, hk, lv, fin, L, HF, HL, HK, HT⟩ := hrel
    by_cases hlt : k < n
    · have q0 : (k : Int) < (n : Int) := by omega
      have q1 : (0 : Int) ≤ (k : Int) := by omega
      obtain ⟨u, hu, hI⟩ := HCE.out k (by rw [HLN.out.1]; exact hlt)
      obtain ⟨row, hrow⟩ : ∃ row, next[k]'(by rw [HLN.out.1]; exact hlt) = row := ⟨_, rfl⟩
      rw [hrow] at hI
      have HRK : Hid (next.getD k [] = row) := by show next.getD k [] = row; rw [List.getD_eq_getElem?_getD, List.getElem?_eq_getElem (by rw [HLN.out.1]; exact hlt), hrow]; rfl
      obtain ⟨r0, r1, r2⟩ := HRR.out.row row (by rw [← hrow]; exact List.getElem_mem _)
      obtain ⟨Y, hY⟩ : ∃ Y, wr.alloc (.cells #[.int .i64 (k : Nat)] 3) = Y := ⟨_, rfl⟩
      have kY : Kept [] wr Y := by rw [← hY]; exact (Kept.refl [] wr).alloc _
      have s0 : Y.cell? ⟨wr.heap.size, 0, none⟩ = some (.int .i64 (k : Nat)) := by rw [← hY]; exact (cell_of (al0 wr _) 0).trans rfl
      have HS0 : Hid (∀ W, Kept [] Y W → W.cell? ⟨wr.heap.size, 0, none⟩ = some (.int .i64 (k : Nat))) := fun W k => cell_kept0 k s0
      obtain ⟨tb, htb⟩ : ∃ tb, row.any (otherB out k) = tb := ⟨_, rfl⟩
      have HCF : Hid (Calls Try.prog 68 #[u, .func (.func 67) #[] #[.pointer (some ⟨M, 0, none⟩), .pointer (some ⟨wr.heap.size, 0, none⟩)]] Y fun e w' => e = .returned (.bool tb) ∧ Hid (Kept [] Y w')) := by
        rw [← htb]
        exact containsO_any u row k M wr.heap.size ob oo oc out Y (hI.kept (keptB HK.out kY)) (by rw [HLN.out.2]; exact (HT.out.keptF kY (by simp)).cells.2.2) s0 (HO.out Y (keptB HK.out kY)) (fun x hx => by have := r2 x hx; rw [HLN.out.1] at this; rw [HLN.out.2]; exact this) (by rw [HLN.out.2]; exact hlt)
      have HLV : Hid (∀ W, Kept [] Y W → Calls Try.prog 66 #[.int .i64 (k : Nat), .pointer (some ⟨FB, 0, none⟩), .pointer (some ⟨LB, 0, none⟩)] W (LeaveEnd bs FB LB FR n k lv L W)) := fun W k' => leave_any bs FB LB FR n k lv fin L W (HF.out.kept (keptB kY k')) hlt
      have HTY : Hid (Thr 26 Y M pv (.slice (some ⟨nb, no, none⟩) n nc) (.slice (some ⟨ob, oo, none⟩) n oc)) := HT.out.keptF kY (by simp)
      have HFY : Hid (FinS Y bs FB LB FR n lv fin L) := HF.out.kept kY
      have HKY : Hid (Kept [] w Y) := keptB HK.out kY
      have d0 := cell_kept0 HK.out hu
      cases tb with
      | true =>
        have HL1 : Hid (Left1 next out (k + 1) (if k ∈ L then L else L ++ [k])) := HL.out.yes (by rw [HRK.out]; exact htb)
        clear hI hrow hu r2 kY s0 htb HF HL HK HT
        go_wp2_with (first
          | (go_at_call 68; refine HCF.out.mono ?_; rintro e W3 ⟨rfl, HK3⟩; have x3 := HS0.out W3 HK3.out)
          | (go_at_call 66; refine Calls.mono (HLV.out W3 HK3.out) ?_; rintro e W4 ⟨⟨v, rfl⟩, lv', fin', HF4, HK4, HG4⟩))
        refine ⟨⟨k + 1, by go_num, by omega, lv', fin', _, HF4, HL1, (HFY.out.kept HK3.out).old (keptB HKY.out HK3.out) HK4.out HBS.out.1, (HFY.out.kept HK3.out).oldT HK4.out HBS.out.2 (HTY.out.keptF HK3.out (by simp))⟩, ?_⟩
        simp [intOf]; omega
      | false =>
        have HL1 : Hid (Left1 next out (k + 1) L) := HL.out.no (by rw [HRK.out]; exact htb)
        clear hI hrow hu r2 kY s0 htb HF HL HK HT
        go_wp2_with (go_at_call 68; refine HCF.out.mono ?_; rintro e W3 ⟨rfl, HK3⟩)
        go_roundw
        case rel => exact ⟨k + 1, by go_num, by omega, _, _, _, HFY.out.kept HK3.out, HL1, keptB HKY.out HK3.out, HTY.out.keptF HK3.out (by simp)⟩
        case measure => simp [intOf]; omega
    · obtain rfl : k = n := by omega
      have q0 : ¬ ((k : Int) < (k : Int)) := by omega
      obtain ⟨t0, t1, t2⟩ := HT.out.cells
      have HBW : Hid (Calls Try.prog 69 #[.agg #[pv, .slice (some ⟨nb, no, none⟩) k nc, .slice (some ⟨ob, oo, none⟩) k oc]] wr fun e w' => ∃ B vs bk, e = .returned (.slice (some ⟨B, 0, none⟩) k k) ∧ Hid (RowsN w' wr.heap.size B k vs bk) ∧ Hid (BkTo next bk k 0) ∧ Hid (Kept [] wr w')) := HBK.out wr HK.out
      clear HBK HCE HO f0 f1 f2 HF2 HL0 HKW HTH
      go_wp2_with (go_at_call 69; refine HBW.out.mono ?_; rintro e Wb ⟨B, vs, bk, rfl, HR, HI, HKB⟩; clear t0 t1 t2)
      have HFb : Hid (FinS Wb bs FB LB FR k lv fin L) := HF.out.kept HKB.out
      have HL2 : Hid (Left2 next out bk 0 L) := Left2.first (by rw [HLN.out.1]; exact HL.out)
      have HKb : Hid (Kept [] w Wb) := keptB HK.out HKB.out
      have HOF : Hid (∀ x ∈ FL LB FR lv, x < wr.heap.size) := by
        show ∀ x ∈ FL LB FR lv, _
        intro x hx
        unfold FL at hx
        rcases List.mem_cons.1 hx with rfl | hx
        · exact lt_of HF.out.lbox
        · rcases List.mem_cons.1 hx with rfl | hx
          · exact lt_of HF.out.row
          · exact (HF.out.off (Option.mem_toList.1 hx)).2.2.2.2
      have HBW2 : Hid (wr.heap.size ≤ B) := HR.out.low
      obtain ⟨n, hnk⟩ : ∃ n, k = n := ⟨_, rfl⟩
      subst hnk
      clear HL HF HK HT HBW
      go_loopw [10] (fun v w2 => ∃ i : Nat, v = .int .i64 (i : Nat) ∧ ∃ lv2 fin2 L2, Hid (FinS w2 bs FB LB FR k lv2 fin2 L2) ∧ i ≤ L2.length ∧ Hid (Left2 next out bk i L2) ∧ Hid (Kept [] w w2) ∧ Hid (Kept (FL LB FR lv) Wb w2) ∧ Hid (∀ g, lv2.ownBlock = some g → lv.ownBlock = some g ∨ Wb.heap.size ≤ g)) (fun v _ => k - (intOf v).toNat)
      case atStart => exact ⟨0, rfl, lv, fin, L, HFb, Nat.zero_le _, HL2, HKb, Kept.refl _ _, fun g hg => .inl hg⟩
      case round =>
        rename World => w2
        obtain ⟨i, rfl, lv2, fin2, L2, HF, hi, HL, HK, HKX, HG⟩ := hrel
        obtain ⟨ad, c, hlv, hcells⟩ := HF.out.form
        subst hlv
        obtain ⟨g0, g1, g2⟩ := HF.out.cells
        have hL2k : L2.length ≤ k := by have := HF.out.count; omega
        obtain ⟨ln, hln⟩ : ∃ ln, L2.length = ln := ⟨_, rfl⟩
        have HLN2 : Hid (L2.length = ln) := hln
        rw [hln] at g1 hcells hi hL2k
        by_cases hil : i < ln
        · obtain ⟨g, rfl, hc⟩ := hcells i hil
          have hx? : L2[i]? = some (L2.getD i 0) := by rw [List.getD_eq_getElem?_getD, List.getElem?_eq_getElem (by omega)]; rfl
          obtain ⟨x, hx⟩ : ∃ x, L2.getD i 0 = x := ⟨_, rfl⟩
          rw [hx] at hc hx?
          have hxk : x < k := HF.out.lt x (List.mem_of_getElem? hx?)
          obtain ⟨ad2, c2, xs, hbx, hrow⟩ := HR.out.later hxk HOF.out
          have HROW : Hid (∀ W, Kept (FL LB FR lv) Wb W → W.cell? ⟨B, x, none⟩ = some (.slice ad2 xs.length c2) ∧ ∀ q, q < xs.length → ∃ g, ad2 = some ⟨g, 0, none⟩ ∧ W.cell? ⟨g, q, none⟩ = some (.int .i64 (xs.getD q 0 : Nat))) := hrow
          have d5 := (hrow w2 HKX.out).1
          obtain ⟨xl, hxl⟩ : ∃ xl, xs.length = xl := ⟨_, rfl⟩
          rw [hxl] at d5 HROW
          have HXL : Hid (xs.length = xl) := hxl
          have HBX : Hid (bk.getD x [] = xs) := hbx
          have HX : Hid (L2[i]? = some x) := hx?
          have hxb : xl ≤ 300000000 := by have := HI.out.len x; rw [hbx, hxl] at this; omega
          have m0 : (0 : Int) ≤ (i : Int) := by omega
          have m1 : (i : Int) < (ln : Int) := by omega
          have m2 : (0 : Int) ≤ (x : Int) := by omega
          have m3 : (x : Int) < (k : Int) := by omega
          have HFR : Hid (∀ q, q < xl → xs.getD q 0 < k ∧ xs.getD q 0 ∈ bk.getD x []) := by
            show ∀ q, q < xl → _
            intro q hq
            have hin : xs.getD q 0 ∈ bk.getD x [] := by rw [hbx, List.getD_eq_getElem?_getD, List.getElem?_eq_getElem (by omega)]; exact List.getElem_mem _
            refine ⟨?_, hin⟩
            rcases (HI.out.iff x _ (by rw [HLN.out.1]; exact hxk)).1 hin with q1 | q1
            · exact q1.1
            · have := q1.2; simp at this
          have HXK : Hid (x < next.length) := by show x < _; rw [HLN.out.1]; exact hxk
          have HIK : Hid (i < k) := by show i < k; omega
          clear hx? hx hbx hrow hxl hcells hln
          go_wp2_with fail
          clear g0 g1 g2 hc d5
          go_loopw [51] (fun v w3 => ∃ q : Nat, v = .int .i64 (q : Nat) ∧ q ≤ xl ∧ ∃ lv3 fin3 L3, Hid (FinS w3 bs FB LB FR k lv3 fin3 L3) ∧ Hid (L3[i]? = some x) ∧ Hid (Left2 next out bk i L3) ∧ Hid (∀ fr ∈ xs.take q, fr ∈ L3) ∧ Hid (Kept [] w w3) ∧ Hid (Kept (FL LB FR lv) Wb w3) ∧ Hid (∀ g, lv3.ownBlock = some g → lv.ownBlock = some g ∨ Wb.heap.size ≤ g)) (fun v _ => xl - (intOf v).toNat)
          case atStart => exact ⟨0, rfl, Nat.zero_le _, _, fin2, L2, HF, HX, HL, (fun fr hfr => by simp at hfr : ∀ fr ∈ xs.take 0, fr ∈ L2), HK, HKX, HG⟩
          case round =>
            rename World => w3
            obtain ⟨q, rfl, hq, lv3, fin3, L3, HF3, HX3, HL3, HQ3, HK3, HKX3, HG3⟩ := hrel
            by_cases hql : q < xl
            · have p0 : (q : Int) < (xl : Int) := by omega
              have p1 : (0 : Int) ≤ (q : Int) := by omega
              obtain ⟨g7, rfl, d7⟩ := (HROW.out w3 HKX3.out).2 q hql
              obtain ⟨fr, hfr⟩ : ∃ fr, xs.getD q 0 = fr := ⟨_, rfl⟩
              obtain ⟨f7, f8⟩ := HFR.out q hql
              rw [hfr] at d7 f7 f8
              have HFE : Hid (xs.getD q 0 = fr) := hfr
              have HLV : Hid (Calls Try.prog 66 #[.int .i64 (fr : Nat), .pointer (some ⟨FB, 0, none⟩), .pointer (some ⟨LB, 0, none⟩)] w3 (LeaveEnd bs FB LB FR k fr lv3 L3 w3)) := leave_any bs FB LB FR k fr lv3 fin3 L3 w3 HF3.out f7
              have HLN4 : Hid (Left2 next out bk i (if fr ∈ L3 then L3 else L3 ++ [fr])) := HL3.out.leave (by rw [HLN.out.1]; exact HI.out) HX3.out HXK.out f8
              have HQ4 : Hid (∀ f ∈ xs.take (q + 1), f ∈ (if fr ∈ L3 then L3 else L3 ++ [fr])) := by
                show ∀ f ∈ xs.take (q + 1), _
                intro f hf
                have hqx : q < xs.length := by have := HXL.out; omega
                rw [List.take_add_one, List.getElem?_eq_getElem hqx] at hf
                rcases List.mem_append.1 hf with hf | hf
                · exact grow_mem (HQ3.out f hf)
                · have e : xs[q]'hqx = fr := by rw [← HFE.out, List.getD_eq_getElem?_getD, List.getElem?_eq_getElem hqx]; rfl
                  rw [e] at hf
                  have : f = fr := by simpa using hf
                  rw [this]; exact grow_self
              clear hfr f8
              go_wp2_with (go_at_call 66; refine Calls.mono HLV.out ?_; rintro e W4 ⟨⟨v, rfl⟩, lv4, fin4, HF4, HK4, HG4⟩)
              refine ⟨⟨q + 1, by go_num, by omega, lv4, fin4, _, HF4, grow_at HX3.out, HLN4, HQ4, HF3.out.old HK3.out HK4.out HBS.out.1, FL.trans HKX3.out HK4.out rfl HG3.out, (fun g hg => by
                rcases HG4.out g hg with q | q
                · exact HG3.out g q
                · exact .inr (by have := HKX3.out.size; omega) : ∀ g, lv4.ownBlock = some g → lv.ownBlock = some g ∨ Wb.heap.size ≤ g)⟩, ?_⟩
              simp [intOf]; omega
            · obtain rfl : q = xl := by omega
              have p0 : ¬ ((q : Int) < (q : Int)) := by omega
              have HNX : Hid (Left2 next out bk (i + 1) L3) := HL3.out.next HX3.out (by rw [HBX.out]; have := HQ3.out; rwa [List.take_of_length_le (Nat.le_of_eq HXL.out)] at this)
              have HIL : Hid (i + 1 ≤ L3.length) := (List.getElem?_eq_some_iff.1 HX3.out).1
              go_wp2
              exact ⟨⟨i + 1, by go_num, lv3, fin3, L3, HF3, HIL.out, HNX, HK3, HKX3, HG3⟩, by have := HIK.out; simp [intOf]; omega⟩
        · obtain rfl : i = ln := by omega
          have m1 : ¬ ((i : Int) < (i : Int)) := by omega
          have HFO : Hid (FinOf next out fin2) := by
            refine ⟨by rw [HF.out.len, HLN.out.1], fun s hs => ?_⟩
            have hd := HL.out
            rw [← hln] at hd
            rw [HF.out.is s (by rw [← HLN.out.1]; exact hs), ← hd.done (by rw [HLN.out.1]; exact HI.out) HRR.out s hs]
            simp
          have HLF : Hid (M ≤ FR) := by show M ≤ FR; have := HF.out.low.2; have := HBS.out.2; omega
          have HRW : Hid _ := HF.out.row
          go_wp2
          go_ret
          exact ⟨FR, rfl, fin2, HRW, HFO, HLF, HK⟩
end Go.Proofs.Ytbbfajbnklgncaa
