/- runner.tableOf of any machine that is right. -/
import Derived.Test.YtbbfajbnklgncaaHJ
import Derived.Deep.RegionHeld3
namespace Go.Proofs.Ytbbfajbnklgncaa
open Go.RowKit Go.Shelf Go.Maps

theorem drew_heapR (w : World) : w.drew.heap = w.heap := rfl
theorem own_formR {W : World} {base : Nat} {e : TypeId} {size : Nat} {v : Value} {n : Nat} {xs : List Value} (h : W.ownsRow base e size v n xs) : ∃ ad c, v = .slice ad n c := by
  rcases h.2 with ⟨rfl, h0⟩ | ⟨g, cap, cur, rfl, _⟩
  · exact ⟨none, 0, by rw [h0]⟩
  · exact ⟨_, cap, rfl⟩
/-- What tableOf leaves. -/
def TabEnd (ps : List ByteArray) (next : List (List Int)) (fl : List Int) (out : List Nat) (w : World) (e : Ending) (w' : World) : Prop :=
  ∃ T N MB FR nxv outv D fin, e = .returned (.pointer (some ⟨T, 0, none⟩)) ∧ Hid (TabI w' w.heap.size N T MB FR ps.length nxv outv D ps fl out fin) ∧ Hid (FinOf next out fin) ∧ Hid (N ≤ w'.heap.size) ∧ Hid (Kept [] w w')
set_option maxHeartbeats 8000000 in
set_option maxRecDepth 20000 in
theorem tableOf_any (pv nv ov : Value) (ps : List ByteArray) (next : List (List Int)) (fl : List Int) (out : List Nat) (w : World) (hp : Strs w pv ps) (hn : Rowss w nv next) (ho : Vds w ov out) (hr : RightR next) (hlo : out.length = next.length) (h8 : ps.length ≤ 8) (hfl : next.flatten = fl) :
    Calls Try.prog 29 #[.agg #[pv, nv, ov]] w (TabEnd ps next fl out w) := by
  unfold TabEnd
  obtain ⟨n, hln⟩ : ∃ n, next.length = n := ⟨_, rfl⟩
  have hfew : n ≤ 1000000 := by rw [← hln]; exact hr.few
  have hpos : 0 < n := by rw [← hln]; exact hr.pos
  have hmm := @run_makeMap Try.prog
  obtain ⟨pa, pc, rfl, _, _⟩ := hp.form
  obtain ⟨na, nc, rfl, _, _⟩ := hn.form13
  obtain ⟨ob, oo, oc, rfl, hout⟩ := ho.there (by rw [hlo, hln]; exact hpos)
  obtain ⟨V, hV⟩ : ∃ V, w.alloc (.cells #[.slice pa ps.length pc, .slice na next.length nc, .slice (some ⟨ob, oo, none⟩) out.length oc] 26) = V := ⟨_, rfl⟩
  have kV : Kept [] w V := by rw [← hV]; exact (Kept.refl [] w).alloc _
  have hB : Thr 26 V w.heap.size (.slice pa ps.length pc) (.slice na next.length nc) (.slice (some ⟨ob, oo, none⟩) out.length oc) := by rw [← hV]; exact al0 _ _
  have HC : Hid (∀ W, Kept [] V W → W.cell? ⟨w.heap.size, 0, none⟩ = some (.slice pa ps.length pc) ∧ W.cell? ⟨w.heap.size, 1, none⟩ = some (.slice na next.length nc) ∧ W.cell? ⟨w.heap.size, 2, none⟩ = some (.slice (some ⟨ob, oo, none⟩) out.length oc)) := fun W k => (hB.keptF k (by simp)).cells
  have HCC : Hid (∀ W, Kept [] V W → Calls Try.prog 52 #[.slice na next.length nc] W fun e w' => ∃ v', e = .returned v' ∧ Hid (w'.ownsRow W.heap.size 3 1 v' fl.length (numsI fl)) ∧ Hid (Kept [] W w')) := fun W k => concatI_any _ next fl W (hn.kept (keptB kV k)) hr hfl
  have HCL : Hid (∀ W, Kept [] V W → Calls Try.prog 53 #[.slice (some ⟨ob, oo, none⟩) out.length oc] W fun e w' => ∃ v', e = .returned v' ∧ Hid (w'.ownsRow W.heap.size 60 1 v' out.length (vdC out)) ∧ Hid (Kept [] W w')) := fun W k => cloneV_any out ob oo oc W (hout.kept (keptB kV k)) (by rw [hlo, hln]; exact hfew)
  have HFO : Hid (∀ W, Kept [] V W → Calls Try.prog 54 #[.agg #[.slice pa ps.length pc, .slice na next.length nc, .slice (some ⟨ob, oo, none⟩) out.length oc]] W fun e w' => ∃ FR fin, e = .returned (.slice (some ⟨FR, 0, none⟩) next.length next.length) ∧ Hid (w'.heap[FR]? = some (.cells (fin.map Value.bool).toArray 4 (0, 0))) ∧ Hid (FinOf next out fin) ∧ Hid (W.heap.size ≤ FR) ∧ Hid (Kept [] W w')) := fun W k => finalOf_any _ _ _ next out W (hn.kept (keptB kV k)) (ho.kept (keptB kV k)) hr hlo
  obtain ⟨c0, c1, c2⟩ := HC.out V (Kept.refl [] V)
  have HVV : Hid (_ = V) := hV
  have HKV : Hid (Kept [] w V) := kV
  have HPS : Hid (∀ W, Kept [] w W → Strs W (.slice pa ps.length pc) ps) := fun W k => hp.kept k
  have HLN : Hid (next.length = n) := hln
  have HP8 : Hid (ps.length ≤ 8) := h8
  clear hp hn ho hr hlo hfl hout hV kV hB hln
  go_enter Try.func29, Try.ntmps29
  go_upto_region 1 with fail
  rw [HVV.out]
  clear HVV
  go_region_held3 (fun w' => w'.cell? ⟨w.heap.size, 0, none⟩ = some (.slice pa ps.length pc) ∧ w'.cell? ⟨w.heap.size, 1, none⟩ = some (.slice na next.length nc) ∧ w'.cell? ⟨w.heap.size, 2, none⟩ = some (.slice (some ⟨ob, oo, none⟩) out.length oc))
    ((refine HC.out _ ?_; (repeat (first | exact Kept.refl [] _ | refine Kept.drew ?_ | refine Kept.alloc ?_ _ | refine Kept.trans (F := []) (G := []) (H := []) ?_ HKS.out (by simp) (by simp) | refine Kept.trans (F := []) (G := []) (H := []) ?_ HKA.out (by simp) (by simp) | refine Kept.trans (F := []) (G := []) (H := []) ?_ HKB.out (by simp) (by simp)))))
    (first
    | (go_at_call 52; refine (HCC.out _ (by repeat (first | exact Kept.refl [] _ | refine Kept.drew ?_ | refine Kept.alloc ?_ _))).mono ?_; rintro e WS ⟨nxv, rfl, HNX, HKS⟩; obtain ⟨xad, xc, rfl⟩ := own_formR HNX.out)
    | (go_at_call 53; refine (HCL.out _ (by repeat (first | exact Kept.refl [] _ | refine Kept.drew ?_ | refine Kept.alloc ?_ _ | refine Kept.trans (F := []) (G := []) (H := []) ?_ HKS.out (by simp) (by simp)))).mono ?_; rintro e WA ⟨outv, rfl, HOU, HKA⟩; obtain ⟨yad, yc, rfl⟩ := own_formR HOU.out)
    | (go_at_call 54; refine (HFO.out _ (by repeat (first | exact Kept.refl [] _ | refine Kept.drew ?_ | refine Kept.alloc ?_ _ | refine Kept.trans (F := []) (G := []) (H := []) ?_ HKS.out (by simp) (by simp) | refine Kept.trans (F := []) (G := []) (H := []) ?_ HKA.out (by simp) (by simp)))).mono ?_; rintro e WB ⟨FR, fin, rfl, HFI, HFN, HFL, HKB⟩))
  · have HS : Hid (FinOf next out fin) := HFN
    have jv : Kept [] V WS := keptB (by first | exact (Kept.refl [] V).drew | exact ((Kept.refl [] V).drew).alloc _) HKS.out
    have j1 : Kept [] w WS := keptB HKV.out jv
    have j2 : Kept [] WS WA := keptB (by first | exact Kept.refl [] WS | exact (Kept.refl [] WS).alloc _) HKA.out
    have j3 : Kept [] WA WB := keptB (by first | exact Kept.refl [] WA | exact (Kept.refl [] WA).alloc _) HKB.out
    have s0 := HKV.out.size
    have s1 := j1.size
    have s2 := j2.size
    have s3 := j3.size
    have hx1 := own_low (b' := w.heap.size) HNX.out (by first | omega | (simp only [World.size_alloc]; omega) | (simp only [drew_heapR]; omega) | (simp only [drew_heapR, World.size_alloc]; omega))
    have hx2 := own_low (b' := w.heap.size) HOU.out (by first | omega | (simp only [World.size_alloc]; omega) | (simp only [drew_heapR]; omega) | (simp only [drew_heapR, World.size_alloc]; omega))
    have hfr : w.heap.size ≤ FR := by have := HFL.out; first | omega | (simp only [World.size_alloc] at this; omega)
    have jx : Kept [] WB (WB) := by first | exact Kept.refl [] _ | exact (Kept.refl [] WB).alloc _
    obtain ⟨W0, hW0, hka, hk0, hsz0, hT⟩ := tabI_of (w := w) (w1 := WB) (ps := ps) (m := V.heap.size) (P := WB.heap.size) HFN.out.len (by first | rfl | exact World.size_alloc _ _) (bx_kept (bx_kept (bx_kept hx1 j2 (by simp)) j3 (by simp)) jx (by simp)) (bx_kept (bx_kept hx2 j3 (by simp)) jx (by simp)) (jx.at HFI.out (by simp)) hfr
      (by repeat (first | exact World.ownsMap_made _ _ _ _ | refine World.ownsMap.kept ?_ (grownBy_of_kept HKB.out) (by simp) | refine World.ownsMap.kept ?_ (grownBy_of_kept HKA.out) (by simp) | refine World.ownsMap.kept ?_ (grownBy_of_kept HKS.out) (by simp))) (keptB (keptB (keptB j1 j2) j3) jx) (by omega)
    have HT0 : Hid (TabI W0 w.heap.size (WB.heap.size + 1) WB.heap.size V.heap.size FR 0 (.slice xad fl.length xc) (.slice yad out.length yc) (.map []) ps fl out fin) := hT
    have HK0 : Hid (Kept [] w W0) := hk0
    have HKV0 : Hid (Kept [] V W0) := keptB (keptB (keptB (keptB jv j2) j3) jx) hka
    have HSZ0 : Hid (WB.heap.size + 1 ≤ W0.heap.size) := hsz0
    rw [hW0]
    obtain ⟨P, hP⟩ : ∃ P, WB.heap.size = P := ⟨_, rfl⟩
    obtain ⟨m, hm⟩ : ∃ m, V.heap.size = m := ⟨_, rfl⟩
    first | rw [hP] at HT0 HSZ0 ⊢ | skip
    first | rw [hm] at HT0 ⊢ | skip
    have c0' := (HC.out W0 HKV0.out).1
    clear HC HCC HCL HFO c0 c1 c2 HKV HNX HOU HFI HFN HFL HKS HKA HKB jv j1 j2 j3 jx s0 s1 s2 s3 hx1 hx2 hfr hka hk0 hsz0 hT hP hm hW0 HKV0
    clear hmm
    go_wp2_with fail
    clear c0'
    go_loopw [23] (fun v wr => ∃ k : Nat, v = .int .i64 (k : Nat) ∧ k ≤ ps.length ∧ ∃ D, Hid (TabI wr w.heap.size (P + 1) P m FR k (.slice xad fl.length xc) (.slice yad out.length yc) D ps fl out fin) ∧ Hid (Kept [] w wr) ∧ Hid (P + 1 ≤ wr.heap.size)) (fun v _ => ps.length - (intOf v).toNat)
    case atStart => exact ⟨0, rfl, Nat.zero_le _, _, HT0, HK0, HSZ0⟩
    case round =>
      obtain ⟨k, rfl, hk, D, HT, HK, HSZ⟩ := hrel
      by_cases hlt : k < ps.length
      · have q0 : (k : Int) < (ps.length : Int) := by omega
        have q1 : (0 : Int) ≤ (k : Int) := by omega
        rcases (HPS.out wr HK.out).lie with ⟨_, he⟩ | ⟨b, o, c, hpe, _, _, hcell⟩
        · rw [he] at hlt; simp at hlt
        · cases hpe
          have d0 := hcell k hlt
          obtain ⟨x, hx⟩ : ∃ x, ps[k] = x := ⟨_, rfl⟩
          rw [hx] at d0
          have hxs : x.size ≤ maxLen := by rw [← hx]; exact (HPS.out wr HK.out).small _ (List.getElem_mem _)
          have hxd : ps.getD k ⟨#[]⟩ = x := by rw [List.getD_eq_getElem?_getD, List.getElem?_eq_getElem hlt, hx]; rfl
          have t0 : wr.cell? ⟨P, 0, none⟩ = some (.map (some m)) := (cell_of HT.out.box 0).trans rfl
          have hpw : (2 : Nat) ^ k ≤ 128 := Nat.pow_le_pow_right (n := 2) (i := k) (j := 7) (by omega) (by omega)
          have e16 : IntKind.u16.wrap ((2 : Int) ^ k) = ((2 ^ k : Nat) : Int) := by
            rw [show ((2 : Int) ^ k) = ((2 ^ k : Nat) : Int) by norm_cast]
            generalize (2 ^ k : Nat) = t at hpw ⊢
            rw [IntKind.wrap_u16]; omega
          have hwf : (Lit.int .u16 ((2 ^ k : Nat) : Int)).wf = true := by
            generalize (2 ^ k : Nat) = t at hpw ⊢
            exact WalkArith.wf_u16 (by omega)
          obtain ⟨W5, hup, hm5, hg5⟩ := World.ownsMap.update (w := wr.drew) (t := 89) (e := 55) (HT.out.kept ((Kept.refl [] wr).drew)).map lawStrR Try.underlying89 (by unfold maxLen; omega) (key := .string x) (val := .int .u16 ((2 ^ k : Nat) : Int)) (WideMaps.keyOf_string_mk Try.underlying9 hxs) (plainElem_int Try.underlying55 hwf)
          have HT5 : Hid (TabI W5 w.heap.size (P + 1) P m FR (k + 1) (.slice xad fl.length xc) (.slice yad out.length yc) _ ps fl out fin) := (HT.out.kept ((Kept.refl [] wr).drew)).put hxd hm5 hg5
          have HK5 : Hid (Kept [] w W5) := (HK.out.drew).grown hg5 (fun q e => by cases e; exact .inr HT.out.low.2.1)
          have HSZ5 : Hid (P + 1 ≤ W5.heap.size) := Nat.le_trans HSZ.out hg5.size
          rw [show ((2 ^ k : Nat) : Int) = ((2 : Int) ^ k) by norm_cast] at hup e16
          clear hcell hx hxs hxd hm5 hg5 HT HSZ hwf hpw
          go_wp2_with fail
          go_region
          all_goals go_wp2
          go_roundw
          case rel => exact ⟨k + 1, by go_num, by omega, _, HT5, HK5, HSZ5⟩
          case measure => simp [intOf]; omega
      · obtain rfl : k = ps.length := by omega
        have q0 : ¬ ((ps.length : Int) < (ps.length : Int)) := by omega
        go_wp2
        go_ret
        exact ⟨P, rfl, P + 1, m, FR, _, _, D, fin, HT, HS, HSZ, HK⟩
  · have HS : Hid (FinOf next out fin) := HFN
    have jv : Kept [] V WS := keptB (by first | exact (Kept.refl [] V).drew | exact ((Kept.refl [] V).drew).alloc _) HKS.out
    have j1 : Kept [] w WS := keptB HKV.out jv
    have j2 : Kept [] WS WA := keptB (by first | exact Kept.refl [] WS | exact (Kept.refl [] WS).alloc _) HKA.out
    have j3 : Kept [] WA WB := keptB (by first | exact Kept.refl [] WA | exact (Kept.refl [] WA).alloc _) HKB.out
    have s0 := HKV.out.size
    have s1 := j1.size
    have s2 := j2.size
    have s3 := j3.size
    have hx1 := own_low (b' := w.heap.size) HNX.out (by first | omega | (simp only [World.size_alloc]; omega) | (simp only [drew_heapR]; omega) | (simp only [drew_heapR, World.size_alloc]; omega))
    have hx2 := own_low (b' := w.heap.size) HOU.out (by first | omega | (simp only [World.size_alloc]; omega) | (simp only [drew_heapR]; omega) | (simp only [drew_heapR, World.size_alloc]; omega))
    have hfr : w.heap.size ≤ FR := by have := HFL.out; first | omega | (simp only [World.size_alloc] at this; omega)
    have jx : Kept [] WB (WB) := by first | exact Kept.refl [] _ | exact (Kept.refl [] WB).alloc _
    obtain ⟨W0, hW0, hka, hk0, hsz0, hT⟩ := tabI_of (w := w) (w1 := WB) (ps := ps) (m := WS.heap.size) (P := WB.heap.size) HFN.out.len (by first | rfl | exact World.size_alloc _ _) (bx_kept (bx_kept (bx_kept hx1 j2 (by simp)) j3 (by simp)) jx (by simp)) (bx_kept (bx_kept hx2 j3 (by simp)) jx (by simp)) (jx.at HFI.out (by simp)) hfr
      (by repeat (first | exact World.ownsMap_made _ _ _ _ | refine World.ownsMap.kept ?_ (grownBy_of_kept HKB.out) (by simp) | refine World.ownsMap.kept ?_ (grownBy_of_kept HKA.out) (by simp) | refine World.ownsMap.kept ?_ (grownBy_of_kept HKS.out) (by simp))) (keptB (keptB (keptB j1 j2) j3) jx) (by omega)
    have HT0 : Hid (TabI W0 w.heap.size (WB.heap.size + 1) WB.heap.size WS.heap.size FR 0 (.slice xad fl.length xc) (.slice yad out.length yc) (.map []) ps fl out fin) := hT
    have HK0 : Hid (Kept [] w W0) := hk0
    have HKV0 : Hid (Kept [] V W0) := keptB (keptB (keptB (keptB jv j2) j3) jx) hka
    have HSZ0 : Hid (WB.heap.size + 1 ≤ W0.heap.size) := hsz0
    rw [hW0]
    obtain ⟨P, hP⟩ : ∃ P, WB.heap.size = P := ⟨_, rfl⟩
    obtain ⟨m, hm⟩ : ∃ m, WS.heap.size = m := ⟨_, rfl⟩
    first | rw [hP] at HT0 HSZ0 ⊢ | skip
    first | rw [hm] at HT0 ⊢ | skip
    have c0' := (HC.out W0 HKV0.out).1
    clear HC HCC HCL HFO c0 c1 c2 HKV HNX HOU HFI HFN HFL HKS HKA HKB jv j1 j2 j3 jx s0 s1 s2 s3 hx1 hx2 hfr hka hk0 hsz0 hT hP hm hW0 HKV0
    clear hmm
    go_wp2_with fail
    clear c0'
    go_loopw [23] (fun v wr => ∃ k : Nat, v = .int .i64 (k : Nat) ∧ k ≤ ps.length ∧ ∃ D, Hid (TabI wr w.heap.size (P + 1) P m FR k (.slice xad fl.length xc) (.slice yad out.length yc) D ps fl out fin) ∧ Hid (Kept [] w wr) ∧ Hid (P + 1 ≤ wr.heap.size)) (fun v _ => ps.length - (intOf v).toNat)
    case atStart => exact ⟨0, rfl, Nat.zero_le _, _, HT0, HK0, HSZ0⟩
    case round =>
      obtain ⟨k, rfl, hk, D, HT, HK, HSZ⟩ := hrel
      by_cases hlt : k < ps.length
      · have q0 : (k : Int) < (ps.length : Int) := by omega
        have q1 : (0 : Int) ≤ (k : Int) := by omega
        rcases (HPS.out wr HK.out).lie with ⟨_, he⟩ | ⟨b, o, c, hpe, _, _, hcell⟩
        · rw [he] at hlt; simp at hlt
        · cases hpe
          have d0 := hcell k hlt
          obtain ⟨x, hx⟩ : ∃ x, ps[k] = x := ⟨_, rfl⟩
          rw [hx] at d0
          have hxs : x.size ≤ maxLen := by rw [← hx]; exact (HPS.out wr HK.out).small _ (List.getElem_mem _)
          have hxd : ps.getD k ⟨#[]⟩ = x := by rw [List.getD_eq_getElem?_getD, List.getElem?_eq_getElem hlt, hx]; rfl
          have t0 : wr.cell? ⟨P, 0, none⟩ = some (.map (some m)) := (cell_of HT.out.box 0).trans rfl
          have hpw : (2 : Nat) ^ k ≤ 128 := Nat.pow_le_pow_right (n := 2) (i := k) (j := 7) (by omega) (by omega)
          have e16 : IntKind.u16.wrap ((2 : Int) ^ k) = ((2 ^ k : Nat) : Int) := by
            rw [show ((2 : Int) ^ k) = ((2 ^ k : Nat) : Int) by norm_cast]
            generalize (2 ^ k : Nat) = t at hpw ⊢
            rw [IntKind.wrap_u16]; omega
          have hwf : (Lit.int .u16 ((2 ^ k : Nat) : Int)).wf = true := by
            generalize (2 ^ k : Nat) = t at hpw ⊢
            exact WalkArith.wf_u16 (by omega)
          obtain ⟨W5, hup, hm5, hg5⟩ := World.ownsMap.update (w := wr.drew) (t := 89) (e := 55) (HT.out.kept ((Kept.refl [] wr).drew)).map lawStrR Try.underlying89 (by unfold maxLen; omega) (key := .string x) (val := .int .u16 ((2 ^ k : Nat) : Int)) (WideMaps.keyOf_string_mk Try.underlying9 hxs) (plainElem_int Try.underlying55 hwf)
          have HT5 : Hid (TabI W5 w.heap.size (P + 1) P m FR (k + 1) (.slice xad fl.length xc) (.slice yad out.length yc) _ ps fl out fin) := (HT.out.kept ((Kept.refl [] wr).drew)).put hxd hm5 hg5
          have HK5 : Hid (Kept [] w W5) := (HK.out.drew).grown hg5 (fun q e => by cases e; exact .inr HT.out.low.2.1)
          have HSZ5 : Hid (P + 1 ≤ W5.heap.size) := Nat.le_trans HSZ.out hg5.size
          rw [show ((2 ^ k : Nat) : Int) = ((2 : Int) ^ k) by norm_cast] at hup e16
          clear hcell hx hxs hxd hm5 hg5 HT HSZ hwf hpw
          go_wp2_with fail
          go_region
          all_goals go_wp2
          go_roundw
          case rel => exact ⟨k + 1, by go_num, by omega, _, HT5, HK5, HSZ5⟩
          case measure => simp [intOf]; omega
      · obtain rfl : k = ps.length := by omega
        have q0 : ¬ ((ps.length : Int) < (ps.length : Int)) := by omega
        go_wp2
        go_ret
        exact ⟨P, rfl, P + 1, m, FR, _, _, D, fin, HT, HS, HSZ, HK⟩
  · have HS : Hid (FinOf next out fin) := HFN
    have jv : Kept [] V WS := keptB (by first | exact (Kept.refl [] V).drew | exact ((Kept.refl [] V).drew).alloc _) HKS.out
    have j1 : Kept [] w WS := keptB HKV.out jv
    have j2 : Kept [] WS WA := keptB (by first | exact Kept.refl [] WS | exact (Kept.refl [] WS).alloc _) HKA.out
    have j3 : Kept [] WA WB := keptB (by first | exact Kept.refl [] WA | exact (Kept.refl [] WA).alloc _) HKB.out
    have s0 := HKV.out.size
    have s1 := j1.size
    have s2 := j2.size
    have s3 := j3.size
    have hx1 := own_low (b' := w.heap.size) HNX.out (by first | omega | (simp only [World.size_alloc]; omega) | (simp only [drew_heapR]; omega) | (simp only [drew_heapR, World.size_alloc]; omega))
    have hx2 := own_low (b' := w.heap.size) HOU.out (by first | omega | (simp only [World.size_alloc]; omega) | (simp only [drew_heapR]; omega) | (simp only [drew_heapR, World.size_alloc]; omega))
    have hfr : w.heap.size ≤ FR := by have := HFL.out; first | omega | (simp only [World.size_alloc] at this; omega)
    have jx : Kept [] WB (WB) := by first | exact Kept.refl [] _ | exact (Kept.refl [] WB).alloc _
    obtain ⟨W0, hW0, hka, hk0, hsz0, hT⟩ := tabI_of (w := w) (w1 := WB) (ps := ps) (m := WA.heap.size) (P := WB.heap.size) HFN.out.len (by first | rfl | exact World.size_alloc _ _) (bx_kept (bx_kept (bx_kept hx1 j2 (by simp)) j3 (by simp)) jx (by simp)) (bx_kept (bx_kept hx2 j3 (by simp)) jx (by simp)) (jx.at HFI.out (by simp)) hfr
      (by repeat (first | exact World.ownsMap_made _ _ _ _ | refine World.ownsMap.kept ?_ (grownBy_of_kept HKB.out) (by simp) | refine World.ownsMap.kept ?_ (grownBy_of_kept HKA.out) (by simp) | refine World.ownsMap.kept ?_ (grownBy_of_kept HKS.out) (by simp))) (keptB (keptB (keptB j1 j2) j3) jx) (by omega)
    have HT0 : Hid (TabI W0 w.heap.size (WB.heap.size + 1) WB.heap.size WA.heap.size FR 0 (.slice xad fl.length xc) (.slice yad out.length yc) (.map []) ps fl out fin) := hT
    have HK0 : Hid (Kept [] w W0) := hk0
    have HKV0 : Hid (Kept [] V W0) := keptB (keptB (keptB (keptB jv j2) j3) jx) hka
    have HSZ0 : Hid (WB.heap.size + 1 ≤ W0.heap.size) := hsz0
    rw [hW0]
    obtain ⟨P, hP⟩ : ∃ P, WB.heap.size = P := ⟨_, rfl⟩
    obtain ⟨m, hm⟩ : ∃ m, WA.heap.size = m := ⟨_, rfl⟩
    first | rw [hP] at HT0 HSZ0 ⊢ | skip
    first | rw [hm] at HT0 ⊢ | skip
    have c0' := (HC.out W0 HKV0.out).1
    clear HC HCC HCL HFO c0 c1 c2 HKV HNX HOU HFI HFN HFL HKS HKA HKB jv j1 j2 j3 jx s0 s1 s2 s3 hx1 hx2 hfr hka hk0 hsz0 hT hP hm hW0 HKV0
    clear hmm
    go_wp2_with fail
    clear c0'
    go_loopw [23] (fun v wr => ∃ k : Nat, v = .int .i64 (k : Nat) ∧ k ≤ ps.length ∧ ∃ D, Hid (TabI wr w.heap.size (P + 1) P m FR k (.slice xad fl.length xc) (.slice yad out.length yc) D ps fl out fin) ∧ Hid (Kept [] w wr) ∧ Hid (P + 1 ≤ wr.heap.size)) (fun v _ => ps.length - (intOf v).toNat)
    case atStart => exact ⟨0, rfl, Nat.zero_le _, _, HT0, HK0, HSZ0⟩
    case round =>
      obtain ⟨k, rfl, hk, D, HT, HK, HSZ⟩ := hrel
      by_cases hlt : k < ps.length
      · have q0 : (k : Int) < (ps.length : Int) := by omega
        have q1 : (0 : Int) ≤ (k : Int) := by omega
        rcases (HPS.out wr HK.out).lie with ⟨_, he⟩ | ⟨b, o, c, hpe, _, _, hcell⟩
        · rw [he] at hlt; simp at hlt
        · cases hpe
          have d0 := hcell k hlt
          obtain ⟨x, hx⟩ : ∃ x, ps[k] = x := ⟨_, rfl⟩
          rw [hx] at d0
          have hxs : x.size ≤ maxLen := by rw [← hx]; exact (HPS.out wr HK.out).small _ (List.getElem_mem _)
          have hxd : ps.getD k ⟨#[]⟩ = x := by rw [List.getD_eq_getElem?_getD, List.getElem?_eq_getElem hlt, hx]; rfl
          have t0 : wr.cell? ⟨P, 0, none⟩ = some (.map (some m)) := (cell_of HT.out.box 0).trans rfl
          have hpw : (2 : Nat) ^ k ≤ 128 := Nat.pow_le_pow_right (n := 2) (i := k) (j := 7) (by omega) (by omega)
          have e16 : IntKind.u16.wrap ((2 : Int) ^ k) = ((2 ^ k : Nat) : Int) := by
            rw [show ((2 : Int) ^ k) = ((2 ^ k : Nat) : Int) by norm_cast]
            generalize (2 ^ k : Nat) = t at hpw ⊢
            rw [IntKind.wrap_u16]; omega
          have hwf : (Lit.int .u16 ((2 ^ k : Nat) : Int)).wf = true := by
            generalize (2 ^ k : Nat) = t at hpw ⊢
            exact WalkArith.wf_u16 (by omega)
          obtain ⟨W5, hup, hm5, hg5⟩ := World.ownsMap.update (w := wr.drew) (t := 89) (e := 55) (HT.out.kept ((Kept.refl [] wr).drew)).map lawStrR Try.underlying89 (by unfold maxLen; omega) (key := .string x) (val := .int .u16 ((2 ^ k : Nat) : Int)) (WideMaps.keyOf_string_mk Try.underlying9 hxs) (plainElem_int Try.underlying55 hwf)
          have HT5 : Hid (TabI W5 w.heap.size (P + 1) P m FR (k + 1) (.slice xad fl.length xc) (.slice yad out.length yc) _ ps fl out fin) := (HT.out.kept ((Kept.refl [] wr).drew)).put hxd hm5 hg5
          have HK5 : Hid (Kept [] w W5) := (HK.out.drew).grown hg5 (fun q e => by cases e; exact .inr HT.out.low.2.1)
          have HSZ5 : Hid (P + 1 ≤ W5.heap.size) := Nat.le_trans HSZ.out hg5.size
          rw [show ((2 ^ k : Nat) : Int) = ((2 : Int) ^ k) by norm_cast] at hup e16
          clear hcell hx hxs hxd hm5 hg5 HT HSZ hwf hpw
          go_wp2_with fail
          go_region
          all_goals go_wp2
          go_roundw
          case rel => exact ⟨k + 1, by go_num, by omega, _, HT5, HK5, HSZ5⟩
          case measure => simp [intOf]; omega
      · obtain rfl : k = ps.length := by omega
        have q0 : ¬ ((ps.length : Int) < (ps.length : Int)) := by omega
        go_wp2
        go_ret
        exact ⟨P, rfl, P + 1, m, FR, _, _, D, fin, HT, HS, HSZ, HK⟩
  · have HS : Hid (FinOf next out fin) := HFN
    have jv : Kept [] V WS := keptB (by first | exact (Kept.refl [] V).drew | exact ((Kept.refl [] V).drew).alloc _) HKS.out
    have j1 : Kept [] w WS := keptB HKV.out jv
    have j2 : Kept [] WS WA := keptB (by first | exact Kept.refl [] WS | exact (Kept.refl [] WS).alloc _) HKA.out
    have j3 : Kept [] WA WB := keptB (by first | exact Kept.refl [] WA | exact (Kept.refl [] WA).alloc _) HKB.out
    have s0 := HKV.out.size
    have s1 := j1.size
    have s2 := j2.size
    have s3 := j3.size
    have hx1 := own_low (b' := w.heap.size) HNX.out (by first | omega | (simp only [World.size_alloc]; omega) | (simp only [drew_heapR]; omega) | (simp only [drew_heapR, World.size_alloc]; omega))
    have hx2 := own_low (b' := w.heap.size) HOU.out (by first | omega | (simp only [World.size_alloc]; omega) | (simp only [drew_heapR]; omega) | (simp only [drew_heapR, World.size_alloc]; omega))
    have hfr : w.heap.size ≤ FR := by have := HFL.out; first | omega | (simp only [World.size_alloc] at this; omega)
    have jx : Kept [] WB (WB.alloc (.map #[] 0)) := by first | exact Kept.refl [] _ | exact (Kept.refl [] WB).alloc _
    obtain ⟨W0, hW0, hka, hk0, hsz0, hT⟩ := tabI_of (w := w) (w1 := WB.alloc (.map #[] 0)) (ps := ps) (m := WB.heap.size) (P := (WB.heap.size + 1)) HFN.out.len (by first | rfl | exact World.size_alloc _ _) (bx_kept (bx_kept (bx_kept hx1 j2 (by simp)) j3 (by simp)) jx (by simp)) (bx_kept (bx_kept hx2 j3 (by simp)) jx (by simp)) (jx.at HFI.out (by simp)) hfr
      (by repeat (first | exact World.ownsMap_made _ _ _ _ | refine World.ownsMap.kept ?_ (grownBy_of_kept HKB.out) (by simp) | refine World.ownsMap.kept ?_ (grownBy_of_kept HKA.out) (by simp) | refine World.ownsMap.kept ?_ (grownBy_of_kept HKS.out) (by simp))) (keptB (keptB (keptB j1 j2) j3) jx) (by omega)
    have HT0 : Hid (TabI W0 w.heap.size ((WB.heap.size + 1) + 1) (WB.heap.size + 1) WB.heap.size FR 0 (.slice xad fl.length xc) (.slice yad out.length yc) (.map []) ps fl out fin) := hT
    have HK0 : Hid (Kept [] w W0) := hk0
    have HKV0 : Hid (Kept [] V W0) := keptB (keptB (keptB (keptB jv j2) j3) jx) hka
    have HSZ0 : Hid ((WB.heap.size + 1) + 1 ≤ W0.heap.size) := hsz0
    rw [hW0]
    obtain ⟨P, hP⟩ : ∃ P, (WB.heap.size + 1) = P := ⟨_, rfl⟩
    obtain ⟨m, hm⟩ : ∃ m, WB.heap.size = m := ⟨_, rfl⟩
    first | rw [hP] at HT0 HSZ0 ⊢ | skip
    first | rw [hm] at HT0 ⊢ | skip
    have c0' := (HC.out W0 HKV0.out).1
    clear HC HCC HCL HFO c0 c1 c2 HKV HNX HOU HFI HFN HFL HKS HKA HKB jv j1 j2 j3 jx s0 s1 s2 s3 hx1 hx2 hfr hka hk0 hsz0 hT hP hm hW0 HKV0
    clear hmm
    go_wp2_with fail
    clear c0'
    go_loopw [23] (fun v wr => ∃ k : Nat, v = .int .i64 (k : Nat) ∧ k ≤ ps.length ∧ ∃ D, Hid (TabI wr w.heap.size (P + 1) P m FR k (.slice xad fl.length xc) (.slice yad out.length yc) D ps fl out fin) ∧ Hid (Kept [] w wr) ∧ Hid (P + 1 ≤ wr.heap.size)) (fun v _ => ps.length - (intOf v).toNat)
    case atStart => exact ⟨0, rfl, Nat.zero_le _, _, HT0, HK0, HSZ0⟩
    case round =>
      obtain ⟨k, rfl, hk, D, HT, HK, HSZ⟩ := hrel
      by_cases hlt : k < ps.length
      · have q0 : (k : Int) < (ps.length : Int) := by omega
        have q1 : (0 : Int) ≤ (k : Int) := by omega
        rcases (HPS.out wr HK.out).lie with ⟨_, he⟩ | ⟨b, o, c, hpe, _, _, hcell⟩
        · rw [he] at hlt; simp at hlt
        · cases hpe
          have d0 := hcell k hlt
          obtain ⟨x, hx⟩ : ∃ x, ps[k] = x := ⟨_, rfl⟩
          rw [hx] at d0
          have hxs : x.size ≤ maxLen := by rw [← hx]; exact (HPS.out wr HK.out).small _ (List.getElem_mem _)
          have hxd : ps.getD k ⟨#[]⟩ = x := by rw [List.getD_eq_getElem?_getD, List.getElem?_eq_getElem hlt, hx]; rfl
          have t0 : wr.cell? ⟨P, 0, none⟩ = some (.map (some m)) := (cell_of HT.out.box 0).trans rfl
          have hpw : (2 : Nat) ^ k ≤ 128 := Nat.pow_le_pow_right (n := 2) (i := k) (j := 7) (by omega) (by omega)
          have e16 : IntKind.u16.wrap ((2 : Int) ^ k) = ((2 ^ k : Nat) : Int) := by
            rw [show ((2 : Int) ^ k) = ((2 ^ k : Nat) : Int) by norm_cast]
            generalize (2 ^ k : Nat) = t at hpw ⊢
            rw [IntKind.wrap_u16]; omega
          have hwf : (Lit.int .u16 ((2 ^ k : Nat) : Int)).wf = true := by
            generalize (2 ^ k : Nat) = t at hpw ⊢
            exact WalkArith.wf_u16 (by omega)
          obtain ⟨W5, hup, hm5, hg5⟩ := World.ownsMap.update (w := wr.drew) (t := 89) (e := 55) (HT.out.kept ((Kept.refl [] wr).drew)).map lawStrR Try.underlying89 (by unfold maxLen; omega) (key := .string x) (val := .int .u16 ((2 ^ k : Nat) : Int)) (WideMaps.keyOf_string_mk Try.underlying9 hxs) (plainElem_int Try.underlying55 hwf)
          have HT5 : Hid (TabI W5 w.heap.size (P + 1) P m FR (k + 1) (.slice xad fl.length xc) (.slice yad out.length yc) _ ps fl out fin) := (HT.out.kept ((Kept.refl [] wr).drew)).put hxd hm5 hg5
          have HK5 : Hid (Kept [] w W5) := (HK.out.drew).grown hg5 (fun q e => by cases e; exact .inr HT.out.low.2.1)
          have HSZ5 : Hid (P + 1 ≤ W5.heap.size) := Nat.le_trans HSZ.out hg5.size
          rw [show ((2 ^ k : Nat) : Int) = ((2 : Int) ^ k) by norm_cast] at hup e16
          clear hcell hx hxs hxd hm5 hg5 HT HSZ hwf hpw
          go_wp2_with fail
          go_region
          all_goals go_wp2
          go_roundw
          case rel => exact ⟨k + 1, by go_num, by omega, _, HT5, HK5, HSZ5⟩
          case measure => simp [intOf]; omega
      · obtain rfl : k = ps.length := by omega
        have q0 : ¬ ((ps.length : Int) < (ps.length : Int)) := by omega
        go_wp2
        go_ret
        exact ⟨P, rfl, P + 1, m, FR, _, _, D, fin, HT, HS, HSZ, HK⟩
end Go.Proofs.Ytbbfajbnklgncaa
