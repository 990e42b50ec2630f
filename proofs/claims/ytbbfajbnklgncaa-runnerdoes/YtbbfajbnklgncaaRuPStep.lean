/- One step of the law RunnerDoes. -/
import Derived.Test.YtbbfajbnklgncaaRuScr
import Derived.Test.YtbbfajbnklgncaaHG
import Derived.Deep.CutBlock
namespace Go.Proofs.Ytbbfajbnklgncaa
open Go.RowKit Go.Shelf Go.Maps

/-- What stands behind the step's switch. -/
structure Tail (w V2 V3 : World) (z P k R Q : Nat) (ps : List ByteArray) (next : List (List Int)) (out : List Nat) : Prop where
  ex : ∃ rv qv L x F, PlayS w V3 P rv qv L ps next out ∧ L[k]? = some x ∧ x.R = R ∧ x.Q = Q ∧ Kept F V2 V3 ∧ ∀ f ∈ F, f < z
theorem Tail.quiet {w V2 V3 : World} {z P k : Nat} {rv qv : Value} {L : List Pr} {x : Pr} {ps : List ByteArray} {next : List (List Int)} {out : List Nat} (h : PlayS w V2 P rv qv L ps next out) (hx : L[k]? = some x) (kk : Kept [] V2 V3) : Tail w V2 V3 z P k x.R x.Q ps next out :=
  ⟨rv, qv, L, x, [], h.quiet kk, hx, rfl, rfl, kk, by simp⟩
theorem Tail.go {w V2 V3 : World} {z P k s' : Nat} {rv qv : Value} {L : List Pr} {x : Pr} {ps : List ByteArray} {next : List (List Int)} {out : List Nat} (h : PlayS w V2 P rv qv L ps next out) (hx : L[k]? = some x) (kk : Kept [x.R, x.Q] V2 V3) (hz : x.b ≤ z) (hp : Pair V3 x.a x.b x.R x.Q ps next out s' s') : Tail w V2 V3 z P k x.R x.Q ps next out := by
  have hm := hp.mem
  have hF : ∀ f ∈ [x.R, x.Q], x.a ≤ f ∧ f < x.b := fun f hf => by
    simp at hf
    rcases hf with rfl | rfl <;> omega
  have hi : k < L.length := (List.getElem?_eq_some_iff.1 hx).1
  exact ⟨rv, qv, _, x.to s', _, h.go hx kk hF hp, by rw [List.getElem?_set_self hi], rfl, rfl, kk, fun f hf => by have := hF f hf; omega⟩
theorem newPair {W W1 W2 : World} {lo N R Q : Nat} {ps : List ByteArray} {next : List (List Int)} {out : List Nat} {fin : List Bool} (h : RunS W1 lo N R ps next out fin 0) (hl : W.heap.size ≤ lo ∧ R < W1.heap.size ∧ W.heap.size ≤ R) (k : Kept [] W1 W2) (hd : DocNew W2 Q ps next out) (hq : W1.heap.size ≤ Q) : Pair W2 W.heap.size W2.heap.size R Q ps next out 0 0 := by
  obtain ⟨hi, pv, nv, ov, h1, h2⟩ := hd
  have h3 : lo ≤ N := by
    obtain ⟨T, MB, FR, nxv, outv, D, fl, _, q, _⟩ := h.ex
    have := q.low
    have := q.high
    omega
  exact ⟨lo, N, fin, hi, pv, nv, ov, h.keptF k (by simp) (by simp), h1, hl.1, h3, by omega, h2⟩
theorem Tail.more {w V2 V3 V4 : World} {z P k : Nat} {rv qv : Value} {L : List Pr} {x : Pr} {ps : List ByteArray} {next : List (List Int)} {out : List Nat} {y : Pr} {rv' qv' : Value} (hk2 : Kept [] V2 V3) (hx : L[k]? = some x) (hp : PlayS w V4 P rv' qv' (L ++ [y]) ps next out) (kk : Kept (P :: (rv.ownBlock.toList ++ qv.ownBlock.toList)) V3 V4) (hz : P < z ∧ (∀ g, rv.ownBlock = some g → g < z) ∧ (∀ g, qv.ownBlock = some g → g < z)) : Tail w V2 V4 z P k x.R x.Q ps next out := by
  have hi : k < L.length := (List.getElem?_eq_some_iff.1 hx).1
  refine ⟨rv', qv', L ++ [y], x, _, hp, by rw [List.getElem?_append_left hi]; exact hx, rfl, rfl, hk2.trans kk (by simp) (fun f hf => .inl hf), fun f hf => ?_⟩
  rcases List.mem_cons.1 hf with q | q
  · rw [q]; exact hz.1
  · rcases List.mem_append.1 q with q | q
    · exact hz.2.1 f (by simpa using q)
    · exact hz.2.2 f (by simpa using q)
def StepEnd (w : World) (P : Nat) (ps : List ByteArray) (next : List (List Int)) (out : List Nat) (W' : World) : Prop := ∃ rv qv L, PlayS w W' P rv qv L ps next out
set_option maxHeartbeats 16000000 in
set_option maxRecDepth 20000 in
theorem playStep_any (w W : World) (P : Nat) (rv qv : Value) (L : List Pr) (pv nv ov : Value) (ps : List ByteArray) (next : List (List Int)) (out : List Nat) (o : OpV) (nmv : Value) (h : PlayS w W P rv qv L ps next out) (hm : MachR ps next out) (hrt : rightM ps next out = true) (hf : out.length ≤ 1000000)
    (hmv : ∀ V, Kept [] w V → Strs V pv ps ∧ Rowss V nv next ∧ Vds V ov out) (hnm : ∀ V, Kept [] w V → StrsE V nmv o.names) (hok : o.ok) :
    Calls Try.prog 13 #[.pointer (some ⟨P, 0, none⟩), .agg #[pv, nv, ov], .agg #[.int .i64 o.kind, .int .i64 o.who, .int .i64 o.n, nmv]] W fun e W' => e = .returned (.bool true) ∧ Hid (StepEnd w P ps next out W') := by
  obtain ⟨kd, who, n, names⟩ := o
  dsimp only at hnm hok ⊢
  obtain ⟨hk1, hk2, hk3⟩ := hok
  dsimp only at hk1 hk2 hk3
  obtain ⟨l1, l8⟩ := h.one
  obtain ⟨z, hz⟩ : ∃ z, W.heap.size = z := ⟨_, rfl⟩
  obtain ⟨A1, hA1⟩ : ∃ A1, W.alloc (.cells #[pv, nv, ov] 26) = A1 := ⟨_, rfl⟩
  have kA1 : Kept [] W A1 := by rw [← hA1]; exact (Kept.refl [] W).alloc _
  have hMB : A1.heap[z]? = some (.cells #[pv, nv, ov] 26 (0, 0)) := by rw [← hA1, ← hz]; exact al0 _ _
  obtain ⟨O0, hO⟩ : ∃ O0, A1.heap.size = O0 := ⟨_, rfl⟩
  obtain ⟨V, hV⟩ : ∃ V, A1.alloc (.cells #[.int .i64 kd, .int .i64 who, .int .i64 n, nmv] 48) = V := ⟨_, rfl⟩
  have kV : Kept [] A1 V := by rw [← hV]; exact (Kept.refl [] A1).alloc _
  have hOB : V.heap[O0]? = some (.cells #[.int .i64 kd, .int .i64 who, .int .i64 n, nmv] 48 (0, 0)) := by rw [← hV, ← hO]; exact al0 _ _
  have hzO : z < O0 := by rw [← hO]; exact lt_of hMB
  have HMB : Hid (V.heap[z]? = some (.cells #[pv, nv, ov] 26 (0, 0))) := kV.at hMB (by simp)
  have HO : Hid (∀ F W', Kept F V W' → (∀ f ∈ F, f < z) → W'.cell? ⟨O0, 0, none⟩ = some (.int .i64 kd) ∧ W'.cell? ⟨O0, 1, none⟩ = some (.int .i64 who) ∧ W'.cell? ⟨O0, 2, none⟩ = some (.int .i64 n) ∧ W'.cell? ⟨O0, 3, none⟩ = some nmv) := fun F W' k hF => by
    have hb := k.at hOB (fun hm => by have := hF _ hm; omega)
    exact ⟨(cell_of hb 0).trans rfl, (cell_of hb 1).trans rfl, (cell_of hb 2).trans rfl, (cell_of hb 3).trans rfl⟩
  have HMV : Hid (∀ V, Kept [] w V → Strs V pv ps ∧ Rowss V nv next ∧ Vds V ov out) := hmv
  have HNM : Hid (∀ V, Kept [] w V → StrsE V nmv names) := hnm
  have HRT : Hid (rightM ps next out = true ∧ out.length ≤ 1000000) := ⟨hrt, hf⟩
  have HM : Hid (MachR ps next out) := hm
  have HS : Hid (PlayS w V P rv qv L ps next out) := h.quiet (keptB kA1 kV)
  have HPZ : Hid (P < z ∧ (∀ g, rv.ownBlock = some g → g < z) ∧ (∀ g, qv.ownBlock = some g → g < z)) := ⟨by rw [← hz]; exact lt_of h.bx.box, fun g hg => by rw [← hz]; exact (bx_base h.bx.rr hg).2, fun g hg => by rw [← hz]; exact (bx_base h.bx.qr hg).2⟩
  have HTOP : Hid (∀ x ∈ L, x.b ≤ z) := fun x hx => by rw [← hz]; exact (h.top x hx).2
  have HZV : Hid (z < O0 ∧ O0 < V.heap.size) := ⟨hzO, lt_of hOB⟩
  obtain ⟨hpk, _⟩ := pickN_lt (c := who) (n := L.length) (by omega) hk2.1
  have HPK : Hid (∀ W, Calls Try.prog 18 #[.int .i64 who, .int .i64 (L.length : Nat)] W fun e w' => e = .returned (.int .i64 (pickN who L.length : Nat)) ∧ w' = W) := fun W => pick_any who L.length W (by omega) (by omega) hk2
  obtain ⟨k, hk⟩ : ∃ k, pickN who L.length = k := ⟨_, rfl⟩
  rw [hk] at hpk HPK
  obtain ⟨x, hx⟩ : ∃ x, L[k]? = some x := ⟨_, List.getElem?_eq_getElem hpk⟩
  obtain ⟨rg, rc, qg, qc, rfl, rfl, _, _⟩ := HS.out.bx.at hx
  have HX : Hid (L[k]? = some x) := hx
  obtain ⟨ln, hln⟩ : ∃ ln, L.length = ln := ⟨_, rfl⟩
  have HLN : Hid (L.length = ln) := hln
  have HPC : Hid (∀ W', Kept [] V W' → W'.cell? ⟨P, 0, none⟩ = some (.slice (some ⟨rg, 0, none⟩) ln rc) ∧ W'.cell? ⟨P, 1, none⟩ = some (.slice (some ⟨qg, 0, none⟩) ln qc) ∧ W'.cell? ⟨rg, k, none⟩ = some (.pointer (some ⟨x.R, 0, none⟩)) ∧ W'.cell? ⟨qg, k, none⟩ = some (.pointer (some ⟨x.Q, 0, none⟩))) := fun W' kk => by
    have hq := HS.out.bx.keptF kk (by simp)
    obtain ⟨a1, a2, a3, a4, e1, e2, q1, q2⟩ := hq.at HX.out
    cases e1
    cases e2
    rw [← hln]
    exact ⟨(cell_of hq.box 0).trans rfl, (cell_of hq.box 1).trans rfl, q1, q2⟩
  rw [hln] at HS HPZ HPK hpk l1 l8
  obtain ⟨a, b, R, Q, s⟩ := x
  dsimp only at HPC
  have q0 : (0 : Int) ≤ (k : Int) := by omega
  have q1 : (k : Int) < (ln : Int) := by omega
  clear h hm hrt hf hmv hnm hMB hOB hx hln hk hzO kA1 kV
  go_enter Try.func13, Try.ntmps13
  go_upto_region 1 with fail
  clear hA1 hz hV hO
  obtain ⟨o0, o1, o2, o3⟩ := HO.out [] V.drew ((Kept.refl [] V).drew) (by simp)
  obtain ⟨p0, p1, p2, p3⟩ := HPC.out V.drew ((Kept.refl [] V).drew)
  go_region_held3 (fun Y => Y.cell? ⟨O0, 1, none⟩ = some (.int .i64 who) ∧ Y.cell? ⟨P, 0, none⟩ = some (.slice (some ⟨rg, 0, none⟩) ln rc)) (exact ⟨o1, p0⟩)
    (first | (go_at_call 18; refine (HPK.out _).mono ?_; rintro e w1 ⟨rfl, hw1⟩; rw [hw1]; clear hw1))
  have HS1 : Hid _ := HS.out.quiet ((Kept.refl [] V).drew)
  have HK1 : Hid (Kept [] V V.drew) := (Kept.refl [] V).drew
  obtain ⟨V1, hV1⟩ : ∃ V1, V.drew = V1 := ⟨_, rfl⟩
  rw [hV1] at o0 o1 o2 o3 p0 p1 p2 p3 HS1 HK1 ⊢
  have HLT : Hid (Calls Try.prog 25 #[nmv] V1 fun e w' => ∃ b, e = .returned (.slice (some ⟨b, 0, none⟩) names.length (names.length + 2)) ∧ LentG 9 1 w' b names.length (cellsT names) marksT ∧ V1.heap.size ≤ b ∧ Kept [] V1 w') := by
    have hS := HNM.out V1 HS1.out.kept
    exact lentTexts_any nmv names.length _ V1 hS.src hS.few
  go_upto_region 5 with (go_at_call 25; refine HLT.out.mono ?_; rintro e V2 ⟨bl, rfl, hl1, hb1, k1⟩)
  have HK2 : Hid (Kept [] V V2) := keptB HK1.out k1
  have HS2 : Hid (PlayS w V2 P (.slice (some ⟨rg, 0, none⟩) ln rc) (.slice (some ⟨qg, 0, none⟩) ln qc) L ps next out) := HS.out.quiet HK2.out
  have HLG : Hid (LentG 9 1 V2 bl names.length (cellsT names) marksT) := hl1
  have HBL : Hid (z ≤ bl) := by
    have h1 := HZV.out
    have h2 := HK1.out.size
    show z ≤ bl
    omega
  clear hl1 hb1 k1 o0 o1 o2 o3 p0 p1 p2 p3 hV1 HLT HS1 HK1
  obtain ⟨o0, o1, o2, o3⟩ := HO.out [] V2 HK2.out (by simp)
  obtain ⟨lo, N, fin, hi, pd, nd, od, hR, hD, ha1, ha2, ha3, ha4⟩ := (HS2.out.pl.each k _ HX.out).ex
  dsimp only at hR hD ha1 ha2 ha3 ha4
  have HR : Hid (RunS V2 lo N R ps next out fin s) := hR
  have HD : Hid (DocW V2 hi Q pd nd od ps next out s) := hD
  have HAB : Hid (a ≤ lo ∧ lo ≤ N ∧ N ≤ R ∧ R < Q ∧ Q < hi ∧ hi ≤ b ∧ b ≤ z) := ⟨ha1, ha2, hR.high, ha3, hD.up, ha4, HTOP.out _ (List.mem_of_getElem? HX.out)⟩
  have hQz : Q < z := by have := HAB.out; omega
  have hRz : R < z := by have := HAB.out; omega
  clear hR hD ha1 ha2 ha3 ha4
  have HWA : Hid (w.heap.size ≤ a) := (HS2.out.top _ (List.mem_of_getElem? HX.out)).1
  have HTG : Hid (∀ V3 s', Kept [R, Q] V2 V3 → RunS V3 lo N R ps next out fin s' → DocW V3 hi Q pd nd od ps next out s' → Tail w V2 V3 z P k R Q ps next out) := fun V3 s' kk h1 h2 => Tail.go (s' := s') HS2.out HX.out kk HAB.out.2.2.2.2.2.2 ⟨lo, N, fin, hi, pd, nd, od, h1, h2, HAB.out.1, HAB.out.2.1, HAB.out.2.2.2.1, HAB.out.2.2.2.2.2.1⟩
  go_upto_block 0 with fail
  go_cut [11] from 21 (fun v11 wx => v11 = .bool true ∧ Tail w V2 wx z P k R Q ps next out)
  case first =>
    by_cases c1 : kd = 1
    · subst c1
      obtain ⟨l, hl⟩ : ∃ l : Nat, n % 65536 = (l : Int) := ⟨(n % 65536).toNat, by omega⟩
      have hl2 : l < 65536 := by omega
      have hw : IntKind.u16.wrap n = (l : Int) := by rw [IntKind.wrap_u16]; exact hl
      obtain ⟨s', hs'⟩ : ∃ s', stepN ps next s l = s' := ⟨_, rfl⟩
      obtain ⟨v, hv⟩ : ∃ v, out.getD s' 0 = v := ⟨_, rfl⟩
      have HST : Hid (Calls Try.prog 37 #[.pointer (some ⟨R, 0, none⟩), .int .u16 (l : Nat)] V2 fun e w' => e = .returned (.int .u8 (v : Nat)) ∧ Hid (RunS w' lo N R ps next out fin s') ∧ Hid (Kept [R] V2 w')) := by
        have q := step_any lo N R ps next out fin s l V2 HR.out HM.out hl2
        rw [hs', hv] at q
        exact q
      go_upto_region 9 with (go_at_call 37; refine Calls.mono HST.out ?_; rintro e Va ⟨rfl, HRa, HKa⟩)
      have HDa : Hid (DocW Va hi Q pd nd od ps next out s) := HD.out.keptF HKa.out (fun f hf => by simp at hf; have := HAB.out; omega)
      have HSD : Hid (Calls Try.prog 17 #[.pointer (some ⟨Q, 0, none⟩), .int .u16 (l : Nat)] Va fun e w' => e = .returned (.int .u8 (v : Nat)) ∧ Hid (DocW w' hi Q pd nd od ps next out s') ∧ Hid (Kept [Q] Va w')) := by
        have q := refStepW_any hi Q s l pd nd od ps next out Va HDa.out HM.out hl2
        rw [hs', hv] at q
        exact q
      obtain ⟨o0, o1, o2, o3⟩ := HO.out [R] Va (HK2.out.trans HKa.out (by simp) (fun f hf => .inl hf)) (fun f hf => by simp at hf; omega)
      go_wp2_with (go_at_call 17; refine Calls.mono HSD.out ?_; rintro e V3 ⟨rfl, HDb, HKb⟩)
      go_meet
      case rel => exact ⟨rfl, HTG.out V3 s' (HKa.out.trans HKb.out (fun f hf => by simp at hf; simp [hf]) (fun f hf => .inl (by simp at hf; simp [hf]))) (HRa.out.keptF HKb.out (fun hm => by simp at hm; have := HAB.out; omega) (fun f hf => by simp at hf; have := HAB.out; omega)) HDb.out⟩
    ·
      by_cases c2 : kd = 2
      · subst c2
        obtain ⟨l, hl⟩ : ∃ l, letterN ps names = l := ⟨_, rfl⟩
        have hl2 : l < 65536 := by have := letterN_lt HM.out.few names; omega
        obtain ⟨s', hs'⟩ : ∃ s', stepN ps next s l = s' := ⟨_, rfl⟩
        obtain ⟨v, hv⟩ : ∃ v, out.getD s' 0 = v := ⟨_, rfl⟩
        have HST : Hid (Calls Try.prog 22 #[.pointer (some ⟨R, 0, none⟩), .slice (some ⟨bl, 0, none⟩) names.length (names.length + 2)] V2 fun e w' => e = .returned (.int .u8 (v : Nat)) ∧ Hid (RunS w' lo N R ps next out fin s') ∧ Hid (Kept [R] V2 w')) := by
          have hq := HNM.out V2 HS2.out.kept
          have q := event_any lo N R ps next out fin s _ names V2 HR.out HM.out (HLG.out.strs hq.few hq.small)
          rw [hl, hs', hv] at q
          exact q
        go_upto_region 12 with (go_at_call 22; refine Calls.mono HST.out ?_; rintro e Va ⟨rfl, HRa, HKa⟩)
        have HDa : Hid (DocW Va hi Q pd nd od ps next out s) := HD.out.keptF HKa.out (fun f hf => by simp at hf; have := HAB.out; omega)
        have HKwa : Hid (Kept [] w Va) := HS2.out.kept.trans HKa.out (by simp) (fun f hf => .inr (by simp at hf; have h1 := HAB.out; have h2 := HWA.out; omega))
        have HLD : Hid (Calls Try.prog 38 #[.pointer (some ⟨Q, 0, none⟩), nmv] Va fun e w' => e = .returned (.int .u16 (l : Nat)) ∧ Hid (Kept [] Va w')) := by
          have q := refLetter_any Va Q s ps next out nmv names Va HDa.out.docS HM.out (HNM.out Va HKwa.out)
          rw [hl] at q
          exact q
        have HSD : Hid (∀ W', Kept [] Va W' → Calls Try.prog 17 #[.pointer (some ⟨Q, 0, none⟩), .int .u16 (l : Nat)] W' fun e w' => e = .returned (.int .u8 (v : Nat)) ∧ Hid (DocW w' hi Q pd nd od ps next out s') ∧ Hid (Kept [Q] W' w')) := fun W' kk => by
          have q := refStepW_any hi Q s l pd nd od ps next out W' (HDa.out.keptF kk (by simp)) HM.out hl2
          rw [hs', hv] at q
          exact q
        obtain ⟨o0, o1, o2, o3⟩ := HO.out [R] Va (HK2.out.trans HKa.out (by simp) (fun f hf => .inl hf)) (fun f hf => by simp at hf; omega)
        go_wp2_with (first
          | (go_at_call 38; refine Calls.mono HLD.out ?_; rintro e Vb ⟨rfl, HKl⟩)
          | (go_at_call 17; refine Calls.mono (HSD.out _ HKl.out) ?_; rintro e V3 ⟨rfl, HDb, HKb⟩))
        go_meet
        case rel => exact ⟨rfl, HTG.out V3 s' ((HKa.out.trans HKl.out (fun f hf => hf) (by simp)).trans HKb.out (fun f hf => by simp at hf; simp [hf]) (fun f hf => .inl (by simp at hf; simp [hf]))) ((HRa.out.keptF HKl.out (by simp) (by simp)).keptF HKb.out (fun hm => by simp at hm; have := HAB.out; omega) (fun f hf => by simp at hf; have := HAB.out; omega)) HDb.out⟩
      ·
        by_cases c3 : kd = 3
        · subst c3
          obtain ⟨l, hl⟩ : ∃ l, letterN ps names = l := ⟨_, rfl⟩
          have HST : Hid (Calls Try.prog 39 #[.pointer (some ⟨R, 0, none⟩), .slice (some ⟨bl, 0, none⟩) names.length (names.length + 2)] V2 fun e w' => e = .returned (.int .u16 (l : Nat)) ∧ w' = V2) := by
            have hq := HNM.out V2 HS2.out.kept
            have q := letter_any lo N R ps next out fin s _ names V2 HR.out HM.out.few (HLG.out.strs hq.few hq.small)
            rw [hl] at q
            exact q
          have HLD : Hid (Calls Try.prog 38 #[.pointer (some ⟨Q, 0, none⟩), nmv] V2 fun e w' => e = .returned (.int .u16 (l : Nat)) ∧ Hid (Kept [] V2 w')) := by
            have q := refLetter_any V2 Q s ps next out nmv names V2 HD.out.docS HM.out (HNM.out V2 HS2.out.kept)
            rw [hl] at q
            exact q
          go_wp2_with (first
            | (go_at_call 39; refine Calls.mono HST.out ?_; rintro e w1 ⟨rfl, hw1⟩; rw [hw1]; clear hw1)
            | (go_at_call 38; refine Calls.mono HLD.out ?_; rintro e V3 ⟨rfl, HKl⟩))
          go_meet
          case rel => exact ⟨rfl, Tail.quiet HS2.out HX.out HKl.out⟩
        ·
          by_cases c4 : kd = 4
          · subst c4
            have HST : Hid (Calls Try.prog 40 #[.pointer (some ⟨R, 0, none⟩)] V2 fun e w' => (∃ v, e = .returned v) ∧ Hid (RunS w' lo N R ps next out fin 0) ∧ Hid (Kept [R] V2 w')) := resetR_any lo N R s ps next out fin V2 HR.out HM.out
            go_upto_region 18 with (go_at_call 40; refine Calls.mono HST.out ?_; rintro e Va ⟨⟨vr, rfl⟩, HRa, HKa⟩)
            have HDa : Hid (DocW Va hi Q pd nd od ps next out s) := HD.out.keptF HKa.out (fun f hf => by simp at hf; have := HAB.out; omega)
            have g1 : Va.cell? ⟨Q, 3, none⟩ = some (.int .i64 (s : Nat)) := (cell_of HDa.out.box 3).trans rfl
            have g2 : Va.frozen? ⟨Q, 3, none⟩ = false := free_of HDa.out.box 3
            obtain ⟨V3, hV3⟩ : ∃ V3, Va.setCell ⟨Q, 3, none⟩ (.int .i64 0) = V3 := ⟨_, rfl⟩
            have HKb : Hid (Kept [Q] Va V3) := by show Kept [Q] Va V3; rw [← hV3]; exact (Kept.refl [Q] Va).setCell (.inl (by simp)) _
            have HDb : Hid (DocW V3 hi Q pd nd od ps next out 0) := HDa.out.to HKb.out (by rw [← hV3]; exact (bx_set HDa.out.box _).trans rfl) HM.out.rows.pos
            go_wp2_with fail
            go_meet
            case rel => exact ⟨rfl, HTG.out V3 0 (HKa.out.trans HKb.out (fun f hf => by simp at hf; simp [hf]) (fun f hf => .inl (by simp at hf; simp [hf]))) (HRa.out.keptF HKb.out (fun hm => by simp at hm; have := HAB.out; omega) (fun f hf => by simp at hf; have := HAB.out; omega)) HDb.out⟩
          ·
            by_cases c5 : kd = 5
            · subst c5
              obtain ⟨s', hs'⟩ : ∃ s', goS next.length s n = s' := ⟨_, rfl⟩
              obtain ⟨v, hv⟩ : ∃ v, goE next.length n = v := ⟨_, rfl⟩
              have HST : Hid (Calls Try.prog 24 #[.pointer (some ⟨R, 0, none⟩), .int .i64 n] V2 fun e w' => e = .returned (.int .i64 v) ∧ Hid (RunS w' lo N R ps next out fin s') ∧ Hid (Kept [R] V2 w')) := by
                have q := gotoI_any lo N R s n ps next out fin V2 HR.out HM.out
                rw [hs', hv] at q
                exact q
              go_upto_region 21 with (go_at_call 24; refine Calls.mono HST.out ?_; rintro e Va ⟨rfl, HRa, HKa⟩)
              have HDa : Hid (DocW Va hi Q pd nd od ps next out s) := HD.out.keptF HKa.out (fun f hf => by simp at hf; have := HAB.out; omega)
              have HSD : Hid (Calls Try.prog 41 #[.pointer (some ⟨Q, 0, none⟩), .int .i64 n] Va fun e w' => e = .returned (.int .i64 v) ∧ Hid (DocW w' hi Q pd nd od ps next out s') ∧ Hid (Kept [Q] Va w')) := by
                have q := refGotoW_any hi Q s n pd nd od ps next out Va HDa.out
                rw [hs', hv] at q
                exact q
              obtain ⟨o0, o1, o2, o3⟩ := HO.out [R] Va (HK2.out.trans HKa.out (by simp) (fun f hf => .inl hf)) (fun f hf => by simp at hf; omega)
              go_wp2_with (go_at_call 41; refine Calls.mono HSD.out ?_; rintro e V3 ⟨rfl, HDb, HKb⟩)
              go_meet
              case rel => exact ⟨rfl, HTG.out V3 s' (HKa.out.trans HKb.out (fun f hf => by simp at hf; simp [hf]) (fun f hf => .inl (by simp at hf; simp [hf]))) (HRa.out.keptF HKb.out (fun hm => by simp at hm; have := HAB.out; omega) (fun f hf => by simp at hf; have := HAB.out; omega)) HDb.out⟩
            ·
              by_cases c6 : kd = 6
              · subst c6
                obtain ⟨p0, p1, p2, p3⟩ := HPC.out V2 HK2.out
                by_cases h8 : ln < 8
                · have h8i : (ln : Int) < 8 := by omega
                  have m0 : V2.cell? ⟨z, 0, none⟩ = some pv ∧ V2.cell? ⟨z, 1, none⟩ = some nv ∧ V2.cell? ⟨z, 2, none⟩ = some ov := by
                    have hb := HK2.out.at HMB.out (by simp)
                    exact ⟨(cell_of hb 0).trans rfl, (cell_of hb 1).trans rfl, (cell_of hb 2).trans rfl⟩
                  obtain ⟨m0, m1, m2⟩ := m0
                  have HNW : Hid (Calls Try.prog 9 #[.agg #[pv, nv, ov]] V2 (NewEnd ps next out true V2)) := by
                    obtain ⟨q1, q2, q3⟩ := HMV.out V2 HS2.out.kept
                    exact new_any pv nv ov ps next out V2 q1 q2 q3 HRT.out.2 true HRT.out.1
                  go_upto_region 25 with (go_at_call 9; refine Calls.mono HNW.out ?_; rintro e Va ⟨HKa, htr, _⟩; obtain ⟨R2, lo2, N2, fin2, rfl, HR2, HL2⟩ := htr rfl; clear htr m0 m1 m2 p0 p1 p2 p3)
                  have HDW : Hid (Calls Try.prog 12 #[.agg #[pv, nv, ov]] Va (DNewEnd ps next out true Va)) := by
                    obtain ⟨q1, q2, q3⟩ := HMV.out Va (keptB HS2.out.kept HKa.out)
                    exact refNew_any pv nv ov ps next out Va q1 q2 q3 HRT.out.2 true HRT.out.1
                  have m0 : Va.cell? ⟨z, 0, none⟩ = some pv ∧ Va.cell? ⟨z, 1, none⟩ = some nv ∧ Va.cell? ⟨z, 2, none⟩ = some ov := by
                    have hb := (keptB HK2.out HKa.out).at HMB.out (by simp)
                    exact ⟨(cell_of hb 0).trans rfl, (cell_of hb 1).trans rfl, (cell_of hb 2).trans rfl⟩
                  obtain ⟨m0, m1, m2⟩ := m0
                  go_upto_region 26 with (go_at_call 12; refine Calls.mono HDW.out ?_; rintro e Vb ⟨HKb, htr, _⟩; obtain ⟨Q2, rfl, HD2, HQ2⟩ := htr rfl; clear htr m0 m1 m2)
                  have HPR : Hid (Pair Vb V2.heap.size Vb.heap.size R2 Q2 ps next out 0 0) := newPair HR2.out HL2.out HKb.out HD2.out HQ2.out
                  have HSb : Hid (PlayS w Vb P (.slice (some ⟨rg, 0, none⟩) ln rc) (.slice (some ⟨qg, 0, none⟩) ln qc) L ps next out) := HS2.out.quiet (keptB HKa.out HKb.out)
                  have hz2 : z ≤ V2.heap.size := by have h1 := HK2.out.size; have h2 := HZV.out; omega
                  have hpz := HPZ.out
                  obtain ⟨rg2, rc2, W3, W4, qg2, qc2, W5, W6, r1, r2, r3, r4, r5, r6, r7, hS6, k6⟩ := HSb.out.snoc (y := ⟨V2.heap.size, Vb.heap.size, R2, Q2, 0⟩) (by have := HLN.out; omega) HPR.out (fun x hx => by have := HTOP.out x hx; show x.b ≤ V2.heap.size; omega) (fun g hg => by
                    show g < V2.heap.size
                    rcases hg with q | q | q
                    · rw [q]; omega
                    · have := hpz.2.1 g q; omega
                    · have := hpz.2.2 g q; omega) (Nat.le_refl _) (by have := HS2.out.kept.size; exact this)
                  rw [HLN.out] at r1 r3 r5 r7 hS6
                  dsimp only at r1 r5
                  obtain ⟨r2a, r2b⟩ := r2
                  obtain ⟨r6a, r6b⟩ := r6
                  have HA1 : Hid _ := r1
                  have HA2 : Hid _ := r5
                  have HS6 : Hid _ := hS6
                  have HK6 : Hid _ := k6
                  have pb0 : Vb.cell? ⟨P, 0, none⟩ = some (.slice (some ⟨rg, 0, none⟩) ln rc) := (cell_of HSb.out.bx.box 0).trans rfl
                  clear r1 r5 hS6 k6 hpz hz2
                  go_wp2_with (at_builtin; first | refine Lib.wpList_append_run _ rfl _ _ _ _ rfl _ _ rfl rfl _ _ (HA1.out _) ?_ | refine Lib.wpList_append_run _ rfl _ _ _ _ rfl _ _ rfl rfl _ _ (HA2.out _) ?_)
                  go_meet
                  case rel => exact ⟨rfl, Tail.more (keptB HKa.out HKb.out) HX.out HS6.out HK6.out HPZ.out⟩
                · have h8i : ¬ ((ln : Int) < 8) := by omega
                  go_wp2_with fail
                  go_meet
                  case rel => exact ⟨rfl, Tail.quiet HS2.out HX.out (Kept.refl [] V2)⟩
              ·
                go_wp2_with fail
                go_meet
                case rel => exact ⟨rfl, Tail.quiet HS2.out HX.out (Kept.refl [] V2)⟩
  case rest =>
    obtain ⟨rfl, hTl⟩ := hcut
    obtain ⟨V3, hV3⟩ : ∃ V3, wc = V3 := ⟨_, rfl⟩
    rw [hV3] at hTl ⊢
    clear hV3
    have HTL : Hid (Tail w V2 V3 z P k R Q ps next out) := hTl
    clear hTl
    obtain ⟨rv3, qv3, L3, x3, F3, hS3, hx3, e1, e2, hk3', hF3⟩ := HTL.out
    have HS3 : Hid (PlayS w V3 P rv3 qv3 L3 ps next out) := hS3
    obtain ⟨lo3, N3, fin3, hi3, pd3, nd3, od3, hR3, hD3, _, _, _, _⟩ := (hS3.pl.each k _ hx3).ex
    rw [e1] at hR3
    rw [e2] at hD3
    obtain ⟨s3, hs3⟩ : ∃ s3, x3.s = s3 := ⟨_, rfl⟩
    rw [hs3] at hR3 hD3
    have HLG3 : Hid (LentG 9 1 V3 bl names.length (cellsT names) marksT) := HLG.out.keptF hk3' (fun hm => by have := hF3 bl hm; have := HBL.out; omega)
    obtain ⟨o0, o1, o2, o3⟩ := HO.out F3 V3 (HK2.out.trans hk3' (by simp) (fun f hf => .inl hf)) hF3
    have HWT : Hid (Calls Try.prog 30 #[.slice (some ⟨bl, 0, none⟩) names.length (names.length + 2), nmv] V3 fun e w' => e = .returned (.bool true) ∧ Kept [] V3 w') := wholeTexts_any bl nmv names V3 HLG3.out (HNM.out V3 HS3.out.kept).src
    have HR3 : Hid (RunS V3 lo3 N3 R ps next out fin3 s3) := hR3
    have HD3 : Hid (DocW V3 hi3 Q pd3 nd3 od3 ps next out s3) := hD3
    obtain ⟨fb, hfb⟩ : ∃ fb, fin3.getD s3 false = fb := ⟨_, rfl⟩
    have HFB : Hid (fin3.getD s3 false = fb ∧ (fb = true ↔ ¬ NotFin next out s3)) := ⟨hfb, by rw [← hfb]; exact hR3.fin.is s3 hR3.lt⟩
    obtain ⟨vv, hvv3⟩ : ∃ vv, out.getD s3 0 = vv := ⟨_, rfl⟩
    have HVV : Hid (out.getD s3 0 = vv) := hvv3
    have hso : s3 < out.length := by rw [HM.out.len]; exact hR3.lt
    obtain ⟨ob, oo, oc, hod, _⟩ := (hD3.rest [] V3 (Kept.refl [] V3) (by simp)).2.2.there (by omega)
    obtain ⟨on, hon⟩ : ∃ on, out.length = on := ⟨_, rfl⟩
    have HQC : Hid (∀ W', Kept [] V3 W' → W'.cell? ⟨Q, 3, none⟩ = some (.int .i64 (s3 : Nat)) ∧ W'.cell? ⟨Q, 2, none⟩ = some (.slice (some ⟨ob, oo, none⟩) on oc) ∧ W'.cell? ⟨ob, oo + s3, none⟩ = some (.int .u8 (vv : Nat))) := fun W' kk => by
      have hq := HD3.out.keptF kk (by simp)
      refine ⟨(cell_of hq.box 3).trans rfl, by rw [← hon, ← hod]; exact (cell_of hq.box 2).trans rfl, ?_⟩
      obtain ⟨b', o', c', e', ho'⟩ := (hq.rest [] W' (Kept.refl [] W') (by simp)).2.2.there (by omega)
      rw [hod] at e'
      cases e'
      rw [← HVV.out]
      exact ho' s3 hso
    have HC1 : Hid (∀ W', Kept [] V3 W' → Calls Try.prog 14 #[.pointer (some ⟨R, 0, none⟩)] W' fun e w' => e = .returned (.int .i64 (s3 : Nat)) ∧ w' = W') := fun W' kk => state_any lo3 N3 R ps next out fin3 s3 W' (HR3.out.keptF kk (by simp) (by simp))
    have HC2 : Hid (∀ W', Kept [] V3 W' → Calls Try.prog 42 #[.pointer (some ⟨R, 0, none⟩)] W' fun e w' => e = .returned (.int .u8 (vv : Nat)) ∧ Hid (Kept [] W' w')) := fun W' kk => by
      have q := verdict_any lo3 N3 R ps next out fin3 s3 W' (HR3.out.keptF kk (by simp) (by simp)) HM.out
      rw [HVV.out] at q
      exact q
    have HC3 : Hid (∀ W', Kept [] V3 W' → Calls Try.prog 23 #[.pointer (some ⟨R, 0, none⟩)] W' fun e w' => e = .returned (.bool fb) ∧ Hid (Kept [] W' w')) := fun W' kk => by
      have q := final_any lo3 N3 R ps next out fin3 s3 W' (HR3.out.keptF kk (by simp) (by simp))
      rw [HFB.out.1] at q
      exact q
    have HC4 : Hid (∀ W', Kept [] V3 W' → Calls Try.prog 43 #[.pointer (some ⟨Q, 0, none⟩)] W' fun e w' => e = .returned (.bool fb) ∧ Hid (Kept [] W' w')) := fun W' kk => refFinalW_any hi3 Q s3 pd3 nd3 od3 ps next out W' (HD3.out.keptF kk (by simp)) HM.out fb HFB.out.2
    have y0 : (0 : Int) ≤ (s3 : Int) := by omega
    have y1 : (s3 : Int) < (on : Int) := by omega
    clear hS3 hx3 e1 e2 hk3' hF3 hR3 hD3 hs3 hfb hvv3 hso hod hon HLG3
    go_upto_region 31 with (go_at_call 30; refine HWT.out.mono ?_; rintro e V4 ⟨rfl, k4⟩; have HK4 : Hid (Kept [] V3 V4) := k4; clear k4 o0 o1 o2 o3)
    have HKc : Hid (Kept [] V3 V4.drew) := HK4.out.drew
    obtain ⟨d0, d1, d2⟩ := HQC.out _ HKc.out
    go_region_held3 (fun Y => Y.cell? ⟨Q, 3, none⟩ = some (.int .i64 (s3 : Nat)) ∧ Y.cell? ⟨Q, 2, none⟩ = some (.slice (some ⟨ob, oo, none⟩) on oc) ∧ Y.cell? ⟨ob, oo + s3, none⟩ = some (.int .u8 (vv : Nat))) (exact HQC.out _ HKc.out)
      (first
        | (go_at_call 14; refine Calls.mono (HC1.out _ HKc.out) ?_; rintro e w1 ⟨rfl, hw1⟩; rw [hw1]; clear hw1)
        | (go_at_call 42; refine Calls.mono (HC2.out _ HKc.out) ?_; rintro e Wz ⟨rfl, kz⟩; have HKn : Hid (Kept [] V3 Wz) := keptB HKc.out kz.out; clear HKc kz; have HKc : Hid (Kept [] V3 Wz) := HKn.out; clear HKn)
        | (go_at_call 23; refine Calls.mono (HC3.out _ HKc.out) ?_; rintro e Wz ⟨rfl, kz⟩; have HKn : Hid (Kept [] V3 Wz) := keptB HKc.out kz.out; clear HKc kz; have HKc : Hid (Kept [] V3 Wz) := HKn.out; clear HKn)
        | (go_at_call 43; refine Calls.mono (HC4.out _ HKc.out) ?_; rintro e Wz ⟨rfl, kz⟩; have HKn : Hid (Kept [] V3 Wz) := keptB HKc.out kz.out; clear HKc kz; have HKc : Hid (Kept [] V3 Wz) := HKn.out; clear HKn))
    all_goals go_wp2
    go_ret
    exact ⟨rfl, _, _, _, HS3.out.quiet HKc.out⟩
end Go.Proofs.Ytbbfajbnklgncaa
