/- The document's runner (augurref17): New. -/
import Derived.Test.YtbbfajbnklgncaaRuDocB
namespace Go.Proofs.Ytbbfajbnklgncaa
open Go.RowKit Go.Shelf Go.Maps

theorem kept_unset {a w : World} {p : Addr} {u : Value} (h : Kept [] a (w.setCell p u)) (hp : a.heap.size ≤ p.block) : Kept [] a w :=
  ⟨h.os, h.tape, h.output, by simpa [World.setCell] using h.size, fun k hk hn => (Below.heap_setCell _ _ _ _ (by omega)).symm.trans (h.block k hk hn)⟩
theorem exec_append {a : Act} {o : Oper} {s x : Operand} (t : TypeId) {v u v' : Value} {w w' : World} (hop : o.op = Op.call { callee := Callee.builtin Builtin.append, args := #[s, x], argTypes := #[t, t] }) (hs : a.eval s = v) (hx : a.eval x = u) (hrun : (Builtin.append_ #[t, t] o.type #[v, u]).run Try.prog w = .ok v' w') : (execOp a.eval o).run Try.prog w = .ok (.value v') w' := by
  simp [execOp, hop, resolve, invoke, builtin, hs, hx, hrun, Result.andThen]
theorem appendNil_step {wr : World} {F ub uo uc : Nat} {ys : List Int} (hF : F < wr.heap.size) (hu : ∀ i (h : i < ys.length), wr.cell? ⟨ub, uo + i, none⟩ = some (.int .i64 ys[i])) (h0 : 0 < ys.length) (hl : ys.length ≤ 1000) :
    ∃ v' w', (∀ ty, (Builtin.append_ #[83, 83] ty #[.slice none 0 0, .slice (some ⟨ub, uo, none⟩) ys.length uc]).run Try.prog wr = .ok v' w') ∧ Hid (w'.ownsRow (F + 1) 3 1 v' ys.length (numsI ys)) ∧ Hid (Kept [] wr w') ∧ v'.oneCell' = true ∧ ∃ g c, v' = .slice (some ⟨g, 0, none⟩) ys.length c := by
  obtain ⟨i0, hi, hz0, hz1, hz2⟩ := info_parts Try.infoInR
  obtain ⟨gr, cap, w2, g1, g2, g3, g4, g5⟩ := run_append_lies (P := Try.prog) wr 83 0 (F + 1) 3 i0 (.int .i64 0) 1 8 Try.underlying83 hi hz0 hz1 hz2 rfl (by decide) (.slice none 0 0) 0 [] ⟨rfl, .inl ⟨rfl, rfl⟩⟩ ⟨ub, uo, none⟩ ys.length uc (numsI ys) (by rw [numsI_len]; omega) (fun j u hj => by
    have hjl : j < ys.length := by have := (List.getElem?_eq_some_iff.1 hj).1; rwa [numsI_len] at this
    have : (numsI ys)[j]? = some (.int .i64 ys[j]) := by simp [numsI, hjl]
    rw [this] at hj
    cases hj
    have h9 := hu j hjl
    have e9 : Addr.add ⟨ub, uo, none⟩ j = ⟨ub, uo + j, none⟩ := by unfold Addr.add; split <;> simp_all
    rw [e9]; exact h9) (by intro u hu'; obtain ⟨x, _, rfl⟩ := List.mem_map.1 hu'; rfl) h0 (by unfold maxLen; omega) (by omega) (by omega) _ rfl
  rw [Nat.zero_add] at g1 g2
  exact ⟨_, w2, fun ty => g1, by rw [List.nil_append] at g2; exact g2, (Kept.refl [] wr).grown g3 (fun k e => by cases e), rfl, gr, cap, rfl⟩
theorem infRows : (Try.prog.info? 83).map (fun i => (i.zero, i.size, i.bytes)) = some (some (.slice none 0 0), 1, 24) := by kernel_rfl
theorem infVdsN : (Try.prog.info? 60).map (fun i => (i.zero, i.size, i.bytes)) = some (some (.int .u8 0), 1, 1) := by kernel_rfl
def DocNew (W : World) (Q : Nat) (ps : List ByteArray) (next : List (List Int)) (out : List Nat) : Prop := ∃ hi pv nv ov, DocW W hi Q pv nv ov ps next out 0 ∧ hi ≤ W.heap.size
def DNewEnd (ps : List ByteArray) (next : List (List Int)) (out : List Nat) (b : Bool) (w : World) (e : Ending) (w' : World) : Prop :=
  Hid (Kept [] w w') ∧ (b = true → ∃ Q, e = .returned (.tuple #[.pointer (some ⟨Q, 0, none⟩), .int .i64 0]) ∧ Hid (DocNew w' Q ps next out) ∧ Hid (w.heap.size ≤ Q)) ∧ (b = false → e = .returned (.tuple #[.pointer none, .int .i64 170]))
theorem fbox_none {w0 W : World} {F : Nat} {T a b c : TypeId} {x : Value} (h0 : w0.heap.size ≤ F) (k : Kept [] w0 W) (hb : W.heap[F]? = some (.cells #[.slice none 0 0, .slice none 0 0, .slice none 0 0, x] T (0, 0))) :
    FBox w0 W F T [.slice none 0 0, .slice none 0 0, .slice none 0 0, x] [some ⟨a, 1, 0, []⟩, some ⟨b, 1, 0, []⟩, some ⟨c, 1, 0, []⟩, none] := by
  have H : ∀ (i : Nat) (r : Rw) (v : Value), [some (⟨a, 1, 0, []⟩ : Rw), some ⟨b, 1, 0, []⟩, some ⟨c, 1, 0, []⟩, none][i]? = some (some r) → [Value.slice none 0 0, .slice none 0 0, .slice none 0 0, x][i]? = some v → r.n = 0 ∧ r.xs = [] ∧ v = .slice none 0 0 := by
    intro i r v h1 h2
    match i with
    | 0 => cases h1; cases h2; exact ⟨rfl, rfl, rfl⟩
    | 1 => cases h1; cases h2; exact ⟨rfl, rfl, rfl⟩
    | 2 => cases h1; cases h2; exact ⟨rfl, rfl, rfl⟩
    | 3 => cases h1
    | i + 4 => simp at h1
  refine ⟨h0, k, hb, fun i r v h1 h2 => ?_, fun i j r q v u g _ h1 h2 h3 h4 h5 => ?_⟩
  · obtain ⟨e1, e2, rfl⟩ := H i r v h1 h2
    rw [e1, e2]
    exact ⟨by simp, .inl ⟨rfl, rfl⟩⟩
  · obtain ⟨_, _, rfl⟩ := H i r v h1 h3
    cases h5
set_option maxHeartbeats 8000000 in
set_option maxRecDepth 10000 in
theorem refNew_any (pv nv ov : Value) (ps : List ByteArray) (next : List (List Int)) (out : List Nat) (w : World) (hp : Strs w pv ps) (hn : Rowss w nv next) (ho : Vds w ov out) (hf : out.length ≤ 1000000) (b : Bool) (hb : rightM ps next out = b) :
    Calls Try.prog 12 #[.agg #[pv, nv, ov]] w (DNewEnd ps next out b w) := by
  unfold DNewEnd
  obtain ⟨pa, pc, rfl, _, _⟩ := hp.form
  obtain ⟨na, nc, rfl, _, _⟩ := hn.form13
  obtain ⟨oa, oc, rfl⟩ := ho.form
  obtain ⟨V, hV⟩ : ∃ V, w.alloc (.cells #[.slice pa ps.length pc, .slice na next.length nc, .slice oa out.length oc] 26) = V := ⟨_, rfl⟩
  have kV : Kept [] w V := by rw [← hV]; exact (Kept.refl [] w).alloc _
  have hB : Thr 26 V w.heap.size (.slice pa ps.length pc) (.slice na next.length nc) (.slice oa out.length oc) := by rw [← hV]; exact al0 _ _
  have HV : Hid (_ = V) := hV
  have HVB : Hid (w.heap.size < V.heap.size) := lt_of hB
  have HKV : Hid (Kept [] w V) := kV
  have HC : Hid (∀ W, Kept [] V W → W.cell? ⟨w.heap.size, 0, none⟩ = some (.slice pa ps.length pc) ∧ W.cell? ⟨w.heap.size, 1, none⟩ = some (.slice na next.length nc) ∧ W.cell? ⟨w.heap.size, 2, none⟩ = some (.slice oa out.length oc)) := fun W k => (hB.keptF k (by simp)).cells
  have HCM : Hid (Calls Try.prog 36 #[.agg #[.slice pa ps.length pc, .slice na next.length nc, .slice oa out.length oc]] V fun e w' => e = .returned (.int .i64 ((if b then 0 else 140 : Nat) : Int)) ∧ Kept [] V w') := by rw [← hb]; exact refCheck14_any _ _ _ ps next out V (hp.kept kV) (hn.kept kV) (ho.kept kV)
  obtain ⟨c0, c1, c2⟩ := HC.out V (Kept.refl [] V)
  cases b with
  | false =>
    clear hp hn ho hV kV hB hb hf
    go_enter Try.func12, Try.ntmps12
    go_upto_region 1 with fail
    rw [HV.out]
    clear HV
    go_wp2_with (go_at_call 36; refine HCM.out.mono ?_; rintro e W1 ⟨rfl, k1⟩; have HK1 : Hid (Kept [] V W1) := k1; clear k1 c0 c1 c2)
    go_ret2
    exact ⟨keptB HKV.out HK1.out, (fun h => by cases h), fun _ => rfl⟩
  | true =>
    have HM : Hid (MachR ps next out) := machR_of hb hf
    have HP : Hid (Strs V (.slice pa ps.length pc) ps) := hp.kept kV
    have HN : Hid (Rowss V (.slice na next.length nc) next) := hn.kept kV
    have HO : Hid (Vds V (.slice oa out.length oc) out) := ho.kept kV
    have HSM : Hid ((∀ x ∈ ps, x.size ≤ maxLen) ∧ (∀ x ∈ out, x < 256) ∧ ps.length ≤ 8 ∧ next.length ≤ 1000000 ∧ out.length ≤ 1000000) := ⟨hp.small, ho.small, HM.out.few, HM.out.rows.few, hf⟩
    clear hp hn ho hV kV hB hb hf
    go_enter Try.func12, Try.ntmps12
    go_upto_region 1 with fail
    rw [HV.out]
    clear HV
    go_upto_region 4 with (go_at_call 36; refine HCM.out.mono ?_; rintro e W1 ⟨rfl, k1⟩; have HK1 : Hid (Kept [] V W1) := k1; clear k1 c0 c1 c2)
    obtain ⟨Wf, hWf⟩ : ∃ Wf, W1.alloc (.cells #[.slice none 0 0, .slice none 0 0, .slice none 0 0, .int .i64 0] 51) = Wf := ⟨_, rfl⟩
    have hbF : Wf.heap[W1.heap.size]? = some (.cells #[.slice none 0 0, .slice none 0 0, .slice none 0 0, .int .i64 0] 51 (0, 0)) := by rw [← hWf]; exact al0 _ _
    have kf : Kept [] V Wf.drew := by rw [← hWf]; exact (HK1.out.alloc _).drew
    have hF0 := fbox_none (a := 9) (b := 83) (c := 60) HK1.out.size kf (show Wf.drew.heap[W1.heap.size]? = _ from hbF)
    have HVF : Hid (V.heap.size ≤ W1.heap.size) := HK1.out.size
    have HBF : Hid (w.heap.size < V.heap.size ∧ w.heap.size < W1.heap.size) := by
      exact ⟨HVB.out, by have := HVF.out; have := HVB.out; omega⟩
    have HVB2 : Hid (w.heap.size < V.heap.size) := HVB.out
    obtain ⟨F, hF⟩ : ∃ F, W1.heap.size = F := ⟨_, rfl⟩
    rw [hF] at hbF hF0 HVF HBF
    have hWf' : W1.alloc (.cells #[.slice none 0 0, .slice none 0 0, .slice none 0 0, .int .i64 0] 51) = Wf := hWf
    obtain ⟨infT, hi1, hi2, hi3, hi4⟩ := info_parts Try.infoTL
    obtain ⟨v1, w2, hrun, hb2, hF1, hoth, hoth2, ad1, cc1, rfl⟩ := hF0.addS (i := 0) rfl rfl 22 infT _ 16 Try.underlying22 hi1 hi2 hi3 hi4 rfl (by decide) _ ps.length (cellsT ps) ((HP.out.kept kf).srcD) (by have := HSM.out.2.2.1; dsimp only; unfold maxLen; omega) (by have := HSM.out.2.2.1; dsimp only; omega)
    dsimp only at hF1
    dsimp only at hrun hoth hoth2 hb2
    rw [Nat.zero_add] at hrun hF1 hoth
    rw [List.nil_append] at hF1
    obtain ⟨W3, hW3⟩ : ∃ W3, w2.setCell ⟨F, 0, none⟩ (.slice ad1 ps.length cc1) = W3 := ⟨_, rfl⟩
    rw [hW3] at hF1
    have HW3 : Hid (w2.setCell ⟨F, 0, none⟩ (.slice ad1 ps.length cc1) = W3) := hW3
    have HF1 : Hid (FBox V W3 F 51 [.slice ad1 ps.length cc1, .slice none 0 0, .slice none 0 0, .int .i64 0] [some ⟨9, 1, ps.length, cellsT ps⟩, some ⟨83, 1, 0, []⟩, some ⟨60, 1, 0, []⟩, none]) := hF1
    have HR4 : Hid _ := hrun
    have q0 : Wf.drew.cell? ⟨w.heap.size, 0, none⟩ = some (.slice pa ps.length pc) := (HC.out _ kf).1
    have q1 : Wf.drew.cell? ⟨F, 0, none⟩ = some (.slice none 0 0) := (cell_of (show Wf.drew.heap[F]? = _ from hbF) 0).trans rfl
    have kw2 : Kept [] V w2 := kept_unset (by rw [hW3]; exact HF1.out.kept) (by show V.heap.size ≤ F; exact HVF.out)
    have q2 : w2.cell? ⟨w.heap.size, 0, none⟩ = some (.slice pa ps.length pc) := (HC.out _ kw2).1
    have q3 : w2.cell? ⟨F, 0, none⟩ = some (.slice none 0 0) := (cell_of hb2 0).trans rfl
    have q4 : w2.frozen? ⟨F, 0, none⟩ = false := free_of hb2 0
    have q5 : W3.cell? ⟨w.heap.size, 0, none⟩ = some (.slice pa ps.length pc) := (HC.out _ HF1.out.kept).1
    clear hrun hoth hoth2 hb2 hF0 hF1 hW3 kf kw2 hbF hi1 hi2 hi3 hi4 HVB
    rw [hWf, hF]
    clear hWf hWf' hF
    refine wp_regionHp (fun Y => Y.cell? ⟨w.heap.size, 0, none⟩ = some (.slice pa ps.length pc)) (by kernel_rfl) ?_
    refine heldTakeHp 0 (some 12) (.pointer (some ⟨F, 0, none⟩)) rfl rfl rfl (by kernel_rfl) (by kernel_rfl) (by kernel_rfl) (fun Y hY => ?_) q0 ?_
    · go_simp
    simp only [Act.put, List.setIfInBounds_toArray, List.set_cons_zero, List.set_cons_succ]
    refine heldTakeHp 1 (some 13) (.pointer (some ⟨F, 0, none⟩)) rfl rfl rfl (by kernel_rfl) (by kernel_rfl) (by kernel_rfl) (fun Y hY => ?_) q0 ?_
    · go_simp
    simp only [Act.put, List.setIfInBounds_toArray, List.set_cons_zero, List.set_cons_succ]
    refine heldTakeHp 2 (some 14) (.pointer (some ⟨F, 0, none⟩)) rfl rfl rfl (by kernel_rfl) (by kernel_rfl) (by kernel_rfl) (fun Y hY => ?_) q0 ?_
    · go_simp
    simp only [Act.put, List.setIfInBounds_toArray, List.set_cons_zero, List.set_cons_succ]
    refine heldTakeHp 3 (some 15) (.pointer (some ⟨F, 0, none⟩)) rfl rfl rfl (by kernel_rfl) (by kernel_rfl) (by kernel_rfl) (fun Y hY => ?_) q0 ?_
    · go_simp
    simp only [Act.put, List.setIfInBounds_toArray, List.set_cons_zero, List.set_cons_succ]
    refine heldTakeHp 4 (some 16) (.pointer (some ⟨F, 0, none⟩)) rfl rfl rfl (by kernel_rfl) (by kernel_rfl) (by kernel_rfl) (fun Y hY => ?_) q0 ?_
    · go_simp
    simp only [Act.put, List.setIfInBounds_toArray, List.set_cons_zero, List.set_cons_succ]
    refine heldTakeHp 6 (some 18) (.pointer (some ⟨w.heap.size, 0, none⟩)) rfl rfl rfl (by kernel_rfl) (by kernel_rfl) (by kernel_rfl) (fun Y hY => ?_) q0 ?_
    · go_simp
    simp only [Act.put, List.setIfInBounds_toArray, List.set_cons_zero, List.set_cons_succ]
    refine heldTakeHp 7 (some 19) (.slice pa ps.length pc) rfl rfl rfl (by kernel_rfl) (by kernel_rfl) (by kernel_rfl) (fun Y hY => ?_) q0 ?_
    · go_simp
    simp only [Act.put, List.setIfInBounds_toArray, List.set_cons_zero, List.set_cons_succ]
    refine heldOneHp 5 (by kernel_rfl) ?_
    refine opValueHp (some 17) (.slice none 0 0) (Wf.drew) rfl rfl rfl ?_ ⟨q0, ?_⟩
    · have y0 := q1
      go_simp
    simp only [Act.put, List.setIfInBounds_toArray, List.set_cons_zero, List.set_cons_succ]
    refine heldOneHp 8 (by kernel_rfl) ?_
    refine opValueHp (some 20) (.slice ad1 ps.length cc1) (w2) rfl rfl rfl (exec_append 22 rfl rfl rfl (HR4.out _)) ⟨q2, ?_⟩
    simp only [Act.put, List.setIfInBounds_toArray, List.set_cons_zero, List.set_cons_succ]
    refine heldTakeHp 9 (some 21) (.pointer (some ⟨F, 0, none⟩)) rfl rfl rfl (by kernel_rfl) (by kernel_rfl) (by kernel_rfl) (fun Y hY => ?_) q2 ?_
    · go_simp
    simp only [Act.put, List.setIfInBounds_toArray, List.set_cons_zero, List.set_cons_succ]
    refine heldTakeHp 10 (some 22) (.pointer (some ⟨F, 0, none⟩)) rfl rfl rfl (by kernel_rfl) (by kernel_rfl) (by kernel_rfl) (fun Y hY => ?_) q2 ?_
    · go_simp
    simp only [Act.put, List.setIfInBounds_toArray, List.set_cons_zero, List.set_cons_succ]
    refine heldTakeHp 11 (some 23) (.pointer (some ⟨F, 0, none⟩)) rfl rfl rfl (by kernel_rfl) (by kernel_rfl) (by kernel_rfl) (fun Y hY => ?_) q2 ?_
    · go_simp
    simp only [Act.put, List.setIfInBounds_toArray, List.set_cons_zero, List.set_cons_succ]
    refine heldOneHp 12 (by kernel_rfl) ?_
    refine opSkipHp (W3) rfl rfl rfl ?_ ⟨q5, ?_⟩
    · have y0 := q3
      have y1 := q4
      rw [← HW3.out]
      go_simp
    refine wpAnyH_done (by kernel_rfl) ?_ _
    simp only [Q1Hp]
    clear q0 q1 q2 q3 q4 q5 HR4
    obtain ⟨n, hn⟩ : ∃ n, next.length = n := ⟨_, rfl⟩
    have HLN : Hid (next.length = n) := hn
    rw [hn] at HC HCM ⊢
    go_wp2_with fail
    go_loopw [5, 6] (fun i _ wr => ∃ k : Nat, i = .int .i64 (k : Nat) ∧ k ≤ n ∧ ∃ nvk us, Hid (FBox V wr F 51 [.slice ad1 ps.length cc1, nvk, .slice none 0 0, .int .i64 0] [some ⟨9, 1, ps.length, cellsT ps⟩, some ⟨83, 1, us.length, us⟩, some ⟨60, 1, 0, []⟩, none]) ∧ Hid (InR wr F us (next.take k))) (fun i _ _ => n - (intOf i).toNat)
    case atStart => exact ⟨0, rfl, Nat.zero_le _, _, [], HF1.out, ⟨by simp, fun j u r h1 _ => by simp at h1⟩⟩
    case round =>
      obtain ⟨k, rfl, hk, nvk, us, HB, HI⟩ := hrel
      obtain ⟨c0, c1, c2⟩ := HC.out wr HB.out.kept
      by_cases hlt : k < n
      · have z0 : (k : Int) < (n : Int) := by omega
        have z1 : (0 : Int) ≤ (k : Int) := by omega
        rcases HN.out.lie with ⟨e9, he⟩ | ⟨nb, no, nc', e9, _, _, hce⟩
        · have := HLN.out
          rw [he] at this
          simp at this
          omega
        cases e9
        have hkn : k < next.length := by rw [HLN.out]; exact hlt
        obtain ⟨u, hu, hI⟩ := hce k hkn
        obtain ⟨r0, r1, r2⟩ := HM.out.rows.row _ (List.getElem_mem hkn)
        have hr? : next[k]? = some next[k] := List.getElem?_eq_getElem hkn
        obtain ⟨row, hrow⟩ : ∃ row, next[k] = row := ⟨_, rfl⟩
        rw [hrow] at hI r0 r1 hr?
        obtain ⟨ub, uo, uc, rfl, _, _, hu3⟩ := hI.there r0
        have HFL : Hid (F < wr.heap.size) := lt_of HB.out.box
        obtain ⟨v1, w2, h12, HO1, HK12, hone, g1, cc3, hv1⟩ := appendNil_step (wr := wr.drew) (F := F) (uc := uc) HFL.out (fun i hi => cell_kept0 HB.out.kept.drew (hu3 i hi)) r0 (by omega)
        have k3 : Kept [] wr (w2.alloc (.cells #[v1] 83)) := (keptB (Kept.refl [] wr).drew HK12.out).alloc _
        have k2 : Kept [] wr w2 := keptB (Kept.refl [] wr).drew HK12.out
        have hB3 := HB.out.go k3
        have hbA : (w2.alloc (.cells #[v1] 83)).heap[w2.heap.size]? = some (.cells #[v1] 83 (0, 0)) := al0 _ _
        have hsr : Src 1 (w2.alloc (.cells #[v1] 83)) (.slice (some ⟨w2.heap.size, 0, none⟩) 1 1) 1 [v1] := ⟨rfl, by intro x hx; simp at hx; subst hx; exact hone, .inr ⟨_, _, rfl, by omega, by unfold maxLen; omega, fun _ => rfl, fun h => by omega, fun j x hx => by
          rw [addr_add, Nat.zero_add, cell_of hbA]
          simpa using hx⟩⟩
        obtain ⟨infR, hi1, hi2, hi3, hi4⟩ := info_parts infRows
        have hul : us.length = k := by rw [HI.out.1, List.length_take]; have := HLN.out; omega
        have hnf := HSM.out.2.2.2.1
        rw [HLN.out] at hnf
        obtain ⟨v2, w4, h14, hb4, hF4, hoth, hoth2, ad2, cc2, hv2⟩ := hB3.addS (i := 1) rfl rfl 23 infR _ 24 Try.underlying23 hi1 hi2 hi3 hi4 rfl Nat.one_pos _ 1 [v1] hsr (by dsimp only; unfold maxLen; omega) (by dsimp only; omega)
        obtain ⟨W5, hW5⟩ : ∃ W5, w4.setCell ⟨F, 1, none⟩ v2 = W5 := ⟨_, rfl⟩
        rw [hW5] at hF4 hoth
        have HW5 : Hid (w4.setCell ⟨F, 1, none⟩ v2 = W5) := hW5
        have HB5 : Hid (FBox V W5 F 51 [.slice ad1 ps.length cc1, v2, .slice none 0 0, .int .i64 0] [some ⟨9, 1, ps.length, cellsT ps⟩, some ⟨83, 1, (us ++ [v1]).length, us ++ [v1]⟩, some ⟨60, 1, 0, []⟩, none]) := by
          have : (us ++ [v1]).length = us.length + 1 := by simp
          show FBox _ _ _ _ _ _
          rw [this]
          exact hF4
        have HI5 : Hid (InR W5 F (us ++ [v1]) (next.take (k + 1))) := by
          show InR _ _ _ _
          rw [List.take_add_one, hr?]
          have hI3 : InR (w2.alloc (.cells #[v1] 83)) F us (next.take k) := HI.out.moved (fun b cur hb _ => k3.at hb (by simp))
          refine (hI3.snoc (bx_kept HO1.out ((Kept.refl [] w2).alloc _) (by simp))).moved (fun b cur hb hbF => hoth b _ hb (by omega) ?_)
          exact own_kind (hB3.own 1 _ _ rfl rfl) hb (show (83 : Nat) ≠ 3 by decide)
        have k4 : Kept [] V w4 := kept_unset (by rw [hW5]; exact HB5.out.kept) (by show V.heap.size ≤ F; exact HVF.out)
        have hcell : ∀ W, Kept [] V W → (W.cell? ⟨w.heap.size, 1, none⟩ = some (.slice (some ⟨nb, no, none⟩) n nc) ∧ W.cell? ⟨nb, no + k, none⟩ = some (.slice (some ⟨ub, uo, none⟩) row.length uc)) := fun W k => ⟨(HC.out W k).2.1, cell_kept0 k hu⟩
        obtain ⟨rl, hrl⟩ : ∃ rl, row.length = rl := ⟨_, rfl⟩
        rw [hrl] at hcell h12
        have SA : Hid (wr.drew.cell? ⟨w.heap.size, 1, none⟩ = some (.slice (some ⟨nb, no, none⟩) n nc) ∧ wr.drew.cell? ⟨nb, no + k, none⟩ = some (.slice (some ⟨ub, uo, none⟩) rl uc)) := hcell _ HB.out.kept.drew
        have SB : Hid (w2.cell? ⟨w.heap.size, 1, none⟩ = some (.slice (some ⟨nb, no, none⟩) n nc) ∧ w2.cell? ⟨nb, no + k, none⟩ = some (.slice (some ⟨ub, uo, none⟩) rl uc)) := hcell _ (keptB HB.out.kept k2)
        have SC : Hid ((w2.alloc (.cells #[v1] 83)).cell? ⟨w.heap.size, 1, none⟩ = some (.slice (some ⟨nb, no, none⟩) n nc) ∧ (w2.alloc (.cells #[v1] 83)).cell? ⟨nb, no + k, none⟩ = some (.slice (some ⟨ub, uo, none⟩) rl uc)) := hcell _ (keptB HB.out.kept k3)
        have SD : Hid (w4.cell? ⟨w.heap.size, 1, none⟩ = some (.slice (some ⟨nb, no, none⟩) n nc) ∧ w4.cell? ⟨nb, no + k, none⟩ = some (.slice (some ⟨ub, uo, none⟩) rl uc)) := hcell _ k4
        have SE : Hid (W5.cell? ⟨w.heap.size, 1, none⟩ = some (.slice (some ⟨nb, no, none⟩) n nc) ∧ W5.cell? ⟨nb, no + k, none⟩ = some (.slice (some ⟨ub, uo, none⟩) rl uc)) := hcell _ HB5.out.kept
        have CA : Hid (wr.drew.cell? ⟨F, 1, none⟩ = some nvk) := (HB.out.cell (i := 1) rfl).1
        have CB : Hid (w2.cell? ⟨F, 1, none⟩ = some nvk) := ((HB.out.go k2).cell (i := 1) rfl).1
        have CC : Hid ((w2.alloc (.cells #[v1] 83)).cell? ⟨F, 1, none⟩ = some nvk) := (hB3.cell (i := 1) rfl).1
        have CD : Hid (w4.cell? ⟨F, 1, none⟩ = some nvk ∧ w4.frozen? ⟨F, 1, none⟩ = false) := ⟨(cell_of hb4 1).trans rfl, free_of hb4 1⟩
        have HR12 : Hid _ := h12
        have HV1 : Hid (v1 = .slice (some ⟨g1, 0, none⟩) row.length cc3) := hv1
        have HV2 : Hid (v2 = .slice ad2 (us.length + 1) cc2) := hv2
        have HR14 : Hid _ := h14
        have HUL : Hid (us.length = k) := hul
        clear r2 hce hu hI hr? hrow hu3 hrl h12 k3 k2 hB3 hbA hsr hi1 hi2 hi3 hi4 hul h14 hb4 hF4 hoth hoth2 hW5 k4 hcell hone hkn hv1 hv2 c0 c2
        go_upto_region 9 with fail
        refine wp_regionHp (fun Y => Y.cell? ⟨w.heap.size, 1, none⟩ = some (.slice (some ⟨nb, no, none⟩) n nc) ∧ Y.cell? ⟨nb, no + k, none⟩ = some (.slice (some ⟨ub, uo, none⟩) rl uc)) (by kernel_rfl) ?_
        refine heldTakeHp 0 (some 31) (.pointer (some ⟨F, 0, none⟩)) rfl rfl rfl (by kernel_rfl) (by kernel_rfl) (by kernel_rfl) (fun Y hY => ?_) SA.out ?_
        · obtain ⟨y0, y1⟩ := hY
          go_simp
        simp only [Act.put, List.setIfInBounds_toArray, List.set_cons_zero, List.set_cons_succ]
        refine heldTakeHp 1 (some 32) (.pointer (some ⟨F, 0, none⟩)) rfl rfl rfl (by kernel_rfl) (by kernel_rfl) (by kernel_rfl) (fun Y hY => ?_) SA.out ?_
        · obtain ⟨y0, y1⟩ := hY
          go_simp
        simp only [Act.put, List.setIfInBounds_toArray, List.set_cons_zero, List.set_cons_succ]
        refine heldTakeHp 2 (some 33) (.pointer (some ⟨F, 0, none⟩)) rfl rfl rfl (by kernel_rfl) (by kernel_rfl) (by kernel_rfl) (fun Y hY => ?_) SA.out ?_
        · obtain ⟨y0, y1⟩ := hY
          go_simp
        simp only [Act.put, List.setIfInBounds_toArray, List.set_cons_zero, List.set_cons_succ]
        refine heldTakeHp 3 (some 34) (.pointer (some ⟨F, 0, none⟩)) rfl rfl rfl (by kernel_rfl) (by kernel_rfl) (by kernel_rfl) (fun Y hY => ?_) SA.out ?_
        · obtain ⟨y0, y1⟩ := hY
          go_simp
        simp only [Act.put, List.setIfInBounds_toArray, List.set_cons_zero, List.set_cons_succ]
        refine heldTakeHp 4 (some 35) (.pointer (some ⟨F, 1, none⟩)) rfl rfl rfl (by kernel_rfl) (by kernel_rfl) (by kernel_rfl) (fun Y hY => ?_) SA.out ?_
        · obtain ⟨y0, y1⟩ := hY
          go_simp
        simp only [Act.put, List.setIfInBounds_toArray, List.set_cons_zero, List.set_cons_succ]
        refine heldTakeHp 6 (some 37) (.slice none 0 0) rfl rfl rfl (by kernel_rfl) (by kernel_rfl) (by kernel_rfl) (fun Y hY => ?_) SA.out ?_
        · obtain ⟨y0, y1⟩ := hY
          go_simp
        simp only [Act.put, List.setIfInBounds_toArray, List.set_cons_zero, List.set_cons_succ]
        refine heldTakeHp 7 (some 38) (.pointer (some ⟨w.heap.size, 1, none⟩)) rfl rfl rfl (by kernel_rfl) (by kernel_rfl) (by kernel_rfl) (fun Y hY => ?_) SA.out ?_
        · obtain ⟨y0, y1⟩ := hY
          go_simp
        simp only [Act.put, List.setIfInBounds_toArray, List.set_cons_zero, List.set_cons_succ]
        refine heldTakeHp 8 (some 39) (.slice (some ⟨nb, no, none⟩) n nc) rfl rfl rfl (by kernel_rfl) (by kernel_rfl) (by kernel_rfl) (fun Y hY => ?_) SA.out ?_
        · obtain ⟨y0, y1⟩ := hY
          go_simp
        simp only [Act.put, List.setIfInBounds_toArray, List.set_cons_zero, List.set_cons_succ]
        refine heldTakeHp 9 (some 40) (.int .i64 (k : Nat)) rfl rfl rfl (by kernel_rfl) (by kernel_rfl) (by kernel_rfl) (fun Y hY => ?_) SA.out ?_
        · obtain ⟨y0, y1⟩ := hY
          go_simp
        simp only [Act.put, List.setIfInBounds_toArray, List.set_cons_zero, List.set_cons_succ]
        refine heldTakeHp 10 (some 41) (.pointer (some ⟨nb, no + k, none⟩)) rfl rfl rfl (by kernel_rfl) (by kernel_rfl) (by kernel_rfl) (fun Y hY => ?_) SA.out ?_
        · obtain ⟨y0, y1⟩ := hY
          go_simp
        simp only [Act.put, List.setIfInBounds_toArray, List.set_cons_zero, List.set_cons_succ]
        refine heldTakeHp 11 (some 42) (.slice (some ⟨ub, uo, none⟩) rl uc) rfl rfl rfl (by kernel_rfl) (by kernel_rfl) (by kernel_rfl) (fun Y hY => ?_) SA.out ?_
        · obtain ⟨y0, y1⟩ := hY
          go_simp
        simp only [Act.put, List.setIfInBounds_toArray, List.set_cons_zero, List.set_cons_succ]
        refine heldTwoHp 5 12 (by kernel_rfl) ?_ ?_
        · refine opValueHp (some 36) nvk (wr.drew) rfl rfl rfl ?_ ⟨SA.out, ?_⟩
          · have y0 := CA.out
            go_simp
          simp only [Act.put, List.setIfInBounds_toArray, List.set_cons_zero, List.set_cons_succ]
          refine heldOneHp 12 (by kernel_rfl) ?_
          refine opValueHp (some 43) v1 w2 rfl rfl rfl (exec_append 83 rfl rfl rfl (HR12.out _)) ⟨SB.out, ?_⟩
          simp only [Act.put, List.setIfInBounds_toArray, List.set_cons_zero, List.set_cons_succ]
          refine heldOneHp 13 (by kernel_rfl) ?_
          refine opValueHp (some 44) (.slice (some ⟨w2.heap.size, 0, none⟩) 1 1) (w2.alloc (.cells #[v1] 83)) rfl rfl rfl ?_ ⟨SC.out, ?_⟩
          · rw [HV1.out]
            go_simp
          simp only [Act.put, List.setIfInBounds_toArray, List.set_cons_zero, List.set_cons_succ]
          refine heldOneHp 14 (by kernel_rfl) ?_
          refine opValueHp (some 45) v2 w4 rfl rfl rfl (exec_append 23 rfl rfl rfl (HR14.out _)) ⟨SD.out, ?_⟩
          simp only [Act.put, List.setIfInBounds_toArray, List.set_cons_zero, List.set_cons_succ]
          refine heldTakeHp 15 (some 46) (.pointer (some ⟨F, 0, none⟩)) rfl rfl rfl (by kernel_rfl) (by kernel_rfl) (by kernel_rfl) (fun Y hY => ?_) SD.out ?_
          · go_simp
          simp only [Act.put, List.setIfInBounds_toArray, List.set_cons_zero, List.set_cons_succ]
          refine heldTakeHp 16 (some 47) (.pointer (some ⟨F, 0, none⟩)) rfl rfl rfl (by kernel_rfl) (by kernel_rfl) (by kernel_rfl) (fun Y hY => ?_) SD.out ?_
          · go_simp
          simp only [Act.put, List.setIfInBounds_toArray, List.set_cons_zero, List.set_cons_succ]
          refine heldTakeHp 17 (some 48) (.pointer (some ⟨F, 1, none⟩)) rfl rfl rfl (by kernel_rfl) (by kernel_rfl) (by kernel_rfl) (fun Y hY => ?_) SD.out ?_
          · go_simp
          simp only [Act.put, List.setIfInBounds_toArray, List.set_cons_zero, List.set_cons_succ]
          refine heldOneHp 18 (by kernel_rfl) ?_
          refine opSkipHp W5 rfl rfl rfl ?_ ⟨SE.out, ?_⟩
          · have y0 := CD.out.1
            have y1 := CD.out.2
            rw [← HW5.out, HV2.out]
            go_simp
          refine wpAnyH_done (by kernel_rfl) ?_ _
          simp only [Q1Hp]
          go_wp2
          go_roundw
          case rel => exact ⟨k + 1, by go_num, by omega, v2, us ++ [v1], HB5, HI5⟩
          case measure => simp [intOf]; omega
        · refine opValueHp (some 43) v1 w2 rfl rfl rfl (exec_append 83 rfl rfl rfl (HR12.out _)) ⟨SB.out, ?_⟩
          simp only [Act.put, List.setIfInBounds_toArray, List.set_cons_zero, List.set_cons_succ]
          refine heldTwoHp 5 13 (by kernel_rfl) ?_ ?_
          · refine opValueHp (some 36) nvk (w2) rfl rfl rfl ?_ ⟨SB.out, ?_⟩
            · have y0 := CB.out
              go_simp
            simp only [Act.put, List.setIfInBounds_toArray, List.set_cons_zero, List.set_cons_succ]
            refine heldOneHp 13 (by kernel_rfl) ?_
            refine opValueHp (some 44) (.slice (some ⟨w2.heap.size, 0, none⟩) 1 1) (w2.alloc (.cells #[v1] 83)) rfl rfl rfl ?_ ⟨SC.out, ?_⟩
            · rw [HV1.out]
              go_simp
            simp only [Act.put, List.setIfInBounds_toArray, List.set_cons_zero, List.set_cons_succ]
            refine heldOneHp 14 (by kernel_rfl) ?_
            refine opValueHp (some 45) v2 w4 rfl rfl rfl (exec_append 23 rfl rfl rfl (HR14.out _)) ⟨SD.out, ?_⟩
            simp only [Act.put, List.setIfInBounds_toArray, List.set_cons_zero, List.set_cons_succ]
            refine heldTakeHp 15 (some 46) (.pointer (some ⟨F, 0, none⟩)) rfl rfl rfl (by kernel_rfl) (by kernel_rfl) (by kernel_rfl) (fun Y hY => ?_) SD.out ?_
            · go_simp
            simp only [Act.put, List.setIfInBounds_toArray, List.set_cons_zero, List.set_cons_succ]
            refine heldTakeHp 16 (some 47) (.pointer (some ⟨F, 0, none⟩)) rfl rfl rfl (by kernel_rfl) (by kernel_rfl) (by kernel_rfl) (fun Y hY => ?_) SD.out ?_
            · go_simp
            simp only [Act.put, List.setIfInBounds_toArray, List.set_cons_zero, List.set_cons_succ]
            refine heldTakeHp 17 (some 48) (.pointer (some ⟨F, 1, none⟩)) rfl rfl rfl (by kernel_rfl) (by kernel_rfl) (by kernel_rfl) (fun Y hY => ?_) SD.out ?_
            · go_simp
            simp only [Act.put, List.setIfInBounds_toArray, List.set_cons_zero, List.set_cons_succ]
            refine heldOneHp 18 (by kernel_rfl) ?_
            refine opSkipHp W5 rfl rfl rfl ?_ ⟨SE.out, ?_⟩
            · have y0 := CD.out.1
              have y1 := CD.out.2
              rw [← HW5.out, HV2.out]
              go_simp
            refine wpAnyH_done (by kernel_rfl) ?_ _
            simp only [Q1Hp]
            go_wp2
            go_roundw
            case rel => exact ⟨k + 1, by go_num, by omega, v2, us ++ [v1], HB5, HI5⟩
            case measure => simp [intOf]; omega
          · refine opValueHp (some 44) (.slice (some ⟨w2.heap.size, 0, none⟩) 1 1) (w2.alloc (.cells #[v1] 83)) rfl rfl rfl ?_ ⟨SC.out, ?_⟩
            · rw [HV1.out]
              go_simp
            simp only [Act.put, List.setIfInBounds_toArray, List.set_cons_zero, List.set_cons_succ]
            refine heldOneHp 5 (by kernel_rfl) ?_
            refine opValueHp (some 36) nvk (w2.alloc (.cells #[v1] 83)) rfl rfl rfl ?_ ⟨SC.out, ?_⟩
            · have y0 := CC.out
              go_simp
            simp only [Act.put, List.setIfInBounds_toArray, List.set_cons_zero, List.set_cons_succ]
            refine heldOneHp 14 (by kernel_rfl) ?_
            refine opValueHp (some 45) v2 w4 rfl rfl rfl (exec_append 23 rfl rfl rfl (HR14.out _)) ⟨SD.out, ?_⟩
            simp only [Act.put, List.setIfInBounds_toArray, List.set_cons_zero, List.set_cons_succ]
            refine heldTakeHp 15 (some 46) (.pointer (some ⟨F, 0, none⟩)) rfl rfl rfl (by kernel_rfl) (by kernel_rfl) (by kernel_rfl) (fun Y hY => ?_) SD.out ?_
            · go_simp
            simp only [Act.put, List.setIfInBounds_toArray, List.set_cons_zero, List.set_cons_succ]
            refine heldTakeHp 16 (some 47) (.pointer (some ⟨F, 0, none⟩)) rfl rfl rfl (by kernel_rfl) (by kernel_rfl) (by kernel_rfl) (fun Y hY => ?_) SD.out ?_
            · go_simp
            simp only [Act.put, List.setIfInBounds_toArray, List.set_cons_zero, List.set_cons_succ]
            refine heldTakeHp 17 (some 48) (.pointer (some ⟨F, 1, none⟩)) rfl rfl rfl (by kernel_rfl) (by kernel_rfl) (by kernel_rfl) (fun Y hY => ?_) SD.out ?_
            · go_simp
            simp only [Act.put, List.setIfInBounds_toArray, List.set_cons_zero, List.set_cons_succ]
            refine heldOneHp 18 (by kernel_rfl) ?_
            refine opSkipHp W5 rfl rfl rfl ?_ ⟨SE.out, ?_⟩
            · have y0 := CD.out.1
              have y1 := CD.out.2
              rw [← HW5.out, HV2.out]
              go_simp
            refine wpAnyH_done (by kernel_rfl) ?_ _
            simp only [Q1Hp]
            go_wp2
            go_roundw
            case rel => exact ⟨k + 1, by go_num, by omega, v2, us ++ [v1], HB5, HI5⟩
            case measure => simp [intOf]; omega
      · obtain rfl : k = n := by omega
        have z0 : ¬ ((k : Int) < (k : Int)) := by omega
        have hi9 : InR wr F us next := by
          have := HI.out
          rwa [List.take_of_length_le (by have := HLN.out; omega)] at this
        obtain ⟨infV, hi1, hi2, hi3, hi4⟩ := info_parts infVdsN
        obtain ⟨v6, w6, h10, hb6, hF6, hoth, hoth2, ad3, cc3, hv6⟩ := (HB.out.go ((Kept.refl [] wr).drew)).addS (i := 2) rfl rfl 24 infV _ 1 Try.underlying24 hi1 hi2 hi3 hi4 rfl Nat.one_pos _ out.length (cellsV out) ((HO.out.kept HB.out.kept.drew).src) (by have := HSM.out.2.2.2.2; dsimp only; unfold maxLen; omega) (by have := HSM.out.2.2.2.2; dsimp only; omega)
        dsimp only at h10 hv6
        subst hv6
        rw [Nat.zero_add] at h10 hF6 hoth
        rw [List.nil_append] at hF6
        obtain ⟨W7, hW7⟩ : ∃ W7, w6.setCell ⟨F, 2, none⟩ (.slice ad3 out.length cc3) = W7 := ⟨_, rfl⟩
        rw [hW7] at hF6 hoth
        have HW7 : Hid (w6.setCell ⟨F, 2, none⟩ (.slice ad3 out.length cc3) = W7) := hW7
        have HB7 : Hid (FBox V W7 F 51 [.slice ad1 ps.length cc1, nvk, .slice ad3 out.length cc3, .int .i64 (0 : Nat)] [some ⟨9, 1, ps.length, cellsT ps⟩, some ⟨83, 1, us.length, us⟩, some ⟨60, 1, out.length, cellsV out⟩, none]) := hF6
        have hi7 : InR W7 F us next := hi9.moved (fun b cur hb hbF => hoth b _ hb (by omega) (by simp [Value.ownBlock]))
        have HDS : Hid (DocNew W7 F ps next out) := ⟨_, _, _, _, docW_of HB7.out hi7 HM.out HSM.out.1 HSM.out.2.1, Nat.le_refl _⟩
        have k6 : Kept [] V w6 := kept_unset (by rw [hW7]; exact HB7.out.kept) (by show V.heap.size ≤ F; exact HVF.out)
        have SA : Hid (wr.drew.cell? ⟨w.heap.size, 2, none⟩ = some (.slice oa out.length oc)) := (HC.out _ HB.out.kept.drew).2.2
        have SB : Hid (w6.cell? ⟨w.heap.size, 2, none⟩ = some (.slice oa out.length oc)) := (HC.out _ k6).2.2
        have SC : Hid (W7.cell? ⟨w.heap.size, 2, none⟩ = some (.slice oa out.length oc)) := (HC.out _ HB7.out.kept).2.2
        have SF : Hid (wr.drew.cell? ⟨F, 2, none⟩ = some (.slice none 0 0)) := (HB.out.cell (i := 2) rfl).1
        have CD : Hid (w6.cell? ⟨F, 2, none⟩ = some (.slice none 0 0) ∧ w6.frozen? ⟨F, 2, none⟩ = false) := ⟨(cell_of hb6 2).trans rfl, free_of hb6 2⟩
        have HR10 : Hid _ := h10
        clear hi9 hi1 hi2 hi3 hi4 h10 hb6 hF6 hoth hoth2 hW7 hi7 k6 c0 c2
        go_upto_region 10 with fail
        refine wp_regionHp (fun Y => Y.cell? ⟨w.heap.size, 2, none⟩ = some (.slice oa out.length oc)) (by kernel_rfl) ?_
        refine heldTakeHp 0 (some 49) (.pointer (some ⟨F, 0, none⟩)) rfl rfl rfl (by kernel_rfl) (by kernel_rfl) (by kernel_rfl) (fun Y hY => ?_) SA.out ?_
        · go_simp
        simp only [Act.put, List.setIfInBounds_toArray, List.set_cons_zero, List.set_cons_succ]
        refine heldTakeHp 1 (some 50) (.pointer (some ⟨F, 0, none⟩)) rfl rfl rfl (by kernel_rfl) (by kernel_rfl) (by kernel_rfl) (fun Y hY => ?_) SA.out ?_
        · go_simp
        simp only [Act.put, List.setIfInBounds_toArray, List.set_cons_zero, List.set_cons_succ]
        refine heldTakeHp 2 (some 51) (.pointer (some ⟨F, 0, none⟩)) rfl rfl rfl (by kernel_rfl) (by kernel_rfl) (by kernel_rfl) (fun Y hY => ?_) SA.out ?_
        · go_simp
        simp only [Act.put, List.setIfInBounds_toArray, List.set_cons_zero, List.set_cons_succ]
        refine heldTakeHp 3 (some 52) (.pointer (some ⟨F, 0, none⟩)) rfl rfl rfl (by kernel_rfl) (by kernel_rfl) (by kernel_rfl) (fun Y hY => ?_) SA.out ?_
        · go_simp
        simp only [Act.put, List.setIfInBounds_toArray, List.set_cons_zero, List.set_cons_succ]
        refine heldTakeHp 4 (some 53) (.pointer (some ⟨F, 2, none⟩)) rfl rfl rfl (by kernel_rfl) (by kernel_rfl) (by kernel_rfl) (fun Y hY => ?_) SA.out ?_
        · go_simp
        simp only [Act.put, List.setIfInBounds_toArray, List.set_cons_zero, List.set_cons_succ]
        refine heldTakeHp 6 (some 55) (.pointer (some ⟨w.heap.size, 2, none⟩)) rfl rfl rfl (by kernel_rfl) (by kernel_rfl) (by kernel_rfl) (fun Y hY => ?_) SA.out ?_
        · go_simp
        simp only [Act.put, List.setIfInBounds_toArray, List.set_cons_zero, List.set_cons_succ]
        refine heldTakeHp 7 (some 56) (.slice oa out.length oc) rfl rfl rfl (by kernel_rfl) (by kernel_rfl) (by kernel_rfl) (fun Y hY => ?_) SA.out ?_
        · go_simp
        simp only [Act.put, List.setIfInBounds_toArray, List.set_cons_zero, List.set_cons_succ]
        refine heldOneHp 5 (by kernel_rfl) ?_
        refine opValueHp (some 54) (.slice none 0 0) (wr.drew) rfl rfl rfl ?_ ⟨SA.out, ?_⟩
        · have y0 := SF.out
          go_simp
        simp only [Act.put, List.setIfInBounds_toArray, List.set_cons_zero, List.set_cons_succ]
        refine heldOneHp 8 (by kernel_rfl) ?_
        refine opValueHp (some 57) (.slice ad3 out.length cc3) (w6) rfl rfl rfl (exec_append 24 rfl rfl rfl (HR10.out _)) ⟨SB.out, ?_⟩
        simp only [Act.put, List.setIfInBounds_toArray, List.set_cons_zero, List.set_cons_succ]
        refine heldTakeHp 9 (some 58) (.pointer (some ⟨F, 0, none⟩)) rfl rfl rfl (by kernel_rfl) (by kernel_rfl) (by kernel_rfl) (fun Y hY => ?_) SB.out ?_
        · go_simp
        simp only [Act.put, List.setIfInBounds_toArray, List.set_cons_zero, List.set_cons_succ]
        refine heldTakeHp 10 (some 59) (.pointer (some ⟨F, 0, none⟩)) rfl rfl rfl (by kernel_rfl) (by kernel_rfl) (by kernel_rfl) (fun Y hY => ?_) SB.out ?_
        · go_simp
        simp only [Act.put, List.setIfInBounds_toArray, List.set_cons_zero, List.set_cons_succ]
        refine heldTakeHp 11 (some 60) (.pointer (some ⟨F, 2, none⟩)) rfl rfl rfl (by kernel_rfl) (by kernel_rfl) (by kernel_rfl) (fun Y hY => ?_) SB.out ?_
        · go_simp
        simp only [Act.put, List.setIfInBounds_toArray, List.set_cons_zero, List.set_cons_succ]
        refine heldOneHp 12 (by kernel_rfl) ?_
        refine opSkipHp (W7) rfl rfl rfl ?_ ⟨SC.out, ?_⟩
        · have y0 := CD.out.1
          have y1 := CD.out.2
          rw [← HW7.out]
          go_simp
        refine wpAnyH_done (by kernel_rfl) ?_ _
        simp only [Q1Hp]
        clear c1
        go_wp2
        go_ret2
        exact ⟨keptB HKV.out HB7.out.kept, F, rfl, HDS.out, by have := HVF.out; have := HVB2.out; show w.heap.size ≤ F; omega⟩
end Go.Proofs.Ytbbfajbnklgncaa
