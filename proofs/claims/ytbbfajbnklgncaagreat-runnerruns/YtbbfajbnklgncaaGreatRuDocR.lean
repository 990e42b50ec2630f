/- The document's runner (augurref17): Run. -/
import Derived.Test.YtbbfajbnklgncaaGreatRuDocN
namespace Go.Proofs.YtbbfajbnklgncaaGreat
open Go.RowKit Go.Shelf Go.Maps

/-- The verdicts behind each of the first k events. -/
def runP (ps : List ByteArray) (next : List (List Int)) (out : List Nat) (es : List (List ByteArray)) (k : Nat) : List Nat := (List.range k).map fun i => out.getD (goN ps next (es.take (i + 1))) 0
theorem runP_len {ps : List ByteArray} {next : List (List Int)} {out : List Nat} {es : List (List ByteArray)} {k : Nat} : (runP ps next out es k).length = k := by simp [runP]
theorem runP_succ {ps : List ByteArray} {next : List (List Int)} {out : List Nat} {es : List (List ByteArray)} {k : Nat} : runP ps next out es (k + 1) = runP ps next out es k ++ [out.getD (goN ps next (es.take (k + 1))) 0] := by
  simp [runP, List.range_succ]
theorem runP_all {ps : List ByteArray} {next : List (List Int)} {out : List Nat} {es : List (List ByteArray)} : runP ps next out es es.length = runV ps next out es es.length := by
  unfold runP runV
  apply List.map_congr_left
  intro i hi
  rw [if_pos (by simpa using hi)]
theorem own_lowR {W : World} {base base' : Nat} {e : TypeId} {size : Nat} {v : Value} {n : Nat} {xs : List Value} (h : W.ownsRow base e size v n xs) (hb : base' ≤ base) : W.ownsRow base' e size v n xs := by
  refine ⟨h.1, ?_⟩
  rcases h.2 with h2 | ⟨g, cap, cur, e, h2, h3⟩
  · exact .inl h2
  · exact .inr ⟨g, cap, cur, e, by omega, h3⟩
theorem appendVd_step {W : World} {base : Nat} {v : Value} {xs : List Nat} (x : Nat) (hown : W.ownsRow base 38 1 v xs.length (vdC xs)) (hb : base ≤ W.heap.size) (hl : xs.length ≤ 1000000000000) :
    ∃ v' W2, (∀ ty, (Builtin.append_ #[24, 24] ty #[v, .slice (some ⟨W.heap.size, 0, none⟩) 1 1]).run Tryz.prog (W.alloc (.cells #[.int .u8 (x : Nat)] 38)) = .ok v' W2) ∧ W2.ownsRow base 38 1 v' (xs ++ [x]).length (vdC (xs ++ [x])) ∧ (W.alloc (.cells #[.int .u8 (x : Nat)] 38)).grownBy W2 v.ownBlock := by
  obtain ⟨i0, hi, hz0, hz1, hz2⟩ := info_parts infVdsN
  have hbA : (W.alloc (.cells #[.int .u8 (x : Nat)] 38)).heap[W.heap.size]? = some (.cells #[.int .u8 (x : Nat)] 38 (0, 0)) := al0 _ _
  have ho := bx_kept hown ((Kept.refl [] W).alloc (.cells #[.int .u8 (x : Nat)] 38)) (by simp)
  obtain ⟨gr, cap, w2, g1, g2, g3, g4, g5⟩ := run_append_lies (P := Tryz.prog) (W.alloc (.cells #[.int .u8 (x : Nat)] 38)) 24 0 base 38 i0 (.int .u8 0) 1 1 Tryz.underlying24 hi hz0 hz1 hz2 rfl (by decide) v xs.length (vdC xs) ho ⟨W.heap.size, 0, none⟩ 1 1 [.int .u8 (x : Nat)] rfl (fun j u hu => by
      rw [addr_add, Nat.zero_add, cell_of hbA]
      simpa using hu) (by intro u hu; simp at hu; subst hu; rfl) (by decide) (by unfold maxLen; omega) (by omega) (by rw [World.size_alloc]; omega) _ rfl
  refine ⟨_, w2, fun ty => g1, ?_, g3⟩
  have e1 : (xs ++ [x]).length = xs.length + 1 := by simp
  have e2 : vdC (xs ++ [x]) = vdC xs ++ [.int .u8 (x : Nat)] := by simp [vdC]
  rw [e1, e2]
  exact g2
theorem DocS.grown {Wb W W' : World} {Q s : Nat} {ps : List ByteArray} {next : List (List Int)} {out : List Nat} {row : Option Nat} (h : DocS Wb W Q ps next out s) (hg : W.grownBy W' row) (hr : ∀ g, row = some g → Wb.heap.size ≤ g) (hQ : Q < Wb.heap.size) : DocS Wb W' Q ps next out s := by
  obtain ⟨pv, nv, ov, h1, h2⟩ := h.ex
  have hq : W'.heap[Q]? = W.heap[Q]? := hg.block Q (lt_of h1) (fun e => by have := hr Q e.symm; omega)
  exact ⟨⟨pv, nv, ov, by rw [hq]; exact h1, h2⟩, h.kept.grown hg (fun k e => .inr (hr k e)), h.lt⟩
def DRunEnd (ps : List ByteArray) (next : List (List Int)) (out : List Nat) (es : List (List ByteArray)) (b : Bool) (w : World) (e : Ending) (w' : World) : Prop :=
  Hid (Kept [] w w') ∧ (b = true → ∃ v, e = .returned (.tuple #[v, .int .i64 0]) ∧ Hid (w'.ownsRow w.heap.size 38 1 v es.length (vdC (runV ps next out es es.length)))) ∧ (b = false → e = .returned (.tuple #[.slice none 0 0, .int .i64 170]))
set_option maxHeartbeats 8000000 in
set_option maxRecDepth 10000 in
theorem refRun_any (pv nv ov ev : Value) (ps : List ByteArray) (next : List (List Int)) (out : List Nat) (es : List (List ByteArray)) (w : World) (hp : Strs w pv ps) (hn : Rowss w nv next) (ho : Vds w ov out) (he : Evs w ev es) (hf : out.length ≤ 1000000) (hle : es.length ≤ 100000000000) (b : Bool) (hb : rightM ps next out = b) :
    Calls Tryz.prog 13 #[.agg #[pv, nv, ov], ev] w (DRunEnd ps next out es b w) := by
  unfold DRunEnd
  obtain ⟨pa, pc, rfl, _, _⟩ := hp.form
  obtain ⟨na, nc, rfl, _, _⟩ := hn.form13
  obtain ⟨oa, oc, rfl⟩ := ho.form
  obtain ⟨V, hV⟩ : ∃ V, w.alloc (.cells #[.slice pa ps.length pc, .slice na next.length nc, .slice oa out.length oc] 26) = V := ⟨_, rfl⟩
  have kV : Kept [] w V := by rw [← hV]; exact (Kept.refl [] w).alloc _
  have hB : Thr 26 V w.heap.size (.slice pa ps.length pc) (.slice na next.length nc) (.slice oa out.length oc) := by rw [← hV]; exact al0 _ _
  have HV : Hid (_ = V) := hV
  have HKV : Hid (Kept [] w V) := kV
  have HNW : Hid (Calls Tryz.prog 29 #[.agg #[.slice pa ps.length pc, .slice na next.length nc, .slice oa out.length oc]] V (DNewEnd ps next out b V)) := refNew_any _ _ _ ps next out V (hp.kept kV) (hn.kept kV) (ho.kept kV) hf b hb
  obtain ⟨c0, c1, c2⟩ := hB.cells
  have HEV : Hid (∀ W, Kept [] w W → Evs W ev es) := fun W k => he.kept k
  have hef := he.few
  obtain ⟨ea, ec, rfl⟩ := he.form
  cases b with
  | false =>
    clear hp hn ho he hV kV hB hb hf
    go_enter Tryz.func13, Tryz.ntmps13
    go_upto_region 1 with fail
    rw [HV.out]
    clear HV
    go_wp2_with (go_at_call 29; refine Calls.mono HNW.out ?_; rintro e W1 ⟨HK1, _, hfa⟩; have e9 := hfa rfl; subst e9; clear hfa c0 c1 c2)
    go_ret2
    exact ⟨keptB HKV.out HK1.out, (fun h => by cases h), fun _ => rfl⟩
  | true =>
    have HM : Hid (MachR ps next out) := machR_of hb hf
    clear hp hn ho he hV kV hB hb hf
    go_enter Tryz.func13, Tryz.ntmps13
    go_upto_region 1 with fail
    rw [HV.out]
    clear HV
    go_wp2_with (go_at_call 29; refine Calls.mono HNW.out ?_; rintro e W1 ⟨HK1, htr, _⟩; obtain ⟨Q, rfl, HD, HQ⟩ := htr rfl; clear htr c0 c1 c2)
    have HKW : Hid (Kept [] w W1) := keptB HKV.out HK1.out
    have HQB : Hid (w.heap.size ≤ Q ∧ Q < W1.heap.size) := by
      obtain ⟨_, _, _, h1, _⟩ := HD.out.ex
      exact ⟨by have := HKV.out.size; have := HQ.out; omega, lt_of h1⟩
    go_loopw [8, 9] (fun l i wr => ∃ k : Nat, i = .int .i64 (k : Nat) ∧ k ≤ es.length ∧ Hid (DocS W1 wr Q ps next out (goN ps next (es.take k))) ∧ Hid (wr.ownsRow W1.heap.size 38 1 l (runP ps next out es k).length (vdC (runP ps next out es k))) ∧ Hid (Kept [] w wr)) (fun _ i _ => es.length - (intOf i).toNat)
    case atStart => exact ⟨0, rfl, Nat.zero_le _, HD, ⟨rfl, .inl ⟨rfl, rfl⟩⟩, HKW⟩
    case round =>
      obtain ⟨k, rfl, hk, HD, HO, HK⟩ := hrel
      by_cases hlt : k < es.length
      · have q0 : (k : Int) < (es.length : Int) := by omega
        have q1 : (0 : Int) ≤ (k : Int) := by omega
        rcases (HEV.out wr HK.out).lie with ⟨_, he⟩ | ⟨b, o, c, hpe, _, _, hcell⟩
        · rw [he] at hlt; simp at hlt
        · cases hpe
          obtain ⟨u, hu, hS, _⟩ := hcell k hlt
          have hx? : es[k]? = some es[k] := List.getElem?_eq_getElem hlt
          obtain ⟨x, hx⟩ : ∃ x, es[k] = x := ⟨_, rfl⟩
          rw [hx] at hS hx?
          have HLT : Hid (Calls Tryz.prog 31 #[.pointer (some ⟨Q, 0, none⟩), u] wr fun e w' => e = .returned (.int .u16 (letterN ps x : Nat)) ∧ Hid (Kept [] wr w')) := refLetter_any W1 Q _ ps next out u x wr HD.out HM.out hS
          have hl16 : letterN ps x < 65536 := by have := letterN_lt HM.out.few x; omega
          have HST : Hid (∀ W, Kept [] wr W → Calls Tryz.prog 30 #[.pointer (some ⟨Q, 0, none⟩), .int .u16 (letterN ps x : Nat)] W fun e w' => e = .returned (.int .u8 (out.getD (goN ps next (es.take (k + 1))) 0 : Nat)) ∧ Hid (DocS W1 w' Q ps next out (goN ps next (es.take (k + 1)))) ∧ Hid (Kept [Q] W w')) := fun W kw => by
            rw [goN_take hx?]
            exact refStep_any W1 Q _ _ ps next out W (HD.out.more kw) HM.out hl16
          obtain ⟨v, hv⟩ : ∃ v, out.getD (goN ps next (es.take (k + 1))) 0 = v := ⟨_, rfl⟩
          obtain ⟨lt, hlt16⟩ : ∃ l, letterN ps x = l := ⟨_, rfl⟩
          rw [hlt16] at HLT HST
          have HNV : Hid (runP ps next out es (k + 1) = runP ps next out es k ++ [v]) := by rw [← hv]; exact runP_succ
          rw [hv] at HST
          clear hcell hS hx hx? hl16 hlt16 hv
          go_wp2_with (first
            | (go_at_call 31; refine HLT.out.mono ?_; rintro e W5 ⟨rfl, HK5⟩)
            | (go_at_call 30; refine (HST.out W5 HK5.out).mono ?_; rintro e W6 ⟨rfl, HD6, HK6⟩; obtain ⟨v2, W8, h8, HO8, hg8⟩ := appendVd_step v (bx_kept (bx_kept HO.out HK5.out (by simp)) HK6.out (fun g e hg => by have := (bx_base HO.out e).1; have := HQB.out.2; simp at hg; omega)) (by have := (HD6.out).kept.size; exact this) (by rw [runP_len]; omega); have HR8 : Hid _ := h8; have HO9 : Hid _ := HO8; have HG8 : Hid _ := hg8; clear h8 HO8 hg8)
            | (at_builtin; refine Lib.wpList_append_run _ rfl _ _ _ _ rfl _ _ rfl rfl _ _ (HR8.out _) ?_))
          have HD7 : Hid (DocS W1 W8 Q ps next out (goN ps next (es.take (k + 1)))) := (HD6.out.more ((Kept.refl [] W6).alloc _)).grown HG8.out (fun g e => (bx_base HO.out e).1) HQB.out.2
          have HO10 := HO9.out
          rw [← HNV.out] at HO10
          have HK8 : Hid (Kept [] w W8) := ((keptB HK.out HK5.out).trans (HK6.out.alloc _) (by simp) (fun x hx => .inr (by have := HQB.out.1; simp at hx; omega)) |>.grown HG8.out (fun g e => .inr (by have := (bx_base HO.out e).1; have := HKW.out.size; omega)))
          go_roundw
          case rel => exact ⟨k + 1, by go_num, by omega, HD7, HO10, HK8⟩
          case measure => simp [intOf]; omega
      · obtain rfl : k = es.length := by omega
        have q0 : ¬ ((es.length : Int) < (es.length : Int)) := by omega
        have HO2 : Hid (wr.ownsRow w.heap.size 38 1 u8 es.length (vdC (runV ps next out es es.length))) := by
          have := HO.out
          rw [runP_len, runP_all] at this
          exact own_lowR this HKW.out.size
        go_wp2
        go_ret2
        exact ⟨HK, _, rfl, HO2⟩
end Go.Proofs.YtbbfajbnklgncaaGreat
