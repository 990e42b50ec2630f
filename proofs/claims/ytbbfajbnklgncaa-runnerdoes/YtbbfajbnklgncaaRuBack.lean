/- runner.backOf of any machine. -/
import Derived.Test.YtbbfajbnklgncaaRuRows
import Derived.Test.YtbbfajbnklgncaaMoCheck
namespace Go.Proofs.Ytbbfajbnklgncaa
open Go.RowKit Go.Shelf

theorem make_rowsN (w : World) (k : Nat) (hk : k ≤ 1000000) : Sem.run Try.prog (Instr.makeSlice 23 (.int .i64 (k : Nat)) (.int .i64 (k : Nat))) w = .ok (.slice (some ⟨w.heap.size, 0, none⟩) k k) (w.alloc (.cells (List.replicate k (.slice none 0 0)).toArray 83)) := by
  have hinf : (Try.prog.info? 83).map (fun i => (i.zero, i.size, i.bytes)) = some (some (.slice none 0 0), 1, 24) := by kernel_rfl
  obtain ⟨i, hi, hz, hs, hb⟩ := info_parts hinf
  have h := run_make (P := Try.prog) w 23 83 i _ Try.underlying23 hi hz .i64 .i64 (k : Int) (k : Int) (by omega) (by omega) (by rw [hb]; omega) (by omega)
  have e : madeCells (Value.cells (.slice none 0 0)) (k * 1) = (List.replicate k (Value.slice none 0 0)).toArray := by
    rw [Nat.mul_one]
    apply Array.ext'
    simp only [madeCells, Value.cells, List.size_toArray, List.length_cons, List.length_nil, Array.toList_map, Array.toList_range]
    apply List.ext_getElem
    · simp
    · intro i h1 h2
      simp [Nat.mod_one]
  rw [h, hs, Int.toNat_natCast, e]
/-- The rows of a machine that is right. -/
structure RightR (next : List (List Int)) : Prop where
  pos : 0 < next.length
  few : next.length ≤ 1000000
  row : ∀ r ∈ next, 0 < r.length ∧ r.length ≤ 256 ∧ ∀ x ∈ r, 0 ≤ x ∧ x < (next.length : Int)
/-- What leads where, behind k rows and j entries of the next one. -/
structure BkTo (next : List (List Int)) (bk : List (List Nat)) (k j : Nat) : Prop where
  iff : ∀ tg fr, tg < next.length → (fr ∈ bk.getD tg [] ↔ (fr < k ∧ (tg : Int) ∈ next.getD fr []) ∨ (fr = k ∧ (tg : Int) ∈ (next.getD k []).take j))
  len : ∀ tg, (bk.getD tg []).length ≤ k * 256 + j
theorem BkTo.zero (next : List (List Int)) : BkTo next (List.replicate next.length []) 0 0 := by
  have e : ∀ tg, (List.replicate next.length ([] : List Nat)).getD tg [] = [] := fun tg => by
    rw [List.getD_eq_getElem?_getD, List.getElem?_replicate]; split <;> rfl
  exact ⟨fun tg fr _ => by rw [e]; simp, fun tg => by rw [e]; simp⟩
theorem take_one {l : List Int} {j : Nat} {x : Int} (h : l[j]? = some x) (y : Int) : y ∈ l.take (j + 1) ↔ y ∈ l.take j ∨ y = x := by
  rw [List.take_add_one, h]; simp
theorem BkTo.same {next : List (List Int)} {bk : List (List Nat)} {k j tg : Nat} (h : BkTo next bk k j) (hx : (next.getD k [])[j]? = some (tg : Int)) (hin : k ∈ bk.getD tg []) : BkTo next bk k (j + 1) := by
  refine ⟨fun t fr ht => ?_, fun t => by have := h.len t; omega⟩
  rw [h.iff t fr ht, take_one hx]
  by_cases e : t = tg
  · subst e
    have h1 := (h.iff t k ht).1 hin
    constructor
    · rintro (q | ⟨q1, q2⟩)
      · exact .inl q
      · exact .inr ⟨q1, .inl q2⟩
    · rintro (q | ⟨q1, q2 | q2⟩)
      · exact .inl q
      · exact .inr ⟨q1, q2⟩
      · subst q1
        exact h1
  · have : ¬ (t : Int) = (tg : Int) := by omega
    simp [this]
theorem BkTo.add {next : List (List Int)} {bk : List (List Nat)} {k j tg : Nat} {xs : List Nat} (h : BkTo next bk k j) (hx : (next.getD k [])[j]? = some (tg : Int)) (hb : bk[tg]? = some xs) : BkTo next (bk.set tg (xs ++ [k])) k (j + 1) := by
  have hlt : tg < bk.length := (List.getElem?_eq_some_iff.1 hb).1
  have e0 : bk.getD tg [] = xs := by rw [List.getD_eq_getElem?_getD, hb]; rfl
  have e1 : (bk.set tg (xs ++ [k])).getD tg [] = xs ++ [k] := by rw [List.getD_eq_getElem?_getD, List.getElem?_set_self hlt]; rfl
  have e2 : ∀ t, t ≠ tg → (bk.set tg (xs ++ [k])).getD t [] = bk.getD t [] := fun t ht => by rw [List.getD_eq_getElem?_getD, List.getElem?_set_ne (fun e => ht e.symm), ← List.getD_eq_getElem?_getD]
  refine ⟨fun t fr ht => ?_, fun t => ?_⟩
  · rw [take_one hx]
    by_cases e : t = tg
    · subst e
      rw [e1, List.mem_append, ← e0, h.iff t fr ht, List.mem_singleton]
      constructor
      · rintro ((q | ⟨q1, q2⟩) | q)
        · exact .inl q
        · exact .inr ⟨q1, .inl q2⟩
        · exact .inr ⟨q, .inr rfl⟩
      · rintro (q | ⟨q1, q2 | _⟩)
        · exact .inl (.inl q)
        · exact .inl (.inr ⟨q1, q2⟩)
        · exact .inr q1
    · have : ¬ (t : Int) = (tg : Int) := by omega
      rw [e2 t e, h.iff t fr ht]
      simp [this]
  · by_cases e : t = tg
    · subst e
      rw [e1, List.length_append, List.length_singleton]
      have := h.len t
      rw [e0] at this
      omega
    · rw [e2 t e]
      have := h.len t
      omega
set_option maxRecDepth 10000 in
theorem BkTo.next {next : List (List Int)} {bk : List (List Nat)} {k j : Nat} (h : BkTo next bk k j) (hj : (next.getD k []).length ≤ j) (hl : j ≤ 256) : BkTo next bk (k + 1) 0 := by
  refine ⟨fun t fr ht => ?_, fun t => by have := h.len t; omega⟩
  rw [h.iff t fr ht, List.take_of_length_le hj]
  constructor
  · rintro (⟨q1, q2⟩ | ⟨q1, q2⟩)
    · exact .inl ⟨by omega, q2⟩
    · subst q1; exact .inl ⟨by omega, q2⟩
  · rintro (⟨q1, q2⟩ | ⟨_, q2⟩)
    · rcases Nat.lt_or_ge fr k with q | q
      · exact .inl ⟨q, q2⟩
      · obtain rfl : fr = k := by omega
        exact .inr ⟨rfl, q2⟩
    · simp at q2
theorem last_in {xs : List Nat} {k : Nat} (h0 : 0 < xs.length) (h : xs[xs.length - 1]'(by omega) = k) : k ∈ xs := by
  rw [← h]; exact List.getElem_mem _

set_option maxHeartbeats 4000000 in
set_option maxRecDepth 10000 in
theorem backOf_any (pv nv ov : Value) (next : List (List Int)) (w : World) (hn : Rowss w nv next) (hr : RightR next) :
    Calls Try.prog 69 #[.agg #[pv, nv, ov]] w fun e w' => ∃ B vs bk, e = .returned (.slice (some ⟨B, 0, none⟩) next.length next.length) ∧ Hid (RowsN w' w.heap.size B next.length vs bk) ∧ Hid (BkTo next bk next.length 0) ∧ Hid (Kept [] w w') := by
  obtain ⟨n, hln⟩ : ∃ n, next.length = n := ⟨_, rfl⟩
  have hfew : n ≤ 1000000 := by rw [← hln]; exact hr.few
  obtain ⟨V, hV⟩ : ∃ V, w.alloc (.cells #[pv, nv, ov] 26) = V := ⟨_, rfl⟩
  have kV : Kept [] w V := by rw [← hV]; exact (Kept.refl [] w).alloc _
  have hB : V.heap[w.heap.size]? = some (.cells #[pv, nv, ov] 26 (0, 0)) := by rw [← hV]; exact al0 _ _
  have hmk := make_rowsN V n hfew
  obtain ⟨U, hU⟩ : ∃ U, V.alloc (.cells (List.replicate n (.slice none 0 0)).toArray 83) = U := ⟨_, rfl⟩
  obtain ⟨B, hBq⟩ : ∃ B, V.heap.size = B := ⟨_, rfl⟩
  have kU : Kept [] V U := by rw [← hU]; exact (Kept.refl [] V).alloc _
  have HR0 : Hid (RowsN U w.heap.size B n (List.replicate n (.slice none 0 0)) (List.replicate n [])) := by
    show RowsN U _ _ _ _ _
    refine ⟨by rw [← hU, ← hBq]; exact al0 _ _, by rw [← hBq]; exact kV.size, by simp, by simp, fun i v xs h1 h2 => ?_, fun i j v u g _ h1 _ h3 => ?_⟩
    · obtain rfl := (List.eq_of_mem_replicate (List.mem_of_getElem? h1))
      obtain rfl := (List.eq_of_mem_replicate (List.mem_of_getElem? h2))
      exact ⟨rfl, .inl ⟨rfl, rfl⟩⟩
    · obtain rfl := (List.eq_of_mem_replicate (List.mem_of_getElem? h1))
      cases h3
  have HK0 : Hid (Kept [] w U) := keptB kV kU
  have HZ : Hid (BkTo next (List.replicate n []) 0 0) := by rw [← hln]; exact BkTo.zero next
  rw [hBq, hU] at hmk
  have HV : Hid (_ = V) := hV
  have HN : Hid (∀ W, Kept [] w W → Rowss W nv next) := fun W k => hn.kept k
  have HRR : Hid (∀ r ∈ next, 0 < r.length ∧ r.length ≤ 256 ∧ ∀ x ∈ r, 0 ≤ x ∧ x < (n : Int)) := by show ∀ r ∈ next, _; rw [← hln]; exact hr.row
  have c1 : V.cell? ⟨w.heap.size, 1, none⟩ = some nv := (cell_of hB 1).trans rfl
  have C1 : Hid (∀ W, Kept [] V W → W.cell? ⟨w.heap.size, 1, none⟩ = some nv) := fun W k => cell_kept0 k c1
  have c1u : U.cell? ⟨w.heap.size, 1, none⟩ = some nv := C1.out U kU
  have HLN : Hid (next.length = n) := hln
  have z0 : (0 : Int) ≤ (n : Int) := by omega
  have HKVW : Hid (w.heap.size ≤ w.heap.size) := Nat.le_refl _
  rcases hn.lie with ⟨hnv, he⟩ | ⟨nb, no, nc, hnv, hc1, hc2, hce⟩
  · have := hr.pos
    rw [he] at this
    simp at this
  · subst hnv
    have HCE : Hid (∀ i (h : i < next.length), ∃ u, w.cell? ⟨nb, no + i, none⟩ = some u ∧ Ints w u next[i]) := hce
    clear hce
    rw [hln] at hc1 c1 c1u C1
    clear hn hr hU hV kV kU hB hBq hln
    go_enter Try.func69, Try.ntmps69
    go_upto_region 1 with fail
    rw [HV.out]
    clear HV
    go_wp2_with fail
    clear hmk
    go_loopw [16] (fun v wr => ∃ k : Nat, v = .int .i64 (k : Nat) ∧ k ≤ n ∧ ∃ vs bk, Hid (RowsN wr w.heap.size B n vs bk) ∧ Hid (BkTo next bk k 0) ∧ Hid (Kept [] w wr)) (fun v _ => n - (intOf v).toNat)
    case atStart => exact ⟨0, rfl, Nat.zero_le _, _, _, HR0, HZ, HK0⟩
    case round =>
      obtain ⟨k, rfl, hk, vs, bk, HR, HI, HK⟩ := hrel
      by_cases hlt : k < n
      · have q0 : (k : Int) < (n : Int) := by omega
        have q1 : (0 : Int) ≤ (k : Int) := by omega
        obtain ⟨u, hu, hI⟩ := HCE.out k (by rw [HLN.out]; exact hlt)
        obtain ⟨row, hrow⟩ : ∃ row, next[k]'(by rw [HLN.out]; exact hlt) = row := ⟨_, rfl⟩
        rw [hrow] at hI
        have HRK : Hid (next.getD k [] = row) := by show next.getD k [] = row; rw [List.getD_eq_getElem?_getD, List.getElem?_eq_getElem (by rw [HLN.out]; exact hlt), hrow]; rfl
        obtain ⟨r0, r1, r2⟩ := HRR.out row (by rw [← hrow]; exact List.getElem_mem _)
        obtain ⟨ub, uo, uc, rfl, hu1, hu2, hu3⟩ := hI.there r0
        have HUC : Hid (∀ i (h : i < row.length), w.cell? ⟨ub, uo + i, none⟩ = some (.int .i64 row[i])) := hu3
        have HR2 : Hid (∀ x ∈ row, 0 ≤ x ∧ x < (n : Int)) := r2
        have d0 := cell_kept0 HK.out hu
        clear hI hrow hu hu3 r2
        go_wp2_with fail
        go_loopw [23] (fun v w2 => ∃ j : Nat, v = .int .i64 (j : Nat) ∧ j ≤ row.length ∧ ∃ vs bk, Hid (RowsN w2 w.heap.size B n vs bk) ∧ Hid (BkTo next bk k j) ∧ Hid (Kept [] w w2)) (fun v _ => row.length - (intOf v).toNat)
        case atStart => exact ⟨0, rfl, Nat.zero_le _, _, _, HR, HI, HK⟩
        case round =>
          rename World => w2
          obtain ⟨j, rfl, hj, vs, bk, HR, HI, HK⟩ := hrel
          by_cases hjl : j < row.length
          · have q2 : (j : Int) < (row.length : Int) := by omega
            have q3 : (0 : Int) ≤ (j : Int) := by omega
            obtain ⟨x, hx⟩ : ∃ x, row[j] = x := ⟨_, rfl⟩
            have d1 := cell_kept0 HK.out (HUC.out j hjl)
            rw [hx] at d1
            obtain ⟨x0, x1⟩ := HR2.out x (by rw [← hx]; exact List.getElem_mem _)
            obtain ⟨tg, rfl⟩ : ∃ tg : Nat, x = (tg : Int) := ⟨x.toNat, by omega⟩
            have hxg : (next.getD k [])[j]? = some (tg : Int) := by rw [HRK.out, List.getElem?_eq_getElem hjl, hx]
            have htg : tg < n := by omega
            obtain ⟨v, xs, hv, hxs, hc, hf⟩ := HR.out.at htg
            have hlx : xs.length ≤ k * 256 + j := by have := HI.out.len tg; rw [List.getD_eq_getElem?_getD, hxs] at this; exact this
            obtain ⟨Y, hY⟩ : ∃ Y, w2.alloc (.cells #[.int .i64 (k : Nat)] 3) = Y := ⟨_, rfl⟩
            have kY : Kept [] w2 Y := by rw [← hY]; exact (Kept.refl [] w2).alloc _
            obtain ⟨gr, cap, w3, hrun, e1, e2, hR3, hK3⟩ := (HR.out.kept kY).app (A := w2.heap.size) (x := k) hv hxs (by omega) (by rw [← hY]; exact (cell_of (al0 w2 _) 0).trans rfl)
            have HRUN : Hid (∀ ty, (Builtin.append_ #[83, 83] ty #[v, .slice (some ⟨w2.heap.size, 0, none⟩) 1 1]).run Try.prog (w2.alloc (.cells #[.int .i64 (k : Nat)] 3)) = .ok (.slice (some ⟨gr, 0, none⟩) (xs.length + 1) cap) w3) := by show ∀ ty, _; rw [hY]; exact hrun
            have HR3 : Hid _ := hR3
            have HI3 : Hid (BkTo next (bk.set tg (xs ++ [k])) k (j + 1)) := HI.out.add hxg hxs
            have HK3 : Hid (Kept [] w (w3.setCell ⟨B, tg, none⟩ (.slice (some ⟨gr, 0, none⟩) (xs.length + 1) cap))) := hK3 w (keptB HK.out kY) (Nat.le_refl _)
            have HSAME : Hid (k ∈ xs → BkTo next bk k (j + 1)) := fun hin => HI.out.same hxg (by rw [List.getD_eq_getElem?_getD, hxs]; exact hin)
            have hca : (w2.alloc (.cells #[.int .i64 (k : Nat)] 3)).cell? ⟨B, tg, none⟩ = some v := by rw [hY]; exact cell_kept0 kY hc
            have lies := HR.out.lies hv hxs
            clear hrun hR3 hK3 hv hxs kY hY hx hxg
            obtain ⟨ln, hln2⟩ : ∃ ln, xs.length = ln := ⟨_, rfl⟩
            rw [hln2] at HRUN hlx
            have HLN2 : Hid (xs.length = ln) := hln2
            have HR4 : Hid (RowsN (w3.setCell ⟨B, tg, none⟩ (.slice (some ⟨gr, 0, none⟩) (ln + 1) cap)) w.heap.size B n (vs.set tg (.slice (some ⟨gr, 0, none⟩) (ln + 1) cap)) (bk.set tg (xs ++ [k]))) := by rw [← hln2]; exact HR3
            have HK4 : Hid (Kept [] w (w3.setCell ⟨B, tg, none⟩ (.slice (some ⟨gr, 0, none⟩) (ln + 1) cap))) := by rw [← hln2]; exact HK3
            clear HR3 HK3
            rw [hln2] at lies
            clear hln2
            rcases lies with ⟨rfl, he⟩ | ⟨g, c, rfl, _, hxc, hxm, hxl⟩
            · obtain rfl : ln = 0 := by rw [← HLN2.out, he]; rfl
              clear he
              go_wp2_with (at_builtin; refine Lib.wpList_append_run _ rfl _ _ _ _ rfl _ _ rfl rfl _ _ (HRUN.out _) ?_)
              go_roundw
              case rel => exact ⟨j + 1, by go_num, by omega, _, _, HR4, HI3, HK4⟩
              case measure => simp [intOf]; omega
            · by_cases hx0 : ln = 0
              · subst hx0
                clear hxl
                go_wp2_with (at_builtin; refine Lib.wpList_append_run _ rfl _ _ _ _ rfl _ _ rfl rfl _ _ (HRUN.out _) ?_)
                go_roundw
                case rel => exact ⟨j + 1, by go_num, by omega, _, _, HR4, HI3, HK4⟩
                case measure => simp [intOf]; omega
              · have p0 : ¬ (ln : Int) = 0 := by omega
                have p1 : (0 : Int) ≤ (ln : Int) - 1 := by omega
                have p2 : (ln : Int) - 1 < (ln : Int) := by omega
                have p3 : ((ln : Int) - 1).toNat = ln - 1 := by omega
                obtain ⟨y, hy⟩ : ∃ y, xs.getD (ln - 1) 0 = y := ⟨_, rfl⟩
                have d5 := hxl (ln - 1) (by omega)
                rw [hy] at d5
                have HYI : Hid (y ∈ xs) := by
                  show y ∈ xs
                  have := HLN2.out
                  rw [← hy, List.getD_eq_getElem?_getD, List.getElem?_eq_getElem (by omega)]
                  exact List.getElem_mem _
                clear hy hxl
                by_cases hyk : y = k
                · have HS : Hid (BkTo next bk k (j + 1)) := HSAME.out (by rw [← hyk]; exact HYI.out)
                  subst hyk
                  go_wp2
                  go_roundw
                  case rel => exact ⟨j + 1, by go_num, by omega, _, _, HR, HS, HK⟩
                  case measure => simp [intOf]; omega
                · have hyi : ¬ (y : Int) = (k : Int) := by omega
                  have hne : ((y : Int) != (k : Int)) = true := by simpa using hyi
                  go_wp2_with (at_builtin; refine Lib.wpList_append_run _ rfl _ _ _ _ rfl _ _ rfl rfl _ _ (HRUN.out _) ?_)
                  go_roundw
                  case rel => exact ⟨j + 1, by go_num, by omega, _, _, HR4, HI3, HK4⟩
                  case measure => simp [intOf]; omega
          · obtain rfl : j = row.length := by omega
            have q2 : ¬ ((row.length : Int) < (row.length : Int)) := by omega
            have HNX : Hid (BkTo next bk (k + 1) 0) := HI.out.next (by rw [HRK.out]; exact Nat.le_refl _) r1
            go_wp2
            go_roundw
            case rel => exact ⟨k + 1, by go_num, by omega, _, _, HR, HNX, HK⟩
            case measure => simp [intOf]; omega
      · obtain rfl : k = n := by omega
        have q0 : ¬ ((k : Int) < (k : Int)) := by omega
        go_wp2
        go_ret
        exact ⟨B, by rw [HLN.out]; rfl, vs, bk, by rw [HLN.out]; exact HR, by rw [HLN.out]; exact HI, HK⟩
end Go.Proofs.Ytbbfajbnklgncaa
