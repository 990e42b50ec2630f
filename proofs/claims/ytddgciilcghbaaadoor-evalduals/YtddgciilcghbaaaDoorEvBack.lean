/- A row of a table, found backwards: Table.Places, Table.backwards. -/
import Derived.Test.YtddgciilcghbaaaDoorEvSat
import Derived.Test.YtddgciilcghbaaaDoorWdSmall
import Derived.Test.YtddgciilcghbaaaDoorTrReb
namespace Go.Proofs.YtddgciilcghbaaaDoor
open Go.RowKit Go.Shelf

/-- A table in memory; a row of one's own. -/
def Tab5 (W : World) (p : Nat) (nv sv lv rv mv : Value) : Prop := W.heap[p]? = some (.cells #[nv, sv, lv, rv, mv] 103 (0, 0))
theorem Tab5.cells {W : World} {p : Nat} {nv sv lv rv mv : Value} (h : Tab5 W p nv sv lv rv mv) : W.cell? ⟨p, 0, none⟩ = some nv ∧ W.cell? ⟨p, 1, none⟩ = some sv ∧ W.cell? ⟨p, 2, none⟩ = some lv ∧ W.cell? ⟨p, 3, none⟩ = some rv ∧ W.cell? ⟨p, 4, none⟩ = some mv ∧ ∀ i, W.frozen? ⟨p, i, none⟩ = false :=
  ⟨(cell_of h 0).trans rfl, (cell_of h 1).trans rfl, (cell_of h 2).trans rfl, (cell_of h 3).trans rfl, (cell_of h 4).trans rfl, fun i => free_of h i⟩
theorem Tab5.kept {W W' : World} {p : Nat} {nv sv lv rv mv : Value} (h : Tab5 W p nv sv lv rv mv) (k : Kept [] W W') : Tab5 W' p nv sv lv rv mv := k.at h (by simp)
def RowB (W : World) (b n : Nat) (r : Nat → Bool) : Prop := ∃ cur, W.heap[b]? = some (.cells cur 4 (0, 0)) ∧ cur.size = n ∧ ∀ i, i < n → cur[i]? = some (.bool (r i))
theorem RowB.kept {W W' : World} {b n : Nat} {r : Nat → Bool} (h : RowB W b n r) (k : Kept [] W W') : RowB W' b n r := by
  obtain ⟨cur, h1, h2, h3⟩ := h
  exact ⟨cur, k.at h1 (by simp), h2, h3⟩
theorem RowB.cell {W : World} {b n : Nat} {r : Nat → Bool} (h : RowB W b n r) {i : Nat} (hi : i < n) : W.cell? ⟨b, i, none⟩ = some (.bool (r i)) := by
  obtain ⟨cur, h1, h2, h3⟩ := h
  rw [cell_of h1]; exact h3 i hi
theorem RowB.free {W : World} {b n : Nat} {r : Nat → Bool} (h : RowB W b n r) (i : Nat) : W.frozen? ⟨b, i, none⟩ = false := by
  obtain ⟨cur, h1, h2, h3⟩ := h
  exact free_of h1 i
theorem RowB.set {W : World} {b n : Nat} {r : Nat → Bool} (h : RowB W b n r) {i : Nat} (hi : i < n) (x : Bool) : RowB (W.setCell ⟨b, i, none⟩ (.bool x)) b n (upd r i x) := by
  obtain ⟨cur, h1, h2, h3⟩ := h
  refine ⟨_, row_set h1 _, by simp [h2], fun j hj => ?_⟩
  by_cases e : j = i
  · subst e
    rw [Array.getElem?_setIfInBounds_self_of_lt (by omega), upd_same]
  · rw [Array.getElem?_setIfInBounds_ne (by omega), upd_other _ _ e]; exact h3 j hj
theorem RowB.lt {W : World} {b n : Nat} {r : Nat → Bool} (h : RowB W b n r) : b < W.heap.size := by
  obtain ⟨cur, h1, _⟩ := h
  exact lt_of h1
theorem RowB.congr {W : World} {b n : Nat} {r r' : Nat → Bool} (h : RowB W b n r) (e : ∀ i, i < n → r i = r' i) : RowB W b n r' := by
  obtain ⟨cur, h1, h2, h3⟩ := h
  exact ⟨cur, h1, h2, fun i hi => by rw [h3 i hi, e i hi]⟩
/-- A row as a value. -/
def Bools (W : World) (v : Value) (n : Nat) (r : Nat → Bool) : Prop := ∃ b, v = .slice (some ⟨b, 0, none⟩) n n ∧ RowB W b n r
theorem Bools.kept {W W' : World} {v : Value} {n : Nat} {r : Nat → Bool} (h : Bools W v n r) (k : Kept [] W W') : Bools W' v n r := by
  obtain ⟨b, h1, h2⟩ := h
  exact ⟨b, h1, h2.kept k⟩
theorem Tryd.infoBool : (Tryd.prog.info? 4).map (fun i => (i.zero, i.size, i.bytes)) = some (some (.bool false), 1, 1) := by kernel_rfl
def zerosB (k : Nat) : Array Value := madeCells (Value.cells (.bool false)) (k * 1)
theorem zerosB_size (k : Nat) : (zerosB k).size = k := by unfold zerosB; rw [size_madeCells]; omega
theorem make_bool (w : World) (k : Nat) (hk : k ≤ 70368744177664) : Sem.run Tryd.prog (Instr.makeSlice 35 (.int .i64 k) (.int .i64 k)) w = .ok (.slice (some ⟨w.heap.size, 0, none⟩) k k) (w.alloc (.cells (zerosB k) 4)) := by
  obtain ⟨i, hi, hz, hs, hb⟩ := info_parts Tryd.infoBool
  have h := run_make (P := Tryd.prog) w 35 4 i _ Tryd.underlying35 hi hz .i64 .i64 k k (by omega) (Int.le_refl _) (by rw [hb]; omega) (by omega)
  rw [h, hs, Int.toNat_natCast]
  rfl
theorem row_new (w : World) (k : Nat) : RowB (w.alloc (.cells (zerosB k) 4)) w.heap.size k (fun _ => false) := by
  refine ⟨_, heap_alloc_new w _, zerosB_size k, fun i hi => ?_⟩
  have h := toList_madeCells_one (Value.bool false) (k * 1)
  have e : (zerosB k).toList = List.replicate (k * 1) (.bool false) := h
  rw [← Array.getElem?_toList, e, List.getElem?_replicate, if_pos (by omega)]
theorem placesN_len {q : Wd} (h0 : 0 < q.loop.length) : placesN q = q.len := by unfold placesN Wd.len; rw [if_neg (by omega)]
theorem behind_nxt {q : Wd} (h0 : 0 < q.loop.length) {i : Nat} (h : i < q.len) : behindI q i = (nxt q i : Nat) := by
  unfold behindI nxt
  rw [placesN_len h0, if_neg (by omega)]
  split
  · rw [if_pos (by omega)]
  · rw [if_neg (by omega)]; rfl

set_option maxHeartbeats 400000 in
theorem tPlaces_any (p : Nat) (nv sv lv rv mv : Value) (q : Wd) (w : World) (hT : Tab5 w p nv sv lv rv mv) (hW : IsW w sv lv q) (h0 : 0 < q.loop.length) :
    Calls Tryd.prog 32 #[.pointer (some ⟨p, 0, none⟩)] w fun e w' => e = .returned (.int .i64 (q.len : Nat)) ∧ Kept [] w w' := by
  have HP : Hid (Calls Tryd.prog 64 #[.agg #[sv, lv]] w fun e w' => e = .returned (.int .i64 (q.len : Nat)) ∧ Kept [] w w') := by
    have := places_any sv lv q w hW
    rw [placesN_len h0] at this
    exact this
  obtain ⟨c0, c1, c2, c3, c4, _⟩ := hT.cells
  clear hT hW
  go_enter Tryd.func32, Tryd.ntmps32
  go_wp2_with (go_at_call 64; refine HP.out.mono ?_; rintro e w1 ⟨rfl, hk⟩)
  go_ret
  exact ⟨rfl, hk⟩

theorem ix0 (a b : Int) (w : World) : (Instr.index 160 (.agg #[.int .i64 a, .int .i64 b]) (.int .i64 0)).run Tryd.prog w = .ok (.int .i64 a) w := by kernel_rfl
theorem ix1 (a b : Int) (w : World) : (Instr.index 160 (.agg #[.int .i64 a, .int .i64 b]) (.int .i64 1)).run Tryd.prog w = .ok (.int .i64 b) w := by kernel_rfl
/-- The function that is handed in, at any place. -/
def HoldDoes (g : Nat) (lb : Array Value) (hold : Nat → Bool → Bool) (n : Nat) (w : World) : Prop :=
  ∀ (W : World), Kept [] w W → ∀ (i : Nat) (l : Bool), i < n → Calls Tryd.prog g (#[.int .i64 (i : Nat), .bool l] ++ lb) W fun e W' => e = .returned (.bool (hold i l)) ∧ Kept [] W W'
/-- The row behind so many ways. -/
def backK (q : Wd) (fv : Bool) (hold : Nat → Bool → Bool) (k : Nat) : Nat → Bool :=
  if k = 0 then upd (fun _ => false) q.stem.length fv else if k = 1 then pass q hold (upd (fun _ => false) q.stem.length fv) q.loop.length else backR q fv hold
/-- What stands between two rounds. -/
structure BackAt (w : World) (Rb n : Nat) (r : Nat → Bool) (wr : World) : Prop where
  kept : Kept [] w wr
  row : RowB wr Rb n r
theorem BackAt.next {w wr W1 W2 : World} {Rb n : Nat} {r : Nat → Bool} (h : BackAt w Rb n r wr) (hRb : w.heap.size ≤ Rb) (k1 : Kept [] wr W1) (k2 : Kept [] W1 W2) {i : Nat} (hi : i < n) (x : Bool) : BackAt w Rb n (upd r i x) (W2.setCell ⟨Rb, i, none⟩ (.bool x)) :=
  ⟨((h.kept.trans k1 (H := []) (by simp) (by simp)).trans k2 (H := []) (by simp) (by simp)).setCell (p := ⟨Rb, i, none⟩) (.inr hRb) _, ((h.row.kept k1).kept k2).set hi x⟩

set_option maxHeartbeats 2000000 in
set_option maxRecDepth 20000 in
theorem back_any (p : Nat) (nv sv lv rv mv : Value) (q : Wd) (fv : Bool) (g : Nat) (lb : Array Value) (hold : Nat → Bool → Bool) (w : World) (hen : ∀ args w, (callFunc g args).run Tryd.prog w = .ok (.enter g args) w) (hT : Tab5 w p nv sv lv rv mv) (hW : IsW w sv lv q) (h0 : 0 < q.loop.length) (hC : HoldDoes g lb hold q.len w) :
    Calls Tryd.prog 118 #[.pointer (some ⟨p, 0, none⟩), .bool fv, .func (.func g) #[] lb] w fun e w' => ∃ v, e = .returned v ∧ Bools w' v q.len (backR q fv hold) ∧ Kept [] w w' := by
  have hlen : q.len ≤ 70368744177664 := hW.few
  have hlen1 : 1 ≤ q.len := by unfold Wd.len; omega
  have HP : Hid (Calls Tryd.prog 32 #[.pointer (some ⟨p, 0, none⟩)] w fun e w' => e = .returned (.int .i64 (q.len : Nat)) ∧ Kept [] w w') := tPlaces_any p nv sv lv rv mv q w hT hW h0
  have HBE : Hid (∀ W, Kept [] w W → ∀ i, i < q.len → Calls Tryd.prog 123 #[.agg #[sv, lv], .int .i64 (i : Nat)] W fun e w' => e = .returned (.int .i64 (nxt q i : Nat)) ∧ Kept [] W w') := fun W k i hi => by
    have := behind_any sv lv q i W (hW.kept k)
    rw [behind_nxt h0 hi] at this
    exact this
  have HT : Hid (Tab5 w p nv sv lv rv mv) := hT
  have HC : Hid (HoldDoes g lb hold q.len w) := hC
  have hmk := fun W => make_bool W q.len hlen
  have HNX : Hid (nxt q (q.len - 1) = q.stem.length) := by show nxt q (q.len - 1) = _; unfold nxt; rw [if_pos (by omega)]
  have HH0 : Hid _ := h0
  have hsl : q.stem.length < q.len := by unfold Wd.len; omega
  have HLS : Hid (q.len - q.stem.length = q.loop.length) := by show q.len - q.stem.length = _; unfold Wd.len; omega
  clear hT hW hC h0
  obtain ⟨n, hn⟩ : ∃ n, q.len = n := ⟨_, rfl⟩
  rw [hn] at hlen hlen1 HP HBE HC hmk HNX hsl HLS ⊢
  obtain ⟨s, hs⟩ : ∃ s, q.stem.length = s := ⟨_, rfl⟩
  rw [hs] at HNX hsl HLS
  have HN : Hid _ := hn
  have HS : Hid _ := hs
  clear hn hs
  have hl1 : IntKind.i64.wrap ((n : Int) - 1) = ((n - 1 : Nat) : Int) := by rw [IntKind.wrap_i64]; omega
  go_enter Tryd.func118, Tryd.ntmps118
  go_wp2_with (first
    | (go_at_call 32; refine HP.out.mono ?_; rintro e w1 ⟨rfl, hk⟩; have HK1 : Hid (Kept [] w w1) := hk; obtain ⟨c0, c1, c2, c3, c4, _⟩ := (HT.out.kept hk).cells; have d1 := fun o => cell_kept0 ((Kept.refl [] w1).alloc o) c1; have d2 := fun o => cell_kept0 ((Kept.refl [] w1).alloc o) c2; clear hk c0 c3 c4)
    | (go_at_call 123; refine (HBE.out _ (HK1.out.alloc _) (n - 1) (by omega)).mono ?_; rintro e w2 ⟨rfl, hk2⟩; rw [HNX.out]; have HB2 : Hid (BackAt w w1.heap.size n (fun _ => false) w2) := ⟨(HK1.out.alloc _).trans hk2 (by simp) (by simp), (row_new w1 n).kept hk2⟩; have f2 := HB2.out.row.free s; have e2 := HB2.out.row.cell hsl; clear hk2 d1 d2))
  go_loopw [31] (fun v31 wr => (v31 = .int .i64 0 ∧ Hid (BackAt w w1.heap.size n (backK q fv hold 0) wr)) ∨ (v31 = .int .i64 1 ∧ Hid (BackAt w w1.heap.size n (backK q fv hold 1) wr)) ∨ (v31 = .int .i64 2 ∧ Hid (BackAt w w1.heap.size n (backK q fv hold 2) wr))) (fun v31 _ => 2 - (intOf v31).toNat)
  case atStart =>
    refine .inl ⟨rfl, ?_⟩
    show BackAt w w1.heap.size n (backK q fv hold 0) _
    have := HB2.out.row.set hsl fv
    refine ⟨HB2.out.kept.setCell (p := ⟨w1.heap.size, s, none⟩) (.inr HK1.out.size) _, ?_⟩
    unfold backK
    rw [if_pos rfl, HS.out]
    exact this
  case round =>
    rcases hrel with ⟨rfl, HR⟩ | ⟨rfl, HR⟩ | ⟨rfl, HR⟩
    · · obtain ⟨r, hr⟩ : ∃ r, backK q fv hold 0 = r := ⟨_, rfl⟩
        rw [hr] at HR
        have HRR : Hid _ := hr
        clear hr
        rename World => wo
        have hx0 := fun a b w => ix0 a b w
        have hx1 := fun a b w => ix1 a b w
        go_wp2
        clear hx0 hx1
        go_loopw [12] (fun v12 wi => ∃ m : Nat, m ≤ n - s ∧ v12 = .int .i64 ((n : Int) - 1 - (m : Int)) ∧ Hid (BackAt w w1.heap.size n (pass q hold r m) wi)) (fun v12 _ => (intOf v12 + 1).toNat)
        case atStart => exact ⟨0, Nat.zero_le _, by simp; omega, HR.out⟩
        case round =>
          obtain ⟨m, hm, rfl, HI⟩ := hrel
          by_cases hlt : m < n - s
          · obtain ⟨i, hi⟩ : ∃ i : Nat, (n : Int) - 1 - (m : Int) = (i : Int) := ⟨n - 1 - m, by omega⟩
            have hin : i < n := by omega
            rw [hi]
            have hge : (s : Int) ≤ (i : Int) := by omega
            have HPS : Hid (pass q hold r (m + 1) = upd (pass q hold r m) i (hold i (pass q hold r m (nxt q i)))) := by
              show pass q hold r (m + 1) = _
              rw [pass, HN.out, show n - 1 - m = i from by omega]
            obtain ⟨j, hj⟩ : ∃ j, nxt q i = j := ⟨_, rfl⟩
            have hjn : j < n := by rw [← hj, ← HN.out]; exact nxt_lt HH0.out (by rw [HN.out]; exact hin)
            have HBI : Hid (∀ W, Kept [] w W → Calls Tryd.prog 123 #[.agg #[sv, lv], .int .i64 (i : Nat)] W fun e w' => e = .returned (.int .i64 (j : Nat)) ∧ Kept [] W w') := fun W k => by have := HBE.out W k i hin; rw [hj] at this; exact this
            rw [hj] at HPS
            obtain ⟨x, hx⟩ : ∃ x, pass q hold r m j = x := ⟨_, rfl⟩
            rw [hx] at HPS
            have hcj := HI.out.row.cell hjn
            rw [hx] at hcj
            have HCJ : Hid _ := hcj
            have HCL : Hid (∀ W, Kept [] w W → Calls Tryd.prog g (#[.int .i64 (i : Nat), .bool x] ++ lb) W fun e W' => e = .returned (.bool (hold i x)) ∧ Kept [] W W') := fun W k => HC.out W k i x hin
            have kt := HT.out.kept HI.out.kept
            obtain ⟨t0, t1, t2, _, _, _⟩ := kt.cells
            have HM : Hid _ := hi
            clear hj hx hcj kt t0 hi hm
            go_wp2_with (first
              | (go_at_call 123; refine (HBI.out _ HI.out.kept).mono ?_; rintro e W1 ⟨rfl, k1⟩; have HK1' : Hid (Kept [] wr W1) := k1; have cj1 := cell_kept0 k1 HCJ.out; clear k1)
              | (go_at_fn g; refine (HCL.out _ (HI.out.kept.trans HK1'.out (by simp) (by simp))).mono ?_; rintro e W2 ⟨rfl, k2⟩; have HK2 : Hid (Kept [] W1 W2) := k2; have ci2 := ((HI.out.row.kept HK1'.out).kept k2).cell hin; have fi2 := ((HI.out.row.kept HK1'.out).kept k2).free i; clear k2))
            go_roundw
            case rel =>
              refine ⟨m + 1, by omega, ?_, ?_⟩
              · have := HM.out; simp; omega
              · show BackAt w w1.heap.size n (pass q hold r (m + 1)) _
                rw [HPS.out]
                exact HI.out.next HK1.out.size HK1'.out HK2.out hin _
            case measure => simp [intOf]
          · obtain rfl : m = n - s := by omega
            have hge : ¬ (s : Int) ≤ (n : Int) - 1 - ((n - s : Nat) : Int) := by omega
            clear hlt hm
            go_wp2
            go_roundw
            case rel =>
              refine .inr (.inl ⟨rfl, ?_⟩)
              show BackAt w w1.heap.size n (backK q fv hold 1) _
              have e : backK q fv hold 1 = pass q hold r (n - s) := by rw [← HRR.out]; unfold backK; simp [HLS.out]
              rw [e]
              exact HI.out
            case measure => decide
    · · obtain ⟨r, hr⟩ : ∃ r, backK q fv hold 1 = r := ⟨_, rfl⟩
        rw [hr] at HR
        have HRR : Hid _ := hr
        clear hr
        rename World => wo
        have hx0 := fun a b w => ix0 a b w
        have hx1 := fun a b w => ix1 a b w
        go_wp2
        clear hx0 hx1
        go_loopw [12] (fun v12 wi => ∃ m : Nat, m ≤ n ∧ v12 = .int .i64 ((n : Int) - 1 - (m : Int)) ∧ Hid (BackAt w w1.heap.size n (pass q hold r m) wi)) (fun v12 _ => (intOf v12 + 1).toNat)
        case atStart => exact ⟨0, Nat.zero_le _, by simp; omega, HR.out⟩
        case round =>
          obtain ⟨m, hm, rfl, HI⟩ := hrel
          by_cases hlt : m < n
          · obtain ⟨i, hi⟩ : ∃ i : Nat, (n : Int) - 1 - (m : Int) = (i : Int) := ⟨n - 1 - m, by omega⟩
            have hin : i < n := by omega
            rw [hi]
            have hge : (0 : Int) ≤ (i : Int) := by omega
            have HPS : Hid (pass q hold r (m + 1) = upd (pass q hold r m) i (hold i (pass q hold r m (nxt q i)))) := by
              show pass q hold r (m + 1) = _
              rw [pass, HN.out, show n - 1 - m = i from by omega]
            obtain ⟨j, hj⟩ : ∃ j, nxt q i = j := ⟨_, rfl⟩
            have hjn : j < n := by rw [← hj, ← HN.out]; exact nxt_lt HH0.out (by rw [HN.out]; exact hin)
            have HBI : Hid (∀ W, Kept [] w W → Calls Tryd.prog 123 #[.agg #[sv, lv], .int .i64 (i : Nat)] W fun e w' => e = .returned (.int .i64 (j : Nat)) ∧ Kept [] W w') := fun W k => by have := HBE.out W k i hin; rw [hj] at this; exact this
            rw [hj] at HPS
            obtain ⟨x, hx⟩ : ∃ x, pass q hold r m j = x := ⟨_, rfl⟩
            rw [hx] at HPS
            have hcj := HI.out.row.cell hjn
            rw [hx] at hcj
            have HCJ : Hid _ := hcj
            have HCL : Hid (∀ W, Kept [] w W → Calls Tryd.prog g (#[.int .i64 (i : Nat), .bool x] ++ lb) W fun e W' => e = .returned (.bool (hold i x)) ∧ Kept [] W W') := fun W k => HC.out W k i x hin
            have kt := HT.out.kept HI.out.kept
            obtain ⟨t0, t1, t2, _, _, _⟩ := kt.cells
            have HM : Hid _ := hi
            clear hj hx hcj kt t0 hi hm
            go_wp2_with (first
              | (go_at_call 123; refine (HBI.out _ HI.out.kept).mono ?_; rintro e W1 ⟨rfl, k1⟩; have HK1' : Hid (Kept [] wr W1) := k1; have cj1 := cell_kept0 k1 HCJ.out; clear k1)
              | (go_at_fn g; refine (HCL.out _ (HI.out.kept.trans HK1'.out (by simp) (by simp))).mono ?_; rintro e W2 ⟨rfl, k2⟩; have HK2 : Hid (Kept [] W1 W2) := k2; have ci2 := ((HI.out.row.kept HK1'.out).kept k2).cell hin; have fi2 := ((HI.out.row.kept HK1'.out).kept k2).free i; clear k2))
            go_roundw
            case rel =>
              refine ⟨m + 1, by omega, ?_, ?_⟩
              · have := HM.out; simp; omega
              · show BackAt w w1.heap.size n (pass q hold r (m + 1)) _
                rw [HPS.out]
                exact HI.out.next HK1.out.size HK1'.out HK2.out hin _
            case measure => simp [intOf]
          · have HEM : Hid (m = n) := by show m = n; omega
            have hge : ¬ (0 : Int) ≤ (n : Int) - 1 - (m : Int) := by omega
            clear hlt hm
            go_wp2
            go_roundw
            case rel =>
              refine .inr (.inr ⟨rfl, ?_⟩)
              show BackAt w w1.heap.size n (backK q fv hold 2) _
              have e : backK q fv hold 2 = pass q hold r m := by rw [← HRR.out, HEM.out]; unfold backK backR; simp [HN.out]
              rw [e]
              exact HI.out
            case measure => decide
    · go_wp2
      go_ret
      refine ⟨_, rfl, ⟨w1.heap.size, rfl, ?_⟩, HR.out.kept⟩
      have := HR.out.row
      exact this
end Go.Proofs.YtddgciilcghbaaaDoor
