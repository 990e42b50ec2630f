/- Table.found: the row of a formula, by those of its kids. -/
import Derived.Test.YtddgciilcghbaaaDoorEvClo
import Derived.Test.YtddgciilcghbaaaDoorTrFits
import Derived.Deep.CutRange
import Derived.Deep.RegionHeld3
namespace Go.Proofs.YtddgciilcghbaaaDoor
open Go.RowKit Go.Shelf

/-- The rows of the kids, as a value. -/
def KidsR (W : World) (kv : Value) (rows : List (Nat → Bool)) (n : Nat) : Prop := (rows = [] ∧ kv = .slice none 0 0) ∨ ∃ b c, kv = .slice (some ⟨b, 0, none⟩) rows.length c ∧ ∀ i (h : i < rows.length), ∃ gb, W.cell? ⟨b, i, none⟩ = some (.slice (some ⟨gb, 0, none⟩) n n) ∧ RowB W gb n rows[i]
theorem KidsR.kept {W W' : World} {kv : Value} {rows : List (Nat → Bool)} {n : Nat} (h : KidsR W kv rows n) (k : Kept [] W W') : KidsR W' kv rows n := by
  rcases h with h | ⟨b, c, h1, h2⟩
  · exact .inl h
  · refine .inr ⟨b, c, h1, fun i hi => ?_⟩
    obtain ⟨gb, h3, h4⟩ := h2 i hi
    exact ⟨gb, cell_kept0 k h3, h4.kept k⟩
theorem KidsR.form {W : World} {kv : Value} {rows : List (Nat → Bool)} {n : Nat} (h : KidsR W kv rows n) : ∃ ad c, kv = .slice ad rows.length c := by
  rcases h with ⟨rfl, rfl⟩ | ⟨b, c, h1, h2⟩
  · exact ⟨none, 0, rfl⟩
  · exact ⟨_, _, h1⟩
/-- backwards, from any world behind. -/
def BackDoes (p : Nat) (q : Wd) (w : World) : Prop := ∀ (W : World), Kept [] w W → ∀ (fv : Bool) (g : Nat) (lb : Array Value) (hold : Nat → Bool → Bool), (∀ args w, (callFunc g args).run Tryd.prog w = .ok (.enter g args) w) → HoldDoes g lb hold q.len W →
  Calls Tryd.prog 118 #[.pointer (some ⟨p, 0, none⟩), .bool fv, .func (.func g) #[] lb] W fun e w' => ∃ v, e = .returned v ∧ Bools w' v q.len (backR q fv hold) ∧ Kept [] W w'
theorem rowOp_one (q : Wd) (names : List ByteArray) {op : Nat} (h : op = 1 ∨ op = 2) (name : ByteArray) (g h' : Nat → Bool) : rowOp q names op name g h' = backR q false (fun _ _ => op == 1) := by unfold rowOp; rw [if_pos h]
theorem rowOp_prop (q : Wd) (names : List ByteArray) (name : ByteArray) (g h' : Nat → Bool) : rowOp q names 3 name g h' = backR q false (fun i _ => bitB (q.at i) (nameAt names name)) := rfl
theorem rowOp_next (q : Wd) (names : List ByteArray) (name : ByteArray) (g h' : Nat → Bool) : rowOp q names 9 name g h' = backR q false (fun i _ => g (nxt q i)) := rfl
theorem rowOp_tab (q : Wd) (names : List ByteArray) {op : Nat} (h : TabOp op) (name : ByteArray) (g h' : Nat → Bool) : rowOp q names op name g h' = backR q (foreverOp op) (fun i l => holdOp op (g i) (h' i) l) := by
  unfold TabOp at h
  unfold rowOp
  rw [if_neg (by omega), if_neg (by omega), if_neg (by omega)]

set_option maxHeartbeats 2000000 in
set_option maxRecDepth 20000 in
theorem found_leaf (p : Nat) (q : Wd) (names : List ByteArray) (op : Nat) (name : ByteArray) (fad : Option Addr) (fn fc : Nat) (kv : Value) (rows : List (Nat → Bool)) (g h : Nat → Bool) (w : World) (hB : BackDoes p q w) (ho : op = 1 ∨ op = 2) (hK : KidsR w kv rows q.len) :
    Calls Tryd.prog 74 #[.pointer (some ⟨p, 0, none⟩), .agg #[.int .u8 (op : Nat), .string name, .slice fad fn fc], kv] w fun e w' => ∃ v, e = .returned v ∧ Bools w' v q.len (rowOp q names op name g h) ∧ Kept [] w w' := by
  rw [rowOp_one q names ho]
  obtain ⟨ad, c, rfl⟩ := hK.form
  obtain ⟨V, hV⟩ : ∃ V, ((w.alloc (.cells #[.pointer (some ⟨p, 0, none⟩)] 54)).alloc (.cells #[.int .u8 (op : Nat), .string name, .slice fad fn fc] 25)).alloc (.cells #[.slice ad rows.length c] 101) = V := ⟨_, rfl⟩
  have kV : Kept [] w V := by rw [← hV]; exact (((Kept.refl [] w).alloc _).alloc _).alloc _
  have v1 : For3 V (w.heap.size + 1) (.int .u8 (op : Nat)) (.string name) (.slice fad fn fc) := by rw [← hV]; exact alUp (al1 _ _ _) _
  have HD : Hid (Calls Tryd.prog 118 #[.pointer (some ⟨p, 0, none⟩), .bool false, .func (.func 119) #[] #[.pointer (some ⟨w.heap.size + 1, 0, none⟩)]] V fun e w' => ∃ v, e = .returned v ∧ Bools w' v q.len (backR q false (fun _ _ => op == 1)) ∧ Kept [] V w') :=
    hB V kV false _ _ _ (enters_of Tryd.func119 (by kernel_rfl) rfl) (fun W k i l _ => found1_any op _ i l W (cell_kept0 k v1.cells.1))
  have HKV : Hid (Kept [] w V) := kV
  rw [← hV] at HD HKV
  clear hB hK hV kV v1
  rcases ho with rfl | rfl
  all_goals
    go_enter Tryd.func74, Tryd.ntmps74
    go_wp2_with (go_at_call 118; refine HD.out.mono ?_; rintro e W ⟨v, rfl, hb, hk⟩; have HBV : Hid _ := hb; have HKW : Hid _ := hk; clear hb hk)
    go_ret
    exact ⟨_, rfl, HBV.out, HKV.out.trans HKW.out (by simp) (by simp)⟩

set_option maxHeartbeats 2000000 in
set_option maxRecDepth 20000 in
theorem found_next (p : Nat) (nv sv lv rv mv : Value) (q : Wd) (names : List ByteArray) (name : ByteArray) (fad : Option Addr) (fn fc : Nat) (kv : Value) (rows : List (Nat → Bool)) (h : Nat → Bool) (w : World) (hT : Tab5 w p nv sv lv rv mv) (hW : IsW w sv lv q) (h0 : 0 < q.loop.length) (hB : BackDoes p q w) (hK : KidsR w kv rows q.len) (hr : 0 < rows.length) :
    Calls Tryd.prog 74 #[.pointer (some ⟨p, 0, none⟩), .agg #[.int .u8 9, .string name, .slice fad fn fc], kv] w fun e w' => ∃ v, e = .returned v ∧ Bools w' v q.len (rowOp q names 9 name (kid0 (fun _ => false) rows) h) ∧ Kept [] w w' := by
  rw [rowOp_next q names]
  rcases hK with ⟨rfl, _⟩ | ⟨kb, c, rfl, hk⟩
  · simp at hr
  obtain ⟨gb, hg1, hg2⟩ := hk 0 hr
  have e0 : rows[0] = kid0 (fun _ => false) rows := by unfold kid0; rw [List.getD_eq_getElem?_getD, List.getElem?_eq_getElem hr]; rfl
  rw [e0] at hg2
  obtain ⟨V, hV⟩ : ∃ V, ((w.alloc (.cells #[.pointer (some ⟨p, 0, none⟩)] 54)).alloc (.cells #[.int .u8 9, .string name, .slice fad fn fc] 25)).alloc (.cells #[.slice (some ⟨kb, 0, none⟩) rows.length c] 101) = V := ⟨_, rfl⟩
  have kV : Kept [] w V := by rw [← hV]; exact (((Kept.refl [] w).alloc _).alloc _).alloc _
  have v0 : Boxed V w.heap.size 54 (.pointer (some ⟨p, 0, none⟩)) := by rw [← hV]; exact alUp (alUp (al0 _ _) _) _
  have v2 : Boxed V (w.heap.size + 1 + 1) 101 (.slice (some ⟨kb, 0, none⟩) rows.length c) := by rw [← hV]; exact al2 _ _ _ _
  have HD : Hid (Calls Tryd.prog 118 #[.pointer (some ⟨p, 0, none⟩), .bool false, .func (.func 122) #[] #[.pointer (some ⟨w.heap.size + 1 + 1, 0, none⟩), .pointer (some ⟨w.heap.size, 0, none⟩)]] V fun e w' => ∃ v, e = .returned v ∧ Bools w' v q.len (backR q false (fun i _ => kid0 (fun _ => false) rows (nxt q i))) ∧ Kept [] V w') :=
    hB V kV false _ _ _ (enters_of Tryd.func122 (by kernel_rfl) rfl) (fun W k i l hi => by
      have kw := kV.trans k (H := []) (by simp) (by simp)
      exact found3_any _ _ p kb c rows.length gb nv sv lv rv mv q i l _ W (hT.kept kw) (hW.kept kw) h0 hi (cell_kept0 k v0.cell) (cell_kept0 k v2.cell) hr (cell_kept0 kw hg1) (hg2.kept kw))
  have HKV : Hid (Kept [] w V) := kV
  rw [← hV] at HD HKV
  clear hB hk hV kV v0 v2 hT hW hg1 hg2 e0
  go_enter Tryd.func74, Tryd.ntmps74
  go_wp2_with (go_at_call 118; refine HD.out.mono ?_; rintro e W ⟨v, rfl, hb, hk⟩; have HBV : Hid _ := hb; have HKW : Hid _ := hk; clear hb hk)
  go_ret
  exact ⟨_, rfl, HBV.out, HKV.out.trans HKW.out (by simp) (by simp)⟩
theorem one_shl {n : Nat} (h : n < 16) : IntKind.u16.wrap ((2 : Int) ^ n) = ((2 ^ n : Nat) : Int) := by
  rcases (by omega : n = 0 ∨ n = 1 ∨ n = 2 ∨ n = 3 ∨ n = 4 ∨ n = 5 ∨ n = 6 ∨ n = 7 ∨ n = 8 ∨ n = 9 ∨ n = 10 ∨ n = 11 ∨ n = 12 ∨ n = 13 ∨ n = 14 ∨ n = 15) with rfl | rfl | rfl | rfl | rfl | rfl | rfl | rfl | rfl | rfl | rfl | rfl | rfl | rfl | rfl | rfl <;> decide
set_option maxHeartbeats 2000000 in
set_option maxRecDepth 20000 in
theorem found_prop (p : Nat) (nv sv lv rv mv : Value) (q : Wd) (names : List ByteArray) (name : ByteArray) (fad : Option Addr) (fn fc : Nat) (kv : Value) (rows : List (Nat → Bool)) (g h : Nat → Bool) (w : World) (hT : Tab5 w p nv sv lv rv mv) (hW : IsW w sv lv q) (h0 : 0 < q.loop.length) (hN : Strs w nv names) (hn8 : names.length ≤ 8) (hin : hasN names name = true) (hB : BackDoes p q w) (hK : KidsR w kv rows q.len) :
    Calls Tryd.prog 74 #[.pointer (some ⟨p, 0, none⟩), .agg #[.int .u8 3, .string name, .slice fad fn fc], kv] w fun e w' => ∃ v, e = .returned v ∧ Bools w' v q.len (rowOp q names 3 name g h) ∧ Kept [] w w' := by
  rw [rowOp_prop q names]
  obtain ⟨ad, c, rfl⟩ := hK.form
  have hna : nameAt names name < 16 := by
    have : nameAt names name < names.length := by
      unfold nameAt
      rw [List.findIdx_lt_length]
      unfold hasN at hin
      obtain ⟨x, hx, hs⟩ := List.any_eq_true.1 hin
      exact ⟨x, hx, by rw [← sameN_data]; exact hs⟩
    omega
  have hidx : indexI names name = (nameAt names name : Nat) := by unfold indexI; rw [hin]; rfl
  obtain ⟨V, hV⟩ : ∃ V, ((w.alloc (.cells #[.pointer (some ⟨p, 0, none⟩)] 54)).alloc (.cells #[.int .u8 3, .string name, .slice fad fn fc] 25)).alloc (.cells #[.slice ad rows.length c] 101) = V := ⟨_, rfl⟩
  have kV : Kept [] w V := by rw [← hV]; exact (((Kept.refl [] w).alloc _).alloc _).alloc _
  have v0 : Boxed V w.heap.size 54 (.pointer (some ⟨p, 0, none⟩)) := by rw [← hV]; exact alUp (alUp (al0 _ _) _) _
  have v1 : For3 V (w.heap.size + 1) (.int .u8 3) (.string name) (.slice fad fn fc) := by rw [← hV]; exact alUp (al1 _ _ _) _
  obtain ⟨n, hn⟩ : ∃ n, nameAt names name = n := ⟨_, rfl⟩
  rw [hn] at hna hidx ⊢
  have HI : Hid (∀ W, Kept [] V W → Calls Tryd.prog 116 #[nv, .string name] W fun e w' => e = .returned (.int .i64 (n : Nat)) ∧ w' = W) := fun W k => by
    have := indexS_any nv names name W (hN.kept (kV.trans k (H := []) (by simp) (by simp)))
    rw [hidx] at this
    exact this
  have HD : Hid (∀ W B7 b, 2 ^ n = b → Kept [] V W → W.cell? ⟨B7, 0, none⟩ = some (.int .u16 (b : Nat)) → Calls Tryd.prog 118 #[.pointer (some ⟨p, 0, none⟩), .bool false, .func (.func 120) #[] #[.pointer (some ⟨w.heap.size, 0, none⟩), .pointer (some ⟨B7, 0, none⟩)]] W fun e w' => ∃ v, e = .returned v ∧ Bools w' v q.len (backR q false (fun i _ => bitB (q.at i) n)) ∧ Kept [] W w') := fun W B7 b hb k c7 =>
    hB W (kV.trans k (H := []) (by simp) (by simp)) false _ _ _ (enters_of Tryd.func120 (by kernel_rfl) rfl) (fun W2 k2 i l hi => by
      have kw := (kV.trans k (H := []) (by simp) (by simp)).trans k2 (H := []) (by simp) (by simp)
      exact found2_any _ B7 p nv sv lv rv mv q n i b l W2 (hT.kept kw) (hW.kept kw) h0 hi hna hb (cell_kept0 k2 (cell_kept0 k v0.cell)) (cell_kept0 k2 c7))
  have HKV : Hid (Kept [] w V) := kV
  have HV0 : Hid (Boxed V w.heap.size 54 (.pointer (some ⟨p, 0, none⟩))) := v0
  have HV1 : Hid (For3 V (w.heap.size + 1) (.int .u8 3) (.string name) (.slice fad fn fc)) := v1
  have HTV : Hid (Tab5 V p nv sv lv rv mv) := hT.kept kV
  have hsh := one_shl hna
  obtain ⟨b, hb⟩ : ∃ b, 2 ^ n = b := ⟨_, rfl⟩
  rw [hb] at hsh
  have HSH : Hid _ := hsh
  clear hsh
  have HBE : Hid _ := hb
  obtain ⟨nad, nc, rfl, _⟩ := hN.form
  have HVV : Hid (_ = V) := hV
  clear hB hK kV v0 v1 hT hW hN hin hn8 hb hidx hn hV
  go_enter Tryd.func74, Tryd.ntmps74
  go_wp2
  rw [HVV.out]
  clear HVV
  go_cut [7] from 21 to 28 (fun s7 wc => ∃ B7, s7 = .pointer (some ⟨B7, 0, none⟩) ∧ Hid (Kept [] V wc ∧ wc.cell? ⟨B7, 0, none⟩ = some (.int .u16 (b : Nat))))
  case first =>
    have hS : ∀ W, Kept [] V W → (W.cell? ⟨w.heap.size, 0, none⟩ = some (.pointer (some ⟨p, 0, none⟩)) ∧ W.cell? ⟨p, 0, none⟩ = some (.slice nad names.length nc) ∧ W.cell? ⟨w.heap.size + 1, 1, none⟩ = some (.string name)) := fun W k => ⟨cell_kept0 k HV0.out.cell, cell_kept0 k HTV.out.cells.1, cell_kept0 k HV1.out.cells.2.1⟩
    have HS : Hid _ := hS
    obtain ⟨e0, e1, e2⟩ := hS V (Kept.refl [] V)
    have hn0 : (0 : Int) ≤ (n : Int) := by omega
    clear hS
    go_region_held3 (fun w' => w'.cell? ⟨w.heap.size, 0, none⟩ = some (.pointer (some ⟨p, 0, none⟩)) ∧ w'.cell? ⟨p, 0, none⟩ = some (.slice nad names.length nc) ∧ w'.cell? ⟨w.heap.size + 1, 1, none⟩ = some (.string name))
      ((refine HS.out _ ?_; (repeat (first | exact Kept.refl [] _ | refine Kept.drew ?_ | refine Kept.alloc ?_ _ | refine Kept.setCell ?_ (Or.inr (by dsimp only; omega)) _))))
      (first | (go_at_call 116; refine (HI.out _ (by repeat (first | exact Kept.refl [] _ | refine Kept.drew ?_ | refine Kept.alloc ?_ _))).mono ?_; rintro e W ⟨rfl, rfl⟩))
    all_goals (go_wp2_with fail; go_meet)
    all_goals
      refine ⟨_, rfl, ((Kept.refl [] V).alloc _).drew, ?_⟩
      rw [HSH.out]
      exact (cell_of (heap_alloc_new V _) 0).trans rfl
  case rest =>
    obtain ⟨B7, rfl, HC⟩ := hcut
    have b0 := cell_kept0 HC.out.1 HV0.out.cell
    have HDW : Hid (Calls Tryd.prog 118 #[.pointer (some ⟨p, 0, none⟩), .bool false, .func (.func 120) #[] #[.pointer (some ⟨w.heap.size, 0, none⟩), .pointer (some ⟨B7, 0, none⟩)]] wc fun e w' => ∃ v, e = .returned v ∧ Bools w' v q.len (backR q false (fun i _ => bitB (q.at i) n)) ∧ Kept [] wc w') := HD.out wc B7 b HBE.out HC.out.1 HC.out.2
    go_wp2_with (go_at_call 118; refine HDW.out.mono ?_; rintro e W ⟨v, rfl, hb, hk⟩; have HBV : Hid _ := hb; have HKW : Hid _ := hk; clear hb hk)
    go_ret
    exact ⟨_, rfl, HBV.out, (HKV.out.trans HC.out.1 (H := []) (by simp) (by simp)).trans HKW.out (by simp) (by simp)⟩

set_option maxHeartbeats 2000000 in
set_option maxRecDepth 20000 in
theorem found_tab (p : Nat) (q : Wd) (names : List ByteArray) {op : Nat} (ho : TabOp op) (name : ByteArray) (fad : Option Addr) (fn fc : Nat) (kv : Value) (rows : List (Nat → Bool)) (w : World) (hB : BackDoes p q w) (hK : KidsR w kv rows q.len) (hr : 0 < rows.length) (hr2 : rows.length ≤ 2) :
    Calls Tryd.prog 74 #[.pointer (some ⟨p, 0, none⟩), .agg #[.int .u8 (op : Nat), .string name, .slice fad fn fc], kv] w fun e w' => ∃ v, e = .returned v ∧ Bools w' v q.len (rowOp q names op name (kid0 (fun _ => false) rows) (kid1 (fun _ => false) rows)) ∧ Kept [] w w' := by
  rw [rowOp_tab q names ho]
  rcases hK with ⟨rfl, _⟩ | ⟨kb, c, rfl, hk⟩
  · simp at hr
  obtain ⟨gb, hg1, hg2⟩ := hk 0 hr
  obtain ⟨hb, hh1, hh2⟩ := hk (rows.length - 1) (by omega)
  have e0 : rows[0] = kid0 (fun _ => false) rows := by unfold kid0; rw [List.getD_eq_getElem?_getD, List.getElem?_eq_getElem hr]; rfl
  have e1 : rows[rows.length - 1]'(by omega) = kid1 (fun _ => false) rows := by unfold kid1; rw [List.getD_eq_getElem?_getD, List.getElem?_eq_getElem (by omega)]; rfl
  rw [e0] at hg2
  rw [e1] at hh2
  generalize kid0 (fun _ => false) rows = g at hg2 ⊢
  generalize kid1 (fun _ => false) rows = h at hh2 ⊢
  obtain ⟨V, hV⟩ : ∃ V, ((w.alloc (.cells #[.pointer (some ⟨p, 0, none⟩)] 54)).alloc (.cells #[.int .u8 (op : Nat), .string name, .slice fad fn fc] 25)).alloc (.cells #[.slice (some ⟨kb, 0, none⟩) rows.length c] 101) = V := ⟨_, rfl⟩
  have kV : Kept [] w V := by rw [← hV]; exact (((Kept.refl [] w).alloc _).alloc _).alloc _
  have v0 : Boxed V w.heap.size 54 (.pointer (some ⟨p, 0, none⟩)) := by rw [← hV]; exact alUp (alUp (al0 _ _) _) _
  have v1 : For3 V (w.heap.size + 1) (.int .u8 (op : Nat)) (.string name) (.slice fad fn fc) := by rw [← hV]; exact alUp (al1 _ _ _) _
  have v2 : Boxed V (w.heap.size + 1 + 1) 101 (.slice (some ⟨kb, 0, none⟩) rows.length c) := by rw [← hV]; exact al2 _ _ _ _
  obtain ⟨n, hn⟩ : ∃ n, q.len = n := ⟨_, rfl⟩
  have HD : Hid (∀ W B10 B8 B9, Kept [] V W → W.cell? ⟨B10, 1, none⟩ = some (.func (.func (fnOp op)) #[] #[]) → W.cell? ⟨B8, 0, none⟩ = some (.slice (some ⟨gb, 0, none⟩) n n) → W.cell? ⟨B9, 0, none⟩ = some (.slice (some ⟨hb, 0, none⟩) n n) →
      Calls Tryd.prog 118 #[.pointer (some ⟨p, 0, none⟩), .bool (foreverOp op), .func (.func 125) #[] #[.pointer (some ⟨B10, 0, none⟩), .pointer (some ⟨B8, 0, none⟩), .pointer (some ⟨B9, 0, none⟩)]] W fun e w' => ∃ v, e = .returned v ∧ Bools w' v q.len (backR q (foreverOp op) (fun i l => holdOp op (g i) (h i) l)) ∧ Kept [] W w') := fun W B10 B8 B9 k c10 c8 c9 =>
    hB W (kV.trans k (H := []) (by simp) (by simp)) (foreverOp op) _ _ _ (enters_of Tryd.func125 (by kernel_rfl) rfl) (fun W2 k2 i l hi => by
      have kw := (kV.trans k (H := []) (by simp) (by simp)).trans k2 (H := []) (by simp) (by simp)
      rw [hn] at hi hg2 hh2
      exact found4_any ho B10 B8 B9 gb hb n i l g h W2 hi (cell_kept0 k2 c10) (cell_kept0 k2 c8) (cell_kept0 k2 c9) (hg2.kept kw) (hh2.kept kw))
  rw [hn] at hg1 hh1
  have HKV : Hid (Kept [] w V) := kV
  have HV0 : Hid (Boxed V w.heap.size 54 (.pointer (some ⟨p, 0, none⟩))) := v0
  have HV1 : Hid (For3 V (w.heap.size + 1) (.int .u8 (op : Nat)) (.string name) (.slice fad fn fc)) := v1
  have HV2 : Hid (Boxed V (w.heap.size + 1 + 1) 101 (.slice (some ⟨kb, 0, none⟩) rows.length c)) := v2
  have HG : Hid (V.cell? ⟨kb, 0, none⟩ = some (.slice (some ⟨gb, 0, none⟩) n n)) := cell_kept0 kV hg1
  have HH : Hid (V.cell? ⟨kb, rows.length - 1, none⟩ = some (.slice (some ⟨hb, 0, none⟩) n n)) := cell_kept0 kV hh1
  have HMA : Hid _ := fun W => mean_at ho W
  have m1 : ((op : Int) == 1) = false := by rw [beq_eq_false_iff_ne]; unfold TabOp at ho; omega
  have m2 : ((op : Int) == 2) = false := by rw [beq_eq_false_iff_ne]; unfold TabOp at ho; omega
  have m3 : ((op : Int) == 3) = false := by rw [beq_eq_false_iff_ne]; unfold TabOp at ho; omega
  have m9 : ((op : Int) == 9) = false := by rw [beq_eq_false_iff_ne]; unfold TabOp at ho; omega
  have HVV : Hid (_ = V) := hV
  obtain ⟨nk, hnk⟩ : ∃ nk, rows.length = nk := ⟨_, rfl⟩
  rw [hnk] at HV2 HH hr hr2 HVV ⊢
  clear hB hk hV kV v0 v1 v2 e0 e1 hg1 hg2 hh1 hh2 hnk hn
  have hrI : (0 : Int) < (nk : Int) := by omega
  have hwr : IntKind.i64.wrap ((nk : Int) - 1) = ((nk - 1 : Nat) : Int) := by rw [IntKind.wrap_i64]; omega
  have hlt1 : ((nk - 1 : Nat) : Int) < (nk : Int) := by omega
  go_enter Tryd.func74, Tryd.ntmps74
  go_wp2
  rw [HVV.out]
  clear HVV
  go_cut [8, 9] from 37 to 45 (fun s8 s9 wc => ∃ B8 B9, s8 = .pointer (some ⟨B8, 0, none⟩) ∧ s9 = .pointer (some ⟨B9, 0, none⟩) ∧ Hid (Kept [] V wc ∧ wc.cell? ⟨B8, 0, none⟩ = some (.slice (some ⟨gb, 0, none⟩) n n) ∧ wc.cell? ⟨B9, 0, none⟩ = some (.slice (some ⟨hb, 0, none⟩) n n)))
  case first =>
    have hS : ∀ W, Kept [] V W → (W.cell? ⟨w.heap.size + 1 + 1, 0, none⟩ = some (.slice (some ⟨kb, 0, none⟩) nk c) ∧ W.cell? ⟨kb, 0, none⟩ = some (.slice (some ⟨gb, 0, none⟩) n n) ∧ W.cell? ⟨kb, nk - 1, none⟩ = some (.slice (some ⟨hb, 0, none⟩) n n)) := fun W k => ⟨cell_kept0 k HV2.out.cell, cell_kept0 k HG.out, cell_kept0 k HH.out⟩
    have HS : Hid _ := hS
    obtain ⟨e0, e1, e2⟩ := hS V (Kept.refl [] V)
    clear hS
    go_region_held3 (fun w' => w'.cell? ⟨w.heap.size + 1 + 1, 0, none⟩ = some (.slice (some ⟨kb, 0, none⟩) nk c) ∧ w'.cell? ⟨kb, 0, none⟩ = some (.slice (some ⟨gb, 0, none⟩) n n) ∧ w'.cell? ⟨kb, nk - 1, none⟩ = some (.slice (some ⟨hb, 0, none⟩) n n))
      ((refine HS.out _ ?_; (repeat (first | exact Kept.refl [] _ | refine Kept.drew ?_ | refine Kept.alloc ?_ _ | refine Kept.setCell ?_ (Or.inr (by dsimp only; omega)) _)))) (fail)
    all_goals (go_wp2_with fail; go_meet)
    all_goals
      refine ⟨_, _, rfl, rfl, (((Kept.refl [] V).alloc _).alloc _).drew, ?_, ?_⟩
      · first | exact (cell_of (alUp (al0 V _) _) 0).trans rfl | exact (cell_of (al1 V _ _) 0).trans rfl
      · first | exact (cell_of (alUp (al0 V _) _) 0).trans rfl | exact (cell_of (al1 V _ _) 0).trans rfl
  case rest =>
    obtain ⟨B8, B9, rfl, rfl, HC⟩ := hcut
    have HKU : Hid (Kept [] w wc) := HKV.out.trans HC.out.1 (by simp) (by simp)
    go_wp2
    go_cut [10] from 46 to 49 (fun s10 wd => ∃ B10, s10 = .pointer (some ⟨B10, 0, none⟩) ∧ Hid (Kept [] wc wd ∧ wd.cell? ⟨B10, 0, none⟩ = some (.bool (foreverOp op)) ∧ wd.cell? ⟨B10, 1, none⟩ = some (.func (.func (fnOp op)) #[] #[])))
    case first =>
      have hS : ∀ W, Kept [] wc W → W.cell? ⟨w.heap.size + 1, 0, none⟩ = some (.int .u8 (op : Nat)) := fun W k => cell_kept0 k (cell_kept0 HC.out.1 HV1.out.cells.1)
      have HS : Hid _ := hS
      have e0 := hS wc (Kept.refl [] wc)
      have hma := HMA.out
      obtain ⟨MC, hMC⟩ : ∃ MC, meanCells = MC := ⟨_, rfl⟩
      have HME : Hid (∀ W, Calls Tryd.prog 124 #[] W fun e w' => e = .returned (.agg MC) ∧ Kept [] W w') := fun W => by rw [← hMC]; exact meanings_any W
      rw [hMC] at hma
      clear hS hMC HMA
      go_region_held3 (fun w' => w'.cell? ⟨w.heap.size + 1, 0, none⟩ = some (.int .u8 (op : Nat)))
        ((refine HS.out _ ?_; (repeat (first | exact Kept.refl [] _ | refine Kept.drew ?_ | refine Kept.alloc ?_ _ | refine Kept.trans (F := []) (G := []) (H := []) ?_ HK2.out (by simp) (by simp) | refine Kept.setCell ?_ (Or.inr (by dsimp only; omega)) _))))
        (first | (go_at_call 124; refine (HME.out _).mono ?_; rintro e W2 ⟨rfl, hk2⟩; obtain ⟨hc2, hf2⟩ := bcell hk2.below; have hz2 := hk2.size; (try simp only [drew_heap] at hz2); (try simp only [World.size_alloc] at hz2); (try have q1 : wc.heap.size < W2.heap.size := (by omega)); have HK2 : Hid _ := hk2; clear hk2))
      all_goals (go_wp2_with fail; go_meet)
      all_goals
        refine ⟨_, rfl, ?_, ?_, ?_⟩
        · repeat (first | exact Kept.refl [] _ | refine Kept.drew ?_ | refine Kept.alloc ?_ _ | refine Kept.trans (F := []) (G := []) (H := []) ?_ HK2.out (by simp) (by simp) | refine Kept.setCell ?_ (Or.inr (by dsimp only; omega)) _)
        · first | exact (cell_of (heap_alloc_new W2 _) 0).trans rfl | exact (cell_of (row_set (row_set (Kept.at HK2.out (heap_alloc_new wc _) (by simp)) _) _) 0).trans rfl
        · first | exact (cell_of (heap_alloc_new W2 _) 1).trans rfl | exact (cell_of (row_set (row_set (Kept.at HK2.out (heap_alloc_new wc _) (by simp)) _) _) 1).trans rfl
    case rest =>
      obtain ⟨B10, rfl, HE⟩ := hcut
      rename World => wd
      have b0 := cell_kept0 HE.out.1 (cell_kept0 HC.out.1 HV0.out.cell)
      have d0 := HE.out.2.1
      have HDW : Hid (Calls Tryd.prog 118 #[.pointer (some ⟨p, 0, none⟩), .bool (foreverOp op), .func (.func 125) #[] #[.pointer (some ⟨B10, 0, none⟩), .pointer (some ⟨B8, 0, none⟩), .pointer (some ⟨B9, 0, none⟩)]] wd fun e w' => ∃ v, e = .returned v ∧ Bools w' v q.len (backR q (foreverOp op) (fun i l => holdOp op (g i) (h i) l)) ∧ Kept [] wd w') := HD.out wd B10 B8 B9 (HC.out.1.trans HE.out.1 (by simp) (by simp)) HE.out.2.2 (cell_kept0 HE.out.1 HC.out.2.1) (cell_kept0 HE.out.1 HC.out.2.2)
      have HKD : Hid (Kept [] w wd) := HKU.out.trans HE.out.1 (by simp) (by simp)
      go_wp2_with (go_at_call 118; refine HDW.out.mono ?_; rintro e W ⟨v, rfl, hb, hk⟩; have HBV : Hid _ := hb; have HKW : Hid _ := hk; clear hb hk)
      go_ret
      exact ⟨_, rfl, HBV.out, HKD.out.trans HKW.out (by simp) (by simp)⟩
/-- found, of any formula that has a meaning. -/
theorem found_any (p : Nat) (nv sv lv rv mv : Value) (q : Wd) (names : List ByteArray) (t : Tr) (fad : Option Addr) (fn fc : Nat) (kv : Value) (rows : List (Nat → Bool)) (w : World) (hT : Tab5 w p nv sv lv rv mv) (hW : IsW w sv lv q) (h0 : 0 < q.loop.length) (hN : Strs w nv names) (hn8 : names.length ≤ 8) (hf : formedB t = true) (ho : t.op ≤ 15) (hin : t.op = 3 → hasN names t.name = true) (hK : KidsR w kv rows q.len) (hl : rows.length = t.kids.length) :
    Calls Tryd.prog 74 #[.pointer (some ⟨p, 0, none⟩), .agg #[.int .u8 (t.op : Nat), .string t.name, .slice fad fn fc], kv] w fun e w' => ∃ v, e = .returned v ∧ Bools w' v q.len (rowOp q names t.op t.name (kid0 (fun _ => false) rows) (kid1 (fun _ => false) rows)) ∧ Kept [] w w' := by
  have hB : BackDoes p q w := fun W k fv g lb hold hen hC => back_any p nv sv lv rv mv q fv g lb hold W hen (hT.kept k) (hW.kept k) h0 hC
  obtain ⟨hk, h1⟩ := formed_kids hf
  rw [← hl] at hk
  have k9 : t.op = 9 → rows.length = 1 := fun e => by rw [hk, e]; rfl
  have kt : TabOp t.op → 0 < rows.length ∧ rows.length ≤ 2 := fun e => by
    rw [hk]
    unfold TabOp at e
    rcases e with e | e | e | e | e | e | e | e | e | e | e <;> rw [e] <;> decide
  rcases (by omega : (t.op = 1 ∨ t.op = 2) ∨ t.op = 3 ∨ t.op = 9 ∨ (t.op = 4 ∨ t.op = 5 ∨ t.op = 6 ∨ t.op = 7 ∨ t.op = 8 ∨ t.op = 10 ∨ t.op = 11 ∨ t.op = 12 ∨ t.op = 13 ∨ t.op = 14 ∨ t.op = 15)) with h | h | h | h
  · exact found_leaf p q names t.op t.name fad fn fc kv rows _ _ w hB h hK
  · have hi := hin h
    rw [h]
    exact found_prop p nv sv lv rv mv q names t.name fad fn fc kv rows _ _ w hT hW h0 hN hn8 hi hB hK
  · have := k9 h
    rw [h]
    exact found_next p nv sv lv rv mv q names t.name fad fn fc kv rows _ w hT hW h0 hB hK (by omega)
  · exact found_tab p q names h t.name fad fn fc kv rows w hB hK (kt h).1 (kt h).2
end Go.Proofs.YtddgciilcghbaaaDoor
