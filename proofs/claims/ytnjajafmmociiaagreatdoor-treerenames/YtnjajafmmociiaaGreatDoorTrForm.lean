/- The small functions of package tree: names, times, forms, measures. -/
import Derived.Test.YtnjajafmmociiaaGreatDoorTrSize
import Derived.BigQuiet
import Derived.Deep.QuietTactic
import Derived.Lib.SlicesS
namespace Go.Proofs.YtnjajafmmociiaaGreatDoor
open Go.RowKit Go.Shelf

/-- May a byte stand in a name; is a text a name. -/
def okB (b : Nat) : Bool := decide (32 ≤ b) && decide (b ≤ 126) && !(b == 34) && !(b == 92)
def nameB (l : List UInt8) : Bool := decide (1 ≤ l.length) && decide (l.length ≤ 32) && l.all fun b => okB b.toNat

theorem nameB_short {l : List UInt8} (h : l.length = 0) : nameB l = false := by
  unfold nameB; rw [show decide (1 ≤ l.length) = false from by rw [decide_eq_false_iff_not]; omega]; rfl
theorem nameB_long {l : List UInt8} (h : 32 < l.length) : nameB l = false := by
  unfold nameB; rw [show decide (l.length ≤ 32) = false from by rw [decide_eq_false_iff_not]; omega, Bool.and_false]; rfl
theorem nameB_bad {l : List UInt8} {c : UInt8} (h : c ∈ l) (hc : okB c.toNat = false) : nameB l = false := by
  unfold nameB
  rw [show (l.all fun b => okB b.toNat) = false from List.all_eq_false.2 ⟨c, h, by simp [hc]⟩, Bool.and_false]
theorem nameB_good {l : List UInt8} (h0 : 1 ≤ l.length) (h1 : l.length ≤ 32) (h : ∀ j (hj : j < l.length), okB (l[j]).toNat = true) : nameB l = true := by
  unfold nameB
  rw [show (l.all fun b => okB b.toNat) = true from List.all_eq_true.2 fun b hb => by obtain ⟨j, hj, rfl⟩ := List.getElem_of_mem hb; exact h j hj]
  simp [h0, h1]
theorem okB_no {c : Nat} (h : c < 32 ∨ 126 < c ∨ c = 34 ∨ c = 92) : okB c = false := by
  unfold okB
  rcases h with h | h | h | h
  · rw [show decide (32 ≤ c) = false from by rw [decide_eq_false_iff_not]; omega]; rfl
  · rw [show decide (c ≤ 126) = false from by rw [decide_eq_false_iff_not]; omega, Bool.and_false]; rfl
  · subst h; rfl
  · subst h; rfl
theorem okB_yes {c : Nat} (h1 : ¬ c < 32) (h2 : ¬ 126 < c) (h3 : ¬ c = 34) (h4 : ¬ c = 92) : okB c = true := by
  unfold okB
  simp [h3, h4]; omega

set_option maxHeartbeats 1000000 in
theorem isName_any (s : ByteArray) (w : World) (hs : s.size ≤ maxLen) :
    Calls Tryz.prog 40 #[.string s] w fun e w' => e = .returned (.bool (nameB s.data.toList)) ∧ w' = w := by
  have hl : s.size = s.data.toList.length := rfl
  unfold maxLen at hs
  obtain ⟨r, hr⟩ : ∃ r, nameB s.data.toList = r := ⟨_, rfl⟩
  rw [hr]
  have HR : Hid _ := hr
  have HL : Hid _ := hl
  clear hr hl
  by_cases h0 : s.size = 0
  · have h0i : ((s.size : Int) == 0) = true := by rw [beq_iff_eq]; omega
    go_enter Tryz.func40, Tryz.ntmps40
    go_wp2
    go_ret
    exact ⟨ret_bool ((nameB_short (HL.out.symm.trans h0)).symm.trans HR.out), rfl⟩
  have h0i : ((s.size : Int) == 0) = false := by rw [beq_eq_false_iff_ne]; omega
  by_cases h1 : 32 < s.size
  · have h1i : (32 : Int) < (s.size : Int) := by omega
    go_enter Tryz.func40, Tryz.ntmps40
    go_wp2
    go_ret
    exact ⟨ret_bool ((nameB_long (by rw [← HL.out]; exact h1)).symm.trans HR.out), rfl⟩
  have h1i : ¬ (32 : Int) < (s.size : Int) := by omega
  go_enter Tryz.func40, Tryz.ntmps40
  go_wp2
  go_loop [15] (fun v => ∃ k : Nat, k ≤ s.size ∧ v = .int .i64 (k : Nat) ∧ Hid (∀ j (h : j < s.data.toList.length), j < k → okB (s.data.toList[j]).toNat = true)) (fun v => s.size - (intOf v).toNat)
  case atStart => exact ⟨0, Nat.zero_le _, rfl, fun j _ h => by omega⟩
  case round =>
    obtain ⟨k, hk, rfl, HA⟩ := hrel
    by_cases hlt : k < s.size
    · obtain ⟨c, hc⟩ : ∃ c : UInt8, s[k] = c := ⟨_, rfl⟩
      have hcd : s.data.toList[k]'(by rw [← HL.out]; exact hlt) = c := hc
      have HC : Hid _ := hcd
      have hki : (k : Int) < (s.size : Int) := by omega
      have hbad : okB c.toNat = false → false = r := fun h => (nameB_bad (by rw [← HC.out]; exact List.getElem_mem _) h).symm.trans HR.out
      have HB : Hid _ := hbad
      clear hcd hbad
      by_cases c1 : (c.toNat : Int) < 32
      · go_wp2
        go_ret
        exact ⟨ret_bool (HB.out (okB_no (by omega))), rfl⟩
      by_cases c2 : (126 : Int) < (c.toNat : Int)
      · go_wp2
        go_ret
        exact ⟨ret_bool (HB.out (okB_no (by omega))), rfl⟩
      by_cases c3 : (c.toNat : Int) = 34
      · have c3' : ((c.toNat : Int) == 34) = true := by rw [beq_iff_eq]; exact c3
        have HC3 : Hid _ := c3
        clear c3
        go_wp2
        go_ret
        exact ⟨ret_bool (HB.out (okB_no (by have := HC3.out; omega))), rfl⟩
      have c3' : ((c.toNat : Int) == 34) = false := by rw [beq_eq_false_iff_ne]; exact c3
      by_cases c4 : (c.toNat : Int) = 92
      · have c4' : ((c.toNat : Int) == 92) = true := by rw [beq_iff_eq]; exact c4
        have HC4 : Hid _ := c4
        clear c4
        go_wp2
        go_ret
        exact ⟨ret_bool (HB.out (okB_no (by have := HC4.out; omega))), rfl⟩
      have c4' : ((c.toNat : Int) == 92) = false := by rw [beq_eq_false_iff_ne]; exact c4
      go_wp2
      go_round
      case rel =>
        refine ⟨k + 1, by omega, by go_num, fun j h hj => ?_⟩
        rcases Nat.lt_or_ge j k with h' | h'
        · exact HA.out j h h'
        · obtain rfl : j = k := by omega
          rw [HC.out]
          exact okB_yes (by omega) (by omega) (by omega) (by omega)
      case measure => simp [intOf]; omega
    · go_wp2
      go_ret
      exact ⟨ret_bool ((nameB_good (by rw [← HL.out]; omega) (by rw [← HL.out]; omega) (fun j hj => HA.out j hj (by have := HL.out; omega))).symm.trans HR.out), rfl⟩

/-- Of which time an Op is alone. -/
def pastB (o : Nat) : Bool := decide (16 ≤ o) && decide (o ≤ 21)
def futureB (o : Nat) : Bool := decide (9 ≤ o) && decide (o ≤ 15)
set_option maxHeartbeats 400000 in
theorem isPast_any (o : Nat) (w : World) (ho : o < 256) : Calls Tryz.prog 78 #[.int .u8 (o : Nat)] w fun e w' => e = .returned (.bool (pastB o)) ∧ w' = w := by
  by_cases h1 : (16 : Int) ≤ (o : Int)
  · by_cases h2 : (o : Int) ≤ 21
    · go_enter Tryz.func78, Tryz.ntmps78
      go_wp2
      go_ret
      exact ⟨ret_bool (by simp [pastB]; omega), rfl⟩
    · go_enter Tryz.func78, Tryz.ntmps78
      go_wp2
      go_ret
      exact ⟨ret_bool (by simp [pastB]; omega), rfl⟩
  · go_enter Tryz.func78, Tryz.ntmps78
    go_wp2
    go_ret
    exact ⟨ret_bool (by simp [pastB]; omega), rfl⟩
set_option maxHeartbeats 400000 in
theorem isFuture_any (o : Nat) (w : World) (ho : o < 256) : Calls Tryz.prog 79 #[.int .u8 (o : Nat)] w fun e w' => e = .returned (.bool (futureB o)) ∧ w' = w := by
  by_cases h1 : (9 : Int) ≤ (o : Int)
  · by_cases h2 : (o : Int) ≤ 15
    · go_enter Tryz.func79, Tryz.ntmps79
      go_wp2
      go_ret
      exact ⟨ret_bool (by simp [futureB]; omega), rfl⟩
    · go_enter Tryz.func79, Tryz.ntmps79
      go_wp2
      go_ret
      exact ⟨ret_bool (by simp [futureB]; omega), rfl⟩
  · go_enter Tryz.func79, Tryz.ntmps79
    go_wp2
    go_ret
    exact ⟨ret_bool (by simp [futureB]; omega), rfl⟩

/-- How many kids an Op has: the table, and where it lies. -/
def kidsL : List Nat := [0, 0, 0, 0, 1, 2, 2, 2, 2, 1, 1, 1, 2, 2, 2, 2, 1, 1, 1, 1, 2, 2]
def kidsN (o : Nat) : Nat := kidsL.getD o 0
def KidsTab (w : World) : Prop := ∀ i, i < 22 → w.cell? ⟨0, i, none⟩ = some (.int .i64 (kidsN i : Nat))
theorem KidsTab.kept {w w' : World} (h : KidsTab w) (k : Kept [] w w') : KidsTab w' := fun i hi => cell_kept0 k (h i hi)
/-- Is a tree well formed, its kids not looked at. -/
def formedB (t : Tr) : Bool := decide (1 ≤ t.op) && decide (t.op ≤ 21) && (t.kids.length == kidsN t.op) && (if t.op = 3 then nameB t.name.data.toList else t.name.toList.isEmpty)

set_option maxHeartbeats 1000000 in
theorem formed_any (t : Tr) (kad : Option Addr) (kcap : Nat) (w : World) (hT : KidsTab w) (ho : t.op < 256) (hn : t.name.size ≤ maxLen) :
    Calls Tryz.prog 84 #[.agg #[.int .u8 (t.op : Nat), .string t.name, .slice kad t.kids.length kcap]] w fun e w' => e = .returned (.bool (formedB t)) ∧ Kept [] w w' := by
  obtain ⟨r, hr⟩ : ∃ r, formedB t = r := ⟨_, rfl⟩
  rw [hr]
  have HR : Hid _ := hr
  clear hr
  have hnm := isName_any t.name
  have HN : Hid _ := hnm
  have HK : ∀ o n, Hid (Kept [] w ((w.alloc o).drewN n)) := fun o n => ((Kept.refl [] w).alloc o).drewN n
  have HNS : Hid _ := hn
  clear hnm hn
  have hc : t.op < 22 → w.cell? ⟨0, t.op, none⟩ = some (.int .i64 (kidsN t.op : Nat)) := hT t.op
  have h0 : 0 < w.heap.size := World.block_lt_of_cell? w _ (hT 0 (by omega))
  have h0a : ¬ 0 = w.heap.size := by omega
  have h0b : ¬ w.heap.size = 0 := by omega
  have HC : Hid _ := hc
  obtain ⟨k, hkk⟩ : ∃ k, kidsN t.op = k := ⟨_, rfl⟩
  have hkl : k ≤ 2 := by
    rw [← hkk]; unfold kidsN kidsL
    rcases Nat.lt_or_ge t.op 22 with h | h
    · revert h; generalize t.op = o; intro h
      have : ∀ o : Fin 22, [0, 0, 0, 0, 1, 2, 2, 2, 2, 1, 1, 1, 2, 2, 2, 2, 1, 1, 1, 1, 2, 2].getD o.val 0 ≤ 2 := by decide
      exact this ⟨o, h⟩
    · rw [List.getD_eq_getElem?_getD, List.getElem?_eq_none (by simpa using h)]; simp
  have HKK : Hid _ := hkk
  clear hT hc hkk h0
  by_cases h1 : (t.op : Int) < 1
  · have hd1 : decide ((t.op : Int) < 1) = true := by rw [decide_eq_true_iff]; exact h1
    go_enter Tryz.func84, Tryz.ntmps84
    go_wp2
    go_quiet (fail)
    go_wp2
    go_ret
    exact ⟨ret_bool (by rw [← HR.out]; unfold formedB; rw [show decide (1 ≤ t.op) = false from by rw [decide_eq_false_iff_not]; omega]; rfl), (HK _ _).out⟩
  have hd1 : decide ((t.op : Int) < 1) = false := by rw [decide_eq_false_iff_not]; exact h1
  by_cases h2 : (21 : Int) < (t.op : Int)
  · have hd2 : decide ((21 : Int) < (t.op : Int)) = true := by rw [decide_eq_true_iff]; exact h2
    go_enter Tryz.func84, Tryz.ntmps84
    go_wp2
    go_quiet (fail)
    go_wp2
    go_ret
    exact ⟨ret_bool (by rw [← HR.out]; unfold formedB; rw [show decide (t.op ≤ 21) = false from by rw [decide_eq_false_iff_not]; omega, Bool.and_false]; rfl), (HK _ _).out⟩
  have hd2 : decide ((21 : Int) < (t.op : Int)) = false := by rw [decide_eq_false_iff_not]; exact h2
  have hlt : t.op < 22 := by omega
  have hlti : (t.op : Int) < 22 := by omega
  have hc := HC.out hlt
  rw [HKK.out] at hc
  have hc2 : ∀ o, (w.alloc o).cell? ⟨0, t.op, none⟩ = some (.int .i64 (k : Nat)) := fun o => cell_kept0 ((Kept.refl [] w).alloc o) hc
  have hc3 : ∀ o n, ((w.alloc o).drewN n).cell? ⟨0, t.op, none⟩ = some (.int .i64 (k : Nat)) := fun o n => cell_kept0 (((Kept.refl [] w).alloc o).drewN n) hc
  have HF : Hid (formedB t = ((t.kids.length == k) && (if t.op = 3 then nameB t.name.data.toList else t.name.toList.isEmpty))) := by
    show formedB t = _
    unfold formedB
    rw [show decide (1 ≤ t.op) = true from by rw [decide_eq_true_iff]; omega, show decide (t.op ≤ 21) = true from by rw [decide_eq_true_iff]; omega, HKK.out, Bool.true_and, Bool.true_and]
  by_cases h3 : t.kids.length = k
  · have hb3 : ((t.kids.length : Int) != (k : Int)) = false := by rw [bne_eq_false_iff_eq]; omega
    have HF3 : Hid (formedB t = (if t.op = 3 then nameB t.name.data.toList else t.name.toList.isEmpty)) := by
      show formedB t = _
      rw [HF.out, show (t.kids.length == k) = true from by rw [beq_iff_eq]; exact h3, Bool.true_and]
    have H3 : Hid _ := h3
    clear h3 HF
    by_cases h4 : t.op = 3
    · have hb4 : ((t.op : Int) == 3) = true := by rw [beq_iff_eq]; omega
      have H4 : Hid _ := h4
      clear h4
      go_enter Tryz.func84, Tryz.ntmps84
      go_wp2
      go_quiet (fail)
      go_wp2_with (go_at_call 40; refine (HN.out _ HNS.out).mono ?_; rintro e w' ⟨rfl, rfl⟩)
      go_ret
      exact ⟨ret_bool (by rw [← HR.out, HF3.out, if_pos H4.out]), (HK _ _).out⟩
    · have hb4 : ((t.op : Int) == 3) = false := by rw [beq_eq_false_iff_ne]; omega
      have H4 : Hid _ := h4
      clear h4
      go_enter Tryz.func84, Tryz.ntmps84
      go_wp2
      go_quiet (fail)
      go_wp2
      go_ret
      exact ⟨ret_bool (by rw [← HR.out, HF3.out, if_neg H4.out]), (HK _ _).out⟩
  · have hb3 : ((t.kids.length : Int) != (k : Int)) = true := by rw [bne_iff_ne]; omega
    have H3 : Hid _ := h3
    clear h3
    go_enter Tryz.func84, Tryz.ntmps84
    go_wp2
    go_quiet (fail)
    go_wp2
    go_ret
    exact ⟨ret_bool (by rw [← HR.out, HF.out, show (t.kids.length == k) = false from by rw [beq_eq_false_iff_ne]; exact H3.out]; rfl), (HK _ _).out⟩

/-- A measure: how great, how deep. -/
def MeasAt (B a d : Nat) (W : World) : Prop := W.heap[B]? = some (.cells #[.int .i64 (a : Nat), .int .i64 (d : Nat)] 126 (0, 0))
theorem MeasAt.set {B a d a' d' : Nat} {W : World} (h : MeasAt B a d W) : MeasAt B a' d' ((W.setCell ⟨B, 0, none⟩ (.int .i64 (a' : Nat))).setCell ⟨B, 1, none⟩ (.int .i64 (d' : Nat))) := by
  unfold MeasAt at h ⊢
  rw [row_set (row_set h _) _]; rfl
set_option maxHeartbeats 400000 in
theorem add_any (B a d x y : Nat) (w : World) (h : MeasAt B a d w) (ha : a + x ≤ 9223372036854775807) :
    Calls Tryz.prog 85 #[.pointer (some ⟨B, 0, none⟩), .int .i64 (x : Nat), .int .i64 (y : Nat)] w fun e w' => (∃ v, e = .returned v) ∧ MeasAt B (a + x) (max d y) w' ∧ Kept [B] w w' := by
  have c0 : w.cell? ⟨B, 0, none⟩ = some (.int .i64 (a : Nat)) := (cell_of h 0).trans rfl
  have c1 : w.cell? ⟨B, 1, none⟩ = some (.int .i64 (d : Nat)) := (cell_of h 1).trans rfl
  have f0 : w.frozen? ⟨B, 0, none⟩ = false := free_of h 0
  have f1 : w.frozen? ⟨B, 1, none⟩ = false := free_of h 1
  have HM : Hid (MeasAt B a d w) := h
  clear h
  by_cases hc : (d : Int) < (y : Int)
  · go_enter Tryz.func85, Tryz.ntmps85
    go_wp2
    go_end0
    refine ⟨⟨_, rfl⟩, ?_, ((Kept.refl [B] w).setCell (p := ⟨B, 0, none⟩) (.inl (by simp)) _).setCell (p := ⟨B, 1, none⟩) (.inl (by simp)) _⟩
    rw [Nat.max_eq_right (by omega)]
    exact HM.out.set
  · go_enter Tryz.func85, Tryz.ntmps85
    go_wp2
    go_end0
    refine ⟨⟨_, rfl⟩, ?_, ((Kept.refl [B] w).setCell (p := ⟨B, 0, none⟩) (.inl (by simp)) _).setCell (p := ⟨B, 1, none⟩) (.inl (by simp)) _⟩
    rw [Nat.max_eq_left (by omega)]
    exact HM.out.set
set_option maxHeartbeats 400000 in
theorem fits_any (B a d : Nat) (w : World) (h : MeasAt B a d w) (ha : a ≤ 9223372036854775807) (hd : d ≤ 9223372036854775807) :
    Calls Tryz.prog 86 #[.pointer (some ⟨B, 0, none⟩)] w fun e w' => e = .returned (.bool (decide (a ≤ 1000) && decide (d ≤ 100))) ∧ Kept [] w w' := by
  have c0 : w.cell? ⟨B, 0, none⟩ = some (.int .i64 (a : Nat)) := (cell_of h 0).trans rfl
  have c1 : w.cell? ⟨B, 1, none⟩ = some (.int .i64 (d : Nat)) := (cell_of h 1).trans rfl
  clear h
  by_cases h1 : (a : Int) ≤ 1000
  · have e1 : decide (a ≤ 1000) = true := by rw [decide_eq_true_iff]; omega
    rw [e1]
    by_cases h2 : (d : Int) ≤ 100
    · have e2 : decide (d ≤ 100) = true := by rw [decide_eq_true_iff]; omega
      rw [e2]
      clear e1 e2
      go_enter Tryz.func86, Tryz.ntmps86
      go_wp2
      go_ret
      exact ⟨rfl, Kept.refl _ _⟩
    · have e2 : decide (d ≤ 100) = false := by rw [decide_eq_false_iff_not]; omega
      rw [e2]
      clear e1 e2
      go_enter Tryz.func86, Tryz.ntmps86
      go_wp2
      go_ret
      exact ⟨rfl, Kept.refl _ _⟩
  · have e1 : decide (a ≤ 1000) = false := by rw [decide_eq_false_iff_not]; omega
    rw [e1]
    clear e1
    go_enter Tryz.func86, Tryz.ntmps86
    go_wp2
    go_ret
    exact ⟨rfl, Kept.refl _ _⟩
end Go.Proofs.YtnjajafmmociiaaGreatDoor
