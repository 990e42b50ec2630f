/- A place as a text. -/
import Derived.Test.YtnljjbpbgjgnkaaGreatDoorTrParts
import Derived.Test.YtnljjbpbgjgnkaaGreatDoorShelfP
import Derived.Lib.ItoaLen
import Derived.Lib.SmallJoins
import Derived.Laws.IdiomStrings
import Derived.LoopN
import Derived.Lib.AppendZeros
namespace Go.Proofs.YtnljjbpbgjgnkaaGreatDoor
open Go.RowKit Go.Shelf

/-- The text of a place. -/
def pathB : List Nat → List UInt8
  | [] => []
  | i :: r => Lib.itoa (i : Int) ++ r.flatMap fun (j : Nat) => (46 : UInt8) :: Lib.itoa (j : Int)
theorem pathB_snoc (p : List Nat) (i : Nat) : pathB (p ++ [i]) = pathB p ++ (if p.length = 0 then [] else [46]) ++ Lib.itoa (i : Int) := by
  cases p with
  | nil => simp [pathB]
  | cons a r => simp [pathB, List.flatMap_append]
theorem pathB_take (p : List Nat) (k : Nat) (h : k < p.length) : pathB (p.take (k + 1)) = pathB (p.take k) ++ (if k = 0 then [] else [46]) ++ Lib.itoa (p[k] : Int) := by
  rw [List.take_succ_eq_append_getElem h, pathB_snoc, List.length_take, Nat.min_eq_left (by omega)]
theorem pathB_len (p : List Nat) (h : ∀ i ∈ p, i ≤ 9223372036854775807) : (pathB p).length ≤ 22 * p.length := by
  have key : ∀ r : List Nat, (∀ i ∈ r, i ≤ 9223372036854775807) → (r.flatMap fun (j : Nat) => (46 : UInt8) :: Lib.itoa (j : Int)).length ≤ 22 * r.length := by
    intro r
    induction r with
    | nil => intro _; simp
    | cons a r ih =>
      intro hr
      have h1 := ih (fun i hi => hr i (by simp [hi]))
      have h2 := Lib.itoa_length_le (a : Int) (by omega) (by have := hr a (by simp); omega)
      rw [List.flatMap_cons, List.length_append, List.length_cons, List.length_cons]
      omega
  cases p with
  | nil => simp [pathB]
  | cons a r =>
    have h1 := key r (fun i hi => h i (by simp [hi]))
    have h2 := Lib.itoa_length_le (a : Int) (by omega) (by have := h a (by simp); omega)
    rw [pathB, List.length_append, List.length_cons]
    omega
def PowTab (w : World) : Prop := Lib.TabIs Tryz.prog w "internal/strconv.uint64pow10" .u64 Lib.pow10Tab
theorem Tryz.globPow' : Tryz.prog.globalNamed "internal/strconv.uint64pow10" = some 6 := by kernel_rfl
theorem PowTab.kept {w w' : World} (h : PowTab w) (k : Kept [] w w') : PowTab w' := Go.Joins.tab_stays Tryz.globPow' h k.below (Nat.le_refl _)
theorem Tryz.infoU8 : (Tryz.prog.info? 5).map (fun i => (i.zero, i.size, i.bytes)) = some (some (.int .u8 0), 1, 1) := by kernel_rfl
/-- A text that is being written. -/
structure Txt (w1 W : World) (v : Value) (l : List UInt8) : Prop where
  own : W.ownsRow w1.heap.size 5 1 v l.length (Lib.byteCells l)
  kept : Kept [] w1 W
theorem txt_nil (w : World) : Txt w w (.slice none 0 0) [] := ⟨⟨rfl, .inl ⟨rfl, rfl⟩⟩, Kept.refl [] w⟩
theorem kept_below {w1 W W' : World} (h : Kept [] w1 W) (b : Below w1.heap.size W W') : Kept [] w1 W' :=
  ⟨b.os.trans h.os, b.tape.trans h.tape, b.output.trans h.output, Nat.le_trans h.size b.size, fun k hk _ => (b.block k hk).trans (h.block k hk (by simp))⟩
theorem byteCells_app (a b : List UInt8) : Lib.byteCells (a ++ b) = Lib.byteCells a ++ Lib.byteCells b := by simp [Lib.byteCells]
theorem own_form {W : World} {base : Nat} {e : TypeId} {sz : Nat} {v : Value} {n : Nat} {xs : List Value} (h : W.ownsRow base e sz v n xs) : ∃ ad cap, v = .slice ad n cap := by
  rcases h.2 with ⟨rfl, h0⟩ | ⟨g, cap, cur, rfl, _⟩
  · exact ⟨none, 0, by rw [h0]⟩
  · exact ⟨_, _, rfl⟩
theorem int_more (v : Value) (l : List UInt8) (i : Nat) (w1 W : World) (h : Txt w1 W v l) (hi : i ≤ 9223372036854775807) (ht : Lib.TabBelow Tryz.prog w1.heap.size W "internal/strconv.uint64pow10" .u64 Lib.pow10Tab) (hl : l.length ≤ 1000000000) :
    Calls Tryz.prog 53 #[v, .int .i64 (i : Nat), .int .i64 10] W fun e w' => ∃ l2 ad cap, Hid (l ++ Lib.itoa (i : Int) = l2) ∧ e = .returned (.slice ad l2.length cap) ∧ Hid (Txt w1 w' (.slice ad l2.length cap) l2) := by
  refine (Any.strconv_AppendInt_10 Tryz.laysM176 w1.heap.size l.length (i : Int) (by omega) (by omega) v (Lib.byteCells l) W h.own h.kept.size (by omega) ht).mono ?_
  rintro e w' ⟨v', rfl, h1, h2, _⟩
  have h3 : w'.ownsRow w1.heap.size 5 1 v' (l ++ Lib.itoa (i : Int)).length (Lib.byteCells (l ++ Lib.itoa (i : Int))) := by
    rw [List.length_append, byteCells_app]
    exact h1
  obtain ⟨ad, cap, rfl⟩ := own_form h3
  exact ⟨_, ad, cap, rfl, rfl, h3, kept_below h.kept h2⟩
theorem byte_more {w1 W : World} {v : Value} {l : List UInt8} (h : Txt w1 W v l) (c : UInt8) (hl : l.length ≤ 1000000000) :
    ∃ ad cap w', (∀ ty, (Builtin.append_ #[89, 89] ty #[v, .slice (some ⟨W.heap.size, 0, none⟩) 1 1]).run Tryz.prog (W.alloc (.cells #[.int .u8 (c.toNat : Nat)] 5)) = .ok (.slice ad (l ++ [c]).length cap) w') ∧ Txt w1 w' (.slice ad (l ++ [c]).length cap) (l ++ [c]) := by
  obtain ⟨i0, hi, hz0, hz1, hz2⟩ := info_parts Tryz.infoU8
  have hz := h.kept.size
  have ho : (W.alloc (.cells #[.int .u8 (c.toNat : Nat)] 5)).ownsRow w1.heap.size 5 1 v l.length (Lib.byteCells l) := row_kept0 h.own ((Kept.refl [] W).alloc _)
  obtain ⟨v', w', h5, h6, h7, h8, _⟩ := run_append_own_at (P := Tryz.prog) _ w1.heap.size 89 0 5 i0 _ 1 1 Tryz.underlying89 hi hz0 hz1 hz2 rfl (by decide) v _ _ ho ⟨W.heap.size, 0, none⟩ 1 1 [.int .u8 (c.toNat : Nat)] rfl (World.news_of_block (cs := #[.int .u8 (c.toNat : Nat)]) (t := 5) (fr := (0, 0)) (heap_alloc_new W _)) (by simp [Value.oneCell']) (by unfold maxLen; omega) (by omega) (by rw [World.size_alloc]; omega)
  have h6' : w'.ownsRow w1.heap.size 5 1 v' (l ++ [c]).length (Lib.byteCells (l ++ [c])) := by rw [List.length_append, byteCells_app]; exact h6
  obtain ⟨ad, cap, rfl⟩ := own_form h6'
  exact ⟨ad, cap, w', fun _ => h5, h6', (h.kept.alloc _).grown h7 (fun k e => .inr (own_lt ho e).1)⟩
theorem txt_string {w1 W : World} {ad : Option Addr} {cap : Nat} {l : List UInt8} (h : Txt w1 W (.slice ad l.length cap) l) (h0 : 0 < l.length) : (convert 89 9 (.slice ad l.length cap)).run Tryz.prog W = .ok (.string ⟨l.toArray⟩) W := by
  rcases h.own.2 with ⟨_, e⟩ | ⟨g, cap', cur, e, _⟩
  · omega
  · cases e
    refine run_convert_bytes_back (P := Tryz.prog) W 89 9 5 ⟨g, 0, none⟩ _ l Tryz.underlying89 Tryz.underlying5 Tryz.underlying9 (fun j hj => ?_)
    rw [show ((⟨g, 0, none⟩ : Addr).add j) = ⟨g, j, none⟩ by (unfold Addr.add; simp; omega), h.own.cellAt j (by omega)]
    simp [Lib.byteCells, hj]
theorem itoa_pos (i : Nat) : 0 < (Lib.itoa (i : Int)).length := by
  rw [Lib.itoa_nonneg, Lib.decDigits_length]
  unfold Lib.nDigits
  split <;> omega
theorem pathB_pos {p : List Nat} (h : 0 < p.length) : 0 < (pathB p).length := by
  cases p with
  | nil => simp at h
  | cons a r => have := itoa_pos a; rw [pathB, List.length_append]; omega
set_option maxHeartbeats 1000000 in
set_option maxRecDepth 10000 in
theorem conv_nil (w : World) : (convert 89 9 (.slice none 0 0)).run Tryz.prog w = .ok (.string ⟨#[]⟩) w := by
  first | rfl | kernel_rfl | simp [convert, go_sem, Tryz.underlying89, Tryz.underlying5, Tryz.underlying9]
set_option maxHeartbeats 1000000 in
set_option maxRecDepth 10000 in
theorem pathOf_nil (ad : Option Addr) (cap : Nat) (w : World) : Calls Tryz.prog 25 #[.slice ad 0 cap] w fun e w' => e = .returned (.string ⟨#[]⟩) ∧ Kept [] w w' := by
  have hcv := conv_nil w
  go_enter Tryz.func25, Tryz.ntmps25
  go_wp2_with fail
  refine wp_loop_rounds 1 ?_
  rw [rounds_succ]
  go_wp2_with fail
  go_ret
  exact ⟨rfl, Kept.refl [] w⟩
set_option maxHeartbeats 4000000 in
set_option maxRecDepth 10000 in
theorem pathOf_some (b cap : Nat) (p : List Nat) (w : World) (hrow : ∀ i (h : i < p.length), w.cell? ⟨b, i, none⟩ = some (.int .i64 (p[i] : Nat))) (hp : ∀ i ∈ p, i ≤ 9223372036854775807) (h0 : 0 < p.length) (hl : p.length ≤ 10000000) (ht : PowTab w) :
    Calls Tryz.prog 25 #[.slice (some ⟨b, 0, none⟩) p.length cap] w fun e w' => e = .returned (.string ⟨(pathB p).toArray⟩) ∧ Kept [] w w' := by
  have HTB : Hid (Lib.TabBelow Tryz.prog w.heap.size w "internal/strconv.uint64pow10" .u64 Lib.pow10Tab) := fun w' h => Go.Joins.tab_stays Tryz.globPow' ht h (Nat.le_refl _)
  have HLN : Hid (∀ k, (pathB (p.take k)).length ≤ 22 * p.length) := fun k => by
    have h1 := pathB_len (p.take k) (fun i hi => hp i (List.mem_of_mem_take hi))
    rw [List.length_take] at h1
    omega
  have HROW : Hid (∀ i (h : i < p.length), w.cell? ⟨b, i, none⟩ = some (.int .i64 (p[i] : Nat))) := hrow
  have HP : Hid (∀ i ∈ p, i ≤ 9223372036854775807) := hp
  have HPS : Hid (0 < (pathB p).length) := pathB_pos h0
  clear hrow hp ht
  go_enter Tryz.func25, Tryz.ntmps25
  go_wp2_with fail
  go_loopw [3, 8] (fun v i wr => ∃ k : Nat, i = .int .i64 (k : Nat) ∧ k ≤ p.length ∧ ∃ l : List UInt8, Hid (pathB (p.take k) = l) ∧ ∃ ad' cap', v = .slice ad' l.length cap' ∧ Hid (Txt w wr v l)) (fun _ i _ => p.length - (intOf i).toNat)
  case atStart => exact ⟨0, rfl, Nat.zero_le _, [], by show pathB _ = _; rw [List.take_zero]; rfl, none, 0, rfl, txt_nil w⟩
  case round =>
    obtain ⟨k, rfl, hk, l, HL, ad', cap', rfl, HX⟩ := hrel
    have hll : l.length ≤ 220000000 := by have := HLN.out k; rw [HL.out] at this; omega
    by_cases hlt : k < p.length
    · have z0 : (k : Int) < (p.length : Int) := by omega
      obtain ⟨pk, hpk⟩ : ∃ pk : Nat, p[k] = pk := ⟨_, rfl⟩
      have c0 : wr.cell? ⟨b, k, none⟩ = some (.int .i64 (pk : Nat)) := by rw [← hpk]; exact cell_kept0 HX.out.kept (HROW.out k hlt)
      have hpb : pk ≤ 9223372036854775807 := by rw [← hpk]; exact HP.out _ (List.getElem_mem hlt)
      have HNX : Hid (pathB (p.take (k + 1)) = l ++ (if k = 0 then [] else [46]) ++ Lib.itoa (pk : Int)) := by show _ = _; rw [pathB_take p k hlt, HL.out, hpk]
      clear hpk
      by_cases hk0 : k = 0
      · subst hk0
        have HNX2 : Hid (pathB (p.take (0 + 1)) = l ++ Lib.itoa (pk : Int)) := by show _ = _; rw [HNX.out]; simp
        have HIM : Hid (Calls Tryz.prog 53 #[.slice ad' l.length cap', .int .i64 (pk : Nat), .int .i64 10] wr fun e w' => ∃ l2 ad cap, Hid (l ++ Lib.itoa (pk : Int) = l2) ∧ e = .returned (.slice ad l2.length cap) ∧ Hid (Txt w w' (.slice ad l2.length cap) l2)) := int_more _ l pk w wr HX.out hpb (HTB.out.on HX.out.kept.below) (by omega)
        clear HNX
        go_wp2_with (go_at_call 53; refine HIM.out.mono ?_; rintro e w2 ⟨l2, ad2, cap2, HL2, rfl, HX2⟩)
        go_roundw
        case rel => exact ⟨1, by go_num, by omega, l2, HNX2.out.trans HL2.out, ad2, cap2, rfl, HX2⟩
        case measure => simp [intOf]; omega
      · have z1 : (0 : Int) < (k : Int) := by omega
        obtain ⟨ad1, cap1, w1, hrun, hx1⟩ := byte_more HX.out 46 (by omega)
        have HRUN : Hid (∀ ty, (Builtin.append_ #[89, 89] ty #[.slice ad' l.length cap', .slice (some ⟨wr.heap.size, 0, none⟩) 1 1]).run Tryz.prog (wr.alloc (.cells #[.int .u8 46] 5)) = .ok (.slice ad1 (l ++ [46]).length cap1) w1) := hrun
        have HX1 : Hid (Txt w w1 (.slice ad1 (l ++ [46]).length cap1) (l ++ [46])) := hx1
        obtain ⟨l1, hl1⟩ : ∃ l1, l ++ [(46 : UInt8)] = l1 := ⟨_, rfl⟩
        have hll1 : l1.length ≤ 220000001 := by rw [← hl1, List.length_append]; simp; omega
        have HNX2 : Hid (pathB (p.take (k + 1)) = l1 ++ Lib.itoa (pk : Int)) := by show _ = _; rw [HNX.out, if_neg hk0, hl1]
        rw [hl1] at HRUN HX1
        have HIM : Hid (Calls Tryz.prog 53 #[.slice ad1 l1.length cap1, .int .i64 (pk : Nat), .int .i64 10] w1 fun e w' => ∃ l2 ad cap, Hid (l1 ++ Lib.itoa (pk : Int) = l2) ∧ e = .returned (.slice ad l2.length cap) ∧ Hid (Txt w w' (.slice ad l2.length cap) l2)) := int_more _ l1 pk w w1 HX1.out hpb (HTB.out.on HX1.out.kept.below) (by omega)
        clear HNX hrun hx1 hl1
        go_wp2_with (first
          | (go_at_call 53; refine HIM.out.mono ?_; rintro e w2 ⟨l2, ad2, cap2, HL2, rfl, HX2⟩)
          | (at_builtin; refine Lib.wpList_append_run _ rfl _ _ _ _ rfl _ _ rfl rfl _ _ (HRUN.out _) ?_))
        go_roundw
        case rel => exact ⟨k + 1, by go_num, by omega, l2, HNX2.out.trans HL2.out, ad2, cap2, rfl, HX2⟩
        case measure => simp [intOf]; omega
    · obtain rfl : k = p.length := by omega
      have z0 : ¬ ((p.length : Int) < (p.length : Int)) := by omega
      rw [List.take_length] at HL
      have HCV : Hid ((convert 89 9 (.slice ad' l.length cap')).run Tryz.prog wr = .ok (.string ⟨l.toArray⟩) wr) := txt_string HX.out (by rw [← HL.out]; exact HPS.out)
      have hcv := HCV.out
      go_wp2_with fail
      go_ret
      exact ⟨by rw [HL.out]; rfl, HX.out.kept⟩
theorem pathOf_any (ad : Option Addr) (cap : Nat) (p : List Nat) (w : World) (hrow : ∀ i (h : i < p.length), ∃ b, ad = some ⟨b, 0, none⟩ ∧ w.cell? ⟨b, i, none⟩ = some (.int .i64 (p[i] : Nat))) (hp : ∀ i ∈ p, i ≤ 9223372036854775807) (hl : p.length ≤ 10000000) (ht : PowTab w) :
    Calls Tryz.prog 25 #[.slice ad p.length cap] w fun e w' => e = .returned (.string ⟨(pathB p).toArray⟩) ∧ Kept [] w w' := by
  rcases Nat.eq_zero_or_pos p.length with h0 | h0
  · obtain rfl : p = [] := List.length_eq_zero_iff.1 h0
    exact pathOf_nil ad cap w
  · obtain ⟨b, rfl, _⟩ := hrow 0 h0
    refine pathOf_some b cap p w (fun i h => ?_) hp h0 hl ht
    obtain ⟨b', e, hc⟩ := hrow i h
    cases e
    exact hc
end Go.Proofs.YtnljjbpbgjgnkaaGreatDoor
