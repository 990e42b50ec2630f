/- The reader: letters, word; words.Read. -/
import Derived.Test.YtamfnefnaelgfaaDoorWdLet
namespace Go.Proofs.YtamfnefnaelgfaaDoor
open Go.RowKit
attribute [local go_sem ↓] Go.wp_at_zero Go.wp_at_succ

/-- One letter more, in a row of one's own. -/
theorem append_one {w W : World} {R p : Nat} {s : ByteArray} {v : Value} {xs : List Nat} {x : Nat} (hk : Kept [R] w W) (hR : R < w.heap.size) (hr : Rd W R s p) (hown : W.ownsRow w.heap.size 51 1 v xs.length (u16s xs)) (hx : x < 65536) (hl : xs.length + 1 ≤ 70368744177664) :
    ∃ v' w', (∀ ty, (Builtin.append_ #[45, 45] ty #[v, .slice (some ⟨W.heap.size, 0, none⟩) 1 1]).run Tryd.prog (W.alloc (.cells #[.int .u16 (x : Nat)] 51)) = .ok v' w') ∧ w'.ownsRow w.heap.size 51 1 v' (xs ++ [x]).length (u16s (xs ++ [x])) ∧ Kept [R] w w' ∧ Rd w' R s p := by
  have hz := hk.size
  have ka : Kept [] W (W.alloc (.cells #[.int .u16 (x : Nat)] 51)) := (Kept.refl [] W).alloc _
  have ho : (W.alloc (.cells #[.int .u16 (x : Nat)] 51)).ownsRow w.heap.size 51 1 v xs.length (u16s xs) := owns_keptF hown ka (by simp)
  have hu : Lets (W.alloc (.cells #[.int .u16 (x : Nat)] 51)) (.slice (some ⟨W.heap.size, 0, none⟩) 1 1) [x] := by
    refine ⟨by simpa using hx, by simp, .inr ⟨W.heap.size, 0, 1, rfl, by simp, by unfold maxLen; omega, fun i hi => ?_⟩⟩
    obtain rfl : i = 0 := by simpa using hi
    exact (cell_of (heap_alloc_new W _) 0).trans rfl
  obtain ⟨v', w', h1, h2, h3, _, _⟩ := run_append_lets _ w.heap.size v _ xs [x] ho hu (by simpa using hl) (by rw [World.size_alloc]; omega)
  refine ⟨v', w', h1, h2, ?_, ?_⟩
  · exact (hk.alloc _).grown h3 (fun g e => .inr (own_base ho e))
  · have hlt := lt_of (hr.kept ka)
    exact (h3.block R hlt (fun e => by have := own_base ho e.symm; omega)).trans (hr.kept ka)
/-- The letters so far: in memory, and which. -/
structure LetMem (w : World) (R : Nat) (s : ByteArray) (p : Nat) (v : Value) (xs : List Nat) (W : World) : Prop where
  rd : Rd W R s p
  kept : Kept [R] w W
  own : W.ownsRow w.heap.size 51 1 v xs.length (u16s xs)
structure LetSo (s : ByteArray) (k p : Nat) (xs : List Nat) : Prop where
  small : ∀ x ∈ xs, x < 65536
  few : xs.length ≤ p
  all : lettersOf (rest s k) = (xs ++ (lettersOf (rest s p)).1, (p - k) + (lettersOf (rest s p)).2)
  le : k ≤ p
  top : p ≤ s.size
theorem LetMem.next {w W W' : World} {R p q : Nat} {s : ByteArray} {v : Value} {xs : List Nat} (h : LetMem w R s p v xs W) (hR : R < w.heap.size) (k : Kept [R] W W') (r : Rd W' R s q) : LetMem w R s q v xs W' :=
  ⟨r, kept_same h.kept k, owns_keptF h.own k (fun g e hg => by have := own_base h.own e; simp at hg; omega)⟩
/-- What letters answers. -/
def LetEnds (w : World) (R : Nat) (s : ByteArray) (k : Nat) (e : Ending) (w' : World) : Prop :=
  ∃ v, e = .returned v ∧ w'.ownsRow w.heap.size 51 1 v (lettersOf (rest s k)).1.length (u16s (lettersOf (rest s k)).1) ∧ (∀ x ∈ (lettersOf (rest s k)).1, x < 65536) ∧ (lettersOf (rest s k)).1.length ≤ s.size ∧ Kept [R] w w' ∧ Rd w' R s (k + (lettersOf (rest s k)).2) ∧ k + (lettersOf (rest s k)).2 ≤ s.size
theorem blanks_top (s : ByteArray) (p : Nat) (h : p ≤ s.size) : p + blanksN (rest s p) ≤ s.size := by
  have := blanksN_le (rest s p)
  rw [rest_len] at this
  omega
theorem letter_top (s : ByteArray) (p : Nat) (h : p ≤ s.size) : p + (letterN 0 true (rest s p)).2 ≤ s.size := by
  have := letterN_le (rest s p) 0 true
  rw [rest_len] at this
  omega
set_option maxHeartbeats 4000000 in
theorem letters_any (R k : Nat) (s : ByteArray) (w : World) (h : Rd w R s k) (hk : k ≤ s.size) (hs : s.size ≤ 65536) :
    Calls Tryd.prog 60 #[.pointer (some ⟨R, 0, none⟩)] w (LetEnds w R s k) := by
  have HR : Hid (Rd w R s k) := h
  have hRl : R < w.heap.size := lt_of h
  clear h
  go_enter Tryd.func60, Tryd.ntmps60
  go_wp2_with fail
  go_loopg [3] (s.size + 1) (fun g v wr => ∃ (p : Nat) (xs : List Nat), g + p = s.size + 1 + k ∧ Hid (LetMem w R s p v xs wr) ∧ Hid (LetSo s k p xs))
  case atStart => exact ⟨k, [], by omega, ⟨HR.out, Kept.refl _ _, own_nil _ _⟩, ⟨by simp, by simp, by rw [Nat.sub_self, Nat.zero_add]; rfl, Nat.le_refl _, hk⟩⟩
  case round =>
    obtain ⟨p, xs, hp, HM, HS⟩ := hrel
    have hpt := HS.out.top
    have hkp := HS.out.le
    have hfw := HS.out.few
    obtain ⟨p1, hp1⟩ : ∃ p1, p + blanksN (rest s p) = p1 := ⟨_, rfl⟩
    have hp1t : p1 ≤ s.size := by rw [← hp1]; exact blanks_top s p hpt
    have hpp1 : p ≤ p1 := by omega
    have HB : Hid (Calls Tryd.prog 62 #[.pointer (some ⟨R, 0, none⟩)] wr fun e w' => e = .returned (.tuple #[]) ∧ Hid (LetMem w R s p1 u3 xs w')) := (blanks_any R p s wr HM.out.rd hpt hs).mono fun e w' ⟨h1, h2, h3⟩ => ⟨h1, HM.out.next hRl h2 (by rw [← hp1]; exact h3)⟩
    have HD1 : Hid (∀ W, LetMem w R s p1 u3 xs W → Calls Tryd.prog 71 #[.pointer (some ⟨R, 0, none⟩)] W fun e w' => e = .returned (.bool (headDig (rest s p1))) ∧ Hid (LetMem w R s p1 u3 xs w')) := fun W hm => (atDigit_any R p1 s W hm.rd hp1t hs).mono fun e w' ⟨h1, h2⟩ => ⟨h1, hm.next hRl (h2.kept.mono (by simp)) (hm.rd.kept h2.kept)⟩
    have hdr : (rest s p).drop (blanksN (rest s p)) = rest s p1 := by rw [rest_drop, hp1]
    cases hq : headDig (rest s p1) with
    | false =>
      rw [hq] at HD1
      have HE : Hid (lettersOf (rest s k) = (xs, p1 - k)) := by
        show _ = _
        rw [HS.out.all, lettersOf_stop (by rw [hdr]; exact hq), List.append_nil]
        simp only [Prod.mk.injEq, true_and]
        omega
      have HZ : Hid (p + blanksN (rest s p) = p1) := hp1
      clear hq hdr hp1
      go_wp2_with (first | (go_at_call 62; refine HB.out.mono ?_; rintro e w2 ⟨rfl, HM2⟩) | (go_at_call 71; refine (HD1.out _ HM2.out).mono ?_; rintro e w3 ⟨rfl, HM3⟩))
      go_ret
      refine ⟨u3, rfl, ?_⟩
      rw [HE.out]
      exact ⟨HM3.out.own, HS.out.small, by show xs.length ≤ _; omega, HM3.out.kept, by have := HZ.out; rw [show k + (p1 - k) = p1 by omega]; exact HM3.out.rd, by have := HZ.out; show k + (p1 - k) ≤ _; omega⟩
    | true =>
      rw [hq] at HD1
      obtain ⟨x, hx⟩ : ∃ x, (letterN 0 true (rest s p1)).1 = x := ⟨_, rfl⟩
      obtain ⟨p2, hp2⟩ : ∃ p2, p1 + (letterN 0 true (rest s p1)).2 = p2 := ⟨_, rfl⟩
      have hp2t : p2 ≤ s.size := by rw [← hp2]; exact letter_top s p1 hp1t
      have hp12 : p1 < p2 := by rw [← hp2]; have := letterN_pos hq; omega
      have hxs : x < 65536 := by rw [← hx]; have := letterN_small (rest s p1) 0 true (by omega); omega
      have hdr2 : (rest s p1).drop (letterN 0 true (rest s p1)).2 = rest s p2 := by rw [rest_drop, hp2]
      have HLt : Hid (∀ W, LetMem w R s p1 u3 xs W → Calls Tryd.prog 72 #[.pointer (some ⟨R, 0, none⟩)] W fun e w' => e = .returned (.int .u16 (x : Nat)) ∧ Hid (LetMem w R s p2 u3 xs w')) := fun W hm => (letter_any R p1 s W hm.rd hp1t hs).mono fun e w' ⟨h1, h2, h3⟩ => ⟨by rw [h1, hx], hm.next hRl h2 (by rw [← hp2]; exact h3)⟩
      have HAp : Hid (∀ W, LetMem w R s p2 u3 xs W → ∃ v' w', (∀ ty, (Builtin.append_ #[45, 45] ty #[u3, .slice (some ⟨W.heap.size, 0, none⟩) 1 1]).run Tryd.prog (W.alloc (.cells #[.int .u16 (x : Nat)] 51)) = .ok v' w') ∧ LetMem w R s p2 v' (xs ++ [x]) w') := fun W hm => by
        obtain ⟨v', w', h1, h2, h3, h4⟩ := append_one hm.kept hRl hm.rd hm.own hxs (by omega)
        exact ⟨v', w', h1, h4, h3, h2⟩
      have HD2 : Hid (∀ v W, LetMem w R s p2 v (xs ++ [x]) W → Calls Tryd.prog 71 #[.pointer (some ⟨R, 0, none⟩)] W fun e w' => e = .returned (.bool (headDig (rest s p2))) ∧ Hid (LetMem w R s p2 v (xs ++ [x]) w')) := fun v W hm => (atDigit_any R p2 s W hm.rd hp2t hs).mono fun e w' ⟨h1, h2⟩ => ⟨h1, hm.next hRl (h2.kept.mono (by simp)) (hm.rd.kept h2.kept)⟩
      have hsm : ∀ y ∈ xs ++ [x], y < 65536 := fun y hy => (List.mem_append.1 hy).elim (HS.out.small y) (fun h => by rw [List.mem_singleton.1 h]; exact hxs)
      cases hq2 : headDig (rest s p2) with
      | true =>
        rw [hq2] at HD2
        have HE : Hid (lettersOf (rest s k) = (xs ++ [x], p2 - k)) := by
          show _ = _
          rw [HS.out.all, lettersOf_last (by rw [hdr]; exact hq) (by rw [hdr, hdr2]; exact hq2), hdr, hx]
          simp only [Prod.mk.injEq, true_and]
          omega
        have HSM : Hid (∀ y ∈ xs ++ [x], y < 65536) := hsm
        clear hq hq2 hdr hdr2 hp1 hp2 hx hsm
        go_wp2_with (first | (go_at_call 62; refine HB.out.mono ?_; rintro e w2 ⟨rfl, HM2⟩) | (go_at_call 71; refine (HD1.out _ HM2.out).mono ?_; rintro e w3 ⟨rfl, HM3⟩; clear HD1) | (go_at_call 72; refine (HLt.out _ HM3.out).mono ?_; rintro e w4 ⟨rfl, HM4⟩) | (at_builtin; obtain ⟨v1, w5, hr, hm5⟩ := HAp.out _ HM4.out; have HM5 : Hid (LetMem w R s p2 v1 (xs ++ [x]) w5) := hm5; refine Lib.wpList_append_run _ rfl _ _ _ _ rfl _ _ rfl rfl _ _ (hr _) ?_; clear hr hm5) | (go_at_call 71; refine (HD2.out v1 _ HM5.out).mono ?_; rintro e w6 ⟨rfl, HM6⟩))
        go_ret
        refine ⟨v1, rfl, ?_⟩
        rw [HE.out]
        exact ⟨HM6.out.own, HSM.out, by show (xs ++ [x]).length ≤ _; rw [List.length_append, List.length_singleton]; omega, HM6.out.kept, by rw [show k + (p2 - k) = p2 by omega]; exact HM6.out.rd, by show k + (p2 - k) ≤ _; omega⟩
      | false =>
        rw [hq2] at HD2
        have HE : Hid (LetSo s k p2 (xs ++ [x])) := by
          refine ⟨hsm, by rw [List.length_append, List.length_singleton]; omega, ?_, by omega, hp2t⟩
          rw [HS.out.all, lettersOf_more (by rw [hdr]; exact hq) (by rw [hdr, hdr2]; exact hq2), hdr, hdr2, hx]
          simp only [Prod.mk.injEq, List.append_assoc, List.cons_append, List.nil_append, true_and]
          omega
        clear hq hq2 hdr hdr2 hp1 hp2 hx hsm
        go_wp2_with (first | (go_at_call 62; refine HB.out.mono ?_; rintro e w2 ⟨rfl, HM2⟩) | (go_at_call 71; refine (HD1.out _ HM2.out).mono ?_; rintro e w3 ⟨rfl, HM3⟩; clear HD1) | (go_at_call 72; refine (HLt.out _ HM3.out).mono ?_; rintro e w4 ⟨rfl, HM4⟩) | (at_builtin; obtain ⟨v1, w5, hr, hm5⟩ := HAp.out _ HM4.out; have HM5 : Hid (LetMem w R s p2 v1 (xs ++ [x]) w5) := hm5; refine Lib.wpList_append_run _ rfl _ _ _ _ rfl _ _ rfl rfl _ _ (hr _) ?_; clear hr hm5) | (go_at_call 71; refine (HD2.out v1 _ HM5.out).mono ?_; rintro e w6 ⟨rfl, HM6⟩))
        go_roundg (s.size + 1 + k - p2)
        case measure => omega
        case rel => exact ⟨p2, xs ++ [x], by omega, HM6.out, HE.out⟩
end Go.Proofs.YtamfnefnaelgfaaDoor
