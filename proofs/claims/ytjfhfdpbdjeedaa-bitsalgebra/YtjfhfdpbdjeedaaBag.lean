/- Several sets of one width side by side in memory: the calls on them, each leaving the others alone. -/
import Derived.Test.YtjfhfdpbdjeedaaAlg
import Derived.Test.YtjfhfdpbdjeedaaTabBase
import Derived.Test.YtjfhfdpbdjeedaaOf
namespace Go.Proofs.Ytjfhfdpbdjeedaa
open Go.RowKit

/-- The sets es of width n lie in memory, apart from one another, all made since w0; nothing that was there in w0 has turned. -/
structure Bag (w0 w : World) (n : Nat) (es : List Ent) : Prop where
  sets : ∀ (i : Nat) (e : Ent), es[i]? = some e → IsSet w e.b e.g e.c n e.ws ∧ Good n e.ws ∧ w0.heap.size ≤ e.g
  apart : ∀ (i j : Nat) (e f : Ent), i ≠ j → es[i]? = some e → es[j]? = some f → e.g ≠ f.g
  kept : Kept [] w0 w

theorem Bag.none {w0 w : World} {n : Nat} (h : Kept [] w0 w) : Bag w0 w n [] := ⟨fun i e h => by simp at h, fun i j e f _ h => by simp at h, h⟩

theorem Bag.on {w0 w w' : World} {n : Nat} {es : List Ent} (h : Bag w0 w n es) (k : Kept [] w w') : Bag w0 w' n es :=
  ⟨fun i e hi => ⟨(h.sets i e hi).1.kept k (by simp) (by simp), (h.sets i e hi).2⟩, h.apart, h.kept.trans (F := []) (G := []) (H := []) k (by simp) (by simp)⟩

theorem Bag.more {w0 w w' : World} {n b g c : Nat} {ws : List Nat} {es : List Ent} (h : Bag w0 w n es) (hs : IsSet w' b g c n ws) (hG : Good n ws) (hg : w.heap.size ≤ g) (k : Kept [] w w') : Bag w0 w' n (es ++ [⟨b, g, c, ws⟩]) := by
  have h' := h.on k
  refine ⟨fun i e hi => ?_, fun i j e f hij hi hj => ?_, h'.kept⟩
  · rcases Nat.lt_or_ge i es.length with hl | hl
    · rw [List.getElem?_append_left hl] at hi; exact h'.sets i e hi
    · rw [List.getElem?_append_right hl] at hi
      have : i - es.length = 0 := by
        rcases Nat.eq_zero_or_pos (i - es.length) with h0 | h0
        · exact h0
        · rw [List.getElem?_eq_none (by simp; omega)] at hi; cases hi
      rw [this] at hi
      simp at hi
      subst hi
      exact ⟨hs, hG, Nat.le_trans h.kept.size hg⟩
  · have lt : ∀ (i : Nat) (e : Ent), es[i]? = some e → e.g < w.heap.size := fun i e he => (h.sets i e he).1.ltg
    have last : ∀ (i : Nat) (e : Ent), es.length ≤ i → (es ++ [(⟨b, g, c, ws⟩ : Ent)])[i]? = some e → e.g = g ∧ i = es.length := fun i e hl hi => by
      rw [List.getElem?_append_right hl] at hi
      have : i - es.length = 0 := by
        rcases Nat.eq_zero_or_pos (i - es.length) with h0 | h0
        · exact h0
        · rw [List.getElem?_eq_none (by simp; omega)] at hi; cases hi
      rw [this] at hi
      simp at hi
      subst hi
      exact ⟨rfl, by omega⟩
    rcases Nat.lt_or_ge i es.length with h1 | h1 <;> rcases Nat.lt_or_ge j es.length with h2 | h2
    · rw [List.getElem?_append_left h1] at hi; rw [List.getElem?_append_left h2] at hj; exact h.apart i j e f hij hi hj
    · rw [List.getElem?_append_left h1] at hi
      have := lt i e hi
      have := (last j f h2 hj).1
      omega
    · rw [List.getElem?_append_left h2] at hj
      have := lt j f hj
      have := (last i e h1 hi).1
      omega
    · have := (last i e h1 hi).2
      have := (last j f h2 hj).2
      omega

theorem Bag.put {w0 w w' : World} {n : Nat} {es : List Ent} (h : Bag w0 w n es) (i : Nat) (s : Ent) (hi : es[i]? = some s) {ws' : List Nat} (hs : IsSet w' s.b s.g s.c n ws') (hG : Good n ws') (k : Kept [s.g] w w') : Bag w0 w' n (es.set i ⟨s.b, s.g, s.c, ws'⟩) := by
  have hil : i < es.length := by
    rcases Nat.lt_or_ge i es.length with hl | hl
    · exact hl
    · rw [List.getElem?_eq_none hl] at hi; cases hi
  have hsi := h.sets i s hi
  have gs : ∀ (j : Nat) (e : Ent), (es.set i ⟨s.b, s.g, s.c, ws'⟩)[j]? = some e → (j = i ∧ e = ⟨s.b, s.g, s.c, ws'⟩) ∨ (j ≠ i ∧ es[j]? = some e) := fun j e he => by
    rw [List.getElem?_set] at he
    by_cases hij : i = j
    · subst hij
      simp [hil] at he
      exact Or.inl ⟨rfl, he.symm⟩
    · rw [if_neg hij] at he
      exact Or.inr ⟨fun e => hij e.symm, he⟩
  refine ⟨fun j e he => ?_, fun j l e f hjl hj hl => ?_, h.kept.trans (F := []) (H := []) k (by simp) (fun x hx => by right; simp at hx; rw [hx]; exact hsi.2.2)⟩
  · rcases gs j e he with ⟨rfl, rfl⟩ | ⟨hne, hj⟩
    · exact ⟨hs, hG, hsi.2.2⟩
    · have hj' := h.sets j e hj
      refine ⟨hj'.1.kept k ?_ ?_, hj'.2⟩
      · obtain ⟨cur, hc, _⟩ := hsi.1.row
        simpa using ne_of_obj hj'.1.head hc (by simp)
      · simpa using h.apart j i e s hne hj hi
  · rcases gs j e hj with ⟨rfl, rfl⟩ | ⟨h1, hj'⟩ <;> rcases gs l f hl with ⟨rfl, rfl⟩ | ⟨h2, hl'⟩
    · omega
    · exact h.apart j l s f hjl hi hl'
    · exact h.apart j l e s hjl hj' hi
    · exact h.apart j l e f hjl hj' hl'

theorem bag_of {w0 w : World} {n : Nat} {es : List Ent} (h : Bag w0 w n es) (hn : n ≤ 65536) (v : Value) (zs : List Int) (hz : zs.length ≤ maxLen) (hv : IsSl w v zs) :
    Calls Try.prog 6 #[.int .i64 n, v] w fun e w' => ∃ b g c, e = .returned (.pointer (some ⟨b, 0, none⟩)) ∧ Bag w0 w' n (es ++ [⟨b, g, c, ofW n zs⟩]) ∧ Kept [] w w' :=
  (of_sl n v zs w hn hz hv).mono fun _ _ ⟨b, g, c, h1, h2, _, h4, h5⟩ => ⟨b, g, c, h1, h.more h2 (Good.ofW hn zs) h4 h5, h5⟩
theorem bag_copy {w0 w : World} {n : Nat} {es : List Ent} (h : Bag w0 w n es) (i : Nat) (s : Ent) (hi : es[i]? = some s) :
    Calls Try.prog 7 #[.pointer (some ⟨s.b, 0, none⟩)] w fun e w' => ∃ b g c, e = .returned (.pointer (some ⟨b, 0, none⟩)) ∧ Bag w0 w' n (es ++ [⟨b, g, c, s.ws⟩]) :=
  (copy_any s.b s.g s.c n s.ws w (h.sets i s hi).1 (h.sets i s hi).2.1).mono fun _ _ ⟨b, g, c, h1, h2, _, h4, h5⟩ => ⟨b, g, c, h1, h.more h2 (h.sets i s hi).2.1 h4 h5⟩
theorem bag_and {w0 w : World} {n : Nat} {es : List Ent} (h : Bag w0 w n es) (i j : Nat) (s o : Ent) (hi : es[i]? = some s) (hj : es[j]? = some o) (hij : j ≠ i) :
    Calls Try.prog 9 #[.pointer (some ⟨s.b, 0, none⟩), .pointer (some ⟨o.b, 0, none⟩)] w fun e w' => e = .returned (.tuple #[]) ∧ Bag w0 w' n (es.set i ⟨s.b, s.g, s.c, opW fAnd s.ws o.ws⟩) :=
  (and_loop s.b s.g s.c n o.b o.g o.c n s.ws o.ws w (h.sets i s hi).1 (h.sets i s hi).2.1 (h.sets j o hj).1 (h.sets j o hj).2.1 (Or.inr (h.apart j i o s hij hj hi))).mono fun _ _ ⟨h1, h2, h3⟩ => ⟨h1, h.put i s hi h2 ((h.sets i s hi).2.1.and _) h3⟩
theorem bag_less {w0 w : World} {n : Nat} {es : List Ent} (h : Bag w0 w n es) (i j : Nat) (s o : Ent) (hi : es[i]? = some s) (hj : es[j]? = some o) (hij : j ≠ i) :
    Calls Try.prog 10 #[.pointer (some ⟨s.b, 0, none⟩), .pointer (some ⟨o.b, 0, none⟩)] w fun e w' => e = .returned (.tuple #[]) ∧ Bag w0 w' n (es.set i ⟨s.b, s.g, s.c, opW fLess s.ws o.ws⟩) :=
  (less_loop s.b s.g s.c n o.b o.g o.c n s.ws o.ws w (h.sets i s hi).1 (h.sets i s hi).2.1 (h.sets j o hj).1 (h.sets j o hj).2.1 (Or.inr (h.apart j i o s hij hj hi))).mono fun _ _ ⟨h1, h2, h3⟩ => ⟨h1, h.put i s hi h2 ((h.sets i s hi).2.1.less (h.sets j o hj).2.1) h3⟩
theorem bag_or {w0 w : World} {n : Nat} {es : List Ent} (h : Bag w0 w n es) (i j : Nat) (s o : Ent) (hi : es[i]? = some s) (hj : es[j]? = some o) (hij : j ≠ i) :
    Calls Try.prog 8 #[.pointer (some ⟨s.b, 0, none⟩), .pointer (some ⟨o.b, 0, none⟩)] w fun e w' => e = .returned (.tuple #[]) ∧ Bag w0 w' n (es.set i ⟨s.b, s.g, s.c, trimW n (opW fOr s.ws o.ws)⟩) :=
  (or_loop s.b s.g s.c n o.b o.g o.c n s.ws o.ws w (h.sets i s hi).1 (h.sets i s hi).2.1 (h.sets j o hj).1 (h.sets j o hj).2.1 (Or.inr (h.apart j i o s hij hj hi))).mono fun _ _ ⟨h1, h2, h3⟩ => ⟨h1, h.put i s hi h2 ((h.sets i s hi).2.1.or (h.sets j o hj).2.1) h3⟩
theorem bag_len {w0 w : World} {n : Nat} {es : List Ent} (h : Bag w0 w n es) (i : Nat) (s : Ent) (hi : es[i]? = some s) :
    Calls Try.prog 11 #[.pointer (some ⟨s.b, 0, none⟩)] w fun e w' => e = .returned (.int .i64 (cnt n s.ws : Nat)) ∧ w' = w := by
  rw [← (h.sets i s hi).2.1.lenW]
  exact len_any s.b s.g s.c n s.ws w (h.sets i s hi).1 (h.sets i s hi).2.1
theorem bag_within {w0 w : World} {n : Nat} {es : List Ent} (h : Bag w0 w n es) (i j : Nat) (s o : Ent) (hi : es[i]? = some s) (hj : es[j]? = some o) :
    Calls Try.prog 12 #[.pointer (some ⟨s.b, 0, none⟩), .pointer (some ⟨o.b, 0, none⟩)] w fun e w' => e = .returned (.bool (withinW s.ws o.ws)) ∧ w' = w :=
  within_any s.b s.g s.c n o.b o.g o.c n s.ws o.ws w (h.sets i s hi).1 (h.sets i s hi).2.1 (h.sets j o hj).1 (h.sets j o hj).2.1
theorem bag_same {w0 w : World} {n : Nat} {es : List Ent} (h : Bag w0 w n es) (i j : Nat) (s o : Ent) (hi : es[i]? = some s) (hj : es[j]? = some o) :
    Calls Try.prog 13 #[.pointer (some ⟨s.b, 0, none⟩), .pointer (some ⟨o.b, 0, none⟩)] w fun e w' => e = .returned (.bool (decide (s.ws = o.ws))) ∧ Bag w0 w' n es :=
  (same_any s.b s.g s.c n o.b o.g o.c n s.ws o.ws w (h.sets i s hi).1 (h.sets i s hi).2.1 (h.sets j o hj).1).mono fun _ _ ⟨h1, h2⟩ => ⟨by simpa using h1, h.on h2.kept⟩
theorem bag_key {w0 w : World} {n : Nat} {es : List Ent} (h : Bag w0 w n es) (i : Nat) (s : Ent) (hi : es[i]? = some s) :
    Calls Try.prog 14 #[.pointer (some ⟨s.b, 0, none⟩)] w fun e w' => e = .returned (.string ⟨(keyW n s.ws).toArray⟩) ∧ Bag w0 w' n es :=
  (key_any s.b s.g s.c n s.ws w (h.sets i s hi).1 (h.sets i s hi).2.1).mono fun _ _ ⟨h1, h2⟩ => ⟨h1, h.on h2⟩
end Go.Proofs.Ytjfhfdpbdjeedaa
