/- package buchi: DeleteFunc where nothing is out; drop of nothing. -/
import Derived.Test.YtbbfajbnklgncaaGreatBuJoin
namespace Go.Proofs.YtbbfajbnklgncaaGreat
open Go.RowKit Go.Shelf

theorem FBox.same {w0 W : World} {F : Nat} {T : TypeId} {vs : List Value} {rs : List (Option Rw)} (h : FBox w0 W F T vs rs) {i : Nat} {v : Value} (hv : vs[i]? = some v) : FBox w0 (W.setCell ⟨F, i, none⟩ v) F T vs rs := by
  have hset : Kept [F] W (W.setCell ⟨F, i, none⟩ v) := (Kept.refl [F] W).setCell (.inl (by simp)) v
  refine ⟨h.base, h.kept.setCell (.inr h.base) v, ?_, fun j r u h1 h2 => bx_kept (h.own j r u h1 h2) hset (fun g e hg => by have := (bx_base (h.own j r u h1 h2) e).1; simp at hg; omega), h.apart⟩
  rw [bx_set h.box]
  congr 2
  obtain ⟨hi, rfl⟩ := List.getElem?_eq_some_iff.1 hv
  simp
theorem MBox.same {w0 W : World} {F M : Nat} {es : Array MapEntry} {ck : Nat} {T : TypeId} {vs : List Value} {rs : List (Option Rw)} (h : MBox w0 W F M es ck T vs rs) {i : Nat} {v : Value} (hv : vs[i]? = some v) : MBox w0 (W.setCell ⟨F, i, none⟩ v) F M es ck T vs rs :=
  ⟨h.f.same hv, ((Kept.refl [F] W).setCell (.inl (by simp)) v).at h.m (fun e => by simp at e; subst e; have := h.f.box; rw [h.m] at this; cases this), h.m0⟩
/-- The rows as lists. -/
theorem ints_row {W : World} {base : Nat} {v : Value} {xs : List Int} (h : W.ownsRow base 3 1 v xs.length (xs.map (Value.int .i64))) (hl : xs.length ≤ 1000000) (hx : ∀ x ∈ xs, -9223372036854775808 ≤ x ∧ x ≤ 9223372036854775807) : Ints W v xs := by
  refine ⟨by omega, hx, ?_⟩
  rcases h.2 with ⟨h1, h2⟩ | ⟨g, cap, cur, h1, hb, hw, h3, h4, h5, h6⟩
  · exact .inl ⟨⟨none, 0, h1, by unfold maxLen; omega, fun _ => rfl⟩, List.length_eq_zero_iff.1 h2⟩
  · refine .inr ⟨g, 0, cap, h1, h3, h4, fun i hi => ?_⟩
    rw [cell_of hw]
    have e : (cur.toList.take (xs.length * 1))[i]? = some (Value.int .i64 xs[i]) := by rw [h6]; simp [hi]
    rw [List.getElem?_take] at e
    split at e
    · rw [← Array.getElem?_toList, Nat.zero_add]; exact e
    · cases e
theorem bools_row {W : World} {base : Nat} {v : Value} {xs : List Bool} (h : W.ownsRow base 4 1 v xs.length (xs.map Value.bool)) (hl : xs.length ≤ 1000000) : Bools W v xs := by
  refine ⟨by omega, ?_⟩
  rcases h.2 with ⟨h1, h2⟩ | ⟨g, cap, cur, h1, hb, hw, h3, h4, h5, h6⟩
  · exact .inl ⟨h1, List.length_eq_zero_iff.1 h2⟩
  · refine .inr ⟨g, 0, cap, h1, h3, h4, fun i hi => ?_⟩
    rw [cell_of hw]
    have e : (cur.toList.take (xs.length * 1))[i]? = some (Value.bool xs[i]) := by rw [h6]; simp [hi]
    rw [List.getElem?_take] at e
    split at e
    · rw [← Array.getElem?_toList, Nat.zero_add]; exact e
    · cases e
end Go.Proofs.YtbbfajbnklgncaaGreat
