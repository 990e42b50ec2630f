/- package buchi: numbering.number at the spots (0, 0) and (0, 1). -/
import Derived.Test.YtbbfajbnklgncaaGreatHE
import Derived.MapKept
namespace Go.Proofs.YtbbfajbnklgncaaGreat
open Go.RowKit Go.Shelf

def spotV (p : Nat) : Value := .agg #[.int .i64 0, .int .i64 (p : Nat)]
def ents0 : Array MapEntry := #[]
def ents1 (c : Nat) : Array MapEntry := #[⟨spotV 0, .int .i64 0, c⟩]
def ents2 (c d : Nat) : Array MapEntry := #[⟨spotV 0, .int .i64 0, c⟩, ⟨spotV 1, .int .i64 1, d⟩]
def mapSet (W : World) (M : Nat) (o : Obj) : World := { W with heap := W.heap.setIfInBounds M o }
theorem mapSet_kept {W : World} {M : Nat} {o : Obj} : Kept [M] W (mapSet W M o) :=
  ⟨rfl, rfl, rfl, by simp [mapSet], fun k _ hn => by
    show (W.heap.setIfInBounds M o)[k]? = W.heap[k]?
    rw [Array.getElem?_setIfInBounds_ne (by simp at hn; omega)]⟩
theorem mapSet_at {W : World} {M : Nat} {o o' : Obj} (h : W.heap[M]? = some o') : (mapSet W M o).heap[M]? = some o := by
  show (W.heap.setIfInBounds M o)[M]? = some o
  rw [Array.getElem?_setIfInBounds_self_of_lt (lt_of h)]
theorem FBox.mapSet {w0 W : World} {F : Nat} {T : TypeId} {vs : List Value} {rs : List (Option Rw)} {M ck : Nat} {es : Array MapEntry} (h : FBox w0 W F T vs rs) (hM : W.heap[M]? = some (.map es ck)) (h0 : w0.heap.size ≤ M) (o : Obj) : FBox w0 (mapSet W M o) F T vs rs := by
  have k : Kept [M] W (Go.Proofs.YtbbfajbnklgncaaGreat.mapSet W M o) := mapSet_kept
  have hne : F ≠ M := fun e => by subst e; rw [h.box] at hM; cases hM
  refine ⟨h.base, h.kept.trans k (by simp) (by simpa using h0), k.at h.box (by simpa using hne), fun i r v h1 h2 => bx_kept (h.own i r v h1 h2) k (fun g e hg => ?_), h.apart⟩
  simp at hg
  subst hg
  rcases (h.own i r v h1 h2).2 with ⟨rfl, _⟩ | ⟨g', cap, cur, rfl, hb, hw, _⟩
  · cases e
  · cases e; rw [hw] at hM; cases hM
end Go.Proofs.YtbbfajbnklgncaaGreat
