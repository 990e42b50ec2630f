/- words.Join, Suffix. -/
import Derived.Test.YtddgciilcghbaaaDoorWdSmall
namespace Go.Proofs.YtddgciilcghbaaaDoor
open Go.RowKit
attribute [local go_sem ↓] Go.wp_at_zero Go.wp_at_succ

theorem Wd2.keptF {F : List Nat} {W W' : World} {B : Nat} {a b : Value} (h : Wd2 W B a b) (k : Kept F W W') (hB : B ∉ F) : Wd2 W' B a b := k.at h hB
theorem two_cells {V W' : World} {n : Nat} {a b : Value} (h : Wd2 V n a b) (k : Kept [n + 1] V W') : W'.cell? ⟨n, 0, none⟩ = some a ∧ W'.cell? ⟨n, 1, none⟩ = some b :=
  have h' := (h.keptF k (by simp)).cells
  ⟨h'.1, h'.2.1⟩
theorem lets_cat {W : World} {base : Nat} {v : Value} {xs ys : List Nat} (h : W.ownsRow base 52 1 v (xs ++ ys).length (u16s (xs ++ ys))) (h1 : ∀ x ∈ xs, x < 65536) (h2 : ∀ x ∈ ys, x < 65536) (hl : xs.length + ys.length ≤ 70368744177664) : Lets W v (xs ++ ys) :=
  lets_own h (fun x hx => (List.mem_append.1 hx).elim (h1 x) (h2 x)) (by rw [List.length_append]; exact hl)

/-- A word that was made is stored into the result's block. -/
theorem made_stored {w V W W3 : World} {q : Wd} {s3 l3 : Value} {r : Wd} (kV : Kept [] w V) (hR : Wd2 V (w.heap.size + 1) (.slice none 0 0) (.slice none 0 0)) (kW : Kept [] V W) (hn : NewW W.heap.size W3 s3 l3 r) (ho : NormOf q r) (k3 : Kept [] W W3) :
    MadeNorm w q (.returned (.agg #[s3, l3])) ((W3.setCell ⟨w.heap.size + 1, 0, none⟩ s3).setCell ⟨w.heap.size + 1, 1, none⟩ l3) ∧ Wd2 ((W3.setCell ⟨w.heap.size + 1, 0, none⟩ s3).setCell ⟨w.heap.size + 1, 1, none⟩ l3) (w.heap.size + 1) s3 l3 := by
  have hR3 := (hR.kept kW).kept k3
  have hlt : w.heap.size + 1 < W.heap.size := lt_of (hR.kept kW)
  have kF : Kept [w.heap.size + 1] W3 ((W3.setCell ⟨w.heap.size + 1, 0, none⟩ s3).setCell ⟨w.heap.size + 1, 1, none⟩ l3) := ((Kept.refl _ W3).setCell (.inl (by simp)) _).setCell (.inl (by simp)) _
  have kW' : Kept [] w W := kV.trans kW (by simp) (by simp)
  exact ⟨⟨s3, l3, r, rfl, (hn.keptF kF (by simpa using hlt)).low kW'.size, ho, kept_set2 (kW'.trans k3 (by simp) (by simp)) (by simp) _ _⟩, hR3.set _ _⟩

end Go.Proofs.YtddgciilcghbaaaDoor
