/- BitsGoes: the plain part: that the document's list of a set's members is the iterator's. -/
import Derived.Test.YtjfhfdpbdjeedaaDoorAll
import Derived.Test.YtjfhfdpbdjeedaaDoorRef
import Derived.Test.YtjfhfdpbdjeedaaDoorWidth
import Derived.Test.YtjfhfdpbdjeedaaDoorKnown
namespace Go.Proofs.YtjfhfdpbdjeedaaDoor
open Go.RowKit

theorem elemsF_filter (ws : List Nat) : ∀ f i, elemsF ws f i = (List.range' i f).filter fun j => mem ws j
  | 0, _ => rfl
  | f + 1, i => by
    show (if mem ws i then i :: elemsF ws f (i + 1) else elemsF ws f (i + 1)) = _
    rw [List.range'_succ, List.filter_cons, elemsF_filter ws f (i + 1)]
theorem elemsW_filter (n : Nat) (ws : List Nat) : elemsW n ws 0 = (List.range n).filter fun j => mem ws j := by
  unfold elemsW; rw [elemsF_filter, Nat.sub_zero, List.range_eq_range']

theorem ref_agree (n : Nat) (hn : n ≤ 65536) (zs : List Int) : (refOf n zs).length = n ∧ ∀ i, i < n → (refOf n zs).getD i false = mem (ofW n zs) i := by
  have key : ∀ (zs : List Int) (bs : List Bool) (ws : List Nat), Good n ws → bs.length = n → (∀ i, i < n → bs.getD i false = mem ws i) →
      (zs.foldl (fun bs z => refPut bs z true) bs).length = n ∧ ∀ i, i < n → (zs.foldl (fun bs z => refPut bs z true) bs).getD i false = mem (zs.foldl (putI n) ws) i := by
    intro zs
    induction zs with
    | nil => intro bs ws _ h1 h2; exact ⟨h1, h2⟩
    | cons z r ih =>
      intro bs ws hG h1 h2
      refine ih (refPut bs z true) (putI n ws z) (hG.putI z) (by rw [refPut_len]; exact h1) (fun i hi => ?_)
      unfold refPut putI
      rw [h1]
      by_cases hz : 0 ≤ z ∧ z < (n : Int)
      · rw [if_pos hz, if_pos hz, mem_putW _ _ _ (by have := hG.len; omega), ← h2 i hi]
        rw [List.getD_eq_getElem?_getD, List.getElem?_set, List.getD_eq_getElem?_getD]
        by_cases e : z.toNat = i
        · rw [if_pos e]
          have : z.toNat < bs.length := by omega
          rw [if_pos this]
          simp [e]
        · rw [if_neg e]; simp [e]
      · rw [if_neg hz, if_neg hz]; exact h2 i hi
  refine key zs _ _ (Good.zero hn) (by simp) (fun i hi => ?_)
  rw [mem_zero, List.getD_eq_getElem?_getD, List.getElem?_replicate]
  simp [hi]
theorem want_eq (n : Nat) (hn : n ≤ 65536) (zs : List Int) : refAllK (refOf n zs) (refOf n zs).length = elemsW n (ofW n zs) 0 := by
  obtain ⟨h1, h2⟩ := ref_agree n hn zs
  rw [h1, elemsW_filter]
  unfold refAllK
  apply List.filter_congr
  intro i hi
  exact h2 i (by simpa using hi)
theorem AllAt.kept {n₀ Bn b g c n : Nat} {ws F : List Nat} {W W' : World} (h : AllAt n₀ Bn b g c n ws W) (k : Kept F W W') (h1 : Bn ∉ F) (h2 : b ∉ F) (h3 : g ∉ F) (h4 : 0 ∉ F) : AllAt n₀ Bn b g c n ws W' :=
  ⟨(World.cell?_of_block (w := W) (a := ⟨Bn, 0, none⟩) (k.block Bn (World.block_lt_of_cell? W _ h.box) h1)).trans h.box, h.set.kept k h2 h3, h.tab.kept k h4, h.lB, h.lb, h.lg, h.l0⟩
end Go.Proofs.YtjfhfdpbdjeedaaDoor
