/- What the calls tell of the chapter's example: closed facts. -/
import Derived.Test.YtnjajafmmociiaaGreatDoorGX
import Derived.Test.YtnjajafmmociiaaGreatDoorGS
import Derived.Test.YtnjajafmmociiaaGreatDoorTrRen
import Derived.Test.YtnjajafmmociiaaGreatDoorTrAt
namespace Go.Proofs.YtnjajafmmociiaaGreatDoor
open Go.RowKit Go.Shelf

def yestT : Tr := ⟨16, ⟨#[]⟩, [leafT bP]⟩
def notT : Tr := ⟨4, ⟨#[]⟩, [leafT bQ]⟩
theorem ex_size : exT.size = 6 := by
  simp only [Tr.size, exT, andT, nextT, leafT, Tr.para, List.map_cons, List.map_nil]; rfl
theorem ex_depth : exT.depth = 4 := by
  simp only [Tr.depth, exT, andT, nextT, leafT, Tr.para, List.map_cons, List.map_nil]; rfl
theorem ex_names : exT.names = [bP, bQ] := by
  simp only [Tr.names, Tr.parts, exT, andT, nextT, leafT, Tr.para, List.map_cons, List.map_nil]; kernel_rfl
theorem ex_subs : (unlikeP exT).length = 5 := by
  simp only [unlikeP, visitP, exT, andT, nextT, leafT, Tr.para, List.map_cons, List.map_nil]; kernel_rfl
theorem ex_at1 : atT exT [49, 46, 49] = some nextT := by kernel_rfl
theorem ex_at2 : atT exT [49, 46] = none := by kernel_rfl
theorem ex_every : exT.every formedB = true := by
  simp only [Tr.every, Tr.parts, exT, andT, nextT, leafT, Tr.para, List.map_cons, List.map_nil]; kernel_rfl
theorem not_every : notT.every formedB = true := by
  simp only [Tr.every, Tr.parts, notT, leafT, Tr.para, List.map_cons, List.map_nil]; kernel_rfl
theorem yest_every : yestT.every formedB = true := by
  simp only [Tr.every, Tr.parts, yestT, leafT, Tr.para, List.map_cons, List.map_nil]; kernel_rfl
theorem not_size : notT.size = 2 := by
  simp only [Tr.size, notT, leafT, Tr.para, List.map_cons, List.map_nil]; rfl
theorem not_depth : notT.depth = 2 := by
  simp only [Tr.depth, notT, leafT, Tr.para, List.map_cons, List.map_nil]; rfl
theorem yest_size : yestT.size = 2 := by
  simp only [Tr.size, yestT, leafT, Tr.para, List.map_cons, List.map_nil]; rfl
theorem yest_depth : yestT.depth = 2 := by
  simp only [Tr.depth, yestT, leafT, Tr.para, List.map_cons, List.map_nil]; rfl
theorem ex_renE : renE exT [bP, bQ] [bQ, bP] = 0 := by
  unfold renE; rw [ex_every]; kernel_rfl
def renX : Tr := ⟨12, ⟨#[]⟩, [leafT bQ, ⟨5, ⟨#[]⟩, [leafT bP, ⟨9, ⟨#[]⟩, [leafT bQ]⟩]⟩]⟩
theorem ex_renT : renT exT [bP, bQ] [bQ, bP] = renX := by
  unfold renT; rw [ex_renE, if_pos rfl]
  simp only [Tr.reb, exT, andT, nextT, leafT, renX, Tr.para, List.map_cons, List.map_nil]; kernel_rfl
theorem ex_putE : putE exT bP notT = 0 := by
  unfold putE; rw [ex_every, not_every, not_size, not_depth]
  simp only [Tr.parts, exT, andT, nextT, leafT, Tr.para, List.map_cons, List.map_nil]; kernel_rfl
def putX : Tr := ⟨12, ⟨#[]⟩, [notT, ⟨5, ⟨#[]⟩, [leafT bQ, ⟨9, ⟨#[]⟩, [notT]⟩]⟩]⟩
theorem ex_putT : putT exT bP notT = putX := by
  unfold putT; rw [ex_putE, if_pos rfl]
  simp only [Tr.reb, exT, andT, nextT, leafT, putX, Tr.para, List.map_cons, List.map_nil]; kernel_rfl
theorem put_size : putX.size = 8 := by
  simp only [Tr.size, putX, notT, leafT, Tr.para, List.map_cons, List.map_nil]; rfl
theorem yest_right : rightN pastB yestT = 30 := by
  unfold rightN; simp only [Tr.every, Tr.parts, yestT, leafT, Tr.para, List.map_cons, List.map_nil]; kernel_rfl
theorem yest_past : rightN futureB yestT = 0 := by
  unfold rightN; simp only [Tr.every, Tr.parts, Tr.size, Tr.depth, yestT, leafT, Tr.para, List.map_cons, List.map_nil]; kernel_rfl
theorem leaf_fine (s : ByteArray) (h : s.size ≤ maxLen) : (leafT s).Fine := (Tr.all_eq _).2 ⟨⟨by show 3 < 256; omega, h⟩, fun k hk => by cases hk⟩
theorem node_fine (o : Nat) (ks : List Tr) (ho : o < 256) (h : ∀ k ∈ ks, k.Fine) : (⟨o, ⟨#[]⟩, ks⟩ : Tr).Fine := (Tr.all_eq _).2 ⟨⟨ho, Nat.zero_le _⟩, h⟩
theorem p_fine : (leafT bP).Fine := leaf_fine _ (by decide)
theorem q_fine : (leafT bQ).Fine := leaf_fine _ (by decide)
theorem ex_fine : exT.Fine := node_fine 12 _ (by omega) (by
  intro k hk
  rcases List.mem_cons.1 hk with rfl | hk
  · exact p_fine
  · obtain rfl := List.mem_singleton.1 hk
    refine node_fine 5 _ (by omega) fun k hk => ?_
    rcases List.mem_cons.1 hk with rfl | hk
    · exact q_fine
    · obtain rfl := List.mem_singleton.1 hk
      exact node_fine 9 _ (by omega) (fun k hk => by obtain rfl := List.mem_singleton.1 hk; exact p_fine))
theorem not_fine : notT.Fine := node_fine 4 _ (by omega) (fun k hk => by obtain rfl := List.mem_singleton.1 hk; exact q_fine)
theorem yest_fine : yestT.Fine := node_fine 16 _ (by omega) (fun k hk => by obtain rfl := List.mem_singleton.1 hk; exact p_fine)
end Go.Proofs.YtnjajafmmociiaaGreatDoor
