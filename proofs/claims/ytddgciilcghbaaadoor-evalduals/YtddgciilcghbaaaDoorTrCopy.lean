/- tree.Copy, tree.isProp. -/
import Derived.Test.YtddgciilcghbaaaDoorTrReb
namespace Go.Proofs.YtddgciilcghbaaaDoor
open Go.RowKit Go.Shelf

theorem Tr.reb_id (t : Tr) : t.reb (fun x => x) = t := by
  induction t using Tr.ind with
  | h t ih =>
    by_cases h0 : t.kids.length = 0
    · rw [Tr.reb_leaf _ t h0]
      cases t with
      | mk o n ks => rw [show ks = [] from List.eq_nil_of_length_eq_zero h0]
    · rw [Tr.reb_node _ t h0]
      cases t with
      | mk o n ks =>
        congr 1
        conv => rhs; rw [← List.map_id ks]
        exact List.map_congr_left fun k hk => ih k hk
end Go.Proofs.YtddgciilcghbaaaDoor
