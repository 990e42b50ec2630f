/- words.Places, Behind, At. -/
import Derived.Test.YtepooofiadlceaaDoorWdNormal
namespace Go.Proofs.YtepooofiadlceaaDoor
open Go.RowKit
attribute [local go_sem ↓] Go.wp_at_zero Go.wp_at_succ

/-- A word that is handed in. -/
structure IsW (W : World) (sv lv : Value) (q : Wd) : Prop where
  st : Lets W sv q.stem
  lp : Lets W lv q.loop
  few : q.stem.length + q.loop.length ≤ 70368744177664
theorem IsW.kept {W W' : World} {sv lv : Value} {q : Wd} (h : IsW W sv lv q) (k : Kept [] W W') : IsW W' sv lv q := ⟨h.st.kept k, h.lp.kept k, h.few⟩
def placesN (q : Wd) : Nat := if q.loop.length = 0 then 0 else q.stem.length + q.loop.length
theorem one_new (w : World) (a : Obj) : (w.alloc a).heap[w.heap.size]? = some a := heap_alloc_new w a

def behindI (q : Wd) (i : Int) : Int := if i < 0 ∨ (placesN q : Int) ≤ i then -1 else if i = (placesN q : Int) - 1 then q.stem.length else i + 1
def atI (q : Wd) (i : Int) : Nat := if i < 0 ∨ q.loop.length = 0 then 0 else q.at i.toNat
end Go.Proofs.YtepooofiadlceaaDoor
