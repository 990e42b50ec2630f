/- EvalSteps, walked. -/
import Derived.Test.YtddgciilcghbaaaDoorEvStp
namespace Go.Proofs.YtddgciilcghbaaaDoor
open Go.RowKit Go.Shelf

/-- What the law carries: its boxes. -/
structure StC (w V : World) (f g : Tr) (fv gv nv sv lv : Value) (xs : List ByteArray) (q : Wd) : Prop where
  kept : Kept [] w V
  b0 : For3 V w.heap.size (.int .u8 (f.op : Nat)) (.string f.name) fv
  b1 : For3 V (w.heap.size + 1) (.int .u8 (g.op : Nat)) (.string g.name) gv
  b2 : Wd2 V (w.heap.size + 1 + 1) sv lv
  f_ : IsF V f fv
  g_ : IsF V g gv
  n_ : Strs V nv xs
  st : Lets V sv q.stem
  lp : Lets V lv q.loop
  tab : KidsTab V
theorem StC.go {w V W : World} {f g : Tr} {fv gv nv sv lv : Value} {xs : List ByteArray} {q : Wd} (h : StC w V f g fv gv nv sv lv xs q) (k : Kept [] V W) : StC w W f g fv gv nv sv lv xs q :=
  ⟨h.kept.trans k (by simp) (by simp), h.b0.kept k, h.b1.kept k, h.b2.kept k, h.f_.kept k, h.g_.kept k, h.n_.kept k, h.st.kept k, h.lp.kept k, h.tab.kept k⟩
end Go.Proofs.YtddgciilcghbaaaDoor
