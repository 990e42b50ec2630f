/- The lists that a law keeps of what it was answered: the trees in a list, and in the book. -/
import Derived.Test.YtnjajafmmociiaaGreatDoorBookFf
import Derived.Test.YtnjajafmmociiaaGreatDoorFB
import Derived.Test.YtnjajafmmociiaaGreatDoorGK
namespace Go.Proofs.YtnjajafmmociiaaGreatDoor
open Go.RowKit Go.Shelf

/-- A list of n trees, all of them u, each with lists of its own. -/
def LstAt (W : World) (n0 : Nat) (lv : Value) (u : Tr) (n : Nat) : Prop := ∃ xs : List T3, xs.length = n ∧ W.ownsRow n0 25 3 lv n (f3s xs) ∧ ∀ j (h : j < xs.length), ∃ kvj L, xs[j] = (.int .u8 (u.op : Nat), .string u.name, kvj) ∧ IsO W u kvj L ∧ ∀ b ∈ L, n0 ≤ b ∧ lv.ownBlock ≠ some b
theorem LstAt.nil (W : World) (n0 : Nat) (u : Tr) : LstAt W n0 (.slice none 0 0) u 0 := ⟨[], rfl, World.ownsRow_nil _ _ _ _, fun j h => by simp at h⟩
theorem LstAt.keep {F : List Nat} {W W' : World} {n0 n : Nat} {lv : Value} {u : Tr} (h : LstAt W n0 lv u n) (k : Kept F W W') (hr : ∀ g, lv.ownBlock = some g → g ∉ F) (ht : ∀ g arr, n0 ≤ g → W.heap[g]? = some (.cells arr 25 (0, 0)) → g ∉ F) : LstAt W' n0 lv u n := by
  obtain ⟨xs, h1, h2, h3⟩ := h
  refine ⟨xs, h1, owns_keptFF h2 k hr, fun j hj => ?_⟩
  obtain ⟨kvj, L, e, hI, hL⟩ := h3 j hj
  refine ⟨kvj, L, e, hI.keep (fun b hb => ?_), hL⟩
  obtain ⟨arr, ha⟩ := hI.type b hb
  exact k.block b (hI.lt b hb) (ht b arr (hL b hb).1 ha)
theorem LstAt.form {W : World} {n0 n : Nat} {lv : Value} {u : Tr} (h : LstAt W n0 lv u n) : ∃ ad cap, lv = .slice ad n cap := by
  obtain ⟨xs, _, h2, _⟩ := h
  exact own_formF h2
theorem LstAt.one {W : World} {n0 n j : Nat} {lv : Value} {u : Tr} (h : LstAt W n0 lv u n) (hj : j < n) : ∃ g cap kvj, lv = .slice (some ⟨g, 0, none⟩) n cap ∧ W.cell? ⟨g, j * 3, none⟩ = some (.int .u8 (u.op : Nat)) ∧ W.cell? ⟨g, j * 3 + 1, none⟩ = some (.string u.name) ∧ W.cell? ⟨g, j * 3 + 2, none⟩ = some kvj ∧ IsF W u kvj := by
  obtain ⟨xs, h1, h2, h3⟩ := h
  obtain ⟨g, cap, rfl, _, _⟩ := h2.form (by omega)
  obtain ⟨kvj, L, e, hI, hL⟩ := h3 j (by omega)
  obtain ⟨c0, c1, c2⟩ := owns_atF (l := j) (x := xs[j]'(by omega)) h2 (List.getElem?_eq_getElem (by omega))
  rw [e] at c0 c1 c2
  exact ⟨g, cap, kvj, rfl, c0, c1, c2, hI.isT.mono (fun b hb => hI.lt b hb)⟩
/-- What stands between two rounds: all that was there is kept; the list; the book. -/
structure RnAt (U0 : World) (Bk sz : Nat) (u : Tr) (i : Nat) (lv : Value) (W : World) : Prop where
  kept : Kept [] U0 W
  top : U0.heap.size = Bk
  room : Bk + 1 ≤ W.heap.size
  lst : LstAt W (Bk + 1) lv u i
  book : ∃ bl vs xss, BookF W (Bk + 1) (Bk + 1) Bk bl vs xss ∧ vs.length ≤ i * sz ∧ ∀ g ∈ blocksOfF vs, lv.ownBlock ≠ some g
/-- What stands behind the list's append: the tree lies in L. -/
structure RnMid (U0 : World) (Bk sz : Nat) (u : Tr) (i : Nat) (lv : Value) (ku : Value) (L : List Nat) (bl : Value) (vs : List Value) (xss : List (List T3)) (W : World) : Prop where
  kept : Kept [] U0 W
  top : U0.heap.size = Bk
  room : Bk + 1 ≤ W.heap.size
  lst : LstAt W (Bk + 1) lv u (i + 1)
  book : BookF W (Bk + 1) (Bk + 1) Bk bl vs xss
  few : vs.length ≤ i * sz
  off : ∀ g ∈ blocksOfF vs, lv.ownBlock ≠ some g
  own : IsO W u ku L
  nodup : L.Nodup
  low : ∀ g ∈ L, Bk + 1 ≤ g
  offL : ∀ g ∈ L, g ∉ blocksOfF vs
  offl : ∀ g ∈ L, lv.ownBlock ≠ some g
theorem mem_blocksO {vs : List Value} {g : Nat} (h : g ∈ blocksOfF vs) : ∃ v, v ∈ vs ∧ v.ownBlock = some g := by
  obtain ⟨v, hv, hvg⟩ := List.mem_filterMap.1 h
  exact ⟨v, hv, hvg⟩
theorem BookF.ltB {W : World} {base base' B g : Nat} {bl : Value} {vs : List Value} {xss : List (List T3)} (h : BookF W base base' B bl vs xss) (hg : g ∈ blocksOfF vs) : g < W.heap.size := by
  obtain ⟨v, hv, hvg⟩ := mem_blocksO hg
  obtain ⟨i, hi, rfl⟩ := List.getElem_of_mem hv
  have hix : i < xss.length := by rw [← h.inn.rows.len]; exact hi
  exact owns_ltF (h.inn.rows.row i _ _ (List.getElem?_eq_getElem hi) (List.getElem?_eq_getElem hix)) hvg
theorem RnAt.app {U0 W W2 : World} {Bk sz i : Nat} {u : Tr} {ad : Option Addr} {cap : Nat} {ku : Value} (h : RnAt U0 Bk sz u i (.slice ad i cap) W) (hi : i ≤ 1099511627776) (hk : Kept [] W W2) (hu : IsNw W.heap.size W2 u ku) :
    ∃ g cap' W4 L bl vs xss, (∀ ty, (Builtin.append_ #[23, 23] ty #[.slice ad i cap, .slice (some ⟨W2.heap.size, 0, none⟩) 1 1]).run Tryz.prog (W2.alloc (.cells #[.int .u8 (u.op : Nat), .string u.name, ku] 25)) = .ok (.slice (some ⟨g, 0, none⟩) (i + 1) cap') W4) ∧ RnMid U0 Bk sz u i (.slice (some ⟨g, 0, none⟩) (i + 1) cap') ku L bl vs xss W4 ∧ (∀ b, W.heap.size ≤ b → b < W2.heap.size → W4.heap[b]? = W2.heap[b]?) := by
  obtain ⟨L, hO, hnd, hlo⟩ := hu
  obtain ⟨xs, h1, h2, h3⟩ := h.lst
  obtain ⟨bl, vs, xss, hb, hfew, hoff⟩ := h.book
  obtain ⟨inf, hi', hz0, hz1, hz2⟩ := info_parts Tryz.infoFor
  have k1 : Kept [] W (W2.alloc (.cells #[.int .u8 (u.op : Nat), .string u.name, ku] 25)) := hk.alloc _
  have hs2 := hk.size
  have hroom := h.room
  have htop := h.top
  have hrow := owns_keptFF h2 k1 (by simp)
  obtain ⟨kad, kcap, rfl⟩ := hO.slice
  obtain ⟨g, cap', W4, hr, r2, r3, r4, r5⟩ := run_append_keepF (P := Tryz.prog) (W2.alloc (.cells #[.int .u8 (u.op : Nat), .string u.name, .slice kad u.kids.length kcap] 25)) 23 23 (Bk + 1) 25 inf _ 3 48 Tryz.underlying23 hi' hz0 hz1 hz2 rfl (by decide) (.slice ad i cap) i _ hrow ⟨W2.heap.size, 0, none⟩ 1 1 [.int .u8 (u.op : Nat), .string u.name, .slice kad u.kids.length kcap] rfl (World.news_of_block (cs := #[.int .u8 (u.op : Nat), .string u.name, .slice kad u.kids.length kcap]) (t := 25) (fr := (0, 0)) (heap_alloc_new W2 _)) (by simp [Value.oneCell']) (by decide) (by unfold maxLen; omega) (by omega) (by rw [World.size_alloc]; omega)
  have hown : ∀ b, (Value.slice ad i cap).ownBlock = some b → Bk + 1 ≤ b ∧ b < W.heap.size := fun b hb => ⟨own_baseF h2 hb, owns_ltF h2 hb⟩
  have hz := r3.size
  rw [World.size_alloc] at hz
  have same : ∀ b, b < W2.heap.size → (Value.slice ad i cap).ownBlock ≠ some b → W4.heap[b]? = W2.heap[b]? := fun b hb hne => (r3.block b (by rw [World.size_alloc]; omega) (fun e => hne e.symm)).trans (Below.heap_alloc _ _ _ hb)
  have hg : (Value.slice ad i cap).ownBlock = some g ∨ W2.heap.size < g := by
    rcases r4 with q | ⟨q, _⟩
    · exact .inl q
    · right; rw [q, World.size_alloc]; omega
  have hOlt := hO.lt
  have kF : Kept (Value.slice ad i cap).ownBlock.toList W W4 := (k1.mono (by simp)).grown r3 (fun b hb => .inl (by rw [hb]; simp))
  refine ⟨g, cap', W4, L, bl, vs, xss, fun ty => hr, ⟨?_, htop, by omega, ⟨xs ++ [(.int .u8 (u.op : Nat), .string u.name, .slice kad u.kids.length kcap)], by simp [h1], ?_, fun j hj => ?_⟩, ?_, hfew, ?_, ?_, hnd, fun b hb => Nat.le_trans hroom (hlo b hb), ?_, ?_⟩, fun b h1 h2 => same b h2 (fun e => by have := hown b e; omega)⟩
  · exact (h.kept.trans k1 (by simp) (by simp)).grown r3 (fun b hb => .inr (by have := hown b hb; omega))
  · rw [f3s_app]
    exact r2
  · rcases Nat.lt_or_ge j xs.length with hjl | hjl
    · obtain ⟨kvj, L', e, hI, hL⟩ := h3 j hjl
      refine ⟨kvj, L', by rw [List.getElem_append_left hjl]; exact e, hI.keep (fun b hb => (same b (by have := hI.lt b hb; omega) (hL b hb).2).trans (hk.block b (hI.lt b hb) (by simp))), fun b hb => ⟨(hL b hb).1, fun e => ?_⟩⟩
      have e' : g = b := by simpa [Value.ownBlock] using e
      subst e'
      rcases hg with r | r
      · exact (hL g hb).2 r
      · have := hI.lt g hb; omega
    · obtain rfl : j = xs.length := by
        rw [List.length_append, List.length_singleton] at hj
        omega
      refine ⟨.slice kad u.kids.length kcap, L, ?_, hO.keep (fun b hb => same b (hOlt b hb) (fun e => by have := hown b e; have := hlo b hb; omega)), fun b hb => ⟨Nat.le_trans hroom (hlo b hb), fun e => ?_⟩⟩
      · rw [List.getElem_append_right (Nat.le_refl _)]
        simp
      · have e' : g = b := by simpa [Value.ownBlock] using e
        subst e'
        have := hlo g hb
        have := hOlt g hb
        rcases hg with r | r
        · have := hown g r; omega
        · omega
  · refine hb.kept kF (fun x hx hm => ?_)
    have hx' : (Value.slice ad i cap).ownBlock = some x := by simpa using hm
    rcases List.mem_append.1 hx with q | q
    · exact hb.free h2 hx' q
    · exact hoff x q hx'
  · intro x hx e
    have e' : g = x := by simpa [Value.ownBlock] using e
    subst e'
    rcases hg with r | r
    · exact hoff g hx r
    · have := hb.ltB hx; omega
  · exact hO.keep (fun b hb => same b (hOlt b hb) (fun e => by have := hown b e; have := hlo b hb; omega))
  · intro x hx hm
    have := hb.ltB hm
    have := hlo x hx
    omega
  · intro x hx e
    have e' : g = x := by simpa [Value.ownBlock] using e
    subst e'
    have := hlo g hx
    have := hOlt g hx
    rcases hg with r | r
    · have := hown g r; omega
    · omega
theorem RnMid.shelf {U0 W4 W5 : World} {Bk sz i : Nat} {u : Tr} {lv ku bl : Value} {L : List Nat} {vs : List Value} {xss : List (List T3)} (h : RnMid U0 Bk sz u i lv ku L bl vs xss W4) (hs : Shelved W4 (Bk + 1) (Bk + 1) Bk bl vs xss L sz W5) : RnAt U0 Bk sz u (i + 1) lv W5 := by
  obtain ⟨bl', vs', xss', q1, q2, q3, q4, q5⟩ := hs
  have htop := h.top
  have hroom := h.room
  refine ⟨h.kept.trans q4 (by simp) (fun x hx => .inr ?_), htop, Nat.le_trans hroom q4.size, h.lst.keep q4 (fun g hg hm => ?_) (fun g arr _ ha hm => h.book.offL ha hm), bl', vs ++ vs', xss ++ xss', q1, ?_, fun g hg e => ?_⟩
  · rcases List.mem_cons.1 hx with q | q
    · omega
    · have := own_baseF h.book.inn.list (show bl.ownBlock = some x by simpa using q)
      omega
  · obtain ⟨xs, _, h2, _⟩ := h.lst
    exact h.book.free h2 hg hm
  · rw [List.length_append, q3, Nat.add_mul, Nat.one_mul]
    have := h.few
    omega
  · rcases blocks_app hg with r | r
    · exact h.off g r e
    · exact h.offl g (q2 g r) e
end Go.Proofs.YtnjajafmmociiaaGreatDoor
