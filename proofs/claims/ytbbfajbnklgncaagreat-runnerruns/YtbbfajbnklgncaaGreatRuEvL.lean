/- Events that are lent: a list of lent lists of names. -/
import Derived.Test.YtbbfajbnklgncaaGreatRuDocR
import Derived.Test.YtbbfajbnklgncaaGreatHG
namespace Go.Proofs.YtbbfajbnklgncaaGreat
open Go.RowKit Go.Shelf Go.Maps

theorem infTx : (Tryz.prog.info? 22).map (fun i => (i.zero, i.size, i.bytes)) = some (some (.slice none 0 0), 1, 24) := by kernel_rfl
def lentV (b : Nat) (x : List ByteArray) : Value := .slice (some ⟨b, 0, none⟩) x.length (x.length + 2)
def lentVs (bs : List Nat) (es : List (List ByteArray)) : List Value := List.zipWith lentV bs es
theorem lentVs_len {bs : List Nat} {es : List (List ByteArray)} (h : bs.length = es.length) : (lentVs bs es).length = es.length := by simp [lentVs, h]
theorem lentVs_snoc {bs : List Nat} {es : List (List ByteArray)} (h : bs.length = es.length) (b : Nat) (x : List ByteArray) : lentVs (bs ++ [b]) (es ++ [x]) = lentVs bs es ++ [lentV b x] := by
  unfold lentVs
  rw [List.zipWith_append h]
  rfl
theorem lentVs_at {bs : List Nat} {es : List (List ByteArray)} {j b : Nat} {x : List ByteArray} (h1 : bs[j]? = some b) (h2 : es[j]? = some x) : (lentVs bs es)[j]? = some (lentV b x) := by
  unfold lentVs
  rw [List.getElem?_zipWith, h1, h2]
/-- Lent lists of names, and a list of their own that holds them and, behind them, what else (tl). -/
structure EvL (W : World) (base : Nat) (rv : Value) (bs : List Nat) (es : List (List ByteArray)) (tl : List Value) : Prop where
  row : W.ownsRow base 22 1 rv (es.length + tl.length) (lentVs bs es ++ tl)
  each : ∀ (j b : Nat) (x : List ByteArray), bs[j]? = some b → es[j]? = some x → LentG 9 1 W b x.length (cellsT x) marksT
  len : bs.length = es.length
  low : ∀ b ∈ bs, base ≤ b ∧ b < W.heap.size
  nd : bs.Nodup
theorem EvL.start {W : World} {base : Nat} : EvL W base (.slice none 0 0) [] [] [] := ⟨⟨rfl, .inl ⟨rfl, rfl⟩⟩, fun j b x h _ => by simp at h, rfl, by simp, by simp⟩
/-- The block of the list of lists holds no names. -/
theorem EvL.rowNot {W : World} {base : Nat} {rv : Value} {bs : List Nat} {es : List (List ByteArray)} {tl : List Value} (h : EvL W base rv bs es tl) {j b : Nat} {x : List ByteArray} (hb : bs[j]? = some b) (hx : es[j]? = some x) : rv.ownBlock ≠ some b :=
  own_kind h.row (h.each j b x hb hx).row (show (22 : Nat) ≠ 9 by decide)
theorem EvL.keptF {F : List Nat} {W W' : World} {base : Nat} {rv : Value} {bs : List Nat} {es : List (List ByteArray)} {tl : List Value} (h : EvL W base rv bs es tl) (k : Kept F W W') (hF : ∀ x ∈ F, x < base) : EvL W' base rv bs es tl := by
  refine ⟨bx_kept h.row k (fun g e hg => by have := (bx_base h.row e).1; have := hF g hg; omega), fun j b x h1 h2 => (h.each j b x h1 h2).keptF k (fun hb => by have := hF b hb; have := (h.low b (List.mem_of_getElem? h1)).1; omega), h.len, fun b hb => ⟨(h.low b hb).1, Nat.lt_of_lt_of_le (h.low b hb).2 k.size⟩, h.nd⟩
theorem EvL.kept {W W' : World} {base : Nat} {rv : Value} {bs : List Nat} {es : List (List ByteArray)} {tl : List Value} (h : EvL W base rv bs es tl) (k : Kept [] W W') : EvL W' base rv bs es tl := h.keptF k (by simp)
/-- One value more behind: what append leaves. -/
theorem appendTx_step {W : World} {base n : Nat} {v u : Value} {xs : List Value} (hown : W.ownsRow base 22 1 v n xs) (h1 : u.oneCell' = true) (hb : base ≤ W.heap.size) (hl : n ≤ 1000000000) :
    ∃ g c W2, (∀ ty, (Builtin.append_ #[27, 27] ty #[v, .slice (some ⟨W.heap.size, 0, none⟩) 1 1]).run Tryz.prog (W.alloc (.cells #[u] 22)) = .ok (.slice (some ⟨g, 0, none⟩) (n + 1) c) W2) ∧ W2.ownsRow base 22 1 (.slice (some ⟨g, 0, none⟩) (n + 1) c) (n + 1) (xs ++ [u]) ∧ (W.alloc (.cells #[u] 22)).grownBy W2 v.ownBlock := by
  obtain ⟨i0, hi, hz0, hz1, hz2⟩ := info_parts infTx
  have hbA : (W.alloc (.cells #[u] 22)).heap[W.heap.size]? = some (.cells #[u] 22 (0, 0)) := al0 _ _
  have ho := bx_kept hown ((Kept.refl [] W).alloc (.cells #[u] 22)) (by simp)
  obtain ⟨gr, cap, w2, g1, g2, g3, g4, g5⟩ := run_append_lies (P := Tryz.prog) (W.alloc (.cells #[u] 22)) 27 0 base 22 i0 _ 1 24 Tryz.underlying27 hi hz0 hz1 hz2 rfl (by decide) v n xs ho ⟨W.heap.size, 0, none⟩ 1 1 [u] rfl (fun j x hx => by
      rw [addr_add, Nat.zero_add, cell_of hbA]
      simpa using hx) (by intro x hx; simp at hx; subst hx; exact h1) (by decide) (by unfold maxLen; omega) (by omega) (by rw [World.size_alloc]; omega) _ rfl
  exact ⟨_, _, w2, fun ty => g1, g2, g3⟩
theorem EvL.snoc {W W1 W2 : World} {base b : Nat} {rv rv' : Value} {bs : List Nat} {es : List (List ByteArray)} {x : List ByteArray} {o : Obj} (h : EvL W base rv bs es []) (hl : LentG 9 1 W1 b x.length (cellsT x) marksT) (hb : W.heap.size ≤ b) (hbase : base ≤ W.heap.size) (k1 : Kept [] W W1) (ho : W2.ownsRow base 22 1 rv' (es.length + 1) (lentVs bs es ++ [lentV b x])) (hg : (W1.alloc o).grownBy W2 rv.ownBlock) : EvL W2 base rv' (bs ++ [b]) (es ++ [x]) [] := by
  have k2 : Kept [] W (W1.alloc o) := k1.alloc o
  have hgr : ∀ q, q < (W1.alloc o).heap.size → rv.ownBlock ≠ some q → W2.heap[q]? = (W1.alloc o).heap[q]? := fun q hq hn => hg.block q hq (fun e => hn e.symm)
  have hlent : ∀ (q : Nat) (y : List ByteArray), LentG 9 1 (W1.alloc o) q y.length (cellsT y) marksT → rv.ownBlock ≠ some q → LentG 9 1 W2 q y.length (cellsT y) marksT := fun q y hy hn => ⟨by rw [hgr q (lt_of hy.row) hn]; exact hy.row, hy.len, hy.mlen, hy.few⟩
  have hsz : W1.heap.size ≤ (W1.alloc o).heap.size := by rw [World.size_alloc]; omega
  have hbl : b < W1.heap.size := lt_of hl.row
  have hrb : rv.ownBlock ≠ some b := fun e => by have := (bx_base h.row e).2; omega
  refine ⟨?_, fun j q y h1 h2 => ?_, by simp [h.len], fun q hq => ?_, ?_⟩
  · rw [lentVs_snoc h.len, List.append_nil]
    have e : (es ++ [x]).length + ([] : List Value).length = es.length + 1 := by simp
    rw [e]
    exact ho
  · by_cases hj : j < bs.length
    · rw [List.getElem?_append_left hj] at h1
      rw [List.getElem?_append_left (by rw [← h.len]; exact hj)] at h2
      exact hlent q y ((h.each j q y h1 h2).kept k2) (h.rowNot h1 h2)
    · rw [List.getElem?_append_right (by omega)] at h1
      rw [List.getElem?_append_right (by rw [← h.len]; omega)] at h2
      have e1 : j - bs.length = 0 := by
        have := (List.getElem?_eq_some_iff.1 h1).1
        simp at this; omega
      rw [e1] at h1
      rw [← h.len, e1] at h2
      simp at h1 h2
      subst h1; subst h2
      exact hlent _ _ (hl.kept ((Kept.refl [] W1).alloc o)) hrb
  · have hs2 := hg.size
    rcases List.mem_append.1 hq with hq | hq
    · have := h.low q hq
      have := k2.size
      exact ⟨this |> fun _ => (h.low q hq).1, by omega⟩
    · simp at hq
      subst hq
      exact ⟨by omega, by omega⟩
  · rw [List.nodup_append]
    refine ⟨h.nd, by simp, fun a ha c hc => ?_⟩
    simp at hc
    subst hc
    have := (h.low a ha).2
    omega
/-- What the law hands in: the lent lists, without what lies behind. -/
theorem EvL.evs {W : World} {base g c : Nat} {bs : List Nat} {es : List (List ByteArray)} {tl : List Value} (h : EvL W base (.slice (some ⟨g, 0, none⟩) (es.length + tl.length) c) bs es tl) (hf : es.length ≤ 8796093022208) (hs : ∀ x ∈ es, x.length ≤ 8796093022208 ∧ ∀ y ∈ x, y.size ≤ 140737488351232) : Evs W (.slice (some ⟨g, 0, none⟩) es.length c) es := by
  refine ⟨hf, .inr ⟨g, 0, c, rfl, ?_, ?_, fun i hi => ?_⟩⟩
  · rcases own_lie h.row with ⟨e, _⟩ | ⟨_, _, e, e2, _⟩
    · cases e
    · cases e; omega
  · rcases own_lie h.row with ⟨e, _⟩ | ⟨_, _, e, _, e3, _⟩
    · cases e
    · cases e; exact e3
  · rcases own_lie h.row with ⟨e, _⟩ | ⟨_, _, e, _, _, e4⟩
    · cases e
    · cases e
      have hx : es[i]? = some es[i] := List.getElem?_eq_getElem hi
      have hb : bs[i]? = some (bs[i]'(by rw [h.len]; exact hi)) := List.getElem?_eq_getElem _
      have hl := h.each i _ _ hb hx
      have hm := hs _ (List.getElem_mem hi)
      refine ⟨_, e4 i _ (by rw [List.getElem?_append_left (by rw [lentVs_len h.len]; exact hi)]; exact lentVs_at hb hx), ⟨hm.1, fun y hy => by have := hm.2 y hy; unfold maxLen; omega, .inr ⟨_, 0, _, rfl, by omega, by have := hm.1; unfold maxLen; omega, fun k hk => ?_⟩, hl.src (cellsT_one _)⟩, hm.2⟩
      have q := hl.src (cellsT_one _) |>.cellsAt k _ (cellsT_at hk)
      rw [addr_add] at q
      exact q
end Go.Proofs.YtbbfajbnklgncaaGreat
