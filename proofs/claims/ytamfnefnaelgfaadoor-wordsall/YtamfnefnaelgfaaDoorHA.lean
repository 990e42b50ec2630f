/- Appends that leave the old row as it was where they move: for Own. -/
import Derived.Test.YtamfnefnaelgfaaDoorWdNormal
import Derived.OwnWalk
import Derived.Deep.AppendLies
namespace Go.Proofs.YtamfnefnaelgfaaDoor
open Go.RowKit Go.Shelf

theorem run_append_keep {P : Program} (w : World) (t ty : TypeId) (base : Nat) (e : TypeId) (i : TypeInfo) (z : Value) (size bytes : Nat) (ht : P.underlying t = some (.slice e)) (hi : P.info? e = some i) (hz : i.zero = some z)
    (hsize : i.size = size) (hby : i.bytes = bytes) (hzs : z.cells.size = size) (hsz : 0 < size)
    (v : Value) (n : Nat) (xs : List Value) (hown : w.ownsRow base e size v n xs)
    (ad : Addr) (m c : Nat) (news : List Value) (hl : news.length = m * size) (hnews : ∀ j u, news[j]? = some u → w.cell? (ad.add j) = some u) (h1 : ∀ u ∈ news, u.oneCell' = true)
    (hm : 0 < m) (h63 : n + m ≤ maxLen) (hbytes : (n + m) * bytes ≤ 140737488355328) (hbase : base ≤ w.heap.size) :
    ∃ g cap w', (Builtin.append_ #[t, t] ty #[v, .slice (some ad) m c]).run P w = .ok (.slice (some ⟨g, 0, none⟩) (n + m) cap) w' ∧
      w'.ownsRow base e size (.slice (some ⟨g, 0, none⟩) (n + m) cap) (n + m) (xs ++ news) ∧ w.grownBy w' v.ownBlock ∧ (v.ownBlock = some g ∨ (g = w.heap.size ∧ Kept [] w w')) ∧ g < w'.heap.size := by
  obtain ⟨g, cap, w', hr, h2, h3, h4, h5⟩ := run_append_lies (P := P) w t ty base e i z size bytes ht hi hz hsize hby hzs hsz v n xs hown ad m c news hl hnews h1 hm h63 hbytes hbase _ rfl
  refine ⟨g, cap, w', hr, h2, h3, ?_, h5⟩
  have hsmall : n + m ≤ 9223372036854775807 := by simp only [maxLen] at h63; omega
  rcases h4 with h4 | h4
  · exact .inl h4
  · subst hsize hby
    rcases hown.2 with ⟨rfl, rfl⟩ | ⟨g0, cap0, cur, rfl, hbg, hg, hnc, hcm, hcs, htake⟩
    · have hr2 := run_append_nil (P := P) w t ty e i z ht hi hz ad m c news hl hnews hm (by omega) (by have hb := hbytes; rw [Nat.zero_add] at hb; omega)
      have e := (Result.ok.inj (hr.symm.trans hr2)).2
      exact .inr ⟨h4, by rw [e]; exact ((Kept.refl [] w).drew).alloc _⟩
    · by_cases hroom : n + m ≤ cap0
      · obtain ⟨w2, hr2, _⟩ := run_append_fits (P := P) w base t ty e i i.size ht hi rfl g0 n cap0 xs hown ad m c news hl hnews h1 hroom
        rw [hr] at hr2
        cases hr2
        exact .inl rfl
      · have holds : ∀ j u, xs[j]? = some u → w.cell? ((⟨g0, 0, none⟩ : Addr).add j) = some u := hown.cells (g := g0) rfl
        have hr2 := run_append_grow (P := P) w t ty e i z ht hi hz ⟨g0, 0, none⟩ n cap0 xs hown.1 holds ad m c news hl hnews (by omega) (by omega) (growslice_fits (by omega) hbytes)
        rw [hr] at hr2
        cases hr2
        exact .inr ⟨h4, ((Kept.refl [] w).drew).alloc _⟩
end Go.Proofs.YtamfnefnaelgfaaDoor

/- Rows of letters side by side, each in memory of its own: for Own. -/
namespace Go.Proofs.YtamfnefnaelgfaaDoor
open Go.RowKit Go.Shelf

/-- Each list has a row of its own. -/
structure OwnAll (W : World) (base : Nat) (vs : List Value) (xss : List (List Nat)) : Prop where
  len : vs.length = xss.length
  row : ∀ (i : Nat) (v : Value) (xs : List Nat), vs[i]? = some v → xss[i]? = some xs → W.ownsRow base 51 1 v xs.length (u16s xs)
  apart : ∀ (i j : Nat) (v u : Value) (g : Nat), i ≠ j → vs[i]? = some v → vs[j]? = some u → v.ownBlock = some g → u.ownBlock ≠ some g
theorem OwnAll.keptF {F : List Nat} {W W' : World} {base : Nat} {vs : List Value} {xss : List (List Nat)} (h : OwnAll W base vs xss) (k : Kept F W W') (hF : ∀ (i : Nat) (v : Value) (g : Nat), vs[i]? = some v → v.ownBlock = some g → g ∉ F) : OwnAll W' base vs xss :=
  ⟨h.len, fun i v xs h1 h2 => owns_keptF (h.row i v xs h1 h2) k (fun g hg => hF i v g h1 hg), h.apart⟩
theorem OwnAll.kept {W W' : World} {base : Nat} {vs : List Value} {xss : List (List Nat)} (h : OwnAll W base vs xss) (k : Kept [] W W') : OwnAll W' base vs xss := h.keptF k (by simp)
theorem u16s_set (xs : List Nat) (k x : Nat) : u16s (xs.set k x) = (u16s xs).set k (.int .u16 (x : Nat)) := by simp [u16s, List.map_set]
/-- A letter is written over. -/
theorem owns_put {W : World} {base g n c k x : Nat} {xs : List Nat} (h : W.ownsRow base 51 1 (.slice (some ⟨g, 0, none⟩) n c) n (u16s xs)) : (W.setCell ⟨g, k, none⟩ (.int .u16 (x : Nat))).ownsRow base 51 1 (.slice (some ⟨g, 0, none⟩) n c) n (u16s (xs.set k x)) := by
  rcases h.2 with ⟨e, _⟩ | ⟨g', cap, cur, e, hb, hg, hnc, hcm, hcs, ht⟩
  · cases e
  · cases e
    refine ⟨by have := h.1; simp only [u16s_len, List.length_set] at this ⊢; exact this, .inr ⟨g, c, _, rfl, hb, row_set hg _, hnc, hcm, by rw [Array.size_setIfInBounds]; exact hcs, ?_⟩⟩
    rw [Array.toList_setIfInBounds, List.take_set, ht, u16s_set]
/-- Another row in the place of one. -/
theorem OwnAll.swap {W W' : World} {base i : Nat} {vs : List Value} {xss : List (List Nat)} {v v' : Value} {ys : List Nat} (h : OwnAll W base vs xss) (hi : vs[i]? = some v) (hg : ∀ (j : Nat) (u : Value) (g : Nat), j ≠ i → vs[j]? = some u → u.ownBlock = some g → W'.heap[g]? = W.heap[g]?) (hr : W'.ownsRow base 51 1 v' ys.length (u16s ys)) (hb : ∀ g, v'.ownBlock = some g → v.ownBlock = some g ∨ W.heap.size ≤ g) : OwnAll W' base (vs.set i v') (xss.set i ys) := by
  have hlt : i < vs.length := by
    rcases Nat.lt_or_ge i vs.length with h | h
    · exact h
    · rw [List.getElem?_eq_none h] at hi; cases hi
  have old : ∀ (j : Nat) (u : Value), j ≠ i → vs[j]? = some u → ∀ g, u.ownBlock = some g → g < W.heap.size := fun j u hj hu g hgg => by
    have hjl : j < xss.length := by
      rw [← h.len]
      rcases Nat.lt_or_ge j vs.length with h | h
      · exact h
      · rw [List.getElem?_eq_none h] at hu; cases hu
    exact owns_lt (h.row j u _ hu (List.getElem?_eq_getElem hjl)) hgg
  refine ⟨by simp [h.len], fun j u xs h1 h2 => ?_, fun j k u t g hjk h1 h2 h3 h4 => ?_⟩
  · rw [List.getElem?_set] at h1 h2
    by_cases e : i = j
    · subst e
      rw [if_pos rfl] at h1 h2
      rw [if_pos hlt] at h1
      rw [if_pos (by rw [← h.len]; exact hlt)] at h2
      cases h1
      cases h2
      exact hr
    · rw [if_neg e] at h1 h2
      have ho := h.row j u xs h1 h2
      refine ⟨ho.1, ho.2.imp id ?_⟩
      rintro ⟨g, cap, cur, e1, q1, q2, q3⟩
      exact ⟨g, cap, cur, e1, q1, (hg j u g (fun e2 => e e2.symm) h1 (by rw [e1]; rfl)).trans q2, q3⟩
  · rw [List.getElem?_set] at h1 h2
    by_cases ej : i = j
    · subst ej
      rw [if_pos rfl, if_pos hlt] at h1
      cases h1
      rw [if_neg hjk] at h2
      rcases hb g h3 with q | q
      · exact h.apart i k v t g hjk hi h2 q h4
      · have := old k t (fun e => hjk e.symm) h2 g h4; omega
    · rw [if_neg ej] at h1
      by_cases ek : i = k
      · subst ek
        rw [if_pos rfl, if_pos hlt] at h2
        cases h2
        rcases hb g h4 with q | q
        · exact h.apart i j v u g (fun e => ej e) hi h1 q h3
        · have := old j u (fun e => ej e.symm) h1 g h3; omega
      · rw [if_neg ek] at h2
        exact h.apart j k u t g hjk h1 h2 h3 h4
/-- One letter of one row. -/
theorem OwnAll.write {W : World} {base i g n c k x : Nat} {vs : List Value} {xss : List (List Nat)} {xs : List Nat} (h : OwnAll W base vs xss) (hi : vs[i]? = some (.slice (some ⟨g, 0, none⟩) n c)) (hx : xss[i]? = some xs) : OwnAll (W.setCell ⟨g, k, none⟩ (.int .u16 (x : Nat))) base vs (xss.set i (xs.set k x)) := by
  have ho := h.row i _ xs hi hx
  have hn : n = xs.length := by
    rcases ho.2 with ⟨e, _⟩ | ⟨_, _, _, e, _⟩
    · cases e
    · cases e; rfl
  subst hn
  have hs : vs = vs.set i (.slice (some ⟨g, 0, none⟩) xs.length c) := by
    apply List.ext_getElem?
    intro j
    rw [List.getElem?_set]
    split
    · rename_i e; subst e
      rw [hi]
      split
      · rfl
      · rename_i hl; rw [List.getElem?_eq_none (by omega)] at hi; cases hi
    · rfl
  rw [hs]
  refine h.swap hi (fun j u g' hj hu hg' => ?_) (by have := owns_put (k := k) (x := x) ho; rw [List.length_set]; exact this) (fun g' hg' => .inl hg')
  exact Below.heap_setCell _ _ _ _ (fun e => by
    have e' : g' = g := e
    subst e'
    exact h.apart i j _ u g' (fun e2 => hj e2.symm) hi hu rfl hg')
end Go.Proofs.YtamfnefnaelgfaaDoor

/- Own's marks, and what its loops have come to. -/
namespace Go.Proofs.YtamfnefnaelgfaaDoor
open Go.RowKit Go.Shelf

/-- The marks: of a list's letters, of the room behind. -/
def mark1 (i k : Nat) : Nat := (i * 1009 + k * 31) % 65536
def mark2 (i k : Nat) : Nat := (((-1 - (i : Int)) * 1009 + (k : Int) * 31) % 65536).toNat
def m1 (i n : Nat) : List Nat := (List.range n).map (mark1 i)
def m2 (i n : Nat) : List Nat := (List.range n).map (mark2 i)
theorem m1_len (i n : Nat) : (m1 i n).length = n := by simp [m1]
theorem m2_len (i n : Nat) : (m2 i n).length = n := by simp [m2]
theorem m1_succ (i n : Nat) : m1 i (n + 1) = m1 i n ++ [mark1 i n] := by unfold m1; rw [List.range_succ, List.map_append]; rfl
theorem m2_succ (i n : Nat) : m2 i (n + 1) = m2 i n ++ [mark2 i n] := by unfold m2; rw [List.range_succ, List.map_append]; rfl
theorem mark1_small (i k : Nat) : mark1 i k < 65536 := Nat.mod_lt _ (by decide)
theorem mark2_small (i k : Nat) : mark2 i k < 65536 := by unfold mark2; omega
theorem m1_at {i n k : Nat} (h : k < n) : (m1 i n)[k]? = some (mark1 i k) := by simp [m1, h]
theorem m2_at {i n k : Nat} (h : k < n) : (m2 i n)[k]? = some (mark2 i k) := by simp [m2, h]
/-- A letter more is marked. -/
theorem mark_step {xs : List Nat} {i k : Nat} (h : k < xs.length) : (m1 i k ++ xs.drop k).set k (mark1 i k) = m1 i (k + 1) ++ xs.drop (k + 1) := by
  rw [List.set_append_right _ _ (by rw [m1_len]; exact Nat.le_refl _), m1_len, Nat.sub_self, ← List.getElem_cons_drop h, List.set_cons_zero, m1_succ, List.append_assoc]
  rfl
/-- How far the letters are marked. -/
def Ph1 (W : World) (base : Nat) (vs : List Value) (xss : List (List Nat)) (i k : Nat) : Prop := ∃ cs, OwnAll W base vs cs ∧ ∀ (j : Nat) (xs : List Nat), xss[j]? = some xs → cs[j]? = some (if j < i then m1 j xs.length else if j = i then m1 i k ++ xs.drop k else xs)
theorem Ph1.start {W : World} {base : Nat} {vs : List Value} {xss : List (List Nat)} (h : OwnAll W base vs xss) : Ph1 W base vs xss 0 0 := ⟨xss, h, fun j xs hx => by
  rw [hx, if_neg (Nat.not_lt_zero j)]
  split <;> simp [m1]⟩
theorem Ph1.next {W : World} {base i : Nat} {vs : List Value} {xss : List (List Nat)} {xs : List Nat} (h : Ph1 W base vs xss i xs.length) (hx : xss[i]? = some xs) : Ph1 W base vs xss (i + 1) 0 := by
  obtain ⟨cs, h1, h2⟩ := h
  refine ⟨cs, h1, fun j ys hy => ?_⟩
  rw [h2 j ys hy]
  by_cases e1 : j < i
  · rw [if_pos e1, if_pos (by omega)]
  · rw [if_neg e1]
    by_cases e2 : j = i
    · subst e2
      rw [if_pos rfl, if_pos (by omega)]
      rw [hx] at hy
      cases hy
      rw [List.drop_length, List.append_nil]
    · rw [if_neg e2, if_neg (by omega)]
      split
      · rename_i e3; subst e3; simp [m1]
      · rfl
theorem Ph1.write {W : World} {base i k g n c : Nat} {vs : List Value} {xss : List (List Nat)} {xs : List Nat} (h : Ph1 W base vs xss i k) (hv : vs[i]? = some (.slice (some ⟨g, 0, none⟩) n c)) (hx : xss[i]? = some xs) (hk : k < xs.length) : Ph1 (W.setCell ⟨g, k, none⟩ (.int .u16 (mark1 i k : Nat))) base vs xss i (k + 1) := by
  obtain ⟨cs, h1, h2⟩ := h
  have hc : cs[i]? = some (m1 i k ++ xs.drop k) := by rw [h2 i xs hx, if_neg (Nat.lt_irrefl i), if_pos rfl]
  refine ⟨_, h1.write (x := mark1 i k) (k := k) hv hc, fun j ys hy => ?_⟩
  rw [List.getElem?_set]
  have hlt : i < cs.length := by
    rcases Nat.lt_or_ge i cs.length with h | h
    · exact h
    · rw [List.getElem?_eq_none h] at hc; cases hc
  by_cases e : i = j
  · subst e
    rw [if_pos rfl, if_pos hlt, if_neg (Nat.lt_irrefl i), if_pos rfl, mark_step hk]
    rw [hx] at hy
    cases hy
    rfl
  · rw [if_neg e, h2 j ys hy]
    have e' : ¬ j = i := fun e2 => e e2.symm
    simp only [e', if_false]
theorem Ph1.kept {W W' : World} {base i k : Nat} {vs : List Value} {xss : List (List Nat)} (h : Ph1 W base vs xss i k) (kk : Kept [] W W') : Ph1 W' base vs xss i k := by
  obtain ⟨cs, h1, h2⟩ := h
  exact ⟨cs, h1.kept kk, h2⟩
end Go.Proofs.YtamfnefnaelgfaaDoor

/- Own's second loop: each list grows by sixteen. -/
namespace Go.Proofs.YtamfnefnaelgfaaDoor
open Go.RowKit Go.Shelf

/-- How far the lists have grown: i of them whole, the next one by k. -/
structure Ph2 (W : World) (base H : Nat) (vs : List Value) (xss : List (List Nat)) (i k : Nat) (us : List Value) : Prop where
  own : ∃ cs, OwnAll W base us cs ∧ ∀ (j : Nat) (xs : List Nat), xss[j]? = some xs → cs[j]? = some (if j < i then m1 j xs.length ++ m2 j 16 else if j = i then m1 i xs.length ++ m2 i k else m1 j xs.length)
  rest : ∀ j, (i < j ∨ (i = j ∧ k = 0)) → us[j]? = vs[j]?
  from_ : ∀ (j : Nat) (u v : Value) (g : Nat), us[j]? = some u → vs[j]? = some v → u.ownBlock = some g → v.ownBlock = some g ∨ H ≤ g
  old : ∀ (j : Nat) (v : Value) (g : Nat), vs[j]? = some v → v.ownBlock = some g → g < H
  apart : ∀ (j l : Nat) (v u : Value) (g : Nat), j ≠ l → vs[j]? = some v → vs[l]? = some u → v.ownBlock = some g → u.ownBlock ≠ some g
  first : ∀ (j : Nat) (xs : List Nat) (v : Value) (g : Nat), xss[j]? = some xs → vs[j]? = some v → v.ownBlock = some g → ∀ l, l < xs.length → W.cell? ⟨g, l, none⟩ = some (.int .u16 (mark1 j l : Nat))
  len : us.length = vs.length
  lens : vs.length = xss.length
theorem getElem?_lt {α : Type} {l : List α} {i : Nat} {a : α} (h : l[i]? = some a) : i < l.length := by
  rcases Nat.lt_or_ge i l.length with h2 | h2
  · exact h2
  · rw [List.getElem?_eq_none h2] at h; cases h
theorem owns_at {W : World} {base g n c l x : Nat} {xs : List Nat} (h : W.ownsRow base 51 1 (.slice (some ⟨g, 0, none⟩) n c) n (u16s xs)) (hx : xs[l]? = some x) : W.cell? ⟨g, l, none⟩ = some (.int .u16 (x : Nat)) := by
  have hl := getElem?_lt hx
  have h1 : xs.length = n := by have := h.1; rw [u16s_len] at this; omega
  rw [h.cellAt l (by omega)]
  simp [u16s, hx]
theorem block_form {v : Value} {g : Nat} {W : World} {base n : Nat} {xs : List Value} (h : W.ownsRow base 51 1 v n xs) (hg : v.ownBlock = some g) : ∃ c, v = .slice (some ⟨g, 0, none⟩) n c := by
  rcases h.2 with ⟨rfl, _⟩ | ⟨g', cap, cur, rfl, _⟩
  · cases hg
  · cases hg; exact ⟨cap, rfl⟩
theorem Ph2.start {W : World} {base : Nat} {vs : List Value} {xss : List (List Nat)} (h : Ph1 W base vs xss xss.length 0) (hl : vs.length = xss.length) : Ph2 W base W.heap.size vs xss 0 0 vs := by
  obtain ⟨cs, h1, h2⟩ := h
  have hc : ∀ (j : Nat) (xs : List Nat), xss[j]? = some xs → cs[j]? = some (m1 j xs.length) := fun j xs hx => by rw [h2 j xs hx, if_pos (getElem?_lt hx)]
  have old : ∀ (j : Nat) (v : Value) (g : Nat), vs[j]? = some v → v.ownBlock = some g → g < W.heap.size := fun j v g hv hg => by
    have hj : j < cs.length := by rw [← h1.len]; exact getElem?_lt hv
    exact owns_lt (h1.row j v _ hv (List.getElem?_eq_getElem hj)) hg
  refine ⟨⟨cs, h1, fun j xs hx => ?_⟩, fun j _ => rfl, fun j u v g hu hv hg => ?_, old, h1.apart, fun j xs v g hx hv hg l hl2 => ?_, rfl, hl⟩
  · rw [hc j xs hx, if_neg (Nat.not_lt_zero j)]
    split
    · rename_i e; subst e; simp [m2]
    · rfl
  · rw [hu] at hv; cases hv; exact .inl hg
  · have ho := h1.row j v _ hv (hc j xs hx)
    obtain ⟨c, rfl⟩ := block_form ho hg
    exact owns_at ho (m1_at hl2)
theorem Ph2.next {W : World} {base H i : Nat} {vs us : List Value} {xss : List (List Nat)} (h : Ph2 W base H vs xss i 16 us) : Ph2 W base H vs xss (i + 1) 0 us := by
  obtain ⟨⟨cs, h1, h2⟩, h3, h4, h5, h6, h7, h8, h9⟩ := h
  refine ⟨⟨cs, h1, fun j xs hx => ?_⟩, fun j hj => h3 j (by omega), h4, h5, h6, h7, h8, h9⟩
  rw [h2 j xs hx]
  by_cases e1 : j < i
  · rw [if_pos e1, if_pos (by omega)]
  · rw [if_neg e1]
    by_cases e2 : j = i
    · subst e2
      rw [if_pos rfl, if_pos (by omega)]
    · rw [if_neg e2, if_neg (by omega)]
      split
      · rename_i e3; subst e3; simp [m2]
      · rfl
/-- One letter more behind the list. -/
theorem Ph2.grow {W W1 w' : World} {base H i k n g cap : Nat} {vs us : List Value} {xss : List (List Nat)} {xs : List Nat} {xv : Value} (h : Ph2 W base H vs xss i k us) (hx : xss[i]? = some xs) (hu : us[i]? = some xv) (k1 : Kept [] W W1) (hH : H ≤ W.heap.size)
    (hn : n = xs.length + k + 1) (hr : w'.ownsRow base 51 1 (.slice (some ⟨g, 0, none⟩) n cap) n (u16s (m1 i xs.length ++ m2 i k ++ [mark2 i k]))) (hg : W1.grownBy w' xv.ownBlock) (hw : xv.ownBlock = some g ∨ (g = W1.heap.size ∧ Kept [] W1 w')) :
    Ph2 w' base H vs xss i (k + 1) (us.set i (.slice (some ⟨g, 0, none⟩) n cap)) := by
  obtain ⟨⟨cs, h1, h2⟩, h3, h4, h5, h6, h7, h8, h9⟩ := h
  have hil := getElem?_lt hu
  have hiv : i < vs.length := by rw [← h8]; exact hil
  obtain ⟨v, hv⟩ : ∃ v, vs[i]? = some v := ⟨_, List.getElem?_eq_getElem hiv⟩
  have hs1 := k1.size
  have hys : m1 i xs.length ++ m2 i k ++ [mark2 i k] = m1 i xs.length ++ m2 i (k + 1) := by rw [m2_succ, List.append_assoc]
  have hyl : (m1 i xs.length ++ m2 i (k + 1)).length = n := by rw [List.length_append, m1_len, m2_len]; omega
  have same : ∀ (b : Nat), b < W.heap.size → xv.ownBlock ≠ some b → w'.heap[b]? = W.heap[b]? := fun b hb hne => (hg.block b (by omega) (fun e => hne e.symm)).trans (k1.block b hb (by simp))
  have low : ∀ (j : Nat) (u : Value) (b : Nat), us[j]? = some u → u.ownBlock = some b → b < W.heap.size := fun j u b hj hb => by
    have hjc : j < cs.length := by rw [← h1.len]; exact getElem?_lt hj
    exact owns_lt (h1.row j u _ hj (List.getElem?_eq_getElem hjc)) hb
  have hO1 : OwnAll w' base (us.set i (.slice (some ⟨g, 0, none⟩) n cap)) (cs.set i (m1 i xs.length ++ m2 i (k + 1))) := by
    refine h1.swap hu (fun j u b hj hju hb => same b (low j u b hju hb) (fun e => h1.apart i j xv u b (fun e2 => hj e2.symm) hu hju e hb)) (by rw [hyl, ← hys]; exact hr) (fun b hb => ?_)
    obtain rfl : g = b := by simpa [Value.ownBlock] using hb
    rcases hw with hw | hw
    · exact .inl hw
    · exact .inr (by omega)
  refine ⟨⟨_, hO1, fun j ys hy => ?_⟩, fun j hj => ?_, fun j u v' b hju hjv hb => ?_, h5, h6, fun j ys v' b hy hjv hb l hl => ?_, by rw [List.length_set]; exact h8, h9⟩
  · have hic : i < cs.length := by rw [← h1.len]; exact hil
    rw [List.getElem?_set]
    by_cases e : i = j
    · subst e
      rw [if_pos rfl, if_pos hic, if_neg (Nat.lt_irrefl i), if_pos rfl]
      rw [hx] at hy; cases hy; rfl
    · have e' : ¬ j = i := fun e2 => e e2.symm
      rw [if_neg e, h2 j ys hy]
      simp only [e', if_false]
  · rw [List.getElem?_set, if_neg (by omega)]; exact h3 j (by omega)
  · rw [List.getElem?_set] at hju
    by_cases e : i = j
    · subst e
      rw [if_pos rfl, if_pos hil] at hju
      cases hju
      obtain rfl : g = b := by simpa [Value.ownBlock] using hb
      rcases hw with hw | hw
      · exact h4 i xv v' g hu hjv hw
      · exact .inr (by omega)
    · rw [if_neg e] at hju
      exact h4 j u v' b hju hjv hb
  · have hbH := h5 j v' b hjv hb
    have old := h7 j ys v' b hy hjv hb l hl
    by_cases e : xv.ownBlock = some b
    · -- the row that grows lies where the list itself lies: it is that list
      have hji : j = i := by
        rcases Nat.decEq j i with e2 | e2
        · exfalso
          rcases h4 i xv v b hu hv e with q | q
          · exact h6 j i v' v b e2 hjv hv hb q
          · omega
        · exact e2
      subst hji
      rw [hx] at hy; cases hy
      rcases hw with hw | hw
      · rw [e] at hw; cases hw
        refine owns_at (x := mark1 j l) hr ?_
        rw [List.append_assoc, List.getElem?_append_left (by rw [m1_len]; exact hl)]
        exact m1_at hl
      · exact cell_kept0 hw.2 (cell_kept0 k1 old)
    · rw [World.cell?_of_block (w := W) (a := ⟨b, l, none⟩) (same b (by omega) e)]
      exact old
theorem Ph2.keptF {F : List Nat} {W W' : World} {base H i k : Nat} {vs us : List Value} {xss : List (List Nat)} (h : Ph2 W base H vs xss i k us) (kk : Kept F W W') (h1 : ∀ (j : Nat) (u : Value) (g : Nat), us[j]? = some u → u.ownBlock = some g → g ∉ F) (h2 : ∀ g ∈ F, H ≤ g) (hH : H ≤ W.heap.size) : Ph2 W' base H vs xss i k us := by
  obtain ⟨⟨cs, q1, q2⟩, q3, q4, q5, q6, q7, q8, q9⟩ := h
  refine ⟨⟨cs, q1.keptF kk h1, q2⟩, q3, q4, q5, q6, fun j xs v g hx hv hg l hl => ?_, q8, q9⟩
  have hb := q5 j v g hv hg
  rw [World.cell?_of_block (w := W) (a := ⟨g, l, none⟩) (kk.block g (by show g < _; omega) (fun hm => by have := h2 g hm; omega))]
  exact q7 j xs v g hx hv hg l hl
theorem Ph2.rowAt {W : World} {base H i k : Nat} {vs us : List Value} {xss : List (List Nat)} {u : Value} {xs : List Nat} (h : Ph2 W base H vs xss i k us) (hu : us[i]? = some u) (hx : xss[i]? = some xs) : W.ownsRow base 51 1 u (xs.length + k) (u16s (m1 i xs.length ++ m2 i k)) := by
  obtain ⟨cs, q1, q2⟩ := h.own
  have hc := q2 i xs hx
  rw [if_neg (Nat.lt_irrefl i), if_pos rfl] at hc
  have := q1.row i u _ hu hc
  rw [List.length_append, m1_len, m2_len] at this
  exact this
theorem Ph2.whole {W : World} {base H i k j : Nat} {vs us : List Value} {xss : List (List Nat)} {u : Value} {xs : List Nat} (h : Ph2 W base H vs xss i k us) (hj : j < i) (hu : us[j]? = some u) (hx : xss[j]? = some xs) : W.ownsRow base 51 1 u (xs.length + 16) (u16s (m1 j xs.length ++ m2 j 16)) := by
  obtain ⟨cs, q1, q2⟩ := h.own
  have hc := q2 j xs hx
  rw [if_pos hj] at hc
  have := q1.row j u _ hu hc
  rw [List.length_append, m1_len, m2_len] at this
  exact this
end Go.Proofs.YtamfnefnaelgfaaDoor
