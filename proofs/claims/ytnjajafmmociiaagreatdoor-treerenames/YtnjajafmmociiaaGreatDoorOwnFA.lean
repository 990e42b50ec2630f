/- Lists of formulas side by side, each in memory of its own: for Own. -/
import Derived.Test.YtnjajafmmociiaaGreatDoorTrReb
import Derived.OwnWalk
import Derived.Deep.AppendLies
namespace Go.Proofs.YtnjajafmmociiaaGreatDoor
open Go.RowKit Go.Shelf

/-- A formula's three cells. -/
abbrev T3 := Value × Value × Value
def f3s (xs : List T3) : List Value := xs.flatMap fun t => [t.1, t.2.1, t.2.2]
theorem f3s_len (xs : List T3) : (f3s xs).length = xs.length * 3 := by
  induction xs with
  | nil => rfl
  | cons x xs ih => rw [f3s, List.flatMap_cons, List.length_append, ← f3s, ih, List.length_cons]; simp; omega
theorem f3s_app (xs ys : List T3) : f3s (xs ++ ys) = f3s xs ++ f3s ys := by simp [f3s]
theorem f3s_at (xs : List T3) (k : Nat) : (f3s xs)[k * 3]? = (xs[k]?).map (·.1) ∧ (f3s xs)[k * 3 + 1]? = (xs[k]?).map (·.2.1) ∧ (f3s xs)[k * 3 + 2]? = (xs[k]?).map (·.2.2) := by
  induction xs generalizing k with
  | nil => simp [f3s]
  | cons x xs ih =>
    have e : f3s (x :: xs) = x.1 :: x.2.1 :: x.2.2 :: f3s xs := rfl
    cases k with
    | zero => rw [e]; simp
    | succ k =>
      have h := ih k
      rw [e, show (k + 1) * 3 = k * 3 + 3 from by omega]
      simpa using h
theorem f3s_set (xs : List T3) (k : Nat) (x : T3) : f3s (xs.set k x) = (((f3s xs).set (k * 3) x.1).set (k * 3 + 1) x.2.1).set (k * 3 + 2) x.2.2 := by
  induction xs generalizing k with
  | nil => simp [f3s]
  | cons y xs ih =>
    have e : ∀ (z : T3) (zs : List T3), f3s (z :: zs) = z.1 :: z.2.1 :: z.2.2 :: f3s zs := fun _ _ => rfl
    cases k with
    | zero => rw [List.set_cons_zero, e, e]; simp
    | succ k =>
      rw [List.set_cons_succ, e, e, ih, show (k + 1) * 3 = k * 3 + 3 from by omega]
      simp
def set3 (W : World) (g k : Nat) (x : T3) : World := ((W.setCell ⟨g, k * 3, none⟩ x.1).setCell ⟨g, k * 3 + 1, none⟩ x.2.1).setCell ⟨g, k * 3 + 2, none⟩ x.2.2
theorem set3_off (W : World) {g b : Nat} (k : Nat) (x : T3) (h : b ≠ g) : (set3 W g k x).heap[b]? = W.heap[b]? :=
  (Below.heap_setCell _ _ _ _ (by show b ≠ g; exact h)).trans ((Below.heap_setCell _ _ _ _ (by show b ≠ g; exact h)).trans (Below.heap_setCell _ _ _ _ (by show b ≠ g; exact h)))
theorem set3_kept {F : List Nat} {w W : World} {g : Nat} (k : Kept F w W) (hg : g ∈ F ∨ w.heap.size ≤ g) (i : Nat) (x : T3) : Kept F w (set3 W g i x) :=
  ((k.setCell (p := ⟨g, i * 3, none⟩) hg _).setCell (p := ⟨g, i * 3 + 1, none⟩) hg _).setCell (p := ⟨g, i * 3 + 2, none⟩) hg _
theorem own_formF {W : World} {base : Nat} {e : TypeId} {size : Nat} {v : Value} {n : Nat} {xs : List Value} (h : W.ownsRow base e size v n xs) : ∃ ad cap, v = .slice ad n cap := by
  rcases h.2 with ⟨rfl, h0⟩ | ⟨g, cap, cur, rfl, _⟩
  · exact ⟨none, 0, by rw [h0]⟩
  · exact ⟨_, _, rfl⟩
theorem own_baseF {W : World} {base : Nat} {e : TypeId} {size : Nat} {v : Value} {n g : Nat} {xs : List Value} (h : W.ownsRow base e size v n xs) (hg : v.ownBlock = some g) : base ≤ g := by
  rcases h.2 with ⟨rfl, _⟩ | ⟨g', cap, cur, rfl, hb, hc, _⟩
  · cases hg
  · cases hg; exact hb
theorem owns_ltF {W : World} {base : Nat} {e : TypeId} {size : Nat} {v : Value} {n g : Nat} {xs : List Value} (h : W.ownsRow base e size v n xs) (hg : v.ownBlock = some g) : g < W.heap.size := by
  rcases h.2 with ⟨rfl, _⟩ | ⟨g', cap, cur, rfl, hb, hc, _⟩
  · cases hg
  · cases hg; exact lt_of hc
theorem owns_keptFF {F : List Nat} {W W' : World} {base : Nat} {e : TypeId} {size : Nat} {v : Value} {n : Nat} {xs : List Value} (h : W.ownsRow base e size v n xs) (k : Kept F W W') (hF : ∀ g, v.ownBlock = some g → g ∉ F) : W'.ownsRow base e size v n xs := by
  refine ⟨h.1, h.2.imp id ?_⟩
  rintro ⟨g, cap, cur, e1, h1, h2, h3⟩
  exact ⟨g, cap, cur, e1, h1, k.at h2 (hF g (by rw [e1]; rfl)), h3⟩
theorem getElem?_ltF {α : Type} {l : List α} {i : Nat} {a : α} (h : l[i]? = some a) : i < l.length := by
  rcases Nat.lt_or_ge i l.length with h2 | h2
  · exact h2
  · rw [List.getElem?_eq_none h2] at h; cases h
/-- A formula is written over. -/
theorem owns_putF {W : World} {base g n c k : Nat} {x : T3} {xs : List T3} (h : W.ownsRow base 25 3 (.slice (some ⟨g, 0, none⟩) n c) n (f3s xs)) : (set3 W g k x).ownsRow base 25 3 (.slice (some ⟨g, 0, none⟩) n c) n (f3s (xs.set k x)) := by
  rcases h.2 with ⟨e, _⟩ | ⟨g', cap, cur, e, hb, hg, hnc, hcm, hcs, ht⟩
  · cases e
  · cases e
    refine ⟨by have := h.1; simp only [f3s_len, List.length_set] at this ⊢; exact this, .inr ⟨g, c, _, rfl, hb, row_set (row_set (row_set hg _) _) _, hnc, hcm, by simp only [Array.size_setIfInBounds]; exact hcs, ?_⟩⟩
    simp only [Array.toList_setIfInBounds, List.take_set]
    rw [ht, f3s_set]
def triS (s : ByteArray) : T3 := (.int .u8 0, .string s, .slice none 0 0)
/-- The marks: of a list's formulas, of the room behind. -/
def markS (a b : Nat) : ByteArray := ⟨#[UInt8.ofNat (97 + a % 26), UInt8.ofNat (97 + a / 26 % 26), UInt8.ofNat (97 + a / 676 % 26), UInt8.ofNat (97 + b % 26), UInt8.ofNat (97 + b / 26 % 26)]⟩
def minusB : ByteArray := ⟨#[45]⟩
def markN (i k : Nat) : ByteArray := minusB ++ markS (i + 1) k
def mark1F (i k : Nat) : T3 := triS (markS i k)
def mark2F (i k : Nat) : T3 := triS (markN i k)
def m1F (i n : Nat) : List T3 := (List.range n).map (mark1F i)
def m2F (i n : Nat) : List T3 := (List.range n).map (mark2F i)
theorem owns_atF {W : World} {base g n c l : Nat} {x : T3} {xs : List T3} (h : W.ownsRow base 25 3 (.slice (some ⟨g, 0, none⟩) n c) n (f3s xs)) (hx : xs[l]? = some x) : W.cell? ⟨g, l * 3, none⟩ = some x.1 ∧ W.cell? ⟨g, l * 3 + 1, none⟩ = some x.2.1 ∧ W.cell? ⟨g, l * 3 + 2, none⟩ = some x.2.2 := by
  have hl := getElem?_ltF hx
  have h1 : xs.length = n := by have := h.1; rw [f3s_len] at this; omega
  obtain ⟨q1, q2, q3⟩ := f3s_at xs l
  rw [hx] at q1 q2 q3
  refine ⟨?_, ?_, ?_⟩
  · rw [h.cellAt (l * 3) (by omega)]; exact q1
  · rw [h.cellAt (l * 3 + 1) (by omega)]; exact q2
  · rw [h.cellAt (l * 3 + 2) (by omega)]; exact q3
theorem block_formF {v : Value} {g : Nat} {W : World} {base n : Nat} {xs : List Value} (h : W.ownsRow base 25 3 v n xs) (hg : v.ownBlock = some g) : ∃ c, v = .slice (some ⟨g, 0, none⟩) n c := by
  rcases h.2 with ⟨rfl, _⟩ | ⟨g', cap, cur, rfl, _⟩
  · cases hg
  · cases hg; exact ⟨cap, rfl⟩

theorem run_append_keepF {P : Program} (w : World) (t ty : TypeId) (base : Nat) (e : TypeId) (i : TypeInfo) (z : Value) (size bytes : Nat) (ht : P.underlying t = some (.slice e)) (hi : P.info? e = some i) (hz : i.zero = some z)
    (hsize : i.size = size) (hby : i.bytes = bytes) (hzs : z.cells.size = size) (hsz : 0 < size)
    (v : Value) (n : Nat) (xs : List Value) (hown : w.ownsRow base e size v n xs)
    (ad : Addr) (m c : Nat) (news : List Value) (hl : news.length = m * size) (hnews : ∀ j u, news[j]? = some u → w.cell? (ad.add j) = some u) (h1 : ∀ u ∈ news, u.oneCell' = true)
    (hm : 0 < m) (h63 : n + m ≤ maxLen) (hbytes : (n + m) * bytes ≤ 140737488355328) (hbase : base ≤ w.heap.size) :
    ∃ g cap w', (Builtin.append_ #[t, t] ty #[v, .slice (some ad) m c]).run P w = .ok (.slice (some ⟨g, 0, none⟩) (n + m) cap) w' ∧
      w'.ownsRow base e size (.slice (some ⟨g, 0, none⟩) (n + m) cap) (n + m) (xs ++ news) ∧ w.grownBy w' v.ownBlock ∧ (v.ownBlock = some g ∨ (g = w.heap.size ∧ Kept [] w w')) ∧ g < w'.heap.size := by
  obtain ⟨g, cap, w', hr, h2, h3, h4, h5⟩ := run_append_lies (P := P) w t ty base e i z size bytes ht hi hz hsize hby hzs hsz v n xs hown ad m c news hl hnews h1 hm h63 hbytes hbase _ rfl
  refine ⟨g, cap, w', hr, h2, h3, ?_, h5⟩
  have hsmall : n + m ≤ 9223372036854775807 := by simp only [maxLen] at h63; omega
  rcases h4 with h4 | h4
  · exact .inl h4
  · subst hsize hby
    rcases hown.2 with ⟨rfl, rfl⟩ | ⟨g0, cap0, cur, rfl, hbg, hg, hnc, hcm, hcs, htake⟩
    · have hr2 := run_append_nil (P := P) w t ty e i z ht hi hz ad m c news hl hnews hm (by omega) (by have hb := hbytes; rw [Nat.zero_add] at hb; omega)
      have e := (Result.ok.inj (hr.symm.trans hr2)).2
      exact .inr ⟨h4, by rw [e]; exact ((Kept.refl [] w).drew).alloc _⟩
    · by_cases hroom : n + m ≤ cap0
      · obtain ⟨w2, hr2, _⟩ := run_append_fits (P := P) w base t ty e i i.size ht hi rfl g0 n cap0 xs hown ad m c news hl hnews h1 hroom
        rw [hr] at hr2
        cases hr2
        exact .inl rfl
      · have holds : ∀ j u, xs[j]? = some u → w.cell? ((⟨g0, 0, none⟩ : Addr).add j) = some u := hown.cells (g := g0) rfl
        have hr2 := run_append_grow (P := P) w t ty e i z ht hi hz ⟨g0, 0, none⟩ n cap0 xs hown.1 holds ad m c news hl hnews (by omega) (by omega) (growslice_fits (by omega) hbytes)
        rw [hr] at hr2
        cases hr2
        exact .inr ⟨h4, ((Kept.refl [] w).drew).alloc _⟩

/-- Each list has a row of its own. -/
structure OwnAllF (W : World) (base : Nat) (vs : List Value) (xss : List (List T3)) : Prop where
  len : vs.length = xss.length
  row : ∀ (i : Nat) (v : Value) (xs : List T3), vs[i]? = some v → xss[i]? = some xs → W.ownsRow base 25 3 v xs.length (f3s xs)
  apart : ∀ (i j : Nat) (v u : Value) (g : Nat), i ≠ j → vs[i]? = some v → vs[j]? = some u → v.ownBlock = some g → u.ownBlock ≠ some g
theorem OwnAllF.keptF {F : List Nat} {W W' : World} {base : Nat} {vs : List Value} {xss : List (List T3)} (h : OwnAllF W base vs xss) (k : Kept F W W') (hF : ∀ (i : Nat) (v : Value) (g : Nat), vs[i]? = some v → v.ownBlock = some g → g ∉ F) : OwnAllF W' base vs xss :=
  ⟨h.len, fun i v xs h1 h2 => owns_keptFF (h.row i v xs h1 h2) k (fun g hg => hF i v g h1 hg), h.apart⟩
theorem OwnAllF.kept {W W' : World} {base : Nat} {vs : List Value} {xss : List (List T3)} (h : OwnAllF W base vs xss) (k : Kept [] W W') : OwnAllF W' base vs xss := h.keptF k (by simp)
/-- Another row in the place of one. -/
theorem OwnAllF.swap {W W' : World} {base i : Nat} {vs : List Value} {xss : List (List T3)} {v v' : Value} {ys : List T3} (h : OwnAllF W base vs xss) (hi : vs[i]? = some v) (hg : ∀ (j : Nat) (u : Value) (g : Nat), j ≠ i → vs[j]? = some u → u.ownBlock = some g → W'.heap[g]? = W.heap[g]?) (hr : W'.ownsRow base 25 3 v' ys.length (f3s ys)) (hb : ∀ g, v'.ownBlock = some g → v.ownBlock = some g ∨ W.heap.size ≤ g) : OwnAllF W' base (vs.set i v') (xss.set i ys) := by
  have hlt : i < vs.length := by
    rcases Nat.lt_or_ge i vs.length with h | h
    · exact h
    · rw [List.getElem?_eq_none h] at hi; cases hi
  have old : ∀ (j : Nat) (u : Value), j ≠ i → vs[j]? = some u → ∀ g, u.ownBlock = some g → g < W.heap.size := fun j u hj hu g hgg => by
    have hjl : j < xss.length := by
      rw [← h.len]
      rcases Nat.lt_or_ge j vs.length with h | h
      · exact h
      · rw [List.getElem?_eq_none h] at hu; cases hu
    exact owns_ltF (h.row j u _ hu (List.getElem?_eq_getElem hjl)) hgg
  refine ⟨by simp [h.len], fun j u xs h1 h2 => ?_, fun j k u t g hjk h1 h2 h3 h4 => ?_⟩
  · rw [List.getElem?_set] at h1 h2
    by_cases e : i = j
    · subst e
      rw [if_pos rfl] at h1 h2
      rw [if_pos hlt] at h1
      rw [if_pos (by rw [← h.len]; exact hlt)] at h2
      cases h1
      cases h2
      exact hr
    · rw [if_neg e] at h1 h2
      have ho := h.row j u xs h1 h2
      refine ⟨ho.1, ho.2.imp id ?_⟩
      rintro ⟨g, cap, cur, e1, q1, q2, q3⟩
      exact ⟨g, cap, cur, e1, q1, (hg j u g (fun e2 => e e2.symm) h1 (by rw [e1]; rfl)).trans q2, q3⟩
  · rw [List.getElem?_set] at h1 h2
    by_cases ej : i = j
    · subst ej
      rw [if_pos rfl, if_pos hlt] at h1
      cases h1
      rw [if_neg hjk] at h2
      rcases hb g h3 with q | q
      · exact h.apart i k v t g hjk hi h2 q h4
      · have := old k t (fun e => hjk e.symm) h2 g h4; omega
    · rw [if_neg ej] at h1
      by_cases ek : i = k
      · subst ek
        rw [if_pos rfl, if_pos hlt] at h2
        cases h2
        rcases hb g h4 with q | q
        · exact h.apart i j v u g (fun e => ej e) hi h1 q h3
        · have := old j u (fun e => ej e.symm) h1 g h3; omega
      · rw [if_neg ek] at h2
        exact h.apart j k u t g hjk h1 h2 h3 h4
/-- One letter of one row. -/
theorem OwnAllF.write {W : World} {base i g n c k : Nat} {x : T3} {vs : List Value} {xss : List (List T3)} {xs : List T3} (h : OwnAllF W base vs xss) (hi : vs[i]? = some (.slice (some ⟨g, 0, none⟩) n c)) (hx : xss[i]? = some xs) : OwnAllF (set3 W g k x) base vs (xss.set i (xs.set k x)) := by
  have ho := h.row i _ xs hi hx
  have hn : n = xs.length := by
    rcases ho.2 with ⟨e, _⟩ | ⟨_, _, _, e, _⟩
    · cases e
    · cases e; rfl
  subst hn
  have hs : vs = vs.set i (.slice (some ⟨g, 0, none⟩) xs.length c) := by
    apply List.ext_getElem?
    intro j
    rw [List.getElem?_set]
    split
    · rename_i e; subst e
      rw [hi]
      split
      · rfl
      · rename_i hl; rw [List.getElem?_eq_none (by omega)] at hi; cases hi
    · rfl
  rw [hs]
  refine h.swap hi (fun j u g' hj hu hg' => ?_) (by have := owns_putF (k := k) (x := x) ho; rw [List.length_set]; exact this) (fun g' hg' => .inl hg')
  exact set3_off _ _ _ (fun e' => by
    subst e'
    exact h.apart i j _ u g' (fun e2 => hj e2.symm) hi hu rfl hg')

theorem m1_lenF (i n : Nat) : (m1F i n).length = n := by simp [m1F]
theorem m2_lenF (i n : Nat) : (m2F i n).length = n := by simp [m2F]
theorem m1_succF (i n : Nat) : m1F i (n + 1) = m1F i n ++ [mark1F i n] := by unfold m1F; rw [List.range_succ, List.map_append]; rfl
theorem m2_succF (i n : Nat) : m2F i (n + 1) = m2F i n ++ [mark2F i n] := by unfold m2F; rw [List.range_succ, List.map_append]; rfl
theorem m1_atF {i n k : Nat} (h : k < n) : (m1F i n)[k]? = some (mark1F i k) := by simp [m1F, h]
theorem m2_atF {i n k : Nat} (h : k < n) : (m2F i n)[k]? = some (mark2F i k) := by simp [m2F, h]
/-- A letter more is marked. -/
theorem mark_stepF {xs : List T3} {i k : Nat} (h : k < xs.length) : (m1F i k ++ xs.drop k).set k (mark1F i k) = m1F i (k + 1) ++ xs.drop (k + 1) := by
  rw [List.set_append_right _ _ (by rw [m1_lenF]; exact Nat.le_refl _), m1_lenF, Nat.sub_self, ← List.getElem_cons_drop h, List.set_cons_zero, m1_succF, List.append_assoc]
  rfl
/-- How far the letters are marked. -/
def Ph1F (W : World) (base : Nat) (vs : List Value) (xss : List (List T3)) (i k : Nat) : Prop := ∃ cs, OwnAllF W base vs cs ∧ ∀ (j : Nat) (xs : List T3), xss[j]? = some xs → cs[j]? = some (if j < i then m1F j xs.length else if j = i then m1F i k ++ xs.drop k else xs)
theorem Ph1F.start {W : World} {base : Nat} {vs : List Value} {xss : List (List T3)} (h : OwnAllF W base vs xss) : Ph1F W base vs xss 0 0 := ⟨xss, h, fun j xs hx => by
  rw [hx, if_neg (Nat.not_lt_zero j)]
  split <;> simp [m1F]⟩
theorem Ph1F.next {W : World} {base i : Nat} {vs : List Value} {xss : List (List T3)} {xs : List T3} (h : Ph1F W base vs xss i xs.length) (hx : xss[i]? = some xs) : Ph1F W base vs xss (i + 1) 0 := by
  obtain ⟨cs, h1, h2⟩ := h
  refine ⟨cs, h1, fun j ys hy => ?_⟩
  rw [h2 j ys hy]
  by_cases e1 : j < i
  · rw [if_pos e1, if_pos (by omega)]
  · rw [if_neg e1]
    by_cases e2 : j = i
    · subst e2
      rw [if_pos rfl, if_pos (by omega)]
      rw [hx] at hy
      cases hy
      rw [List.drop_length, List.append_nil]
    · rw [if_neg e2, if_neg (by omega)]
      split
      · rename_i e3; subst e3; simp [m1F]
      · rfl
theorem Ph1F.write {W : World} {base i k g n c : Nat} {vs : List Value} {xss : List (List T3)} {xs : List T3} (h : Ph1F W base vs xss i k) (hv : vs[i]? = some (.slice (some ⟨g, 0, none⟩) n c)) (hx : xss[i]? = some xs) (hk : k < xs.length) : Ph1F (set3 W g k (mark1F i k)) base vs xss i (k + 1) := by
  obtain ⟨cs, h1, h2⟩ := h
  have hc : cs[i]? = some (m1F i k ++ xs.drop k) := by rw [h2 i xs hx, if_neg (Nat.lt_irrefl i), if_pos rfl]
  refine ⟨_, h1.write (x := mark1F i k) (k := k) hv hc, fun j ys hy => ?_⟩
  rw [List.getElem?_set]
  have hlt : i < cs.length := by
    rcases Nat.lt_or_ge i cs.length with h | h
    · exact h
    · rw [List.getElem?_eq_none h] at hc; cases hc
  by_cases e : i = j
  · subst e
    rw [if_pos rfl, if_pos hlt, if_neg (Nat.lt_irrefl i), if_pos rfl, mark_stepF hk]
    rw [hx] at hy
    cases hy
    rfl
  · rw [if_neg e, h2 j ys hy]
    have e' : ¬ j = i := fun e2 => e e2.symm
    simp only [e', if_false]
theorem Ph1F.kept {W W' : World} {base i k : Nat} {vs : List Value} {xss : List (List T3)} (h : Ph1F W base vs xss i k) (kk : Kept [] W W') : Ph1F W' base vs xss i k := by
  obtain ⟨cs, h1, h2⟩ := h
  exact ⟨cs, h1.kept kk, h2⟩

/-- How far the lists have grown: i of them whole, the next one by k. -/
structure Ph2F (W : World) (base H : Nat) (vs : List Value) (xss : List (List T3)) (i k : Nat) (us : List Value) : Prop where
  own : ∃ cs, OwnAllF W base us cs ∧ ∀ (j : Nat) (xs : List T3), xss[j]? = some xs → cs[j]? = some (if j < i then m1F j xs.length ++ m2F j 16 else if j = i then m1F i xs.length ++ m2F i k else m1F j xs.length)
  rest : ∀ j, (i < j ∨ (i = j ∧ k = 0)) → us[j]? = vs[j]?
  from_ : ∀ (j : Nat) (u v : Value) (g : Nat), us[j]? = some u → vs[j]? = some v → u.ownBlock = some g → v.ownBlock = some g ∨ H ≤ g
  old : ∀ (j : Nat) (v : Value) (g : Nat), vs[j]? = some v → v.ownBlock = some g → g < H
  apart : ∀ (j l : Nat) (v u : Value) (g : Nat), j ≠ l → vs[j]? = some v → vs[l]? = some u → v.ownBlock = some g → u.ownBlock ≠ some g
  first : ∀ (j : Nat) (xs : List T3) (v : Value) (g : Nat), xss[j]? = some xs → vs[j]? = some v → v.ownBlock = some g → ∀ l, l < xs.length → W.cell? ⟨g, l * 3 + 1, none⟩ = some (mark1F j l).2.1
  len : us.length = vs.length
  lens : vs.length = xss.length
theorem Ph2F.start {W : World} {base : Nat} {vs : List Value} {xss : List (List T3)} (h : Ph1F W base vs xss xss.length 0) (hl : vs.length = xss.length) : Ph2F W base W.heap.size vs xss 0 0 vs := by
  obtain ⟨cs, h1, h2⟩ := h
  have hc : ∀ (j : Nat) (xs : List T3), xss[j]? = some xs → cs[j]? = some (m1F j xs.length) := fun j xs hx => by rw [h2 j xs hx, if_pos (getElem?_ltF hx)]
  have old : ∀ (j : Nat) (v : Value) (g : Nat), vs[j]? = some v → v.ownBlock = some g → g < W.heap.size := fun j v g hv hg => by
    have hj : j < cs.length := by rw [← h1.len]; exact getElem?_ltF hv
    exact owns_ltF (h1.row j v _ hv (List.getElem?_eq_getElem hj)) hg
  refine ⟨⟨cs, h1, fun j xs hx => ?_⟩, fun j _ => rfl, fun j u v g hu hv hg => ?_, old, h1.apart, fun j xs v g hx hv hg l hl2 => ?_, rfl, hl⟩
  · rw [hc j xs hx, if_neg (Nat.not_lt_zero j)]
    split
    · rename_i e; subst e; simp [m2F]
    · rfl
  · rw [hu] at hv; cases hv; exact .inl hg
  · have ho := h1.row j v _ hv (hc j xs hx)
    obtain ⟨c, rfl⟩ := block_formF ho hg
    exact (owns_atF ho (m1_atF hl2)).2.1
theorem Ph2F.next {W : World} {base H i : Nat} {vs us : List Value} {xss : List (List T3)} (h : Ph2F W base H vs xss i 16 us) : Ph2F W base H vs xss (i + 1) 0 us := by
  obtain ⟨⟨cs, h1, h2⟩, h3, h4, h5, h6, h7, h8, h9⟩ := h
  refine ⟨⟨cs, h1, fun j xs hx => ?_⟩, fun j hj => h3 j (by omega), h4, h5, h6, h7, h8, h9⟩
  rw [h2 j xs hx]
  by_cases e1 : j < i
  · rw [if_pos e1, if_pos (by omega)]
  · rw [if_neg e1]
    by_cases e2 : j = i
    · subst e2
      rw [if_pos rfl, if_pos (by omega)]
    · rw [if_neg e2, if_neg (by omega)]
      split
      · rename_i e3; subst e3; simp [m2F]
      · rfl
/-- One letter more behind the list. -/
theorem Ph2F.grow {W W1 w' : World} {base H i k n g cap : Nat} {vs us : List Value} {xss : List (List T3)} {xs : List T3} {xv : Value} (h : Ph2F W base H vs xss i k us) (hx : xss[i]? = some xs) (hu : us[i]? = some xv) (k1 : Kept [] W W1) (hH : H ≤ W.heap.size)
    (hn : n = xs.length + k + 1) (hr : w'.ownsRow base 25 3 (.slice (some ⟨g, 0, none⟩) n cap) n (f3s (m1F i xs.length ++ m2F i k ++ [mark2F i k]))) (hg : W1.grownBy w' xv.ownBlock) (hw : xv.ownBlock = some g ∨ (g = W1.heap.size ∧ Kept [] W1 w')) :
    Ph2F w' base H vs xss i (k + 1) (us.set i (.slice (some ⟨g, 0, none⟩) n cap)) := by
  obtain ⟨⟨cs, h1, h2⟩, h3, h4, h5, h6, h7, h8, h9⟩ := h
  have hil := getElem?_ltF hu
  have hiv : i < vs.length := by rw [← h8]; exact hil
  obtain ⟨v, hv⟩ : ∃ v, vs[i]? = some v := ⟨_, List.getElem?_eq_getElem hiv⟩
  have hs1 := k1.size
  have hys : m1F i xs.length ++ m2F i k ++ [mark2F i k] = m1F i xs.length ++ m2F i (k + 1) := by rw [m2_succF, List.append_assoc]
  have hyl : (m1F i xs.length ++ m2F i (k + 1)).length = n := by rw [List.length_append, m1_lenF, m2_lenF]; omega
  have same : ∀ (b : Nat), b < W.heap.size → xv.ownBlock ≠ some b → w'.heap[b]? = W.heap[b]? := fun b hb hne => (hg.block b (by omega) (fun e => hne e.symm)).trans (k1.block b hb (by simp))
  have low : ∀ (j : Nat) (u : Value) (b : Nat), us[j]? = some u → u.ownBlock = some b → b < W.heap.size := fun j u b hj hb => by
    have hjc : j < cs.length := by rw [← h1.len]; exact getElem?_ltF hj
    exact owns_ltF (h1.row j u _ hj (List.getElem?_eq_getElem hjc)) hb
  have hO1 : OwnAllF w' base (us.set i (.slice (some ⟨g, 0, none⟩) n cap)) (cs.set i (m1F i xs.length ++ m2F i (k + 1))) := by
    refine h1.swap hu (fun j u b hj hju hb => same b (low j u b hju hb) (fun e => h1.apart i j xv u b (fun e2 => hj e2.symm) hu hju e hb)) (by rw [hyl, ← hys]; exact hr) (fun b hb => ?_)
    obtain rfl : g = b := by simpa [Value.ownBlock] using hb
    rcases hw with hw | hw
    · exact .inl hw
    · exact .inr (by omega)
  refine ⟨⟨_, hO1, fun j ys hy => ?_⟩, fun j hj => ?_, fun j u v' b hju hjv hb => ?_, h5, h6, fun j ys v' b hy hjv hb l hl => ?_, by rw [List.length_set]; exact h8, h9⟩
  · have hic : i < cs.length := by rw [← h1.len]; exact hil
    rw [List.getElem?_set]
    by_cases e : i = j
    · subst e
      rw [if_pos rfl, if_pos hic, if_neg (Nat.lt_irrefl i), if_pos rfl]
      rw [hx] at hy; cases hy; rfl
    · have e' : ¬ j = i := fun e2 => e e2.symm
      rw [if_neg e, h2 j ys hy]
      simp only [e', if_false]
  · rw [List.getElem?_set, if_neg (by omega)]; exact h3 j (by omega)
  · rw [List.getElem?_set] at hju
    by_cases e : i = j
    · subst e
      rw [if_pos rfl, if_pos hil] at hju
      cases hju
      obtain rfl : g = b := by simpa [Value.ownBlock] using hb
      rcases hw with hw | hw
      · exact h4 i xv v' g hu hjv hw
      · exact .inr (by omega)
    · rw [if_neg e] at hju
      exact h4 j u v' b hju hjv hb
  · have hbH := h5 j v' b hjv hb
    have old := h7 j ys v' b hy hjv hb l hl
    by_cases e : xv.ownBlock = some b
    · -- the row that grows lies where the list itself lies: it is that list
      have hji : j = i := by
        rcases Nat.decEq j i with e2 | e2
        · exfalso
          rcases h4 i xv v b hu hv e with q | q
          · exact h6 j i v' v b e2 hjv hv hb q
          · omega
        · exact e2
      subst hji
      rw [hx] at hy; cases hy
      rcases hw with hw | hw
      · rw [e] at hw; cases hw
        refine (owns_atF (x := mark1F j l) hr ?_).2.1
        rw [List.append_assoc, List.getElem?_append_left (by rw [m1_lenF]; exact hl)]
        exact m1_atF hl
      · exact cell_kept0 hw.2 (cell_kept0 k1 old)
    · rw [World.cell?_of_block (w := W) (a := ⟨b, l * 3 + 1, none⟩) (same b (by omega) e)]
      exact old
theorem Ph2F.keptF {F : List Nat} {W W' : World} {base H i k : Nat} {vs us : List Value} {xss : List (List T3)} (h : Ph2F W base H vs xss i k us) (kk : Kept F W W') (h1 : ∀ (j : Nat) (u : Value) (g : Nat), us[j]? = some u → u.ownBlock = some g → g ∉ F) (h2 : ∀ g ∈ F, H ≤ g) (hH : H ≤ W.heap.size) : Ph2F W' base H vs xss i k us := by
  obtain ⟨⟨cs, q1, q2⟩, q3, q4, q5, q6, q7, q8, q9⟩ := h
  refine ⟨⟨cs, q1.keptF kk h1, q2⟩, q3, q4, q5, q6, fun j xs v g hx hv hg l hl => ?_, q8, q9⟩
  have hb := q5 j v g hv hg
  rw [World.cell?_of_block (w := W) (a := ⟨g, l * 3 + 1, none⟩) (kk.block g (by show g < _; omega) (fun hm => by have := h2 g hm; omega))]
  exact q7 j xs v g hx hv hg l hl
theorem Ph2F.rowAt {W : World} {base H i k : Nat} {vs us : List Value} {xss : List (List T3)} {u : Value} {xs : List T3} (h : Ph2F W base H vs xss i k us) (hu : us[i]? = some u) (hx : xss[i]? = some xs) : W.ownsRow base 25 3 u (xs.length + k) (f3s (m1F i xs.length ++ m2F i k)) := by
  obtain ⟨cs, q1, q2⟩ := h.own
  have hc := q2 i xs hx
  rw [if_neg (Nat.lt_irrefl i), if_pos rfl] at hc
  have := q1.row i u _ hu hc
  rw [List.length_append, m1_lenF, m2_lenF] at this
  exact this
theorem Ph2F.whole {W : World} {base H i k j : Nat} {vs us : List Value} {xss : List (List T3)} {u : Value} {xs : List T3} (h : Ph2F W base H vs xss i k us) (hj : j < i) (hu : us[j]? = some u) (hx : xss[j]? = some xs) : W.ownsRow base 25 3 u (xs.length + 16) (f3s (m1F j xs.length ++ m2F j 16)) := by
  obtain ⟨cs, q1, q2⟩ := h.own
  have hc := q2 j xs hx
  rw [if_pos hj] at hc
  have := q1.row j u _ hu hc
  rw [List.length_append, m1_lenF, m2_lenF] at this
  exact this
end Go.Proofs.YtnjajafmmociiaaGreatDoor
