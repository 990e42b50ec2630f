/- The law's own search (augurlaw17.ends): what it carries, and what it tells. -/
import Derived.Test.YtbbfajbnklgncaaHK
namespace Go.Proofs.Ytbbfajbnklgncaa
open Go.RowKit Go.Shelf Go.Maps

/-- One state is reached from another one. -/
inductive Reach (next : List (List Int)) : Nat → Nat → Prop
  | here {s : Nat} : Reach next s s
  | step {s t u : Nat} : (t : Int) ∈ next.getD s [] → Reach next t u → Reach next s u
theorem Reach.more {next : List (List Int)} {s t u : Nat} (h : Reach next s t) (hu : (u : Int) ∈ next.getD t []) : Reach next s u := by
  induction h with
  | here => exact .step hu .here
  | step h1 _ ih => exact .step h1 (ih hu)
theorem other_of {next : List (List Int)} {out : List Nat} {s t : Nat} (h : (t : Int) ∈ next.getD s []) (ho : out.getD t 0 ≠ out.getD s 0) : (next.getD s []).any (otherB out s) = true := by
  rw [List.any_eq_true]
  exact ⟨_, h, by unfold otherB; rw [Int.toNat_natCast]; exact decide_eq_true ho⟩
theorem notFin_reach {next : List (List Int)} {out : List Nat} (hr : RightR next) {s : Nat} (h : NotFin next out s) : s < next.length → ∃ t, Reach next s t ∧ out.getD t 0 ≠ out.getD s 0 := by
  induction h with
  | @base s hb =>
    intro hs
    rw [List.any_eq_true] at hb
    obtain ⟨x, hx, ho⟩ := hb
    have hin : next.getD s [] ∈ next := by rw [List.getD_eq_getElem?_getD, List.getElem?_eq_getElem hs]; exact List.getElem_mem _
    have h2 := (hr.row _ hin).2.2 x hx
    obtain ⟨t, rfl⟩ : ∃ t : Nat, x = (t : Int) := ⟨x.toNat, by omega⟩
    refine ⟨t, .step hx .here, ?_⟩
    unfold otherB at ho
    rw [Int.toNat_natCast] at ho
    exact of_decide_eq_true ho
  | @step s t ht _ ih =>
    intro hs
    have hin : next.getD s [] ∈ next := by rw [List.getD_eq_getElem?_getD, List.getElem?_eq_getElem hs]; exact List.getElem_mem _
    have h2 := (hr.row _ hin).2.2 _ ht
    obtain ⟨u, hu, ho⟩ := ih (by omega)
    by_cases e : out.getD t 0 = out.getD s 0
    · exact ⟨u, .step ht hu, by rw [← e]; exact ho⟩
    · exact ⟨t, .step ht .here, e⟩
theorem notFin_of_reach {next : List (List Int)} {out : List Nat} {s t : Nat} (h : Reach next s t) : out.getD t 0 ≠ out.getD s 0 → NotFin next out s := by
  induction h with
  | here => intro h; exact absurd rfl h
  | @step s u t h1 _ ih =>
    intro ho
    by_cases e : out.getD u 0 = out.getD s 0
    · exact .step h1 (ih (by rw [e]; exact ho))
    · exact .base (other_of h1 e)
/-- The states that are met, those ahead of the i-th looked at. -/
structure Met (next : List (List Int)) (out : List Nat) (s i : Nat) (L : List Nat) : Prop where
  from_ : ∀ t ∈ L, Reach next s t
  start : s ∈ L
  shut : ∀ j x, j < i → L[j]? = some x → out.getD x 0 = out.getD s 0 ∧ ∀ u : Nat, (u : Int) ∈ next.getD x [] → u ∈ L
theorem Met.first (next : List (List Int)) (out : List Nat) (s : Nat) : Met next out s 0 [s] :=
  ⟨fun t ht => by rw [List.mem_singleton.1 ht]; exact .here, List.mem_singleton.2 rfl, fun j x hj => by omega⟩
theorem Met.push {next : List (List Int)} {out : List Nat} {s i x u : Nat} {L : List Nat} (h : Met next out s i L) (hx : L[i]? = some x) (hu : (u : Int) ∈ next.getD x []) : Met next out s i (L ++ [u]) := by
  have hil : i < L.length := (List.getElem?_eq_some_iff.1 hx).1
  refine ⟨fun t ht => ?_, List.mem_append_left _ h.start, fun j y hj hy => ?_⟩
  · rcases List.mem_append.1 ht with q | q
    · exact h.from_ t q
    · rw [List.mem_singleton.1 q]; exact (h.from_ x (List.mem_of_getElem? hx)).more hu
  · rw [List.getElem?_append_left (by omega)] at hy
    obtain ⟨q1, q2⟩ := h.shut j y hj hy
    exact ⟨q1, fun v hv => List.mem_append_left _ (q2 v hv)⟩
theorem Met.next {next : List (List Int)} {out : List Nat} {s i x : Nat} {L : List Nat} (h : Met next out s i L) (hx : L[i]? = some x) (ho : out.getD x 0 = out.getD s 0) (hq : ∀ u : Nat, (u : Int) ∈ next.getD x [] → u ∈ L) : Met next out s (i + 1) L :=
  ⟨h.from_, h.start, fun j y hj hy => by
    rcases Nat.lt_or_ge j i with q | q
    · exact h.shut j y q hy
    · obtain rfl : j = i := by omega
      rw [hx] at hy
      cases hy
      exact ⟨ho, hq⟩⟩
theorem Met.done {next : List (List Int)} {out : List Nat} {s : Nat} {L : List Nat} (h : Met next out s L.length L) (hr : RightR next) (hs : s < next.length) : ¬ NotFin next out s := by
  intro hn
  obtain ⟨t, ht, ho⟩ := notFin_reach hr hn hs
  have key : ∀ a b, Reach next a b → a ∈ L → b ∈ L := by
    intro a b hab
    induction hab with
    | here => exact fun h => h
    | @step a u b h1 _ ih =>
      intro ha
      obtain ⟨j, hj, hja⟩ := List.getElem_of_mem ha
      exact ih ((h.shut j a hj (by rw [List.getElem?_eq_getElem hj, hja])).2 u h1)
  obtain ⟨j, hj, hjt⟩ := List.getElem_of_mem (key s t ht h.start)
  exact ho (h.shut j t hj (by rw [List.getElem?_eq_getElem hj, hjt])).1
/-- The search in memory. -/
structure SeenS (W : World) (base SB n : Nat) (rv : Value) (sn : List Bool) (L : List Nat) : Prop where
  row : W.heap[SB]? = some (.cells (sn.map Value.bool).toArray 4 (0, 0))
  low : base ≤ SB
  len : sn.length = n
  own : W.ownsRow base 3 1 rv L.length (numsN L)
  is : ∀ s, s < n → sn.getD s false = decide (s ∈ L)
  lt : ∀ s ∈ L, s < n
  count : sn.countP id = L.length
  few : n ≤ 1000000
theorem SeenS.kept {W W' : World} {base SB n : Nat} {rv : Value} {sn : List Bool} {L : List Nat} (h : SeenS W base SB n rv sn L) (k : Kept [] W W') : SeenS W' base SB n rv sn L :=
  ⟨k.at h.row (by simp), h.low, h.len, bx_kept h.own k (by simp), h.is, h.lt, h.count, h.few⟩
theorem SeenS.off {W : World} {base SB n g : Nat} {rv : Value} {sn : List Bool} {L : List Nat} (h : SeenS W base SB n rv sn L) (hg : rv.ownBlock = some g) : g ≠ SB ∧ base ≤ g := by
  rcases h.own.2 with ⟨rfl, _⟩ | ⟨g', cap, cur, rfl, hb, hw, _⟩
  · cases hg
  · cases hg
    refine ⟨?_, hb⟩
    intro e; subst e; rw [h.row] at hw; injection hw with hw; injection hw with _ hw _; exact absurd hw (by decide)
theorem SeenS.cell {W : World} {base SB n : Nat} {rv : Value} {sn : List Bool} {L : List Nat} (h : SeenS W base SB n rv sn L) {s : Nat} (hs : s < n) : W.cell? ⟨SB, s, none⟩ = some (.bool (decide (s ∈ L))) ∧ W.frozen? ⟨SB, s, none⟩ = false := by
  have hl : s < sn.length := by rw [h.len]; exact hs
  refine ⟨?_, free_of h.row s⟩
  rw [← h.is s hs, cell_of h.row]
  simp [List.getElem?_eq_getElem hl, List.getD_eq_getElem?_getD]
theorem SeenS.few_len {W : World} {base SB n : Nat} {rv : Value} {sn : List Bool} {L : List Nat} (h : SeenS W base SB n rv sn L) : L.length ≤ n := by
  rw [← h.count, ← h.len]; exact List.countP_le_length
theorem SeenS.form {W : World} {base SB n : Nat} {rv : Value} {sn : List Bool} {L : List Nat} (h : SeenS W base SB n rv sn L) : ∃ ad c, rv = .slice ad L.length c ∧ ∀ j, j < L.length → ∃ g, ad = some ⟨g, 0, none⟩ ∧ W.cell? ⟨g, j, none⟩ = some (.int .i64 (L.getD j 0 : Nat)) := by
  rcases h.own.2 with ⟨e, h0⟩ | ⟨g, cap, cur, e, hb, hw, h3, h4, h5, h6⟩
  · exact ⟨none, 0, by rw [e, h0], fun j hj => by omega⟩
  · refine ⟨_, cap, e, fun j hj => ⟨g, rfl, ?_⟩⟩
    rw [cell_of hw]
    have hx2 := numsN_at hj
    rw [show L[j] = L.getD j 0 from by rw [List.getD_eq_getElem?_getD, List.getElem?_eq_getElem hj]; rfl] at hx2
    rw [← h6, List.getElem?_take] at hx2
    split at hx2
    · rw [← Array.getElem?_toList]; exact hx2
    · cases hx2
theorem SeenS.push {W : World} {base SB n s : Nat} {rv : Value} {sn : List Bool} {L : List Nat} (h : SeenS W base SB n rv sn L) (hs : s < n) (hL : s ∉ L) :
    ∃ gr cap w2, (∀ ty, (Builtin.append_ #[83, 83] ty #[rv, .slice (some ⟨W.heap.size, 0, none⟩) 1 1]).run Try.prog ((W.setCell ⟨SB, s, none⟩ (.bool true)).alloc (.cells #[.int .i64 (s : Nat)] 3)) = .ok (.slice (some ⟨gr, 0, none⟩) (L.length + 1) cap) w2) ∧
      SeenS w2 base SB n (.slice (some ⟨gr, 0, none⟩) (L.length + 1) cap) (sn.set s true) (L ++ [s]) ∧ ∀ w, Kept [] w W → w.heap.size ≤ base → Kept [] w w2 := by
  obtain ⟨inf, hi, hz, hss, hb⟩ := info_parts Try.infoInR
  obtain ⟨Y, hY⟩ : ∃ Y, (W.setCell ⟨SB, s, none⟩ (.bool true)).alloc (.cells #[.int .i64 (s : Nat)] 3) = Y := ⟨_, rfl⟩
  have hsz : (W.setCell ⟨SB, s, none⟩ (.bool true)).heap.size = W.heap.size := by simp [World.setCell]
  have kY : Kept [SB] W Y := by rw [← hY]; exact ((Kept.refl [SB] W).setCell (.inl (by simp)) _).alloc _
  have hA : Y.cell? ⟨W.heap.size, 0, none⟩ = some (.int .i64 (s : Nat)) := by rw [← hY, ← hsz]; exact (cell_of (al0 _ _) 0).trans rfl
  have hlen := h.few_len
  have hfew := h.few
  have ho : Y.ownsRow base 3 1 rv L.length (numsN L) := bx_kept h.own kY (fun g hg => by have := (h.off hg).1; simpa using this)
  have hfr : Y.heap[SB]? = some (.cells (((sn.set s true).map Value.bool)).toArray 4 (0, 0)) := by
    rw [← hY]
    refine alUp ?_ _
    have e9 : (sn.map Value.bool).toArray.setIfInBounds s (.bool true) = ((sn.set s true).map Value.bool).toArray := by
      rw [List.map_set]
      apply Array.ext'
      rw [Array.toList_setIfInBounds]
    rw [bx_set h.row, e9]
  have hbase : base ≤ Y.heap.size := by have := lt_of h.row; have := kY.size; have := h.low; omega
  obtain ⟨gr, cap, w2, g1, g2, g3, g4, g5⟩ := run_append_lies (P := Try.prog) Y 83 0 base 3 inf (.int .i64 0) 1 8 Try.underlying83 hi hz hss hb rfl (by decide) rv L.length (numsN L) ho ⟨W.heap.size, 0, none⟩ 1 1 [.int .i64 (s : Nat)] rfl (fun j u hj => by
    cases j with
    | zero => cases hj; exact hA
    | succ j => simp at hj) (by intro u hu; simp at hu; subst hu; rfl) (by decide) (by unfold maxLen; omega) (by omega) hbase _ rfl
  have hfr2 : w2.heap[SB]? = _ := (g3.block _ (lt_of hfr) (fun e => (h.off e.symm).1 rfl)).trans hfr
  have hsl : s < sn.length := by rw [h.len]; exact hs
  have hfs : sn[s] = false := by
    have := h.is s hs
    rw [List.getD_eq_getElem?_getD, List.getElem?_eq_getElem hsl] at this
    simpa [hL] using this
  refine ⟨gr, cap, w2, by rw [hY]; exact fun ty => g1, ⟨hfr2, h.low, by simp [h.len], ?_, ?_, ?_, ?_, h.few⟩, ?_⟩
  · rw [show numsN (L ++ [s]) = numsN L ++ [.int .i64 (s : Nat)] from by simp [numsN], List.length_append]
    exact g2
  · intro t ht
    rw [List.getD_eq_getElem?_getD]
    by_cases e : s = t
    · subst e
      rw [List.getElem?_set_self hsl]
      simp
    · rw [List.getElem?_set_ne e, ← List.getD_eq_getElem?_getD, h.is t ht]
      have : t ≠ s := fun q => e q.symm
      simp [this]
  · intro t ht
    rcases List.mem_append.1 ht with q | q
    · exact h.lt t q
    · rw [List.mem_singleton.1 q]; exact hs
  · have h1 := List.countP_set (p := id) (l := sn) (a := true) hsl
    rw [hfs] at h1
    have hc := h.count
    simp at h1
    have h3 : (List.countP id (sn.set s true)) = List.countP (fun a => a) (sn.set s true) := rfl
    have h4 : (List.countP id sn) = List.countP (fun a => a) sn := rfl
    rw [List.length_append, List.length_singleton]
    omega
  · intro w k hw
    exact (k.trans kY (H := []) (by simp) (fun x hx => .inr (by have := h.low; simp at hx; omega))).grown g3 (fun q e => .inr (by have := (h.off e).2; omega))
end Go.Proofs.Ytbbfajbnklgncaa
