/- The law's own search (augurlaw17.ends): what it carries, and what it tells. -/
import Derived.Test.YtcojlcbljhnbgaaRuStep
namespace Go.Proofs.Ytcojlcbljhnbgaa
open Go.RowKit Go.Shelf Go.Maps

/-- One state is reached from another one. -/
inductive Reach (next : List (List Int)) : Nat → Nat → Prop
  | here {s : Nat} : Reach next s s
  | step {s t u : Nat} : (t : Int) ∈ next.getD s [] → Reach next t u → Reach next s u
theorem Reach.more {next : List (List Int)} {s t u : Nat} (h : Reach next s t) (hu : (u : Int) ∈ next.getD t []) : Reach next s u := by
  induction h with
  | here => exact .step hu .here
  | step h1 _ ih => exact .step h1 (ih hu)
theorem other_of {next : List (List Int)} {out : List Nat} {s t : Nat} (h : (t : Int) ∈ next.getD s []) (ho : out.getD t 0 ≠ out.getD s 0) : (next.getD s []).any (otherB out s) = true := by
  rw [List.any_eq_true]
  exact ⟨_, h, by unfold otherB; rw [Int.toNat_natCast]; exact decide_eq_true ho⟩
theorem notFin_reach {next : List (List Int)} {out : List Nat} (hr : RightR next) {s : Nat} (h : NotFin next out s) : s < next.length → ∃ t, Reach next s t ∧ out.getD t 0 ≠ out.getD s 0 := by
  induction h with
  | @base s hb =>
    intro hs
    rw [List.any_eq_true] at hb
    obtain ⟨x, hx, ho⟩ := hb
    have hin : next.getD s [] ∈ next := by rw [List.getD_eq_getElem?_getD, List.getElem?_eq_getElem hs]; exact List.getElem_mem _
    have h2 := (hr.row _ hin).2.2 x hx
    obtain ⟨t, rfl⟩ : ∃ t : Nat, x = (t : Int) := ⟨x.toNat, by omega⟩
    refine ⟨t, .step hx .here, ?_⟩
    unfold otherB at ho
    rw [Int.toNat_natCast] at ho
    exact of_decide_eq_true ho
  | @step s t ht _ ih =>
    intro hs
    have hin : next.getD s [] ∈ next := by rw [List.getD_eq_getElem?_getD, List.getElem?_eq_getElem hs]; exact List.getElem_mem _
    have h2 := (hr.row _ hin).2.2 _ ht
    obtain ⟨u, hu, ho⟩ := ih (by omega)
    by_cases e : out.getD t 0 = out.getD s 0
    · exact ⟨u, .step ht hu, by rw [← e]; exact ho⟩
    · exact ⟨t, .step ht .here, e⟩
theorem notFin_of_reach {next : List (List Int)} {out : List Nat} {s t : Nat} (h : Reach next s t) : out.getD t 0 ≠ out.getD s 0 → NotFin next out s := by
  induction h with
  | here => intro h; exact absurd rfl h
  | @step s u t h1 _ ih =>
    intro ho
    by_cases e : out.getD u 0 = out.getD s 0
    · exact .step h1 (ih (by rw [e]; exact ho))
    · exact .base (other_of h1 e)
/-- The states that are met, those ahead of the i-th looked at. -/
structure Met (next : List (List Int)) (out : List Nat) (s i : Nat) (L : List Nat) : Prop where
  from_ : ∀ t ∈ L, Reach next s t
  start : s ∈ L
  shut : ∀ j x, j < i → L[j]? = some x → out.getD x 0 = out.getD s 0 ∧ ∀ u : Nat, (u : Int) ∈ next.getD x [] → u ∈ L
theorem Met.first (next : List (List Int)) (out : List Nat) (s : Nat) : Met next out s 0 [s] :=
  ⟨fun t ht => by rw [List.mem_singleton.1 ht]; exact .here, List.mem_singleton.2 rfl, fun j x hj => by omega⟩
theorem Met.push {next : List (List Int)} {out : List Nat} {s i x u : Nat} {L : List Nat} (h : Met next out s i L) (hx : L[i]? = some x) (hu : (u : Int) ∈ next.getD x []) : Met next out s i (L ++ [u]) := by
  have hil : i < L.length := (List.getElem?_eq_some_iff.1 hx).1
  refine ⟨fun t ht => ?_, List.mem_append_left _ h.start, fun j y hj hy => ?_⟩
  · rcases List.mem_append.1 ht with q | q
    · exact h.from_ t q
    · rw [List.mem_singleton.1 q]; exact (h.from_ x (List.mem_of_getElem? hx)).more hu
  · rw [List.getElem?_append_left (by omega)] at hy
    obtain ⟨q1, q2⟩ := h.shut j y hj hy
    exact ⟨q1, fun v hv => List.mem_append_left _ (q2 v hv)⟩
theorem Met.next {next : List (List Int)} {out : List Nat} {s i x : Nat} {L : List Nat} (h : Met next out s i L) (hx : L[i]? = some x) (ho : out.getD x 0 = out.getD s 0) (hq : ∀ u : Nat, (u : Int) ∈ next.getD x [] → u ∈ L) : Met next out s (i + 1) L :=
  ⟨h.from_, h.start, fun j y hj hy => by
    rcases Nat.lt_or_ge j i with q | q
    · exact h.shut j y q hy
    · obtain rfl : j = i := by omega
      rw [hx] at hy
      cases hy
      exact ⟨ho, hq⟩⟩
theorem Met.done {next : List (List Int)} {out : List Nat} {s : Nat} {L : List Nat} (h : Met next out s L.length L) (hr : RightR next) (hs : s < next.length) : ¬ NotFin next out s := by
  intro hn
  obtain ⟨t, ht, ho⟩ := notFin_reach hr hn hs
  have key : ∀ a b, Reach next a b → a ∈ L → b ∈ L := by
    intro a b hab
    induction hab with
    | here => exact fun h => h
    | @step a u b h1 _ ih =>
      intro ha
      obtain ⟨j, hj, hja⟩ := List.getElem_of_mem ha
      exact ih ((h.shut j a hj (by rw [List.getElem?_eq_getElem hj, hja])).2 u h1)
  obtain ⟨j, hj, hjt⟩ := List.getElem_of_mem (key s t ht h.start)
  exact ho (h.shut j t hj (by rw [List.getElem?_eq_getElem hj, hjt])).1
/-- The search in memory. -/
structure SeenS (W : World) (base SB n : Nat) (rv : Value) (sn : List Bool) (L : List Nat) : Prop where
  row : W.heap[SB]? = some (.cells (sn.map Value.bool).toArray 4 (0, 0))
  low : base ≤ SB
  len : sn.length = n
  own : W.ownsRow base 3 1 rv L.length (numsN L)
  is : ∀ s, s < n → sn.getD s false = decide (s ∈ L)
  lt : ∀ s ∈ L, s < n
  count : sn.countP id = L.length
  few : n ≤ 1000000
theorem SeenS.kept {W W' : World} {base SB n : Nat} {rv : Value} {sn : List Bool} {L : List Nat} (h : SeenS W base SB n rv sn L) (k : Kept [] W W') : SeenS W' base SB n rv sn L :=
  ⟨k.at h.row (by simp), h.low, h.len, bx_kept h.own k (by simp), h.is, h.lt, h.count, h.few⟩
theorem SeenS.off {W : World} {base SB n g : Nat} {rv : Value} {sn : List Bool} {L : List Nat} (h : SeenS W base SB n rv sn L) (hg : rv.ownBlock = some g) : g ≠ SB ∧ base ≤ g := by
  rcases h.own.2 with ⟨rfl, _⟩ | ⟨g', cap, cur, rfl, hb, hw, _⟩
  · cases hg
  · cases hg
    refine ⟨?_, hb⟩
    intro e; subst e; rw [h.row] at hw; injection hw with hw; injection hw with _ hw _; exact absurd hw (by decide)
theorem SeenS.cell {W : World} {base SB n : Nat} {rv : Value} {sn : List Bool} {L : List Nat} (h : SeenS W base SB n rv sn L) {s : Nat} (hs : s < n) : W.cell? ⟨SB, s, none⟩ = some (.bool (decide (s ∈ L))) ∧ W.frozen? ⟨SB, s, none⟩ = false := by
  have hl : s < sn.length := by rw [h.len]; exact hs
  refine ⟨?_, free_of h.row s⟩
  rw [← h.is s hs, cell_of h.row]
  simp [List.getElem?_eq_getElem hl, List.getD_eq_getElem?_getD]
theorem SeenS.few_len {W : World} {base SB n : Nat} {rv : Value} {sn : List Bool} {L : List Nat} (h : SeenS W base SB n rv sn L) : L.length ≤ n := by
  rw [← h.count, ← h.len]; exact List.countP_le_length
theorem SeenS.form {W : World} {base SB n : Nat} {rv : Value} {sn : List Bool} {L : List Nat} (h : SeenS W base SB n rv sn L) : ∃ ad c, rv = .slice ad L.length c ∧ ∀ j, j < L.length → ∃ g, ad = some ⟨g, 0, none⟩ ∧ W.cell? ⟨g, j, none⟩ = some (.int .i64 (L.getD j 0 : Nat)) := by
  rcases h.own.2 with ⟨e, h0⟩ | ⟨g, cap, cur, e, hb, hw, h3, h4, h5, h6⟩
  · exact ⟨none, 0, by rw [e, h0], fun j hj => by omega⟩
  · refine ⟨_, cap, e, fun j hj => ⟨g, rfl, ?_⟩⟩
    rw [cell_of hw]
    have hx2 := numsN_at hj
    rw [show L[j] = L.getD j 0 from by rw [List.getD_eq_getElem?_getD, List.getElem?_eq_getElem hj]; rfl] at hx2
    rw [← h6, List.getElem?_take] at hx2
    split at hx2
    · rw [← Array.getElem?_toList]; exact hx2
    · cases hx2
theorem SeenS.push {W : World} {base SB n s : Nat} {rv : Value} {sn : List Bool} {L : List Nat} (h : SeenS W base SB n rv sn L) (hs : s < n) (hL : s ∉ L) :
    ∃ gr cap w2, (∀ ty, (Builtin.append_ #[60, 60] ty #[rv, .slice (some ⟨W.heap.size, 0, none⟩) 1 1]).run Try.prog ((W.setCell ⟨SB, s, none⟩ (.bool true)).alloc (.cells #[.int .i64 (s : Nat)] 3)) = .ok (.slice (some ⟨gr, 0, none⟩) (L.length + 1) cap) w2) ∧
      SeenS w2 base SB n (.slice (some ⟨gr, 0, none⟩) (L.length + 1) cap) (sn.set s true) (L ++ [s]) ∧ ∀ w, Kept [] w W → w.heap.size ≤ base → Kept [] w w2 := by
  obtain ⟨inf, hi, hz, hss, hb⟩ := info_parts Try.infoInR
  obtain ⟨Y, hY⟩ : ∃ Y, (W.setCell ⟨SB, s, none⟩ (.bool true)).alloc (.cells #[.int .i64 (s : Nat)] 3) = Y := ⟨_, rfl⟩
  have hsz : (W.setCell ⟨SB, s, none⟩ (.bool true)).heap.size = W.heap.size := by simp [World.setCell]
  have kY : Kept [SB] W Y := by rw [← hY]; exact ((Kept.refl [SB] W).setCell (.inl (by simp)) _).alloc _
  have hA : Y.cell? ⟨W.heap.size, 0, none⟩ = some (.int .i64 (s : Nat)) := by rw [← hY, ← hsz]; exact (cell_of (al0 _ _) 0).trans rfl
  have hlen := h.few_len
  have hfew := h.few
  have ho : Y.ownsRow base 3 1 rv L.length (numsN L) := bx_kept h.own kY (fun g hg => by have := (h.off hg).1; simpa using this)
  have hfr : Y.heap[SB]? = some (.cells (((sn.set s true).map Value.bool)).toArray 4 (0, 0)) := by
    rw [← hY]
    refine alUp ?_ _
    have e9 : (sn.map Value.bool).toArray.setIfInBounds s (.bool true) = ((sn.set s true).map Value.bool).toArray := by
      rw [List.map_set]
      apply Array.ext'
      rw [Array.toList_setIfInBounds]
    rw [bx_set h.row, e9]
  have hbase : base ≤ Y.heap.size := by have := lt_of h.row; have := kY.size; have := h.low; omega
  obtain ⟨gr, cap, w2, g1, g2, g3, g4, g5⟩ := run_append_lies (P := Try.prog) Y 60 0 base 3 inf (.int .i64 0) 1 8 Try.underlying60 hi hz hss hb rfl (by decide) rv L.length (numsN L) ho ⟨W.heap.size, 0, none⟩ 1 1 [.int .i64 (s : Nat)] rfl (fun j u hj => by
    cases j with
    | zero => cases hj; exact hA
    | succ j => simp at hj) (by intro u hu; simp at hu; subst hu; rfl) (by decide) (by unfold maxLen; omega) (by omega) hbase _ rfl
  have hfr2 : w2.heap[SB]? = _ := (g3.block _ (lt_of hfr) (fun e => (h.off e.symm).1 rfl)).trans hfr
  have hsl : s < sn.length := by rw [h.len]; exact hs
  have hfs : sn[s] = false := by
    have := h.is s hs
    rw [List.getD_eq_getElem?_getD, List.getElem?_eq_getElem hsl] at this
    simpa [hL] using this
  refine ⟨gr, cap, w2, by rw [hY]; exact fun ty => g1, ⟨hfr2, h.low, by simp [h.len], ?_, ?_, ?_, ?_, h.few⟩, ?_⟩
  · rw [show numsN (L ++ [s]) = numsN L ++ [.int .i64 (s : Nat)] from by simp [numsN], List.length_append]
    exact g2
  · intro t ht
    rw [List.getD_eq_getElem?_getD]
    by_cases e : s = t
    · subst e
      rw [List.getElem?_set_self hsl]
      simp
    · rw [List.getElem?_set_ne e, ← List.getD_eq_getElem?_getD, h.is t ht]
      have : t ≠ s := fun q => e q.symm
      simp [this]
  · intro t ht
    rcases List.mem_append.1 ht with q | q
    · exact h.lt t q
    · rw [List.mem_singleton.1 q]; exact hs
  · have h1 := List.countP_set (p := id) (l := sn) (a := true) hsl
    rw [hfs] at h1
    have hc := h.count
    simp at h1
    have h3 : (List.countP id (sn.set s true)) = List.countP (fun a => a) (sn.set s true) := rfl
    have h4 : (List.countP id sn) = List.countP (fun a => a) sn := rfl
    rw [List.length_append, List.length_singleton]
    omega
  · intro w k hw
    exact (k.trans kY (H := []) (by simp) (fun x hx => .inr (by have := h.low; simp at hx; omega))).grown g3 (fun q e => .inr (by have := (h.off e).2; omega))
end Go.Proofs.Ytcojlcbljhnbgaa

/- augurlaw17.ends, and Final. -/
namespace Go.Proofs.Ytcojlcbljhnbgaa
open Go.RowKit Go.Shelf Go.Maps

set_option maxHeartbeats 2000000 in
set_option maxRecDepth 10000 in
theorem final_any (lo N R : Nat) (ps : List ByteArray) (next : List (List Int)) (out : List Nat) (fin : List Bool) (s : Nat) (w : World) (h : RunS w lo N R ps next out fin s) :
    Calls Try.prog 18 #[.pointer (some ⟨R, 0, none⟩)] w fun e w' => e = .returned (.bool (fin.getD s false)) ∧ Hid (Kept [] w w') := by
  obtain ⟨T, MB, FR, nxv, outv, D, fl, h1, h2, _⟩ := h.ex
  have hs : s < fin.length := by rw [h.fin.len]; exact h.lt
  have c0 : w.cell? ⟨R, 0, none⟩ = some (.pointer (some ⟨T, 0, none⟩)) := (cell_of h1 0).trans rfl
  have c1 : w.cell? ⟨R, 1, none⟩ = some (.int .i64 (s : Nat)) := (cell_of h1 1).trans rfl
  have c2 : w.cell? ⟨T, 4, none⟩ = some (.slice (some ⟨FR, 0, none⟩) fin.length fin.length) := (cell_of h2.box 4).trans rfl
  obtain ⟨v, hv⟩ : ∃ v, fin.getD s false = v := ⟨_, rfl⟩
  have c3 : w.cell? ⟨FR, s, none⟩ = some (.bool v) := by
    rw [cell_of h2.fins, ← hv]
    simp [List.getElem?_eq_getElem hs, List.getD_eq_getElem?_getD]
  rw [hv]
  have z0 : (0 : Int) ≤ (s : Int) := by omega
  have z1 : (s : Int) < (fin.length : Int) := by omega
  obtain ⟨n, hn⟩ : ∃ n, fin.length = n := ⟨_, rfl⟩
  rw [hn] at c2 z1
  clear h h1 h2 hs hv hn
  go_enter Try.func18, Try.ntmps18
  go_wp2_with fail
  go_region
  all_goals go_wp2
  go_ret
  exact ⟨rfl, (Kept.refl [] w).drew⟩
set_option maxHeartbeats 8000000 in
set_option maxRecDepth 20000 in
theorem ends_any (pv nv ov : Value) (next : List (List Int)) (out : List Nat) (s : Nat) (w : World) (hn : Rowss w nv next) (ho : Vds w ov out) (hr : RightR next) (hlo : out.length = next.length) (hs : s < next.length) (fb : Bool) (hfb : fb = true ↔ ¬ NotFin next out s) :
    Calls Try.prog 20 #[.agg #[pv, nv, ov], .int .i64 (s : Nat)] w fun e w' => e = .returned (.bool fb) ∧ Hid (Kept [] w w') := by
  have HFB : Hid (fb = true ↔ ¬ NotFin next out s) := hfb
  obtain ⟨n, hln⟩ : ∃ n, next.length = n := ⟨_, rfl⟩
  have hfew : n ≤ 1000000 := by rw [← hln]; exact hr.few
  have hsn : s < n := by omega
  obtain ⟨ob, oo, oc, rfl, hout⟩ := ho.there (by rw [hlo]; omega)
  rcases hn.lie with ⟨hnv, he⟩ | ⟨nb, no, nc, hnv, hc1, hc2, hce⟩
  · have := hr.pos
    rw [he] at this
    simp at this
  subst hnv
  have HO : Hid (∀ W, Kept [] w W → OutAt W ob oo out) := fun W k => hout.kept k
  have HCE : Hid (∀ i (h : i < next.length), ∃ u, w.cell? ⟨nb, no + i, none⟩ = some u ∧ Ints w u next[i]) := hce
  have HRR : Hid (RightR next) := hr
  have HLN : Hid (next.length = n ∧ out.length = n) := ⟨hln, by rw [hlo, hln]⟩
  rw [hln] at hc1 ⊢
  rw [hlo, hln]
  obtain ⟨V, hV⟩ : ∃ V, w.alloc (.cells #[pv, .slice (some ⟨nb, no, none⟩) n nc, .slice (some ⟨ob, oo, none⟩) n oc] 27) = V := ⟨_, rfl⟩
  have kV : Kept [] w V := by rw [← hV]; exact (Kept.refl [] w).alloc _
  obtain ⟨M, hM⟩ : ∃ M, w.heap.size = M := ⟨_, rfl⟩
  have hB : Thr 27 V M pv (.slice (some ⟨nb, no, none⟩) n nc) (.slice (some ⟨ob, oo, none⟩) n oc) := by rw [← hV, ← hM]; exact al0 _ _
  have HC : Hid (∀ W, Kept [] V W → W.cell? ⟨M, 0, none⟩ = some pv ∧ W.cell? ⟨M, 1, none⟩ = some (.slice (some ⟨nb, no, none⟩) n nc) ∧ W.cell? ⟨M, 2, none⟩ = some (.slice (some ⟨ob, oo, none⟩) n oc)) := fun W k => (hB.keptF k (by simp)).cells
  have hmk := make_boolsR V n hfew
  obtain ⟨U, hU⟩ : ∃ U, V.alloc (.cells ((List.replicate n false).map Value.bool).toArray 4) = U := ⟨_, rfl⟩
  have kU : Kept [] V U := by rw [← hU]; exact (Kept.refl [] V).alloc _
  obtain ⟨SB, hSB⟩ : ∃ SB, V.heap.size = SB := ⟨_, rfl⟩
  have hsb : U.heap[SB]? = some (.cells ((List.replicate n false).map Value.bool).toArray 4 (0, 0)) := by rw [← hU, ← hSB]; exact al0 _ _
  obtain ⟨Y, hY⟩ : ∃ Y, U.alloc (.cells #[.int .i64 (s : Nat)] 3) = Y := ⟨_, rfl⟩
  have kY : Kept [] U Y := by rw [← hY]; exact (Kept.refl [] U).alloc _
  obtain ⟨RB, hRB⟩ : ∃ RB, U.heap.size = RB := ⟨_, rfl⟩
  have hrb : Y.heap[RB]? = some (.cells #[.int .i64 (s : Nat)] 3 (0, 0)) := by rw [← hY, ← hRB]; exact al0 _ _
  have hsy := kY.at hsb (by simp)
  have e1 : Y.cell? ⟨SB, s, none⟩ = some (.bool false) := by
    rw [cell_of hsy]
    simp [hsn]
  have e2 : Y.frozen? ⟨SB, s, none⟩ = false := free_of hsy s
  obtain ⟨Z, hZ⟩ : ∃ Z, Y.setCell ⟨SB, s, none⟩ (.bool true) = Z := ⟨_, rfl⟩
  have hne : SB ≠ RB := by have := lt_of hsb; omega
  have HS0 : Hid (SeenS Z V.heap.size SB n (.slice (some ⟨RB, 0, none⟩) 1 1) ((List.replicate n false).set s true) [s]) := by
    have h9 := bx_set (i := s) hsy (.bool true)
    rw [hZ] at h9
    have e9 : ((List.replicate n false).map Value.bool).toArray.setIfInBounds s (.bool true) = (((List.replicate n false).set s true).map Value.bool).toArray := by
      rw [List.map_set]
      apply Array.ext'
      rw [Array.toList_setIfInBounds]
    rw [e9] at h9
    have hrz : Z.heap[RB]? = some (.cells #[.int .i64 (s : Nat)] 3 (0, 0)) := by
      have kz : Kept [SB] Y Z := by rw [← hZ]; exact (Kept.refl [SB] Y).setCell (.inl (by simp)) _
      exact kz.at hrb (by simp; omega)
    refine ⟨h9, Nat.le_of_eq hSB, by simp, ⟨rfl, .inr ⟨RB, 1, _, rfl, by have := kU.size; omega, hrz, Nat.le_refl _, by unfold maxLen; omega, rfl, rfl⟩⟩, fun t ht => ?_, fun t ht => by rw [List.mem_singleton.1 ht]; exact hsn, ?_, hfew⟩
    · rw [List.getD_eq_getElem?_getD]
      by_cases e : s = t
      · subst e
        rw [List.getElem?_set_self (by simpa using hsn)]
        simp
      · rw [List.getElem?_set_ne e, List.getElem?_replicate, if_pos ht]
        have : t ≠ s := fun q => e q.symm
        simp [this]
    · have h1 := List.countP_set (p := id) (l := List.replicate n false) (a := true) (by simpa using hsn)
      simp at h1
      have h3 : (List.countP id ((List.replicate n false).set s true)) = List.countP (fun a => a) ((List.replicate n false).set s true) := rfl
      have h5 : List.countP (fun a => a) (List.replicate n false) = 0 := List.countP_eq_zero.2 (fun a ha => by rw [List.eq_of_mem_replicate ha]; decide)
      rw [List.length_singleton]
      omega
  have HKZ : Hid (Kept [] V Z) := by show Kept [] V Z; rw [← hZ]; exact (keptB kU kY).setCell (.inr (Nat.le_of_eq hSB)) _
  have HM0 : Hid (Met next out s 0 [s]) := Met.first next out s
  have HKV : Hid (Kept [] w V) := kV
  have HV : Hid (w.alloc (.cells #[pv, .slice (some ⟨nb, no, none⟩) n nc, .slice (some ⟨ob, oo, none⟩) n oc] 27) = V) := hV
  have HU : Hid (V.alloc (.cells ((List.replicate n false).map Value.bool).toArray 4) = U) := hU
  rw [hU, hSB] at hmk
  rw [hSB] at HS0
  have HSBV : Hid (V.heap.size = SB) := hSB
  obtain ⟨c0, c1, c2⟩ := HC.out V (Kept.refl [] V)
  have z0 : (0 : Int) ≤ (n : Int) := by omega
  have z1 : (0 : Int) ≤ (s : Int) := by omega
  have z2 : (s : Int) < (n : Int) := by omega
  clear hn ho hr hlo hs hfb hln hce hout hB kV kU kY hrb hsy hsb hne hV hU
  go_enter Try.func20, Try.ntmps20
  go_upto_region 1 with fail
  rw [HV.out]
  clear HV
  go_upto_region 4 with fail
  clear hmk c0 c1 c2 e1 e2 hY hZ hRB
  go_wp2_with fail
  go_loopw [6, 7] (fun r v wr => ∃ (i : Nat) (L : List Nat) (sn : List Bool), v = .int .i64 (i : Nat) ∧ i ≤ L.length ∧ Hid (SeenS wr SB SB n r sn L) ∧ Hid (Met next out s i L) ∧ Hid (Kept [] V wr)) (fun _ v _ => n - (intOf v).toNat)
  case atStart => exact ⟨0, [s], _, rfl, Nat.zero_le _, HS0, HM0, HKZ⟩
  case round =>
    obtain ⟨i, L, sn, rfl, hi, HS, HM, HK⟩ := hrel
    obtain ⟨ad, c, hrv, hcells⟩ := HS.out.form
    subst hrv
    have hLn := HS.out.few_len
    obtain ⟨ln, hlnn⟩ : ∃ ln, L.length = ln := ⟨_, rfl⟩
    have HLL : Hid (L.length = ln) := hlnn
    rw [hlnn] at HS hcells hi hLn ⊢
    by_cases hil : i < ln
    · obtain ⟨g, rfl, hc⟩ := hcells i hil
      have hx? : L[i]? = some (L.getD i 0) := by rw [List.getD_eq_getElem?_getD, List.getElem?_eq_getElem (by omega)]; rfl
      obtain ⟨x, hx⟩ : ∃ x, L.getD i 0 = x := ⟨_, rfl⟩
      rw [hx] at hc hx?
      have hxn : x < n := HS.out.lt x (List.mem_of_getElem? hx?)
      have HX : Hid (L[i]? = some x) := hx?
      obtain ⟨m0, m1, m2⟩ := HC.out wr HK.out
      have HKw : Hid (Kept [] w wr) := keptB HKV.out HK.out
      have o1 := HO.out wr HKw.out x (by rw [HLN.out.2]; exact hxn)
      have o2 := HO.out wr HKw.out s (by rw [HLN.out.2]; exact hsn)
      obtain ⟨a, ha⟩ : ∃ a, out.getD x 0 = a := ⟨_, rfl⟩
      obtain ⟨b, hb⟩ : ∃ b, out.getD s 0 = b := ⟨_, rfl⟩
      rw [ha] at o1
      rw [hb] at o2
      have p0 : (0 : Int) ≤ (i : Int) := by omega
      have p1 : (i : Int) < (ln : Int) := by omega
      have p2 : (0 : Int) ≤ (x : Int) := by omega
      have p3 : (x : Int) < (n : Int) := by omega
      by_cases hab : a = b
      · have HAB : Hid (out.getD x 0 = out.getD s 0) := by show _ = _; rw [ha, hb]; exact hab
        subst hab
        obtain ⟨u, hu, hI⟩ := HCE.out x (by rw [HLN.out.1]; exact hxn)
        obtain ⟨row, hrow⟩ : ∃ row, next[x]'(by rw [HLN.out.1]; exact hxn) = row := ⟨_, rfl⟩
        rw [hrow] at hI
        have HRK : Hid (next.getD x [] = row) := by show next.getD x [] = row; rw [List.getD_eq_getElem?_getD, List.getElem?_eq_getElem (by rw [HLN.out.1]; exact hxn), hrow]; rfl
        obtain ⟨r0, r1, r2⟩ := HRR.out.row row (by rw [← hrow]; exact List.getElem_mem _)
        obtain ⟨ub, uo, uc, rfl, hu1, hu2, hu3⟩ := hI.there r0
        obtain ⟨rl, hrl⟩ : ∃ rl, row.length = rl := ⟨_, rfl⟩
        have HRL : Hid (row.length = rl) := hrl
        have HUC : Hid (∀ i (h : i < row.length), w.cell? ⟨ub, uo + i, none⟩ = some (.int .i64 row[i])) := hu3
        have HR2 : Hid (∀ x ∈ row, 0 ≤ x ∧ x < (n : Int)) := by show ∀ x ∈ row, _; rw [← HLN.out.1]; exact r2
        have HU1 : Hid (w.cell? ⟨nb, no + x, none⟩ = some (.slice (some ⟨ub, uo, none⟩) rl uc)) := by show _ = _; rw [← hrl]; exact hu
        rw [hrl] at r1 hu1
        clear hI hrow hu hu3 r2 hx? hx ha hb hcells hrl hlnn
        go_wp2_with fail
        go_region_held3 (fun w' => w'.cell? ⟨M, 2, none⟩ = some (.slice (some ⟨ob, oo, none⟩) n oc) ∧ w'.cell? ⟨g, i, none⟩ = some (.int .i64 (x : Nat)) ∧ w'.cell? ⟨ob, oo + x, none⟩ = some (.int .u8 (a : Nat)) ∧ w'.cell? ⟨ob, oo + s, none⟩ = some (.int .u8 (a : Nat))) (exact ⟨m2, hc, o1, o2⟩) (fail)
        all_goals go_wp2_with fail
        have HSd : Hid (SeenS wr.drew SB SB n (.slice (some ⟨g, 0, none⟩) ln c) sn L) := HS.out.kept (Kept.refl [] wr).drew
        have HKd : Hid (Kept [] V wr.drew) := HK.out.drew
        obtain ⟨W0, hW0⟩ : ∃ W0, wr.drew = W0 := ⟨_, rfl⟩
        rw [hW0] at HSd HKd ⊢
        clear hW0 m0 m1 m2 o1 o2 hc HS HK HKw
        go_loopw [6, 8] (fun r v w3 => ∃ (q : Nat) (L3 : List Nat) (sn3 : List Bool), v = .int .i64 (q : Nat) ∧ q ≤ rl ∧ Hid (SeenS w3 SB SB n r sn3 L3) ∧ Hid (L3[i]? = some x) ∧ Hid (Met next out s i L3) ∧ Hid (∀ f : Nat, (f : Int) ∈ row.take q → f ∈ L3) ∧ Hid (Kept [] V w3)) (fun _ v _ => rl - (intOf v).toNat)
        case atStart => exact ⟨0, L, sn, rfl, Nat.zero_le _, HSd, HX, HM, (fun f hf => by simp at hf : ∀ f : Nat, (f : Int) ∈ row.take 0 → f ∈ L), HKd⟩
        case round =>
          rename World => w3
          obtain ⟨q, L3, sn3, rfl, hq, HS3, HX3, HM3, HQ3, HK3⟩ := hrel
          obtain ⟨ad3, c3, hrv3, hcells3⟩ := HS3.out.form
          subst hrv3
          have hi3 : i < L3.length := (List.getElem?_eq_some_iff.1 HX3.out).1
          obtain ⟨g3, rfl, hc3⟩ := hcells3 i hi3
          have hxx : L3.getD i 0 = x := by rw [List.getD_eq_getElem?_getD, HX3.out]; rfl
          rw [hxx] at hc3
          have h3n := HS3.out.few_len
          obtain ⟨l3, hl3⟩ : ∃ l3, L3.length = l3 := ⟨_, rfl⟩
          have HL3 : Hid (L3.length = l3) := hl3
          rw [hl3] at HS3 hi3 h3n ⊢
          have p4 : (i : Int) < (l3 : Int) := by omega
          have n1 := (HC.out w3 HK3.out).2.1
          have n2 := cell_kept0 (keptB HKV.out HK3.out) HU1.out
          have HIN : Hid (i + 1 ≤ l3) := hi3
          have HMS : Hid (i < n) := by show i < n; omega
          clear hcells3 hxx hl3 hi3 h3n
          by_cases hql : q < rl
          · have p5 : (q : Int) < (rl : Int) := by omega
            have p6 : (0 : Int) ≤ (q : Int) := by omega
            have hqr : q < row.length := by rw [HRL.out]; exact hql
            obtain ⟨y0, hy0⟩ : ∃ y0, row[q]'hqr = y0 := ⟨_, rfl⟩
            obtain ⟨y1, y2⟩ := HR2.out y0 (by rw [← hy0]; exact List.getElem_mem _)
            obtain ⟨y, rfl⟩ : ∃ y : Nat, y0 = (y : Int) := ⟨y0.toNat, by omega⟩
            have HYC : Hid (w.cell? ⟨ub, uo + q, none⟩ = some (.int .i64 (y : Nat))) := by show _ = _; rw [← hy0]; exact HUC.out q hqr
            have HYX : Hid ((y : Int) ∈ next.getD x []) := by show _ ∈ _; rw [HRK.out, ← hy0]; exact List.getElem_mem _
            have HYT : Hid (∀ (L4 : List Nat), (∀ f ∈ L3, f ∈ L4) → y ∈ L4 → ∀ f : Nat, (f : Int) ∈ row.take (q + 1) → f ∈ L4) := by
              show ∀ (L4 : List Nat), _
              intro L4 h1 h2 f hf
              rw [List.take_add_one, List.getElem?_eq_getElem hqr, hy0] at hf
              rcases List.mem_append.1 hf with hf | hf
              · exact h1 f (HQ3.out f hf)
              · have : f = y := by simp at hf; omega
                rw [this]; exact h2
            have hyn : y < n := by omega
            clear hy0 hqr y1 y2
            go_wp2_with fail
            go_region_held3 (fun w' => w'.cell? ⟨M, 1, none⟩ = some (.slice (some ⟨nb, no, none⟩) n nc) ∧ w'.cell? ⟨g3, i, none⟩ = some (.int .i64 (x : Nat)) ∧ w'.cell? ⟨nb, no + x, none⟩ = some (.slice (some ⟨ub, uo, none⟩) rl uc)) (exact ⟨n1, hc3, n2⟩) (fail)
            all_goals go_wp2_with fail
            have HS4 : Hid (SeenS w3.drew SB SB n (.slice (some ⟨g3, 0, none⟩) l3 c3) sn3 L3) := HS3.out.kept (Kept.refl [] w3).drew
            have HK4 : Hid (Kept [] V w3.drew) := HK3.out.drew
            have n1 := (HC.out w3.drew HK4.out).2.1
            have n2 := cell_kept0 (keptB HKV.out HK4.out) HU1.out
            have n3 := cell_kept0 (keptB HKV.out HK4.out) HYC.out
            have hc3 := cell_kept0 ((Kept.refl [] w3).drew) hc3
            obtain ⟨w4, hw4⟩ : ∃ w4, w3.drew = w4 := ⟨_, rfl⟩
            rw [hw4] at HS4 HK4 n1 n2 n3 hc3 ⊢
            clear hw4 HS3 HK3
            go_region_held3 (fun w' => w'.cell? ⟨M, 1, none⟩ = some (.slice (some ⟨nb, no, none⟩) n nc) ∧ w'.cell? ⟨g3, i, none⟩ = some (.int .i64 (x : Nat)) ∧ w'.cell? ⟨nb, no + x, none⟩ = some (.slice (some ⟨ub, uo, none⟩) rl uc) ∧ w'.cell? ⟨ub, uo + q, none⟩ = some (.int .i64 (y : Nat))) (exact ⟨n1, hc3, n2, n3⟩) (fail)
            all_goals go_upto_region 13 with fail
            have HS5 : Hid (SeenS w4.drew SB SB n (.slice (some ⟨g3, 0, none⟩) l3 c3) sn3 L3) := HS4.out.kept (Kept.refl [] w4).drew
            have HK5 : Hid (Kept [] V w4.drew) := HK4.out.drew
            obtain ⟨w5, hw5⟩ : ∃ w5, w4.drew = w5 := ⟨_, rfl⟩
            rw [hw5] at HS5 HK5 ⊢
            obtain ⟨s1, s2⟩ := HS5.out.cell hyn
            have p7 : (0 : Int) ≤ (y : Int) := by omega
            have p8 : (y : Int) < (n : Int) := by omega
            clear hw5 HS4 HK4 n1 n2 n3 hc3
            by_cases hyL : y ∈ L3
            · rw [decide_eq_true hyL] at s1
              have HQ5 : Hid (∀ f : Nat, (f : Int) ∈ row.take (q + 1) → f ∈ L3) := HYT.out L3 (fun f hf => hf) hyL
              go_wp2
              go_roundw
              case rel => exact ⟨q + 1, L3, sn3, by go_num, by omega, HS5, HX3, HM3, HQ5, HK5⟩
              case measure => simp [intOf]; omega
            · rw [decide_eq_false hyL] at s1
              obtain ⟨gr, cap, w6, hrun, hS6, hk6⟩ := HS5.out.push hyn hyL
              rw [HL3.out] at hrun hS6
              have HRUN : Hid (∀ ty, (Builtin.append_ #[60, 60] ty #[.slice (some ⟨g3, 0, none⟩) l3 c3, .slice (some ⟨w5.heap.size, 0, none⟩) 1 1]).run Try.prog ((w5.setCell ⟨SB, y, none⟩ (.bool true)).alloc (.cells #[.int .i64 (y : Nat)] 3)) = .ok (.slice (some ⟨gr, 0, none⟩) (l3 + 1) cap) w6) := hrun
              have HS6 : Hid (SeenS w6 SB SB n (.slice (some ⟨gr, 0, none⟩) (l3 + 1) cap) (sn3.set y true) (L3 ++ [y])) := hS6
              have HK6 : Hid (Kept [] V w6) := hk6 V HK5.out (Nat.le_of_eq HSBV.out)
              have HX6 : Hid ((L3 ++ [y])[i]? = some x) := by show _ = _; rw [List.getElem?_append_left (by have := HIN.out; have := HL3.out; omega)]; exact HX3.out
              have HM6 : Hid (Met next out s i (L3 ++ [y])) := HM3.out.push HX3.out HYX.out
              have HQ6 : Hid (∀ f : Nat, (f : Int) ∈ row.take (q + 1) → f ∈ L3 ++ [y]) := HYT.out (L3 ++ [y]) (fun f hf => List.mem_append_left _ hf) (List.mem_append_right _ (by simp))
              clear hrun hS6 hk6
              go_wp2_with (at_builtin; refine Lib.wpList_append_run _ rfl _ _ _ _ rfl _ _ rfl rfl _ _ (HRUN.out _) ?_)
              go_roundw
              case rel => exact ⟨q + 1, L3 ++ [y], _, by go_num, by omega, HS6, HX6, HM6, HQ6, HK6⟩
              case measure => simp [intOf]; omega
          · obtain rfl : q = rl := by omega
            have p5 : ¬ ((q : Int) < (q : Int)) := by omega
            have HNX : Hid (Met next out s (i + 1) L3) := HM3.out.next HX3.out HAB.out (by rw [HRK.out]; have := HQ3.out; rwa [List.take_of_length_le (Nat.le_of_eq HRL.out)] at this)
            have HSd3 : Hid (SeenS w3.drew SB SB n (.slice (some ⟨g3, 0, none⟩) l3 c3) sn3 L3) := HS3.out.kept (Kept.refl [] w3).drew
            go_wp2_with fail
            go_region_held3 (fun w' => w'.cell? ⟨M, 1, none⟩ = some (.slice (some ⟨nb, no, none⟩) n nc) ∧ w'.cell? ⟨g3, i, none⟩ = some (.int .i64 (x : Nat)) ∧ w'.cell? ⟨nb, no + x, none⟩ = some (.slice (some ⟨ub, uo, none⟩) q uc)) (exact ⟨n1, hc3, n2⟩) (fail)
            all_goals go_wp2
            exact ⟨⟨i + 1, L3, sn3, by go_num, by rw [HL3.out]; exact HIN.out, HSd3, HNX, HK3.out.drew⟩, by have := HMS.out; simp [intOf]; omega⟩
      · have hne : ((a : Int) != (b : Int)) = true := by simp; omega
        have HNF : Hid (NotFin next out s) := notFin_of_reach (HM.out.from_ x (List.mem_of_getElem? hx?)) (by rw [ha, hb]; exact hab)
        clear hx? hx ha hb hcells hlnn
        go_wp2_with fail
        go_region_held3 (fun w' => w'.cell? ⟨M, 2, none⟩ = some (.slice (some ⟨ob, oo, none⟩) n oc) ∧ w'.cell? ⟨g, i, none⟩ = some (.int .i64 (x : Nat)) ∧ w'.cell? ⟨ob, oo + x, none⟩ = some (.int .u8 (a : Nat)) ∧ w'.cell? ⟨ob, oo + s, none⟩ = some (.int .u8 (b : Nat))) (exact ⟨m2, hc, o1, o2⟩) (fail)
        all_goals go_wp2
        go_ret
        have hff : fb = false := by
          cases hq : fb with
          | false => rfl
          | true => exact absurd HNF.out (HFB.out.1 hq)
        exact ⟨by rw [hff]; rfl, HKw.out.drew⟩
    · obtain rfl : i = ln := by omega
      have p1 : ¬ ((i : Int) < (i : Int)) := by omega
      have HND : Hid (¬ NotFin next out s) := (by have := HM.out; rw [← hlnn] at this; exact this : Met next out s L.length L).done HRR.out (by rw [HLN.out.1]; exact hsn)
      go_wp2
      go_ret
      have hff : fb = true := HFB.out.2 HND.out
      exact ⟨by rw [hff]; rfl, keptB HKV.out HK.out⟩
end Go.Proofs.Ytcojlcbljhnbgaa
