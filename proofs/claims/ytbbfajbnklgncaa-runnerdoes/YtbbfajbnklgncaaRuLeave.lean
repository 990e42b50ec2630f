/- runner.finalOf's closure leave: what it leaves in memory. -/
import Derived.Test.YtbbfajbnklgncaaRuOther
namespace Go.Proofs.Ytbbfajbnklgncaa
open Go.RowKit Go.Shelf

/-- Of each state whether it is final (as far as is known), and those that are not, in a row. -/
structure FinS (W : World) (base FB LB FR n : Nat) (lv : Value) (fin : List Bool) (L : List Nat) : Prop where
  fbox : W.heap[FB]? = some (.cells #[.slice (some ⟨FR, 0, none⟩) n n] 90 (0, 0))
  lbox : W.heap[LB]? = some (.cells #[lv] 83 (0, 0))
  row : W.heap[FR]? = some (.cells (fin.map Value.bool).toArray 4 (0, 0))
  low : base ≤ LB ∧ base ≤ FR
  len : fin.length = n
  own : W.ownsRow base 3 1 lv L.length (numsN L)
  is : ∀ s, s < n → fin.getD s false = decide (s ∉ L)
  lt : ∀ s ∈ L, s < n
  count : fin.countP id + L.length = n
  few : n ≤ 1000000
theorem FinS.kept {W W' : World} {base FB LB FR n : Nat} {lv : Value} {fin : List Bool} {L : List Nat} (h : FinS W base FB LB FR n lv fin L) (k : Kept [] W W') : FinS W' base FB LB FR n lv fin L :=
  ⟨k.at h.fbox (by simp), k.at h.lbox (by simp), k.at h.row (by simp), h.low, h.len, bx_kept h.own k (by simp), h.is, h.lt, h.count, h.few⟩
theorem FinS.cells {W : World} {base FB LB FR n : Nat} {lv : Value} {fin : List Bool} {L : List Nat} (h : FinS W base FB LB FR n lv fin L) : W.cell? ⟨FB, 0, none⟩ = some (.slice (some ⟨FR, 0, none⟩) n n) ∧ W.cell? ⟨LB, 0, none⟩ = some lv ∧ (∀ s, s < n → W.cell? ⟨FR, s, none⟩ = some (.bool (fin.getD s false)) ∧ W.frozen? ⟨FR, s, none⟩ = false) := by
  refine ⟨(cell_of h.fbox 0).trans rfl, (cell_of h.lbox 0).trans rfl, fun s hs => ⟨?_, free_of h.row s⟩⟩
  have hl : s < fin.length := by rw [h.len]; exact hs
  rw [cell_of h.row]
  simp [List.getElem?_eq_getElem hl, List.getD_eq_getElem?_getD]
theorem FinS.off {W : World} {base FB LB FR n g : Nat} {lv : Value} {fin : List Bool} {L : List Nat} (h : FinS W base FB LB FR n lv fin L) (hg : lv.ownBlock = some g) : g ≠ FB ∧ g ≠ LB ∧ g ≠ FR ∧ base ≤ g ∧ g < W.heap.size := by
  rcases h.own.2 with ⟨rfl, _⟩ | ⟨g', cap, cur, rfl, hb, hw, _⟩
  · cases hg
  · cases hg
    refine ⟨?_, ?_, ?_, hb, lt_of hw⟩
    · intro e; subst e; rw [h.fbox] at hw; injection hw with hw; injection hw with _ hw _; exact absurd hw (by decide)
    · intro e; subst e; rw [h.lbox] at hw; injection hw with hw; injection hw with _ hw _; exact absurd hw (by decide)
    · intro e; subst e; rw [h.row] at hw; injection hw with hw; injection hw with _ hw _; exact absurd hw (by decide)
theorem FinS.ne {W : World} {base FB LB FR n : Nat} {lv : Value} {fin : List Bool} {L : List Nat} (h : FinS W base FB LB FR n lv fin L) : FB ≠ LB ∧ FB ≠ FR ∧ LB ≠ FR := by
  refine ⟨?_, ?_, ?_⟩
  · intro e; subst e; have hw := h.fbox; rw [h.lbox] at hw; injection hw with hw; injection hw with _ hw _; exact absurd hw (by decide)
  · intro e; subst e; have hw := h.fbox; rw [h.row] at hw; injection hw with hw; injection hw with _ hw _; exact absurd hw (by decide)
  · intro e; subst e; have hw := h.lbox; rw [h.row] at hw; injection hw with hw; injection hw with _ hw _; exact absurd hw (by decide)
/-- What leave may turn. -/
def FL (LB FR : Nat) (lv : Value) : List Nat := LB :: FR :: lv.ownBlock.toList
theorem FinS.leave {W : World} {base FB LB FR n s : Nat} {lv : Value} {fin : List Bool} {L : List Nat} (h : FinS W base FB LB FR n lv fin L) (hs : s < n) (hL : s ∉ L) :
    ∃ gr cap w2, (∀ ty, (Builtin.append_ #[83, 83] ty #[lv, .slice (some ⟨W.heap.size, 0, none⟩) 1 1]).run Try.prog ((W.setCell ⟨FR, s, none⟩ (.bool false)).alloc (.cells #[.int .i64 (s : Nat)] 3)) = .ok (.slice (some ⟨gr, 0, none⟩) (L.length + 1) cap) w2) ∧ w2.cell? ⟨LB, 0, none⟩ = some lv ∧ w2.frozen? ⟨LB, 0, none⟩ = false ∧
      FinS (w2.setCell ⟨LB, 0, none⟩ (.slice (some ⟨gr, 0, none⟩) (L.length + 1) cap)) base FB LB FR n (.slice (some ⟨gr, 0, none⟩) (L.length + 1) cap) (fin.set s false) (L ++ [s]) ∧
      Kept (FL LB FR lv) W (w2.setCell ⟨LB, 0, none⟩ (.slice (some ⟨gr, 0, none⟩) (L.length + 1) cap)) ∧ (lv.ownBlock = some gr ∨ W.heap.size ≤ gr) := by
  obtain ⟨inf, hi, hz, hss, hb⟩ := info_parts Try.infoInR
  obtain ⟨n1, n2, n3⟩ := h.ne
  obtain ⟨Y, hY⟩ : ∃ Y, (W.setCell ⟨FR, s, none⟩ (.bool false)).alloc (.cells #[.int .i64 (s : Nat)] 3) = Y := ⟨_, rfl⟩
  have hsz : (W.setCell ⟨FR, s, none⟩ (.bool false)).heap.size = W.heap.size := by simp [World.setCell]
  have k1 : Kept [FR] W (W.setCell ⟨FR, s, none⟩ (.bool false)) := (Kept.refl [FR] W).setCell (.inl (by simp)) _
  have kY : Kept [FR] W Y := by rw [← hY]; exact k1.alloc _
  have hA : Y.cell? ⟨W.heap.size, 0, none⟩ = some (.int .i64 (s : Nat)) := by rw [← hY, ← hsz]; exact (cell_of (al0 _ _) 0).trans rfl
  have hcnt := h.count
  have hfew := h.few
  have ho : Y.ownsRow base 3 1 lv L.length (numsN L) := bx_kept h.own kY (fun g hg => by have := (h.off hg).2.2.1; simpa using this)
  have hfr : Y.heap[FR]? = some (.cells (((fin.set s false).map Value.bool)).toArray 4 (0, 0)) := by
    rw [← hY]
    refine alUp ?_ _
    have e9 : (fin.map Value.bool).toArray.setIfInBounds s (.bool false) = ((fin.set s false).map Value.bool).toArray := by
      rw [List.map_set]
      apply Array.ext'
      rw [Array.toList_setIfInBounds]
    rw [bx_set h.row, e9]
  have hbase : base ≤ Y.heap.size := by have := lt_of h.lbox; have := kY.size; have := h.low.1; omega
  obtain ⟨gr, cap, w2, g1, g2, g3, g4, g5⟩ := run_append_lies (P := Try.prog) Y 83 0 base 3 inf (.int .i64 0) 1 8 Try.underlying83 hi hz hss hb rfl (by decide) lv L.length (numsN L) ho ⟨W.heap.size, 0, none⟩ 1 1 [.int .i64 (s : Nat)] rfl (fun j u hj => by
    cases j with
    | zero => cases hj; exact hA
    | succ j => simp at hj) (by intro u hu; simp at hu; subst hu; rfl) (by decide) (by unfold maxLen; omega) (by omega) hbase _ rfl
  have kold : ∀ b o, Y.heap[b]? = some o → (∀ g, lv.ownBlock = some g → g ≠ b) → w2.heap[b]? = some o := fun b o hb' hne => (g3.block _ (lt_of hb') (fun e => hne b e.symm rfl)).trans hb'
  have hfb2 := kold FB _ (kY.at h.fbox (by simpa using n2)) (fun g hg => (h.off hg).1)
  have hlb2 := kold LB _ (kY.at h.lbox (by simpa using n3)) (fun g hg => (h.off hg).2.1)
  have hfr2 := kold FR _ hfr (fun g hg => (h.off hg).2.2.1)
  have hgr : gr ≠ LB := by
    rcases g4 with g4 | g4
    · exact (h.off g4).2.1
    · have := lt_of h.lbox; have := kY.size; omega
  have kset : ∀ u, Kept [LB] w2 (w2.setCell ⟨LB, 0, none⟩ u) := fun u => (Kept.refl [LB] w2).setCell (.inl (by simp)) u
  have hsl : s < fin.length := by rw [h.len]; exact hs
  have hfs : fin[s] = true := by
    have := h.is s hs
    rw [List.getD_eq_getElem?_getD, List.getElem?_eq_getElem hsl] at this
    simpa [hL] using this
  refine ⟨gr, cap, w2, ?_, ?_, free_of hlb2 0, ⟨(kset _).at hfb2 (by simpa using n1), ?_, (kset _).at hfr2 (by simpa using fun e => n3 e.symm), h.low, by simp [h.len], ?_, ?_, ?_, ?_, h.few⟩, ?_, ?_⟩
  · rw [hY]; exact fun ty => g1
  · exact (cell_of hlb2 0).trans rfl
  · rw [bx_set hlb2]; rfl
  · rw [show numsN (L ++ [s]) = numsN L ++ [.int .i64 (s : Nat)] from by simp [numsN], List.length_append]
    exact bx_kept g2 (kset _) (fun g e hg => by cases e; exact hgr (by simpa using hg))
  · intro t ht
    rw [List.getD_eq_getElem?_getD]
    by_cases e : s = t
    · subst e
      rw [List.getElem?_set_self hsl]
      simp
    · rw [List.getElem?_set_ne e, ← List.getD_eq_getElem?_getD, h.is t ht]
      have : t ≠ s := fun q => e q.symm
      simp [this]
  · intro t ht
    rcases List.mem_append.1 ht with q | q
    · exact h.lt t q
    · rw [List.mem_singleton.1 q]; exact hs
  · have h1 := List.countP_set (p := id) (l := fin) (a := false) hsl
    have h2 : 0 < fin.countP id := List.countP_pos_iff.2 ⟨fin[s], List.getElem_mem _, by simp [hfs]⟩
    rw [hfs] at h1
    simp only [id, if_true, List.length_append, List.length_singleton] at h1 ⊢
    simp at h1
    have h3 : (List.countP id (fin.set s false)) = List.countP (fun a => a) (fin.set s false) := rfl
    have h4 : (List.countP id fin) = List.countP (fun a => a) fin := rfl
    omega
  · have k2 : Kept (FL LB FR lv) W Y := kY.mono (by unfold FL; simp)
    exact (k2.grown g3 (fun q e => .inl (by unfold FL; rw [e]; simp))).setCell (.inl (by unfold FL; simp)) _
  · rcases g4 with g4 | g4
    · exact .inl g4
    · exact .inr (by have := kY.size; omega)
/-- What leave leaves. -/
def LeaveEnd (base FB LB FR n s : Nat) (lv : Value) (L : List Nat) (w : World) (e : Ending) (w' : World) : Prop :=
  (∃ v, e = .returned v) ∧ ∃ lv' fin', Hid (FinS w' base FB LB FR n lv' fin' (if s ∈ L then L else L ++ [s])) ∧ Hid (Kept (FL LB FR lv) w w') ∧ Hid (∀ g, lv'.ownBlock = some g → lv.ownBlock = some g ∨ w.heap.size ≤ g)
set_option maxHeartbeats 2000000 in
set_option maxRecDepth 10000 in
theorem leave_any (base FB LB FR n s : Nat) (lv : Value) (fin : List Bool) (L : List Nat) (w : World) (h : FinS w base FB LB FR n lv fin L) (hs : s < n) :
    Calls Try.prog 66 #[.int .i64 (s : Nat), .pointer (some ⟨FB, 0, none⟩), .pointer (some ⟨LB, 0, none⟩)] w (LeaveEnd base FB LB FR n s lv L w) := by
  unfold LeaveEnd
  obtain ⟨c0, c1, c2⟩ := h.cells
  obtain ⟨d0, d1⟩ := c2 s hs
  have z0 : (0 : Int) ≤ (s : Int) := by omega
  have z1 : (s : Int) < (n : Int) := by omega
  by_cases hL : s ∈ L
  · rw [h.is s hs, decide_eq_false (by simp [hL])] at d0
    have HH : Hid (FinS w base FB LB FR n lv fin L) := h
    have HK : Hid (Kept (FL LB FR lv) w w) := Kept.refl _ w
    clear c1 c2 h
    rw [if_pos hL]
    go_enter Try.func66, Try.ntmps66
    go_wp2
    refine bodyPost_end (results_none rfl _ _ _) rfl ?_
    exact ⟨⟨_, rfl⟩, _, _, HH, HK, (fun g hg => .inl hg : ∀ g, lv.ownBlock = some g → lv.ownBlock = some g ∨ w.heap.size ≤ g)⟩
  · obtain ⟨gr, cap, w2, hrun, e0, e1, hF, hK, hg⟩ := h.leave hs hL
    rw [h.is s hs, decide_eq_true hL] at d0
    have hsz : (w.setCell ⟨FR, s, none⟩ (.bool false)).heap.size = w.heap.size := by simp [World.setCell]
    have HRUN : Hid (∀ ty, (Builtin.append_ #[83, 83] ty #[lv, .slice (some ⟨w.heap.size, 0, none⟩) 1 1]).run Try.prog ((w.setCell ⟨FR, s, none⟩ (.bool false)).alloc (.cells #[.int .i64 (s : Nat)] 3)) = .ok (.slice (some ⟨gr, 0, none⟩) (L.length + 1) cap) w2) := hrun
    have HF : Hid _ := hF
    have HK : Hid _ := hK
    have HG : Hid _ := hg
    have kl : Kept [FR] w (w.setCell ⟨FR, s, none⟩ (.bool false)) := (Kept.refl [FR] w).setCell (.inl (by simp)) _
    have c1' : (w.setCell ⟨FR, s, none⟩ (.bool false)).cell? ⟨LB, 0, none⟩ = some lv := (cell_of (kl.at h.lbox (by have := h.ne.2.2; simpa using this)) 0).trans rfl
    clear c1 c2 h kl hrun hF hK hg hsz
    rw [if_neg hL]
    go_enter Try.func66, Try.ntmps66
    go_wp2_with (at_builtin; refine Lib.wpList_append_run _ rfl _ _ _ _ rfl _ _ rfl rfl _ _ (HRUN.out _) ?_)
    refine bodyPost_end (results_none rfl _ _ _) rfl ?_
    exact ⟨⟨_, rfl⟩, _, _, HF, HK, fun g hg => by cases hg; exact HG.out⟩
end Go.Proofs.Ytbbfajbnklgncaa
