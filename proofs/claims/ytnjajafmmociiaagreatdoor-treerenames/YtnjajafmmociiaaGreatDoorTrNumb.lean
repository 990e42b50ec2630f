/- The numbering of rows (unlike's first function): each row has the place it first came at. -/
import Derived.Test.YtnjajafmmociiaaGreatDoorTrRow
namespace Go.Proofs.YtnjajafmmociiaaGreatDoor
open Go.RowKit Go.Shelf Go.Maps

def Rw.same (r s : Rw) : Bool := r.op == s.op && r.name.data.toList == s.name.data.toList && r.ahead == s.ahead && r.kid == s.kid
theorem Rw.same_iff {r s : Rw} : r.same s = true ↔ r = s := by
  constructor
  · intro h
    simp only [Rw.same, Bool.and_eq_true, beq_iff_eq] at h
    obtain ⟨⟨⟨h1, h2⟩, h3⟩, h4⟩ := h
    obtain ⟨o, n, a, k⟩ := r
    obtain ⟨o', n', a', k'⟩ := s
    simp only at h1 h2 h3 h4
    have : n = n' := WideShapes.bytes_inj h2
    subst h1 this h3 h4
    rfl
  · rintro rfl; simp [Rw.same]
/-- The number of a row; is it a new one; the rows behind it. -/
def numRow (rows : List Rw) (r : Rw) : Nat × Bool × List Rw := match rows.findIdx? (fun s => r.same s) with
  | some i => (i + 1, false, rows)
  | none => (rows.length + 1, true, rows ++ [r])
theorem numRow_some {rows : List Rw} {r : Rw} {i : Nat} (h : rows.findIdx? (fun s => r.same s) = some i) : numRow rows r = (i + 1, false, rows) := by unfold numRow; rw [h]
theorem numRow_none {rows : List Rw} {r : Rw} (h : rows.findIdx? (fun s => r.same s) = none) : numRow rows r = (rows.length + 1, true, rows ++ [r]) := by unfold numRow; rw [h]
theorem numRow_len (rows : List Rw) (r : Rw) : rows.length ≤ (numRow rows r).2.2.length ∧ (numRow rows r).2.2.length ≤ rows.length + 1 ∧ (numRow rows r).1 ≤ rows.length + 1 := by
  cases h : rows.findIdx? (fun s => r.same s) with
  | some i =>
    rw [numRow_some h]
    have := (List.findIdx?_eq_some_iff_getElem.1 h).1
    exact ⟨by simp, by simp, by simp; omega⟩
  | none => rw [numRow_none h]; simp
/-- What the map tells of rows. -/
structure NumsOf (rows : List Rw) (D : DataW Unit) : Prop where
  map : Maps.IsMap D
  size : Maps.size D = rows.length
  ok : ∀ r ∈ rows, r.Ok
  has : ∀ r : Rw, r.Ok → Maps.has D (.string r.key) = rows.any (fun s => r.same s)
  at' : ∀ r : Rw, r.Ok → ∀ i, rows.findIdx? (fun s => r.same s) = some i → D.atKey (.string r.key) (.lit (.int .i64 0)) = .lit (.int .i64 ((i + 1 : Nat) : Nat))
theorem NumsOf.nil : NumsOf [] (.map [] : DataW Unit) := ⟨⟨_, rfl⟩, rfl, by simp, fun _ _ => rfl, fun r _ i h => by simp at h⟩
theorem NumsOf.add {rows : List Rw} {D : DataW Unit} (h : NumsOf rows D) {r : Rw} (hr : r.Ok) (hno : rows.findIdx? (fun s => r.same s) = none) (ht : Maps.Tidy D) : NumsOf (rows ++ [r]) (D.put (.string r.key) (.lit (.int .i64 ((rows.length + 1 : Nat) : Nat)))) := by
  have hk : ∀ q : Rw, q.Ok → q ≠ r → Lit.string q.key ≠ Lit.string r.key := fun q hq hne e => hne (rowKey_inj hq hr (Lit.string.inj e))
  refine ⟨h.map.put _ _, ?_, ?_, fun q hq => ?_, fun q hq i hi => ?_⟩
  · have hf : Maps.has D (.string r.key) = false := by
      rw [h.has r hr, List.any_eq_false]
      exact fun x hx => by have := List.findIdx?_eq_none_iff.1 hno x hx; simpa using this
    rw [Maps.size_put ht, hf, h.size]; simp
  · intro q hq
    rcases List.mem_append.1 hq with e | e
    · exact h.ok q e
    · rw [List.mem_singleton.1 e]; exact hr
  · rw [List.any_append]
    by_cases e : q = r
    · subst e
      rw [Maps.has_put_same h.map (by trivial)]
      simp [Rw.same]
    · rw [Maps.has_put_other (hk q hq e), h.has q hq]
      have : q.same r = false := by rw [← Bool.not_eq_true, Rw.same_iff]; exact e
      simp [this]
  · rw [List.findIdx?_append] at hi
    by_cases e : q = r
    · subst e
      rw [hno] at hi
      have hs : q.same q = true := Rw.same_iff.2 rfl
      simp [List.findIdx?_cons, hs] at hi
      subst hi
      exact Maps.atKey_put_same h.map (by trivial) _ _
    · rw [Maps.atKey_put_other (hk q hq e)]
      have : q.same r = false := by rw [← Bool.not_eq_true, Rw.same_iff]; exact e
      cases hh : rows.findIdx? (fun s => q.same s) with
      | some j => rw [hh] at hi; simp at hi; subst hi; exact h.at' q hq j hh
      | none => rw [hh] at hi; simp [List.findIdx?_cons, this] at hi

set_option maxHeartbeats 1000000 in
theorem number_any (r : Rw) (hr : r.Ok) (Bm Mb : Nat) (rows : List Rw) (D : DataW Unit) (w : World) (hb : Boxed w Bm 153 (.map (some Mb))) (hm : w.ownsMap Tryz.prog 155 (plainElem Tryz.prog 3) Mb rows.length D) (hn : NumsOf rows D) (hl : rows.length ≤ 1125899906842624) :
    Calls Tryz.prog 91 #[r.val, .pointer (some ⟨Bm, 0, none⟩)] w fun e w' => e = .returned (.tuple #[.int .i64 ((numRow rows r).1 : Nat), .bool (numRow rows r).2.1]) ∧ Kept [Mb] w w' ∧ Boxed w' Bm 153 (.map (some Mb)) ∧ ∃ D', w'.ownsMap Tryz.prog 155 (plainElem Tryz.prog 3) Mb (numRow rows r).2.2.length D' ∧ NumsOf (numRow rows r).2.2 D' := by
  have HKEY : Hid (keyOf Tryz.prog 155 r.val = some (.string r.key)) := rowKey r hr
  have hhas := hn.has r hr
  have HN : Hid (NumsOf rows D) := hn
  have HR : Hid r.Ok := hr
  have HB : Hid (Boxed w Bm 153 (.map (some Mb))) := hb
  have cb := hb.cell
  have lb := hb.lt
  have n1 : ¬ Bm = w.heap.size := by omega
  have n2 : ¬ w.heap.size = Bm := by omega
  have lm : Mb < w.heap.size := by obtain ⟨es, cl, q, _⟩ := hm; exact lt_of q
  have HTI : Hid (Maps.Tidy D) := hm.tidy lawRow
  have HNE : Hid (Bm ≠ Mb) := by
    rintro rfl
    obtain ⟨es, cl, q, _⟩ := hm
    rw [show w.heap[Bm]? = _ from hb] at q; cases q
  have HM : Hid _ := fun o => hm.alloc o
  clear hn hr hb hm
  dsimp only [Rw.val, Rw.cells]
  dsimp only [Rw.val, Rw.cells] at HKEY
  cases hf : rows.findIdx? (fun s => r.same s) with
  | some i =>
    have hq : Maps.has D (.string r.key) = true := by
      rw [hhas, List.any_eq_true]
      obtain ⟨h1, h2, _⟩ := List.findIdx?_eq_some_iff_getElem.1 hf
      exact ⟨_, List.getElem_mem h1, h2⟩
    have HAT : Hid _ := HN.out.at' r HR.out i hf
    rw [numRow_some hf]
    clear hhas hf
    go_enter Tryz.func91, Tryz.ntmps91
    go_wp2_with (first | (at_lookup; refine wpList_lookup_own_ok_int _ rfl _ _ 153 rfl 155 3 .i64 lawRow Tryz.underlying153 Tryz.underlying3 (zeroInt _) Mb rows.length D rfl (HM.out _) _ _ rfl HKEY.out ?_; intro c hat hwc; rw [hq]; obtain rfl : c = ((i + 1 : Nat) : Int) := (by rw [HAT.out] at hat; cases hat; rfl); clear hat hwc) | go_in)
    exact (by
      go_ret2
      exact ⟨rfl, (Kept.refl [Mb] w).alloc _, Boxed.alloc HB.out _, D, HM.out _, HN.out⟩)
  | none =>
    have hq : Maps.has D (.string r.key) = false := by
      rw [hhas, List.any_eq_false]
      exact fun x hx => by have := List.findIdx?_eq_none_iff.1 hf x hx; simpa using this
    have HADD : Hid _ := HN.out.add HR.out hf HTI.out
    rw [numRow_none hf]
    clear hhas hf
    go_enter Tryz.func91, Tryz.ntmps91
    go_wp2_with (first | (at_lookup; refine wpList_lookup_own_ok_int _ rfl _ _ 153 rfl 155 3 .i64 lawRow Tryz.underlying153 Tryz.underlying3 (zeroInt _) Mb rows.length D rfl (HM.out _) _ _ rfl HKEY.out ?_; intro c hat hwc; rw [hq]; clear hat hwc) | (at_len; refine wpList_len_own _ rfl _ 153 rfl 155 3 Tryz.underlying153 _ Mb rows.length D rfl (HM.out _) ?_; rw [HN.out.size]) | (at_mapUpdate; refine wpList_mapUpdate_own _ rfl _ _ _ 153 rfl 155 3 lawRow Tryz.underlying153 _ Mb rows.length D rfl (HM.out _) (by unfold maxLen; omega) _ _ _ rfl rfl HKEY.out (.lit (.int .i64 ((rows.length + 1 : Nat) : Nat))) [] (plainElem_int Tryz.underlying3 (WalkArith.wf_i64 (by omega))) ?_; intro w1 hown1 hg1) | go_in)
    go_ret2
    refine ⟨rfl, ((Kept.refl [Mb] w).alloc _).grown hg1 (fun k e => .inl (by cases e; simp)), (Boxed.alloc HB.out _).kept hg1 (fun e => HNE.out (by cases e; rfl)), _, ?_, HADD.out⟩
    rw [List.length_append]
    exact hown1
end Go.Proofs.YtnjajafmmociiaaGreatDoor
