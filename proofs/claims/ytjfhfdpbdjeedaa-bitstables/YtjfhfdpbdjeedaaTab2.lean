/- A table beside other sets: Intern in one contract; what stays apart. -/
import Derived.Test.YtjfhfdpbdjeedaaFind
import Derived.Test.YtjfhfdpbdjeedaaAlg
namespace Go.Proofs.Ytjfhfdpbdjeedaa
open Go.RowKit

/-- The keys of a table's sets. -/
def keysOf (n : Nat) (es : List Ent) : List (List UInt8) := es.map fun e => keyW n e.ws
/-- A table whose sets all differ, all of it made since w0. -/
structure TabOk (w0 w : World) (B tb mb n : Nat) (v : Value) (es : List Ent) : Prop where
  is : IsTable w B tb mb n v es
  nodup : (keysOf n es).Nodup
  ftb : w0.heap.size ≤ tb
  fmb : w0.heap.size ≤ mb
  frow : ∀ x, v.ownBlock = some x → w0.heap.size ≤ x
  fset : ∀ e ∈ es, w0.heap.size ≤ e.g

theorem IsTable.tabF_lt {w : World} {B tb mb n : Nat} {v : Value} {es : List Ent} (h : IsTable w B tb mb n v es) : ∀ x ∈ tabF tb mb v, x < w.heap.size := by
  intro x hx
  unfold tabF at hx
  simp at hx
  rcases hx with h1 | h1 | h1
  · rw [h1]; exact lt_of h.head
  · obtain ⟨a, c, h'⟩ := h.map.map; rw [h1]; exact lt_of h'
  · obtain ⟨cur, h'⟩ := h.row_ne h1; exact lt_of h'

/-- No block of a set is one of a table's own. -/
theorem set_apart {w : World} {B tb mb n b g c n' : Nat} {v : Value} {es : List Ent} {ws : List Nat} (ht : IsTable w B tb mb n v es) (hs : IsSet w b g c n' ws) : b ∉ tabF tb mb v ∧ g ∉ tabF tb mb v := by
  obtain ⟨cur0, hc0, _⟩ := hs.row
  obtain ⟨a, cl, hm⟩ := ht.map.map
  constructor
  · intro h
    unfold tabF at h
    simp at h
    rcases h with h | h | h
    · exact ne_of_obj hs.head ht.head (by simp) h
    · exact ne_of_obj hs.head hm (by simp) h
    · obtain ⟨cur, h'⟩ := ht.row_ne h; exact ne_of_obj hs.head h' (by simp) rfl
  · intro h
    unfold tabF at h
    simp at h
    rcases h with h | h | h
    · exact ne_of_obj hc0 ht.head (by simp) h
    · exact ne_of_obj hc0 hm (by simp) h
    · obtain ⟨cur, h'⟩ := ht.row_ne h; exact ne_of_obj hc0 h' (by simp) rfl

/-- A set that is none of the table's is written: the table stays. -/
theorem TabOk.put {w0 w w' : World} {B tb mb n b g c n' : Nat} {v : Value} {es : List Ent} {ws : List Nat} (h : TabOk w0 w B tb mb n v es) (hs : IsSet w b g c n' ws) (hne : ∀ e ∈ es, e.g ≠ g) (k : Kept [g] w w') : TabOk w0 w' B tb mb n v es := by
  have ha := (set_apart h.is hs).2
  unfold tabF at ha
  simp at ha
  obtain ⟨h1, h2, h3⟩ := ha
  obtain ⟨cur0, hc0, _⟩ := hs.row
  refine ⟨h.is.kept k (by simpa using fun e => h1 e.symm) (by simpa using fun e => h2 e.symm) (fun x hx => by simp; intro e; subst e; exact h3 hx) (fun e he => ⟨?_, by simpa using hne e he⟩), h.nodup, h.ftb, h.fmb, h.frow, h.fset⟩
  simpa using ne_of_obj (h.is.sets e he).1.head hc0 (by simp)
theorem TabOk.on {w0 w w' : World} {B tb mb n : Nat} {v : Value} {es : List Ent} (h : TabOk w0 w B tb mb n v es) (k : Kept [] w w') : TabOk w0 w' B tb mb n v es :=
  ⟨h.is.quiet k, h.nodup, h.ftb, h.fmb, h.frow, h.fset⟩
theorem TabOk.base {w0 w : World} {B tb mb n : Nat} {v : Value} {es : List Ent} (h : TabOk w0 w B tb mb n v es) : ∀ x ∈ tabF tb mb v, w0.heap.size ≤ x := by
  intro x hx
  unfold tabF at hx
  simp at hx
  rcases hx with h1 | h1 | h1
  · rw [h1]; exact h.ftb
  · rw [h1]; exact h.fmb
  · exact h.frow x h1

theorem getElem_idxOf {es : List Ent} {n : Nat} {K : List UInt8} (h : K ∈ keysOf n es) : ∃ en, es[(keysOf n es).idxOf K]? = some en ∧ keyW n en.ws = K := by
  have hl := List.idxOf_lt_length_of_mem h
  have hl' : (keysOf n es).idxOf K < es.length := by simpa [keysOf] using hl
  refine ⟨es[(keysOf n es).idxOf K], List.getElem?_eq_getElem hl', ?_⟩
  have e := List.getElem_idxOf hl
  simp only [keysOf, List.getElem_map] at e
  exact e

/-- Intern of a set of the table's width, in one contract. -/
theorem intern_any {w0 : World} (B tb mb n b g c : Nat) (v : Value) (es : List Ent) (ws : List Nat) (w : World) (ht : TabOk w0 w B tb mb n v es) (hs : IsSet w b g c n ws) (hG : Good n ws) (hf : es.length < 1000000) (hw : w0.heap.size ≤ w.heap.size) :
    Calls Try.prog 17 #[.pointer (some ⟨tb, 0, none⟩), .pointer (some ⟨b, 0, none⟩)] w fun e w' =>
      ∃ (k : Nat) (d : Bool) (v' : Value) (es' : List Ent) (en : Ent), e = .returned (.tuple #[.int .i64 (k : Nat), .bool d]) ∧ d = decide (k = es.length) ∧ TabOk w0 w' B tb mb n v' es' ∧ es'[k]? = some en ∧ en.ws = ws ∧
        (keysOf n es').idxOf (keyW n ws) = k ∧ keyW n ws ∈ keysOf n es' ∧ k ≤ es.length ∧ es'.length = max es.length (k + 1) ∧ (∀ x ∈ es', x ∈ es ∨ w.heap.size ≤ x.g) ∧
        Kept (tabF tb mb v) w w' ∧ (d = true ∧ es' = es ++ [en] ∨ d = false ∧ es' = es ∧ Kept [] w w') := by
  by_cases hm : keyW n ws ∈ keysOf n es
  · refine (intern_old B tb mb n b g c v es ws w ht.is hs hG hm).mono fun e w' ⟨h1, h2⟩ => ?_
    obtain ⟨en, hen, hk⟩ := getElem_idxOf hm
    have hl : (keysOf n es).idxOf (keyW n ws) < es.length := by
      have := List.idxOf_lt_length_of_mem hm
      simpa [keysOf] using this
    have hgen := (ht.is.sets en (List.mem_of_getElem? hen)).2
    refine ⟨(keysOf n es).idxOf (keyW n ws), false, v, es, en, h1, ?_, ht.on h2, hen, keyW_inj hgen hG hk, rfl, hm, by omega, by omega, fun x hx => Or.inl hx, h2.mono (by simp), Or.inr ⟨rfl, rfl, h2⟩⟩
    symm; rw [decide_eq_false_iff_not]; omega
  · refine (intern_new B tb mb n b g c v es ws w ht.is hs hG hm hf).mono fun e w' ⟨h1, v', en, h2, h3, h4, h5, h6, h7⟩ => ?_
    have hkeys : keysOf n (es ++ [en]) = keysOf n es ++ [keyW n ws] := by simp [keysOf, h2]
    refine ⟨es.length, true, v', es ++ [en], en, h1, by simp, ⟨h3, ?_, ht.ftb, ht.fmb, fun x hx => ?_, fun e he => ?_⟩, by simp, h2, ?_, by rw [hkeys]; simp, Nat.le_refl _, by simp, fun x hx => ?_, h7, Or.inl ⟨rfl, rfl⟩⟩
    · rw [hkeys, List.nodup_append]
      exact ⟨ht.nodup, by simp, fun a ha b hb => by simp at hb; rw [hb]; exact fun e => hm (e ▸ ha)⟩
    · rcases h6 x hx with h | h
      · exact ht.frow x h
      · omega
    · simp at he
      rcases he with he | he
      · exact ht.fset e he
      · rw [he]; omega
    · rw [hkeys, List.idxOf_append, if_neg hm]; simp [keysOf]
    · simp at hx
      rcases hx with hx | hx
      · exact Or.inl hx
      · right; rw [hx]; exact h5

theorem newTable_ok (n : Nat) (w : World) (w0 : World) (hn : n ≤ 65536) (hw : w0.heap.size ≤ w.heap.size) :
    Calls Try.prog 15 #[.int .i64 n] w fun e w' => ∃ tb mb, e = .returned (.pointer (some ⟨tb, 0, none⟩)) ∧ TabOk w0 w' w.heap.size tb mb n (.slice none 0 0) [] ∧ Kept [] w w' :=
  (newTable_any n w hn).mono fun e w' ⟨tb, mb, h1, h2, h3, h4, h5⟩ => ⟨tb, mb, h1, ⟨h2, by simp [keysOf], by omega, by omega, fun x hx => by simp [Value.ownBlock] at hx, fun e he => by simp at he⟩, h5⟩
theorem find_ok {w0 : World} (B tb mb n b g c : Nat) (v : Value) (es : List Ent) (ws : List Nat) (w : World) (k : Nat) (ht : TabOk w0 w B tb mb n v es) (hs : IsSet w b g c n ws) (hG : Good n ws) (hm : keyW n ws ∈ keysOf n es) (hk : (keysOf n es).idxOf (keyW n ws) = k) :
    Calls Try.prog 18 #[.pointer (some ⟨tb, 0, none⟩), .pointer (some ⟨b, 0, none⟩)] w fun e w' => e = .returned (.int .i64 (k : Nat)) ∧ Kept [] w w' :=
  (find_any B tb mb n b g c v es ws w ht.is hs hG).mono fun e w' ⟨h1, h2⟩ => ⟨by
    have e1 : findN (es.map fun e => keyW n e.ws) (keyW n ws) = (k : Int) := by
      have hm' : keyW n ws ∈ es.map fun e => keyW n e.ws := hm
      unfold findN; rw [if_pos hm', ← hk]; rfl
    rw [h1, e1], h2⟩
end Go.Proofs.Ytjfhfdpbdjeedaa
