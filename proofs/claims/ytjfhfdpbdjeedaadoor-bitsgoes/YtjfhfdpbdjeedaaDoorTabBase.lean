/- What it means that a table of sets lies in memory; what is kept of it. No walk here. -/
import Derived.Test.YtjfhfdpbdjeedaaDoorCopy
import Derived.Test.YtjfhfdpbdjeedaaDoorKey
import Derived.Maps.OwnSet
import Derived.Maps.Views
namespace Go.Proofs.YtjfhfdpbdjeedaaDoor
open Go.RowKit

/-- The string key of a set, as a map's key. -/
def keyLit (K : List UInt8) : Lit := .string K

theorem ownsRow_kept {w w' : World} {F : List Nat} {base : Nat} {e : TypeId} {size : Nat} {v : Value} {n : Nat} {xs : List Value} (h : w.ownsRow base e size v n xs) (k : Kept F w w') (hne : ∀ x, v.ownBlock = some x → x ∉ F) : w'.ownsRow base e size v n xs := by
  obtain ⟨h1, h2 | ⟨g, cap, cur, h2, h3, h4, h5⟩⟩ := h
  · exact ⟨h1, Or.inl h2⟩
  · exact ⟨h1, Or.inr ⟨g, cap, cur, h2, h3, k.at h4 (hne g (by rw [h2]; rfl)), h5⟩⟩

/-- The map at block mb numbers the keys as they stand in the list. -/
def TabMap (w : World) (mb : Nat) (keys : List (List UInt8)) : Prop :=
  ∃ D : DataW Unit, w.ownsMap Tryd.prog 9 (plainElem Tryd.prog 3) mb keys.length D ∧ Maps.IsMap D ∧
    ∀ K : List UInt8, Maps.has D (keyLit K) = decide (K ∈ keys) ∧ (K ∈ keys → D.atKey (keyLit K) (.lit (.int .i64 0)) = .lit (.int .i64 (keys.idxOf K : Nat)))

theorem TabMap.kept {w w' : World} {F : List Nat} {mb : Nat} {keys : List (List UInt8)} (h : TabMap w mb keys) (k : Kept F w w') (hm : mb ∉ F) : TabMap w' mb keys := by
  obtain ⟨D, ⟨es, cl, h1, h2⟩, h3⟩ := h
  exact ⟨D, ⟨es, cl, k.at h1 hm, h2⟩, h3⟩
theorem TabMap.map {w : World} {mb : Nat} {keys : List (List UInt8)} (h : TabMap w mb keys) : ∃ es cl, w.heap[mb]? = some (.map es cl) := by
  obtain ⟨D, ⟨es, cl, h1, _⟩, _⟩ := h
  exact ⟨es, cl, h1⟩

theorem tabMap_made (w : World) : TabMap (w.alloc (.map #[] 0)) w.heap.size [] :=
  ⟨.map [], World.ownsMap_made _ _ _ _, Maps.isMap_empty, fun K => ⟨by simp [Maps.has], fun h => by simp at h⟩⟩

theorem isKeyLit (K : List UInt8) : WideAt.IsKeyLit (keyLit K) := by unfold keyLit WideAt.IsKeyLit; trivial
theorem keyLit_inj {K K' : List UInt8} (h : keyLit K' ≠ keyLit K) : K' ≠ K := fun e => h (by rw [e])

/-- A set of a table: where it lies, and its words. -/
structure Ent where
  b : Nat
  g : Nat
  c : Nat
  ws : List Nat

/-- A table of width n with the sets es, in their order: its struct is block tb, its map block mb, its slice v. -/
structure IsTable (w : World) (B tb mb n : Nat) (v : Value) (es : List Ent) : Prop where
  head : w.heap[tb]? = some (.cells #[.int .i64 n, v, .map (some mb)] 72 (0, 0))
  own : w.ownsRow B 37 1 v es.length (es.map fun e => .pointer (some ⟨e.b, 0, none⟩))
  sets : ∀ e ∈ es, IsSet w e.b e.g e.c n e.ws ∧ Good n e.ws
  map : TabMap w mb (es.map fun e => keyW n e.ws)
  few : es.length ≤ 1000000
  big : B ≤ w.heap.size

/-- The blocks that a call on a table may write: its struct, its map, its row. -/
def tabF (tb mb : Nat) (v : Value) : List Nat := tb :: mb :: v.ownBlock.toList

theorem IsTable.row_ne {w : World} {B tb mb n : Nat} {v : Value} {es : List Ent} (h : IsTable w B tb mb n v es) {x : Nat} (hx : v.ownBlock = some x) : ∃ cur, w.heap[x]? = some (.cells cur 37 (0, 0)) := by
  obtain ⟨h1, h2 | ⟨g, cap, cur, h2, h3, h4, h5⟩⟩ := h.own
  · rw [h2.1] at hx; simp [Value.ownBlock] at hx
  · rw [h2] at hx; simp [Value.ownBlock] at hx; subst hx; exact ⟨cur, h4⟩

theorem ne_of_obj {w : World} {a b : Nat} {o p : Obj} (h : w.heap[a]? = some o) (k : w.heap[b]? = some p) (hne : o ≠ p) : a ≠ b := by
  intro e; subst e; rw [h] at k; exact hne (by simpa using k)

theorem IsTable.kept {w w' : World} {F : List Nat} {B tb mb n : Nat} {v : Value} {es : List Ent} (h : IsTable w B tb mb n v es) (k : Kept F w w')
    (h1 : tb ∉ F) (h2 : mb ∉ F) (h3 : ∀ x, v.ownBlock = some x → x ∉ F) (h4 : ∀ e ∈ es, e.b ∉ F ∧ e.g ∉ F) : IsTable w' B tb mb n v es :=
  ⟨k.at h.head h1, ownsRow_kept h.own k h3, fun e he => ⟨(h.sets e he).1.kept k (h4 e he).1 (h4 e he).2, (h.sets e he).2⟩, h.map.kept k h2, h.few, Nat.le_trans h.big k.size⟩

theorem IsTable.quiet {w w' : World} {B tb mb n : Nat} {v : Value} {es : List Ent} (h : IsTable w B tb mb n v es) (k : Kept [] w w') : IsTable w' B tb mb n v es :=
  h.kept k (by simp) (by simp) (fun _ _ => by simp) (fun _ _ => by simp)

theorem Tryd.infoPS : (Tryd.prog.info? 37).map (fun i => (i.zero, i.size, i.bytes)) = some (some (.pointer none), 1, 8) := by kernel_rfl

/-- The keys behind one more. -/
theorem has_put_key {D : DataW Unit} {keys : List (List UInt8)} {K : List UInt8} (hD : Maps.IsMap D) (hn : K ∉ keys)
    (h : ∀ K : List UInt8, Maps.has D (keyLit K) = decide (K ∈ keys) ∧ (K ∈ keys → D.atKey (keyLit K) (.lit (.int .i64 0)) = .lit (.int .i64 (keys.idxOf K : Nat)))) :
    ∀ K' : List UInt8, Maps.has (D.put (keyLit K) (.lit (.int .i64 (keys.length : Nat)))) (keyLit K') = decide (K' ∈ keys ++ [K]) ∧
      (K' ∈ keys ++ [K] → (D.put (keyLit K) (.lit (.int .i64 (keys.length : Nat)))).atKey (keyLit K') (.lit (.int .i64 0)) = .lit (.int .i64 ((keys ++ [K]).idxOf K' : Nat))) := by
  intro K'
  by_cases e : K' = K
  · subst e
    refine ⟨by rw [Maps.has_put_same hD (isKeyLit _)]; simp, fun _ => ?_⟩
    rw [Maps.atKey_put_same hD (isKeyLit _), List.idxOf_append, if_neg hn]
    simp
  · have hne : keyLit K' ≠ keyLit K := fun h => e (by unfold keyLit at h; simpa using h)
    refine ⟨by rw [Maps.has_put_other hne, (h K').1]; simp [e], fun hm => ?_⟩
    have hm' : K' ∈ keys := by simpa [e] using hm
    rw [Maps.atKey_put_other hne, (h K').2 hm', List.idxOf_append, if_pos hm']
end Go.Proofs.YtjfhfdpbdjeedaaDoor
