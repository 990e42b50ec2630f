/- Trees: what a formula is, plain; and how it lies in memory. No walk here. -/
import Derived.Test.YtnjajafmmociiaaGreatDoorKeeps
namespace Go.Proofs.YtnjajafmmociiaaGreatDoor
open Go.RowKit

/-- A tree: any api.Formula. -/
structure Tr where
  op : Nat
  name : ByteArray
  kids : List Tr

theorem Tr.ind {p : Tr → Prop} (h : ∀ t : Tr, (∀ k ∈ t.kids, p k) → p t) : ∀ t, p t
  | ⟨o, n, ks⟩ => h ⟨o, n, ks⟩ (fun k _ => Tr.ind h k)
/-- What is told of a tree by what is told of its kids. -/
def Tr.para {α : Type} (f : Tr → List α → α) : Tr → α
  | ⟨o, n, ks⟩ => f ⟨o, n, ks⟩ (ks.map (Tr.para f))
theorem Tr.para_eq {α : Type} (f : Tr → List α → α) (t : Tr) : t.para f = f t (t.kids.map (Tr.para f)) := by
  cases t; rw [Tr.para]

/-- How many trees stand in it; how deep. -/
def Tr.size : Tr → Nat := Tr.para (fun _ rs => 1 + rs.sum)
theorem Tr.size_eq (t : Tr) : t.size = 1 + (t.kids.map Tr.size).sum := Tr.para_eq _ t
def Tr.depth : Tr → Nat := Tr.para (fun _ rs => 1 + rs.foldl max 0)
theorem Tr.depth_eq (t : Tr) : t.depth = 1 + (t.kids.map Tr.depth).foldl max 0 := Tr.para_eq _ t

/-- What stands in it, each with its place. -/
def rowsFrom {β : Type} (p : List Nat) : Nat → List (List Nat → List β) → List β
  | _, [] => []
  | i, r :: rs => r (p ++ [i]) ++ rowsFrom p (i + 1) rs
def Tr.parts : Tr → List Nat → List (List Nat × Tr) := Tr.para (fun t rs p => (p, t) :: rowsFrom p 0 rs)
def kidsParts (p : List Nat) (ks : List Tr) : List (List Nat × Tr) := rowsFrom p 0 (ks.map Tr.parts)
theorem Tr.parts_eq (t : Tr) (p : List Nat) : t.parts p = (p, t) :: kidsParts p t.kids := congrFun (Tr.para_eq _ t) p
theorem rowsFrom_snoc {β : Type} (p : List Nat) (r : List Nat → List β) : ∀ (rs : List (List Nat → List β)) (i : Nat), rowsFrom p i (rs ++ [r]) = rowsFrom p i rs ++ r (p ++ [i + rs.length])
  | [], i => by simp [rowsFrom]
  | q :: rs, i => by
    rw [List.cons_append, rowsFrom, rowsFrom, rowsFrom_snoc p r rs (i + 1), List.append_assoc, List.length_cons, show i + 1 + rs.length = i + (rs.length + 1) from by omega]
theorem kidsParts_take (p : List Nat) (ks : List Tr) (i : Nat) (h : i < ks.length) : kidsParts p (ks.take (i + 1)) = kidsParts p (ks.take i) ++ ks[i].parts (p ++ [i]) := by
  unfold kidsParts
  rw [List.take_succ_eq_append_getElem h, List.map_append, List.map_singleton, rowsFrom_snoc]
  simp [Nat.min_eq_left (Nat.le_of_lt h)]
theorem kidsParts_prefix (p : List Nat) (ks : List Tr) (i : Nat) : kidsParts p (ks.take i) <+: kidsParts p ks := by
  have key : ∀ (rs qs : List (List Nat → List (List Nat × Tr))) (j : Nat), rowsFrom p j rs <+: rowsFrom p j (rs ++ qs) := by
    intro rs
    induction rs with
    | nil => intro qs j; simp [rowsFrom]
    | cons r rs ih =>
      intro qs j
      rw [List.cons_append, rowsFrom, rowsFrom, List.prefix_append_right_inj]
      exact ih qs (j + 1)
  have := key ((ks.take i).map Tr.parts) ((ks.drop i).map Tr.parts) 0
  rwa [← List.map_append, List.take_append_drop] at this
theorem rowsFrom_length {β : Type} (p : List Nat) : ∀ (rs : List (List Nat → List β)) (ns : List Nat) (i : Nat), rs.length = ns.length → (∀ k (h : k < rs.length) (h' : k < ns.length) q, (rs[k] q).length = ns[k]) → (rowsFrom p i rs).length = ns.sum
  | [], [], _, _, _ => rfl
  | [], _ :: _, _, h, _ => by simp at h
  | _ :: _, [], _, h, _ => by simp at h
  | r :: rs, n :: ns, i, h, hk => by
    rw [rowsFrom, List.length_append, List.sum_cons, rowsFrom_length p rs ns (i + 1) (by simpa using h) (fun k h1 h2 q => hk (k + 1) (by simpa using h1) (by simpa using h2) q)]
    rw [show (r (p ++ [i])).length = n from hk 0 (by simp) (by simp) _]
theorem Tr.parts_length (t : Tr) : ∀ p, (t.parts p).length = t.size := by
  induction t using Tr.ind with
  | h t ih =>
    intro p
    rw [Tr.parts_eq, Tr.size_eq, List.length_cons, kidsParts, rowsFrom_length p _ (t.kids.map Tr.size) 0 (by simp), Nat.add_comm]
    intro k h h' q
    simp only [List.getElem_map]
    exact ih _ (List.getElem_mem _) q
theorem Tr.size_pos (t : Tr) : 1 ≤ t.size := by rw [Tr.size_eq]; omega
theorem sum_mem {l : List Nat} {n : Nat} (h : n ∈ l) : n ≤ l.sum := by
  induction l with
  | nil => cases h
  | cons a l ih =>
    rw [List.sum_cons]
    rcases List.mem_cons.1 h with e | e
    · omega
    · have := ih e; omega
theorem sum_length {l : List Nat} (h : ∀ n ∈ l, 1 ≤ n) : l.length ≤ l.sum := by
  induction l with
  | nil => simp
  | cons a l ih =>
    rw [List.sum_cons, List.length_cons]
    have := ih (fun n hn => h n (by simp [hn]))
    have := h a (by simp)
    omega
theorem Tr.kid_size {t k : Tr} (h : k ∈ t.kids) : k.size < t.size := by
  rw [Tr.size_eq t]
  have := sum_mem (List.mem_map.2 ⟨k, h, rfl⟩ : k.size ∈ t.kids.map Tr.size)
  omega
theorem Tr.kids_size (t : Tr) : t.kids.length < t.size := by
  rw [Tr.size_eq t]
  have := sum_length (l := t.kids.map Tr.size) (fun n hn => by obtain ⟨k, _, rfl⟩ := List.mem_map.1 hn; exact k.size_pos)
  rw [List.length_map] at this
  omega

/-- All that stands in it is of such a kind. -/
def Tr.All (q : Tr → Prop) : Tr → Prop := Tr.para (fun t rs => q t ∧ ∀ r ∈ rs, r)
theorem Tr.all_eq {q : Tr → Prop} (t : Tr) : t.All q ↔ (q t ∧ ∀ k ∈ t.kids, k.All q) := by
  unfold Tr.All
  rw [Tr.para_eq]
  refine and_congr_right fun _ => ⟨fun h k hk => h _ (List.mem_map.2 ⟨k, hk, rfl⟩), fun h r hr => ?_⟩
  obtain ⟨k, hk, rfl⟩ := List.mem_map.1 hr
  exact h k hk
theorem rowsFrom_mem {β : Type} {p : List Nat} {x : β} : ∀ {rs : List (List Nat → List β)} {i : Nat}, x ∈ rowsFrom p i rs → ∃ r ∈ rs, ∃ q, x ∈ r q
  | [], _, h => by simp [rowsFrom] at h
  | r :: rs, i, h => by
    rw [rowsFrom] at h
    rcases List.mem_append.1 h with h | h
    · exact ⟨r, by simp, _, h⟩
    · obtain ⟨r', h1, h2⟩ := rowsFrom_mem h
      exact ⟨r', by simp [h1], h2⟩
theorem Tr.All.part {q : Tr → Prop} {t : Tr} : ∀ {p : List Nat} {x : List Nat × Tr}, t.All q → x ∈ t.parts p → q x.2 := by
  induction t using Tr.ind with
  | h t ih =>
    intro p x h hx
    obtain ⟨h1, h2⟩ := (Tr.all_eq t).1 h
    rw [Tr.parts_eq] at hx
    rcases List.mem_cons.1 hx with rfl | hx
    · exact h1
    · obtain ⟨r, hr, q', hx'⟩ := rowsFrom_mem hx
      obtain ⟨k, hk, rfl⟩ := List.mem_map.1 hr
      exact ih k hk (h2 k hk) hx'
/-- What Go's types allow: an Op is a byte. -/
def Tr.Fine (t : Tr) : Prop := t.All (fun x => x.op < 256 ∧ x.name.size ≤ maxLen)

/-- The tree's kids lie in memory, in blocks of X: kv is the slice of them. -/
def IsT (X : Nat → Prop) (w : World) : Tr → Value → Prop :=
  Tr.para (fun t rs kv => ∃ ad cap, kv = .slice ad t.kids.length cap ∧ (rs.length = 0 ∨ ∃ b off, ad = some ⟨b, off, none⟩ ∧ X b ∧
    ∀ i (h : i < rs.length), ∃ kv, w.cell? ⟨b, off + i * 3, none⟩ = some (.int .u8 ((t.kids[i]?.map Tr.op).getD 0 : Nat)) ∧ w.cell? ⟨b, off + i * 3 + 1, none⟩ = some (.string ((t.kids[i]?.map Tr.name).getD ⟨#[]⟩)) ∧ w.cell? ⟨b, off + i * 3 + 2, none⟩ = some kv ∧ rs[i] kv))
theorem isT_eq {X : Nat → Prop} {w : World} (t : Tr) (kv : Value) : IsT X w t kv ↔ ∃ ad cap, kv = .slice ad t.kids.length cap ∧ (t.kids.length = 0 ∨ ∃ b off, ad = some ⟨b, off, none⟩ ∧ X b ∧
    ∀ i (h : i < t.kids.length), ∃ kv, w.cell? ⟨b, off + i * 3, none⟩ = some (.int .u8 (t.kids[i].op : Nat)) ∧ w.cell? ⟨b, off + i * 3 + 1, none⟩ = some (.string t.kids[i].name) ∧ w.cell? ⟨b, off + i * 3 + 2, none⟩ = some kv ∧ IsT X w t.kids[i] kv) := by
  unfold IsT
  rw [Tr.para_eq]
  simp only [List.length_map, List.getElem_map]
  refine exists_congr fun ad => exists_congr fun cap => and_congr_right fun _ => or_congr_right ?_
  refine exists_congr fun b => exists_congr fun off => and_congr_right fun _ => and_congr_right fun _ => ?_
  refine forall_congr' fun i => forall_congr' fun h => ?_
  simp [List.getElem?_eq_getElem h]
theorem IsT.slice {X : Nat → Prop} {w : World} {t : Tr} {kv : Value} (h : IsT X w t kv) : ∃ ad cap, kv = .slice ad t.kids.length cap := by
  obtain ⟨ad, cap, e, _⟩ := (isT_eq t kv).1 h
  exact ⟨ad, cap, e⟩
theorem IsT.kid {X : Nat → Prop} {w : World} {t : Tr} {ad : Option Addr} {n cap : Nat} (h : IsT X w t (.slice ad n cap)) (h0 : 0 < t.kids.length) : ∃ b off, ad = some ⟨b, off, none⟩ ∧ X b ∧
    ∀ i (h : i < t.kids.length), ∃ kv, w.cell? ⟨b, off + i * 3, none⟩ = some (.int .u8 (t.kids[i].op : Nat)) ∧ w.cell? ⟨b, off + i * 3 + 1, none⟩ = some (.string t.kids[i].name) ∧ w.cell? ⟨b, off + i * 3 + 2, none⟩ = some kv ∧ IsT X w t.kids[i] kv := by
  obtain ⟨ad', cap', e, h'⟩ := (isT_eq t _).1 h
  cases e
  exact h'.resolve_left (by omega)
/-- What keeps these cells keeps the tree. -/
theorem IsT.cells {X Y : Nat → Prop} {w w' : World} (hX : ∀ k, X k → Y k) (hw : ∀ b o v, X b → w.cell? ⟨b, o, none⟩ = some v → w'.cell? ⟨b, o, none⟩ = some v) {t : Tr} : ∀ {kv : Value}, IsT X w t kv → IsT Y w' t kv := by
  induction t using Tr.ind with
  | h t ih =>
    intro kv h
    obtain ⟨ad, cap, e, h⟩ := (isT_eq t kv).1 h
    refine (isT_eq t kv).2 ⟨ad, cap, e, h.imp id ?_⟩
    rintro ⟨b, off, e1, hb, hk⟩
    refine ⟨b, off, e1, hX b hb, fun i hi => ?_⟩
    obtain ⟨kv', c0, c1, c2, hr⟩ := hk i hi
    exact ⟨kv', hw _ _ _ hb c0, hw _ _ _ hb c1, hw _ _ _ hb c2, ih _ (List.getElem_mem _) hr⟩
/-- What keeps these blocks keeps the tree. -/
theorem IsT.keep {X Y : Nat → Prop} {w w' : World} (hX : ∀ k, X k → Y k) (hw : ∀ k o, X k → w.heap[k]? = some o → w'.heap[k]? = some o) {t : Tr} {kv : Value} (h : IsT X w t kv) : IsT Y w' t kv :=
  h.cells hX (fun b o v hb hv => by
    obtain ⟨ob, hob⟩ : ∃ ob, w.heap[b]? = some ob := ⟨_, Array.getElem?_eq_getElem (World.block_lt_of_cell? w _ hv)⟩
    have h' := hw b ob hb hob
    simp only [World.cell?, hob] at hv
    simp only [World.cell?, h']
    exact hv)
theorem IsT.mono {X Y : Nat → Prop} {w : World} {t : Tr} {kv : Value} (h : IsT X w t kv) (hX : ∀ k, X k → Y k) : IsT Y w t kv := h.keep hX (fun _ _ _ h => h)
theorem IsT.below {n₀ : Nat} {w w' : World} {t : Tr} {kv : Value} (h : IsT (fun k => k < n₀) w t kv) (hb : Below n₀ w w') : IsT (fun k => k < n₀) w' t kv := h.keep (fun _ h => h) (fun k _ hk ho => (hb.block k hk).trans ho)
theorem IsT.leaf (X : Nat → Prop) (w : World) {t : Tr} (h : t.kids = []) (ad : Option Addr) (cap : Nat) : IsT X w t (.slice ad 0 cap) :=
  (isT_eq t _).2 ⟨ad, cap, by rw [h]; rfl, .inl (by rw [h]; rfl)⟩
/-- The formula itself, as a value. -/
def fV (t : Tr) (kv : Value) : Value := .agg #[.int .u8 (t.op : Nat), .string t.name, kv]
end Go.Proofs.YtnjajafmmociiaaGreatDoor
