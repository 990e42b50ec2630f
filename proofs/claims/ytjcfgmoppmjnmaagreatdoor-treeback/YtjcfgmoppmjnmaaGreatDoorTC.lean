/- What TreeBack leans on: a name in the place of itself; other names, and back. -/
import Derived.Test.YtjcfgmoppmjnmaaGreatDoorTW
import Derived.Test.YtjcfgmoppmjnmaaGreatDoorTrPut
import Derived.Test.YtjcfgmoppmjnmaaGreatDoorTrRen
import Derived.Test.YtjcfgmoppmjnmaaGreatDoorTrAlike
import Derived.Test.YtjcfgmoppmjnmaaGreatDoorTrVisit
namespace Go.Proofs.YtjcfgmoppmjnmaaGreatDoor
open Go.RowKit Go.Shelf

theorem ba_eq {a b : ByteArray} (h : a.data.toList = b.data.toList) : a = b := ByteArray.ext (Array.toList_inj.1 h)
theorem ba_beq {a b : ByteArray} : (a.data.toList == b.data.toList) = true ↔ a = b := ⟨fun h => ba_eq (by simpa using h), fun h => by rw [h]; simp⟩
theorem any_mem {l : List ByteArray} {s : ByteArray} : (l.any fun x => x.data.toList == s.data.toList) = true ↔ s ∈ l := by
  rw [List.any_eq_true]
  exact ⟨fun ⟨x, hx, e⟩ => by rw [← ba_beq.1 e]; exact hx, fun h => ⟨s, h, ba_beq.2 rfl⟩⟩
theorem add_mem {l : List ByteArray} {t : Tr} {s : ByteArray} : s ∈ addName l t ↔ s ∈ l ∨ (t.op = 3 ∧ s = t.name) := by
  unfold addName
  split
  · rename_i h3
    split
    · rename_i h
      refine ⟨.inl, fun h' => h'.elim id (fun e => ?_)⟩
      rw [e.2]; exact any_mem.1 h
    · rw [List.mem_append, List.mem_singleton]
      exact ⟨fun h => h.imp id (fun e => ⟨h3, e⟩), fun h => h.imp id (fun e => e.2)⟩
  · rename_i h3
    exact ⟨.inl, fun h => h.elim id (fun e => absurd e.1 h3)⟩
theorem add_nodup {l : List ByteArray} {t : Tr} (h : l.Nodup) : (addName l t).Nodup := by
  unfold addName
  split
  · split
    · exact h
    · rename_i hn
      refine List.nodup_append.2 ⟨h, by simp, fun a ha b hb => ?_⟩
      rw [List.mem_singleton.1 hb]
      rintro rfl
      exact hn (any_mem.2 ha)
  · exact h
theorem fold_names : ∀ (l : List (List Nat × Tr)) (a : List ByteArray), a.Nodup → (l.foldl (fun l x => addName l x.2) a).Nodup ∧ ∀ s, s ∈ l.foldl (fun l x => addName l x.2) a ↔ s ∈ a ∨ ∃ x ∈ l, x.2.op = 3 ∧ s = x.2.name
  | [], a, h => ⟨h, fun s => by simp⟩
  | x :: l, a, h => by
    obtain ⟨h1, h2⟩ := fold_names l (addName a x.2) (add_nodup h)
    refine ⟨h1, fun s => ?_⟩
    rw [List.foldl_cons, h2 s, add_mem]
    constructor
    · rintro ((h | h) | ⟨y, hy, h⟩)
      · exact .inl h
      · exact .inr ⟨x, by simp, h⟩
      · exact .inr ⟨y, by simp [hy], h⟩
    · rintro (h | ⟨y, hy, h⟩)
      · exact .inl (.inl h)
      · rcases List.mem_cons.1 hy with rfl | hy
        · exact .inl (.inr h)
        · exact .inr ⟨y, hy, h⟩
theorem names_nodup (t : Tr) : t.names.Nodup := (fold_names _ [] List.nodup_nil).1
theorem names_mem {t : Tr} {s : ByteArray} : s ∈ t.names ↔ ∃ x ∈ t.parts [], x.2.op = 3 ∧ s = x.2.name := by
  have := (fold_names (t.parts []) [] List.nodup_nil).2 s
  unfold Tr.names
  rw [this]
  exact ⟨fun h => h.elim (fun h => by cases h) id, .inr⟩
theorem every_part {q : Tr → Bool} {t : Tr} (h : t.every q = true) {x : List Nat × Tr} (hx : x ∈ t.parts []) : q x.2 = true := List.all_eq_true.1 h x hx
/-- Trees with no kids that stand in a tree. -/
theorem formed_leaf {t : Tr} (h : formedB t = true) (h3 : t.op = 3) : t.kids = [] ∧ nameB t.name.data.toList = true := by
  unfold formedB at h
  rw [if_pos h3, h3] at h
  simp only [Bool.and_eq_true, beq_iff_eq] at h
  exact ⟨List.length_eq_zero_iff.1 h.1.2, h.2⟩
theorem formed_bare {t : Tr} (h : formedB t = true) (h3 : ¬ t.op = 3) : t.name = ⟨#[]⟩ := by
  unfold formedB at h
  rw [if_neg h3] at h
  simp only [Bool.and_eq_true] at h
  have h2 := h.2
  rw [ByteArray.toList_eq] at h2
  exact ba_eq (by simpa using h2)
theorem names_name {t : Tr} (h : t.every formedB = true) {s : ByteArray} (hs : s ∈ t.names) : nameB s.data.toList = true := by
  obtain ⟨x, hx, h3, rfl⟩ := names_mem.1 hs
  exact (formed_leaf (every_part h hx) h3).2
theorem kid_every {q : Tr → Bool} {t k : Tr} (h : t.every q = true) (hk : k ∈ t.kids) : k.every q = true := by
  rw [every_eq, Bool.and_eq_true] at h
  exact List.all_eq_true.1 h.2 k hk
theorem self_every {q : Tr → Bool} {t : Tr} (h : t.every q = true) : q t = true := by
  rw [every_eq, Bool.and_eq_true] at h
  exact h.1
theorem all_of_every {P : Tr → Prop} {q : Tr → Bool} (hq : ∀ x, q x = true → P x) (t : Tr) (h : t.every q = true) : t.All P := by
  induction t using Tr.ind with
  | h t ih => exact (Tr.all_eq t).2 ⟨hq t (self_every h), fun k hk => ih k hk (kid_every h hk)⟩
theorem all_of_parts {P : Tr → Prop} {t : Tr} (h : ∀ x ∈ t.parts [], P x.2) : t.All P := by
  classical
  exact all_of_every (q := fun x => decide (P x)) (fun x hx => of_decide_eq_true hx) t (List.all_eq_true.2 fun x hx => decide_eq_true (h x hx))
theorem part_of_all {P : Tr → Prop} {t : Tr} (h : t.All P) {x : List Nat × Tr} (hx : x ∈ t.parts []) : P x.2 := h.part hx
/-- A tree rebuilt with leaves that stay is itself. -/
theorem reb_id {leaf : Tr → Tr} (t : Tr) (h : t.All (fun x => x.kids = [] → leaf x = x)) : t.reb leaf = t := by
  induction t using Tr.ind with
  | h t ih =>
    obtain ⟨hs, hk⟩ := (Tr.all_eq t).1 h
    by_cases h0 : t.kids.length = 0
    · rw [Tr.reb_leaf _ _ h0]
      have h1 : t.kids = [] := List.length_eq_zero_iff.1 h0
      have h2 := hs h1
      obtain ⟨o, n, ks⟩ := t
      have h1' : ks = [] := h1
      subst h1'
      exact h2
    · rw [Tr.reb_node _ _ h0]
      obtain ⟨o, n, ks⟩ := t
      have : ∀ k ∈ ks, Tr.reb leaf k = k := fun k hk' => ih k hk' (hk k hk')
      show (⟨o, n, ks.map (Tr.reb leaf)⟩ : Tr) = _
      rw [List.map_congr_left this, List.map_id']
theorem meas_same {nm : ByteArray} {sz dp : Nat} : ∀ (l : List (List Nat × Tr)) (m : Nat × Nat), (∀ x ∈ l, propB nm x.2 = true → sz = 1 ∧ dp = 1) → l.foldl (measStep nm sz dp) m = (m.1 + l.length, dmax m.2 l)
  | [], m, _ => rfl
  | x :: l, m, h => by
    rw [List.foldl_cons, meas_same l _ (fun y hy => h y (by simp [hy]))]
    have e : measStep nm sz dp m x = (m.1 + 1, max m.2 (x.1.length + 1)) := by
      unfold measStep
      split
      · rename_i hp
        obtain ⟨rfl, rfl⟩ := h x (by simp) hp
        rfl
      · rfl
    rw [e]
    show (m.1 + 1 + l.length, dmax (max m.2 (x.1.length + 1)) l) = (m.1 + (x :: l).length, dmax m.2 (x :: l))
    rw [List.length_cons]
    congr 1
    omega
theorem put_same {t u : Tr} {nm : ByteArray} (he : t.every formedB = true) (hu : u.every formedB = true) (hn : nameB nm.data.toList = true) (hs : t.size ≤ 1000) (hd : t.depth ≤ 100) (hp : ∀ x ∈ t.parts [], propB nm x.2 = true → u = x.2 ∧ u.size = 1 ∧ u.depth = 1) : putE t nm u = 0 ∧ putT t nm u = t := by
  have hm : measOf nm u.size u.depth (t.parts []) = (t.size, t.depth) := by
    unfold measOf
    rw [meas_same _ _ (fun x hx h => (hp x hx h).2), Tr.parts_length]
    have := Tr.parts_depth t []
    simp only [List.length_nil, Nat.zero_add] at this ⊢
    rw [this]
  have h0 : putE t nm u = 0 := by
    unfold putE
    rw [he, hu, hn, hm]
    unfold measFits
    rw [decide_eq_true hs, decide_eq_true hd]
    rfl
  refine ⟨h0, ?_⟩
  unfold putT
  rw [if_pos h0]
  refine reb_id t (all_of_parts fun x hx _ => ?_)
  unfold leafPut
  split
  · rename_i h; exact (hp x hx h).1
  · rfl
theorem propB_iff {nm : ByteArray} {x : Tr} : propB nm x = true ↔ x.op = 3 ∧ x.name = nm := by
  unfold propB
  rw [Bool.and_eq_true, decide_eq_true_eq, ByteArray.toList_eq, ByteArray.toList_eq, ba_beq]
theorem leaf_size (s : ByteArray) : (⟨3, s, []⟩ : Tr).size = 1 ∧ (⟨3, s, []⟩ : Tr).depth = 1 := by
  rw [Tr.size_eq, Tr.depth_eq]; exact ⟨rfl, rfl⟩
theorem leaf_every {s : ByteArray} (h : nameB s.data.toList = true) : (⟨3, s, []⟩ : Tr).every formedB = true := by
  rw [every_eq]
  show (formedB ⟨3, s, []⟩ && true) = true
  rw [Bool.and_true]
  exact formed_yes ⟨by show 1 ≤ 3; omega, by show 3 ≤ 21; omega⟩ rfl (by show (if (3 : Nat) = 3 then nameB s.data.toList else _) = true; rw [if_pos rfl]; exact h)
/-- A name in the place of itself. -/
theorem put_self {t : Tr} {nm : ByteArray} (he : t.every formedB = true) (hs : t.size ≤ 1000) (hd : t.depth ≤ 100) (hm : nm ∈ t.names) : putE t nm ⟨3, nm, []⟩ = 0 ∧ putT t nm ⟨3, nm, []⟩ = t := by
  refine put_same he (leaf_every (names_name he hm)) (names_name he hm) hs hd fun x hx h => ?_
  obtain ⟨h3, rfl⟩ := propB_iff.1 h
  have hk := (formed_leaf (every_part he hx) h3).1
  refine ⟨?_, leaf_size _⟩
  obtain ⟨p, o, n, ks⟩ := x
  simp only at h3 hk
  subst h3 hk
  rfl
/-- A tree in the place of a name that is not there. -/
theorem put_none {t u : Tr} {nm : ByteArray} (he : t.every formedB = true) (hu : u.every formedB = true) (hn : nameB nm.data.toList = true) (hs : t.size ≤ 1000) (hd : t.depth ≤ 100) (hm : nm ∉ t.names) : putE t nm u = 0 ∧ putT t nm u = t :=
  put_same he hu hn hs hd fun x hx h => absurd (names_mem.2 ⟨x, hx, (propB_iff.1 h).1, (propB_iff.1 h).2.symm⟩) hm

theorem nodup_inj {α : Type} {l : List α} (h : l.Nodup) {i j : Nat} (hi : i < l.length) (hj : j < l.length) (e : l[i] = l[j]) : i = j := by
  have hp := List.pairwise_iff_getElem.1 h
  rcases Nat.lt_trichotomy i j with q | q | q
  · exact absurd e (hp i j hi hj q)
  · exact q
  · exact absurd e.symm (hp j i hj hi q)
/-! Other names, and back. -/
theorem pair_all {frs tos : List ByteArray} (hd : frs.Nodup) (hf : ∀ s ∈ frs, nameB s.data.toList = true) (ht : ∀ s ∈ tos, nameB s.data.toList = true) (hl : frs.length = tos.length) : ∀ n, n ≤ frs.length → pairB frs tos n = true
  | 0, _ => rfl
  | n + 1, h => by
    have e1 : frs.getD n ⟨#[]⟩ = frs[n] := by rw [List.getD_eq_getElem?_getD, List.getElem?_eq_getElem (by omega)]; rfl
    have e2 : tos.getD n ⟨#[]⟩ = tos[n] := by rw [List.getD_eq_getElem?_getD, List.getElem?_eq_getElem (by omega)]; rfl
    have e3 : ((frs.take n).any fun x => x.data.toList == (frs[n]).data.toList) = false := by
      rw [Bool.eq_false_iff]
      intro hh
      have hm := any_mem.1 hh
      obtain ⟨i, hi, he⟩ := List.getElem_of_mem hm
      rw [List.length_take] at hi
      rw [List.getElem_take] at he
      have := nodup_inj hd (by omega) (by omega) he
      omega
    rw [pairB, pair_all hd hf ht hl n (by omega), e1, e2, e3, hf _ (List.getElem_mem _), ht _ (List.getElem_mem _)]
    rfl
theorem idx_at {l : List ByteArray} (hd : l.Nodup) {j : Nat} (hj : j < l.length) : (l.findIdx fun y => y.data.toList == (l[j]).data.toList) = j := by
  have hlt : (l.findIdx fun y => y.data.toList == (l[j]).data.toList) < l.length := List.findIdx_lt_length_of_exists ⟨l[j], List.getElem_mem _, by simp⟩
  have he := List.findIdx_getElem (p := fun y : ByteArray => y.data.toList == (l[j]).data.toList) (xs := l) (w := hlt)
  exact nodup_inj hd hlt hj (ba_beq.1 he)
theorem no_name : nameB ([] : List UInt8) = false := rfl
theorem ren_leaf_in {frs tos : List ByteArray} (hd : frs.Nodup) (hl : frs.length = tos.length) {j : Nat} (hj : j < frs.length) (o : Nat) : leafRen frs tos ⟨o, frs[j], []⟩ = ⟨o, tos[j], []⟩ := by
  unfold leafRen
  rw [if_pos (any_mem.2 (List.getElem_mem _))]
  show (⟨o, tos.getD (frs.findIdx fun y => y.data.toList == (frs[j]).data.toList) ⟨#[]⟩, []⟩ : Tr) = _
  rw [idx_at hd hj, List.getD_eq_getElem?_getD, List.getElem?_eq_getElem (by omega)]
  rfl
theorem ren_leaf_out {frs tos : List ByteArray} {x : Tr} (h : x.name ∉ frs) : leafRen frs tos x = x := by
  unfold leafRen
  rw [if_neg (fun hh => h (any_mem.1 hh))]
structure RenOk (frs tos : List ByteArray) : Prop where
  fd : frs.Nodup
  td : tos.Nodup
  fn : ∀ s ∈ frs, nameB s.data.toList = true
  tn : ∀ s ∈ tos, nameB s.data.toList = true
  len : frs.length = tos.length
theorem bare_out {l : List ByteArray} (h : ∀ s ∈ l, nameB s.data.toList = true) : (⟨#[]⟩ : ByteArray) ∉ l := fun hm => by
  have := h _ hm
  rw [show (⟨#[]⟩ : ByteArray).data.toList = [] from rfl, no_name] at this
  cases this
theorem ren_all {frs tos : List ByteArray} (R : RenOk frs tos) (t : Tr) (h : t.All (fun x => formedB x = true ∧ (x.op = 3 → x.name ∈ frs))) :
    (t.reb (leafRen frs tos)).reb (leafRen tos frs) = t ∧ (t.reb (leafRen frs tos)).size = t.size ∧ (t.reb (leafRen frs tos)).every formedB = true ∧ (t.reb (leafRen frs tos)).All (fun x => x.op = 3 → x.name ∈ tos) := by
  induction t using Tr.ind with
  | h t ih =>
    obtain ⟨⟨hf, hn⟩, hk⟩ := (Tr.all_eq t).1 h
    by_cases h0 : t.kids.length = 0
    · have h1 : t.kids = [] := List.length_eq_zero_iff.1 h0
      by_cases h3 : t.op = 3
      · obtain ⟨j, hj, hje⟩ := List.getElem_of_mem (hn h3)
        have hjt : j < tos.length := by have := R.len; omega
        have hlf := formed_leaf hf h3
        obtain ⟨o, n, ks⟩ := t
        simp only at h1 h3 hje
        subst h1 h3 hje
        have e1 : (⟨3, frs[j], []⟩ : Tr).reb (leafRen frs tos) = ⟨3, tos[j], []⟩ := by rw [Tr.reb_leaf _ _ rfl]; exact ren_leaf_in R.fd R.len hj 3
        rw [e1]
        refine ⟨?_, ?_, leaf_every (R.tn _ (List.getElem_mem _)), (Tr.all_eq _).2 ⟨fun _ => List.getElem_mem _, fun k hk => by cases hk⟩⟩
        · rw [Tr.reb_leaf _ _ rfl]; exact ren_leaf_in R.td R.len.symm hjt 3
        · rw [(leaf_size _).1, (leaf_size _).1]
      · have hb := formed_bare hf h3
        have e1 : t.reb (leafRen frs tos) = t := reb_id t ((Tr.all_eq t).2 ⟨fun _ => ren_leaf_out (by rw [hb]; exact bare_out R.fn), fun k hk => by rw [h1] at hk; cases hk⟩)
        have e2 : t.reb (leafRen tos frs) = t := reb_id t ((Tr.all_eq t).2 ⟨fun _ => ren_leaf_out (by rw [hb]; exact bare_out R.tn), fun k hk => by rw [h1] at hk; cases hk⟩)
        rw [e1]
        refine ⟨e2, rfl, ?_, (Tr.all_eq t).2 ⟨fun e => absurd e h3, fun k hk => by rw [h1] at hk; cases hk⟩⟩
        rw [every_eq, hf, h1]; rfl
    · have h3 : ¬ t.op = 3 := fun e => h0 (by rw [(formed_leaf hf e).1]; rfl)
      rw [Tr.reb_node (leafRen frs tos) t h0]
      refine ⟨?_, ?_, ?_, ?_⟩
      · rw [Tr.reb_node _ _ (by simpa using h0)]
        obtain ⟨o, n, ks⟩ := t
        show (⟨o, n, (ks.map _).map _⟩ : Tr) = _
        rw [List.map_map]
        have : ∀ k ∈ ks, (Tr.reb (leafRen tos frs) ∘ Tr.reb (leafRen frs tos)) k = k := fun k hk' => (ih k hk' (hk k hk')).1
        rw [List.map_congr_left this, List.map_id']
      · rw [Tr.size_eq, Tr.size_eq t]
        show 1 + ((t.kids.map _).map _).sum = _
        rw [List.map_map]
        have hc : ∀ k ∈ t.kids, (Tr.size ∘ Tr.reb (leafRen frs tos)) k = Tr.size k := fun k hk' => (ih k hk' (hk k hk')).2.1
        rw [List.map_congr_left hc]
      · rw [every_eq, Bool.and_eq_true]
        constructor
        · unfold formedB at hf ⊢
          simpa using hf
        · rw [List.all_eq_true]
          intro k hk'
          obtain ⟨k0, hk0, rfl⟩ := List.mem_map.1 hk'
          exact (ih k0 hk0 (hk k0 hk0)).2.2.1
      · refine (Tr.all_eq _).2 ⟨fun e => absurd e h3, fun k hk' => ?_⟩
        obtain ⟨k0, hk0, rfl⟩ := List.mem_map.1 hk'
        exact (ih k0 hk0 (hk k0 hk0)).2.2.2
/-- There and back. -/
theorem ren_back {t : Tr} {tos : List ByteArray} (he : t.every formedB = true) (hl : tos.length = t.names.length) (hn : ∀ s ∈ tos, nameB s.data.toList = true) (hd : tos.Nodup) :
    renE t t.names tos = 0 ∧ (renT t t.names tos).size = t.size ∧ renE (renT t t.names tos) tos t.names = 0 ∧ renT (renT t t.names tos) tos t.names = t ∧ ((∀ s ∈ tos, s ∉ t.names) → t.names ≠ [] → renT t t.names tos ≠ t) := by
  have R : RenOk t.names tos := ⟨names_nodup t, hd, fun s hs => names_name he hs, hn, hl.symm⟩
  have hall : t.All (fun x => formedB x = true ∧ (x.op = 3 → x.name ∈ t.names)) := all_of_parts fun x hx => ⟨every_part he hx, fun h3 => names_mem.2 ⟨x, hx, h3, rfl⟩⟩
  obtain ⟨a1, a2, a3, a4⟩ := ren_all R t hall
  have e0 : renE t t.names tos = 0 := by
    unfold renE
    rw [he, if_pos rfl, if_pos ⟨hl.symm, pair_all R.fd R.fn R.tn R.len _ (Nat.le_refl _)⟩]
  have eT : renT t t.names tos = t.reb (leafRen t.names tos) := by unfold renT; rw [if_pos e0]
  rw [eT]
  have e1 : renE (t.reb (leafRen t.names tos)) tos t.names = 0 := by
    unfold renE
    rw [a3, if_pos rfl, if_pos ⟨hl, pair_all R.td R.tn R.fn R.len.symm _ (Nat.le_refl _)⟩]
  refine ⟨e0, a2, e1, ?_, fun hnew hne heq => ?_⟩
  · unfold renT; rw [if_pos e1]; exact a1
  · obtain ⟨s, hs⟩ := List.exists_mem_of_ne_nil _ hne
    obtain ⟨x, hx, h3, rfl⟩ := names_mem.1 hs
    rw [heq] at a4
    exact hnew _ (part_of_all a4 hx h3) hs
end Go.Proofs.YtjcfgmoppmjnmaaGreatDoor

/- TreeBack's other names. -/
namespace Go.Proofs.YtjcfgmoppmjnmaaGreatDoor
open Go.RowKit Go.Shelf

/-- The i-th of the names that TreeBack makes. -/
def toS (i : Nat) : ByteArray := ⟨#[126, UInt8.ofNat (97 + i % 26), UInt8.ofNat (97 + i / 26 % 26), UInt8.ofNat (97 + i / 676 % 26)]⟩
def toL (n : Nat) : List ByteArray := (List.range n).map toS
theorem toL_len (n : Nat) : (toL n).length = n := by simp [toL]
theorem toL_at (n i : Nat) (h : i < (toL n).length) : (toL n)[i] = toS i := by simp [toL]
theorem toL_succ (n : Nat) : toL (n + 1) = toL n ++ [toS n] := by simp [toL, List.range_succ]
theorem u8_nat {a : Nat} (h : a < 256) : (UInt8.ofNat a).toNat = a := by
  rw [UInt8.toNat_ofNat']; exact Nat.mod_eq_of_lt h
theorem to_name (i : Nat) : nameB (toS i).data.toList = true := by
  have h : ∀ a, a < 26 → okB (UInt8.ofNat (97 + a)).toNat = true := fun a ha => by
    rw [u8_nat (by omega)]
    exact okB_yes (by omega) (by omega) (by omega) (by omega)
  unfold nameB toS
  simp only [List.all_cons, List.all_nil, List.length_cons, List.length_nil]
  rw [h _ (Nat.mod_lt _ (by omega)), h _ (Nat.mod_lt _ (by omega)), h _ (Nat.mod_lt _ (by omega))]
  rfl
theorem to_inj {i j : Nat} (hi : i < 17576) (hj : j < 17576) (h : toS i = toS j) : i = j := by
  unfold toS at h
  have h1 := congrArg ByteArray.data h
  simp only [Array.mk.injEq, List.cons.injEq, and_true, true_and] at h1
  obtain ⟨a, b, c⟩ := h1
  have a' := congrArg UInt8.toNat a
  have b' := congrArg UInt8.toNat b
  have c' := congrArg UInt8.toNat c
  rw [u8_nat (by omega), u8_nat (by omega)] at a' b' c'
  omega
theorem to_nodup {n : Nat} (h : n ≤ 3000) : (toL n).Nodup := by
  rw [List.nodup_iff_pairwise_ne, List.pairwise_iff_getElem]
  intro i j hi hj hij e
  rw [toL_at, toL_at] at e
  rw [toL_len] at hi hj
  have := to_inj (by omega) (by omega) e
  omega
theorem to_names (n : Nat) : ∀ s ∈ toL n, nameB s.data.toList = true := fun s hs => by
  obtain ⟨i, _, rfl⟩ := List.mem_map.1 hs
  exact to_name i
theorem strs_of_row {W : World} {n₀ : Nat} {v : Value} {l : List ByteArray} (h : W.ownsRow n₀ 9 1 v l.length (strs l)) : StrsAt W l v := by
  obtain ⟨hl, hh⟩ := h
  rcases hh with ⟨rfl, h0⟩ | ⟨g, cap, cur, rfl, h1, h2, h3⟩
  · exact ⟨none, 0, by rw [h0], .inl h0⟩
  · refine ⟨_, cap, rfl, .inr ⟨g, 0, rfl, fun i hi => ?_⟩⟩
    have := World.ownsRow.cellAt (w := W) (base := n₀) (e := 9) (size := 1) ⟨hl, .inr ⟨g, cap, cur, rfl, h1, h2, h3⟩⟩ i (by omega)
    rw [Nat.zero_add, this]
    simp [strs, hi]
theorem right_formed {ob : Nat → Bool} {t : Tr} (h : rightN ob t = 0) : t.every formedB = true ∧ t.size ≤ 1000 ∧ t.depth ≤ 100 := by
  unfold rightN at h
  split at h
  · rename_i he
    split at h
    · rename_i hm
      rw [Bool.and_eq_true, decide_eq_true_eq, decide_eq_true_eq] at hm
      refine ⟨?_, hm.1, hm.2⟩
      unfold Tr.every at he ⊢
      rw [List.all_eq_true] at he ⊢
      intro x hx
      have := he x hx
      unfold rightQ at this
      rw [Bool.and_eq_true] at this
      exact this.1
    · cases h
  · cases h
theorem tt_name : nameB (⟨#[126, 126]⟩ : ByteArray).data.toList = true := by decide
end Go.Proofs.YtjcfgmoppmjnmaaGreatDoor
