/- What NnfAgain asks, as plain facts: the names of a formula's forms, its forms' forms, and the contracts of the functions it calls. -/
import Derived.Test.YtddgciilcghbaaaDoorNnAgainAM
import Derived.Test.YtddgciilcghbaaaDoorGR
namespace Go.Proofs.YtddgciilcghbaaaDoor
open Go.RowKit Go.Shelf

/-- The names of a formula. -/
theorem addName_mem {l : List ByteArray} {t : Tr} {s : ByteArray} (h : s ∈ addName l t) : s ∈ l ∨ (t.op = 3 ∧ s = t.name) := by
  unfold addName at h
  split at h
  · rename_i h3
    split at h
    · exact .inl h
    · rcases List.mem_append.1 h with e | e
      · exact .inl e
      · exact .inr ⟨h3, List.mem_singleton.1 e⟩
  · exact .inl h
theorem addName_keeps {l : List ByteArray} {t : Tr} {s : ByteArray} (h : s ∈ l) : s ∈ addName l t := by
  unfold addName
  split
  · split
    · exact h
    · exact List.mem_append_left _ h
  · exact h
theorem addName_has {l : List ByteArray} {t : Tr} (h : t.op = 3) : ∃ s ∈ addName l t, s.data.toList = t.name.data.toList := by
  unfold addName
  rw [if_pos h]
  split
  · rename_i ha
    obtain ⟨s, hs, he⟩ := List.any_eq_true.1 ha
    exact ⟨s, hs, by simpa using he⟩
  · exact ⟨t.name, by simp, rfl⟩
theorem fold_mem {s : ByteArray} : ∀ (l : List (List Nat × Tr)) (a : List ByteArray), s ∈ l.foldl (fun l x => addName l x.2) a → s ∈ a ∨ ∃ x ∈ l, x.2.op = 3 ∧ s = x.2.name
  | [], _, h => .inl h
  | x :: r, a, h => by
    rcases fold_mem r _ h with e | ⟨y, hy, e⟩
    · rcases addName_mem e with e | e
      · exact .inl e
      · exact .inr ⟨x, by simp, e⟩
    · exact .inr ⟨y, by simp [hy], e⟩
theorem fold_keeps {s : ByteArray} : ∀ (l : List (List Nat × Tr)) (a : List ByteArray), s ∈ a → s ∈ l.foldl (fun l x => addName l x.2) a
  | [], _, h => h
  | _ :: r, _, h => fold_keeps r _ (addName_keeps h)
theorem fold_has : ∀ (l : List (List Nat × Tr)) (a : List ByteArray) (x : List Nat × Tr), x ∈ l → x.2.op = 3 → ∃ s ∈ l.foldl (fun l x => addName l x.2) a, s.data.toList = x.2.name.data.toList
  | [], _, _, h, _ => by cases h
  | y :: r, a, x, h, h3 => by
    rcases List.mem_cons.1 h with rfl | h
    · obtain ⟨s, hs, e⟩ := addName_has (l := a) h3
      exact ⟨s, fold_keeps r _ hs, e⟩
    · exact fold_has r _ x h h3
theorem names_small {t : Tr} (hF : t.Fine) : ∀ s ∈ t.names, s.size ≤ maxLen := by
  intro s hs
  rcases fold_mem _ _ hs with e | ⟨x, hx, _, e⟩
  · cases e
  · rw [e]; exact (Tr.All.part hF hx).2
theorem names_few (t : Tr) : t.names.length ≤ t.size := by
  have := namesOf_len (t.parts [])
  rw [Tr.parts_length] at this
  exact this
theorem hasN_congr {xs : List ByteArray} {s s' : ByteArray} (h : s.data.toList = s'.data.toList) : hasN xs s = hasN xs s' := by
  rw [WideShapes.bytes_inj h]
theorem nmd_of_lack {t : Tr} {xs : List ByteArray} (h : lackN t.names xs = false) : Nmd (fun s => hasN xs s = true) t := by
  refine all_of_parts0 t [] (fun x hx h3 => ?_)
  obtain ⟨s, hs, e⟩ := fold_has (t.parts []) [] x hx h3
  unfold lackN at h
  rw [List.any_eq_false] at h
  have := h s hs
  rw [← hasN_congr e]
  simpa using this
theorem lack_of_nmd {t : Tr} {xs : List ByteArray} (h : Nmd (fun s => hasN xs s = true) t) : lackN t.names xs = false := by
  unfold lackN
  rw [List.any_eq_false]
  intro s hs
  rcases fold_mem _ _ hs with e | ⟨x, hx, h3, e⟩
  · cases e
  · have := Tr.All.part h hx h3
    rw [e, this]; simp
theorem lack_self (xs : List ByteArray) : lackN xs xs = false := by
  unfold lackN
  rw [List.any_eq_false]
  intro s hs
  have : hasN xs s = true := by
    unfold hasN
    rw [List.any_eq_true]
    exact ⟨s, hs, by unfold sameN; simp⟩
  rw [this]; simp
theorem lack_simp {f : Tr} (g : f.Good) : lackN (simpT f).names f.names = false :=
  lack_of_nmd (simp_names f g (nmd_of_lack (lack_self f.names))).2
theorem lack_nd {f : Tr} (g : f.Good) : lackN (nd f).1.names f.names = false :=
  lack_of_nmd ((nd_names f g).1.2 (nmd_of_lack (lack_self f.names)))
theorem lack_dn {f : Tr} (g : f.Good) : lackN f.names (nd f).1.names = false :=
  lack_of_nmd ((nd_names f g).1.1 (nmd_of_lack (lack_self (nd f).1.names)))
theorem cmp_turn (a b : Tr) : (cmpT a b == 0) = (cmpT b a == 0) := by
  rw [Bool.eq_iff_iff, beq_iff_eq, beq_iff_eq]
  constructor
  · intro h; rw [cmpT_zero a b h]; exact preT.self _
  · intro h; rw [cmpT_zero b a h]; exact preT.self _
theorem is_cmp {f : Tr} (h : madeE f (nd f).1 = 0) : isB f = (cmpT f (nd f).1 == 0) := by
  unfold isB
  rw [h, cmp_turn]; rfl
theorem made_cases {t p : Tr} (h : rightN pastB t = 0) : madeE t p = 0 ∨ madeE t p = 31 := by
  unfold madeE
  rw [if_neg (by simp [h])]
  split
  · exact .inl rfl
  · exact .inr rfl
theorem fit_made {t p : Tr} (h : madeE t p = 0) : p.size ≤ 1000 ∧ p.depth ≤ 100 := by
  unfold madeE at h
  split at h
  · cases h
  · split at h
    · rename_i hf; unfold fitB at hf; simpa using hf
    · cases h
theorem made_of_fit {t p : Tr} (h : rightN pastB t = 0) (hs : p.size ≤ 1000) (hd : p.depth ≤ 100) : madeE t p = 0 := by
  unfold madeE
  rw [if_neg (by simp [h]), if_pos]
  unfold fitB; simp [hs, hd]
/-- The normal form's own form is itself; it is a form. -/
theorem again_n {f : Tr} (g : f.Good) (h : madeE f (nd f).1 = 0) : madeE (nd f).1 (nd (nd f).1).1 = 0 ∧ (nd (nd f).1).1 = (nd f).1 ∧ isB (nd f).1 = true := by
  have hq := nd_nnf f g
  have hg := nd_good f g
  have hs := fit_made h
  have h1 := is_form hg.1 hq.1 hs.1 hs.2
  exact ⟨h1.1, nd_again _ hg.1 hq.1, h1.2⟩
theorem again_d {f : Tr} (g : f.Good) (h : madeE f (nd f).2 = 0) : isB (nd f).2 = true ∧ rightN pastB (nd f).2 = 0 := by
  have hq := nd_nnf f g
  have hg := nd_good f g
  have hs := fit_made h
  exact ⟨(is_form hg.2 hq.2 hs.1 hs.2).2, right_of_good0 hg.2 hs.1 hs.2⟩
/-- Without an equivalence the dual's dual is the normal form. -/
theorem back_d {f : Tr} (g : f.Good) (h : madeE f (nd f).1 = 0) (h2 : madeE f (nd f).2 = 0) (h8 : f.All (fun x => x.op ≠ 8)) : madeE (nd f).2 (nd (nd f).2).2 = 0 ∧ (nd (nd f).2).2 = (nd f).1 := by
  have e := (nd_dual f g h8).1
  have hs := fit_made h
  refine ⟨?_, e⟩
  rw [e]
  exact made_of_fit (again_d g h2).2 hs.1 hs.2
/-- A call of Names: a list of its own. -/
theorem names_strs (t : Tr) (kv : Value) (w : World) (hI : IsF w t kv) (hs : t.size ≤ 100000) (hF : t.Fine) :
    Calls Tryd.prog 24 #[.agg #[.int .u8 (t.op : Nat), .string t.name, kv]] w fun e w' => ∃ v, e = .returned v ∧ Strs w' v t.names ∧ Kept [] w w' := by
  refine (names_any t kv w hI (by omega) hF).mono ?_
  rintro e w' ⟨v, rfl, h, k⟩
  exact ⟨v, rfl, strs_own h (names_small hF) (by have := names_few t; omega), k⟩
end Go.Proofs.YtddgciilcghbaaaDoor
