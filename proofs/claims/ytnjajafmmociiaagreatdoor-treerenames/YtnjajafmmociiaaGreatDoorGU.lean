/- tree.unlike. -/
import Derived.Test.YtnjajafmmociiaaGreatDoorTrVisit
namespace Go.Proofs.YtnjajafmmociiaaGreatDoor
open Go.RowKit Go.Shelf Go.Maps

/-- The trees that stand in a tree, each once, with their sizes, as they come. -/
def unlikeP (t : Tr) : List (Nat × Tr) := (visitP t ([], [])).2.2.2
theorem un_start (w : World) (o : Obj) : UnAt w (w.heap.size + 1) (w.heap.size + 1 + 1 + 1) (w.heap.size + 1 + 1) (w.heap.size + 1 + 1 + 1 + 1) (w.heap.size + 1 + 1 + 1 + 1 + 1) [] []
    ((((((w.alloc o).alloc (.cells #[.slice none 0 0] 97)).alloc (.map #[] 0)).alloc (.cells #[.map (some (w.heap.size + 1 + 1))] 153)).alloc (.cells #[.func (.func 91) #[] #[.pointer (some ⟨w.heap.size + 1 + 1 + 1, 0, none⟩)]] 156)).alloc (.cells #[.func (.func 92) #[] #[.pointer (some ⟨w.heap.size + 1 + 1 + 1 + 1, 0, none⟩), .pointer (some ⟨w.heap.size + 1 + 1 + 1 + 1 + 1, 0, none⟩), .pointer (some ⟨w.heap.size + 1, 0, none⟩)]] 157)) := by
  have hm := World.ownsMap_made (H := Unit) ((w.alloc o).alloc (.cells #[.slice none 0 0] 97)) Tryz.prog 155 (plainElem Tryz.prog 3)
  rw [World.size_alloc, World.size_alloc] at hm
  have hk : Kept [] w _ := ((((((Kept.refl [] w).alloc o).alloc (.cells #[.slice none 0 0] 97)).alloc (.map #[] 0)).alloc (.cells #[.map (some (w.heap.size + 1 + 1))] 153)).alloc (.cells #[.func (.func 91) #[] #[.pointer (some ⟨w.heap.size + 1 + 1 + 1, 0, none⟩)]] 156)).alloc (.cells #[.func (.func 92) #[] #[.pointer (some ⟨w.heap.size + 1 + 1 + 1 + 1, 0, none⟩), .pointer (some ⟨w.heap.size + 1 + 1 + 1 + 1 + 1, 0, none⟩), .pointer (some ⟨w.heap.size + 1, 0, none⟩)]] 157)
  exact ⟨⟨_, alUp (alUp (alUp (alUp (al1 _ _ _) _) _) _) _, World.ownsRow_nil _ _ _ _⟩, alUp (alUp (al3 _ _ _ _ _) _) _, ⟨_, ((hm.alloc _).alloc _).alloc _, NumsOf.nil⟩, alUp (al4 _ _ _ _ _ _) _, al5 _ _ _ _ _ _ _, ⟨by omega, by omega⟩, hk.size, fun x h => (by cases h), hk.below⟩
set_option maxHeartbeats 1000000 in
set_option maxRecDepth 20000 in
theorem unlike_any (t : Tr) (kv : Value) (w : World) (hI : IsF w t kv) (hs : t.size ≤ 1099511627776) (hF : t.Fine) :
    Calls Tryz.prog 68 #[.agg #[.int .u8 (t.op : Nat), .string t.name, kv]] w fun e w' => ∃ v l, e = .returned v ∧ w'.ownsRow w.heap.size 101 4 v l.length (ents l) ∧ l.map En.key = unlikeP t ∧ (∀ x ∈ l, IsF w x.t (.slice x.kad x.t.kids.length x.kcap)) ∧ Kept [] w w' := by
  have hmm := @run_makeMap Tryz.prog
  have HVI : Hid _ := fun Bl Bm Mb Bn Bv W (hU : UnAt w Bl Bm Mb Bn Bv [] [] W) => visit_any w Bl Bm Mb Bn Bv t kv [] [] W hI hF hU (by simp; omega) (by simp; omega)
  obtain ⟨kad, kcap, rfl⟩ := hI.slice
  clear hI hF
  go_enter Tryz.func68, Tryz.ntmps68
  go_wp2_with (go_at_call 92; refine (HVI.out _ _ _ _ _ _ (un_start w _)).mono ?_; rintro e W2 ⟨rfl, l2, hu2, hl2, _⟩; obtain ⟨vl, c1, c2⟩ := hu2.coll; have cl := c1.cell; have HU2 : Hid (UnAt w _ _ _ _ _ _ l2 W2) := hu2; have HC2 : Hid (W2.ownsRow w.heap.size 101 4 vl l2.length (ents l2)) := c2; have HL2 : Hid _ := hl2; clear hu2 c1 c2 hl2)
  go_ret
  exact ⟨vl, l2, rfl, HC2.out, HL2.out, HU2.out.ents, kept_of_below HU2.out.below⟩
end Go.Proofs.YtnjajafmmociiaaGreatDoor

/- unlike is never empty. No walk here. -/
namespace Go.Proofs.YtnjajafmmociiaaGreatDoor
open Go.RowKit Go.Shelf Go.Maps

theorem last_list (t : Tr) (b : Nat × Nat × USt) : b.2.2.2.length ≤ (lastStep t b).2.2.2.length := by
  show _ ≤ (if (numRow b.2.2.1 ⟨0, ⟨#[]⟩, b.1, 0⟩).2.1 then b.2.2.2 ++ [(b.2.1, t)] else b.2.2.2).length
  split
  · rw [List.length_append]; omega
  · exact Nat.le_refl _
theorem kids_list (t : Tr) (h : ∀ k ∈ t.kids, ∀ st, st.2.length ≤ (visitP k st).2.2.2.length) (st : USt) (j : Nat) : ∀ d, j + d ≤ t.kids.length → (kidsP t j st).2.2.2.length ≤ (kidsP t (j + d) st).2.2.2.length := by
  intro d
  induction d with
  | zero => intro _; exact Nat.le_refl _
  | succ d ih =>
    intro hd
    rw [← Nat.add_assoc, kidsP_succ t (j + d) (by omega)]
    exact Nat.le_trans (ih (by omega)) (h _ (List.getElem_mem _) _)
theorem visit_mono (t : Tr) : ∀ st : USt, st.2.length ≤ (visitP t st).2.2.2.length := by
  induction t using Tr.ind with
  | h t ih =>
    intro st
    rw [visitP_eq]
    refine Nat.le_trans ?_ (last_list t _)
    have := kids_list t ih st 0 t.kids.length (by omega)
    rw [Nat.zero_add] at this
    exact this
theorem numRow_pos (rows : List Rw) (r : Rw) : 1 ≤ (numRow rows r).1 := by
  cases h : rows.findIdx? (fun s => r.same s) with
  | some i => rw [numRow_some h]; simp
  | none => rw [numRow_none h]; simp
theorem numRow_ahead {rows : List Rw} {r : Rw} (h : ∀ s ∈ rows, s.ahead = 0) (hr : r.ahead = 0) : ∀ s ∈ (numRow rows r).2.2, s.ahead = 0 := by
  cases e : rows.findIdx? (fun s => r.same s) with
  | some i => rw [numRow_some e]; exact h
  | none =>
    rw [numRow_none e]
    intro s hs
    rcases List.mem_append.1 hs with q | q
    · exact h s q
    · rw [List.mem_singleton.1 q]; exact hr
theorem visit_more (t : Tr) : ∀ st : USt, (∀ r ∈ st.1, r.ahead = 0) → st.2.length + 1 ≤ (visitP t st).2.2.2.length := by
  induction t using Tr.ind with
  | h t ih =>
    intro st hst
    have hh : ∀ r ∈ (headStep t st).2.2.1, r.ahead = 0 := numRow_ahead hst rfl
    rw [visitP_eq]
    by_cases h0 : t.kids.length = 0
    · rw [h0, kidsP_zero]
      have hp : 1 ≤ (headStep t st).1 := numRow_pos _ _
      have hf : (headStep t st).2.2.1.findIdx? (fun s => (⟨0, ⟨#[]⟩, (headStep t st).1, 0⟩ : Rw).same s) = none := by
        rw [List.findIdx?_eq_none_iff]
        intro s hs
        rw [← Bool.not_eq_true, Rw.same_iff]
        rintro rfl
        have := hh _ hs
        simp only at this
        omega
      show _ ≤ (if (numRow (headStep t st).2.2.1 ⟨0, ⟨#[]⟩, (headStep t st).1, 0⟩).2.1 then (headStep t st).2.2.2 ++ [((headStep t st).2.1, t)] else (headStep t st).2.2.2).length
      rw [numRow_none hf]
      simp [headStep]
    · refine Nat.le_trans ?_ (last_list t _)
      have h1 := kids_list t (fun k _ => visit_mono k) st 1 (t.kids.length - 1) (by omega)
      rw [show 1 + (t.kids.length - 1) = t.kids.length by omega] at h1
      refine Nat.le_trans ?_ h1
      rw [show (1 : Nat) = 0 + 1 from rfl, kidsP_succ t 0 (by omega), kidsP_zero]
      exact ih _ (List.getElem_mem _) (headStep t st).2.2 hh
theorem unlike_some (t : Tr) : 1 ≤ (unlikeP t).length := by
  have := visit_more t ([], []) (by simp)
  show 1 ≤ (visitP t ([], [])).2.2.2.length
  simpa using this
theorem unlike_len (t : Tr) : (unlikeP t).length ≤ t.size := by
  have := (bnd_visit t ([], [])).list
  simpa [unlikeP] using this
theorem visit_all (N : Nat) (t : Tr) : t.size ≤ N → t.Fine → ∀ st : USt, (∀ x ∈ st.2, x.2.size ≤ N ∧ x.2.Fine) → ∀ x ∈ (visitP t st).2.2.2, x.2.size ≤ N ∧ x.2.Fine := by
  induction t using Tr.ind with
  | h t ih =>
    intro hs hF st hst
    have hk : ∀ i, i ≤ t.kids.length → ∀ x ∈ (kidsP t i st).2.2.2, x.2.size ≤ N ∧ x.2.Fine := by
      intro i
      induction i with
      | zero => intro _; exact hst
      | succ i ihi =>
        intro hi
        rw [kidsP_succ t i (by omega)]
        have hm := List.getElem_mem (l := t.kids) (n := i) (by omega)
        exact ih _ hm (by have := Tr.kid_size hm; omega) (((Tr.all_eq t).1 hF).2 _ hm) _ (ihi (by omega))
    rw [visitP_eq]
    intro x hx
    have hx' : x ∈ (if (numRow (kidsP t t.kids.length st).2.2.1 ⟨0, ⟨#[]⟩, (kidsP t t.kids.length st).1, 0⟩).2.1 then (kidsP t t.kids.length st).2.2.2 ++ [((kidsP t t.kids.length st).2.1, t)] else (kidsP t t.kids.length st).2.2.2) := hx
    split at hx'
    · rcases List.mem_append.1 hx' with q | q
      · exact hk _ (Nat.le_refl _) x q
      · rw [List.mem_singleton.1 q]; exact ⟨hs, hF⟩
    · exact hk _ (Nat.le_refl _) x hx'
theorem unlike_all (t : Tr) (hF : t.Fine) : ∀ x ∈ unlikeP t, x.2.size ≤ t.size ∧ x.2.Fine := visit_all t.size t (Nat.le_refl _) hF ([], []) (by simp)
end Go.Proofs.YtnjajafmmociiaaGreatDoor
