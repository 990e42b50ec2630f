/- Lists of lists of numbers that are written over: SpoilRows. -/
import Derived.Test.YtbbfajbnklgncaaHH
namespace Go.Proofs.Ytbbfajbnklgncaa
open Go.RowKit Go.Shelf

/-- Rows of which the first ones have been written over. -/
structure RowsS (w W : World) (b m i : Nat) (cs bs : List Nat) (xss : List (List Int)) : Prop where
  row : W.heap[b]? = some (.cells ((cs.map fun c => Value.slice (some ⟨c, 0, none⟩) 1 1) ++ (rowVs bs xss).drop i ++ [Value.slice (some ⟨m, 0, none⟩) 1 1]).toArray 83 (0, 0))
  cl : cs.length = i
  new : ∀ c ∈ cs, W.heap[c]? = some (.cells #[.int .i64 (-5)] 3 (0, 0)) ∧ w.heap.size ≤ c
  len : bs.length = xss.length
  each : ∀ j (h : j < xss.length) (hb : j < bs.length), i ≤ j → LentG 3 1 W bs[j] xss[j].length (cellsI xss[j]) marksI
  nd : bs.Nodup
  nb : ∀ x ∈ bs, x ≠ b
  blt : b < w.heap.size ∧ ∀ x ∈ bs, x < w.heap.size
  kept : Kept (b :: bs) w W
theorem RowsS.step {w W W1 : World} {b m i : Nat} {cs bs : List Nat} {xss : List (List Int)} (h : RowsS w W b m i cs bs xss) (hi : i < xss.length) (hib : i < bs.length) (k : Kept [bs[i]] W W1) :
    RowsS w ((W1.alloc (.cells #[.int .i64 (-5)] 3)).setCell ⟨b, i, none⟩ (.slice (some ⟨W1.heap.size, 0, none⟩) 1 1)) b m (i + 1) (cs ++ [W1.heap.size]) bs xss := by
  have kA : Kept [] W1 (W1.alloc (.cells #[.int .i64 (-5)] 3)) := (Kept.refl [] W1).alloc _
  have kS : Kept [b] (W1.alloc (.cells #[.int .i64 (-5)] 3)) ((W1.alloc (.cells #[.int .i64 (-5)] 3)).setCell ⟨b, i, none⟩ (.slice (some ⟨W1.heap.size, 0, none⟩) 1 1)) := (Kept.refl [b] _).setCell (.inl (by simp)) _
  have z1 := k.size
  have z0 := h.kept.size
  have hbl := h.blt
  have hbi : bs[i] ∈ bs := List.getElem_mem hib
  have hbne : b ≠ bs[i] := fun e => h.nb _ hbi e.symm
  have rowA := kA.at (k.at h.row (by simpa using hbne)) (by simp)
  have hrl := rowVs_len h.len
  refine ⟨?_, by simp [h.cl], ?_, h.len, ?_, h.nd, h.nb, h.blt, ?_⟩
  · rw [row_set rowA]
    congr 2
    apply Array.toList_inj.1
    simp only [Array.toList_setIfInBounds]
    have hd : (rowVs bs xss).drop i = (rowVs bs xss)[i]'(by rw [hrl]; exact hi) :: (rowVs bs xss).drop (i + 1) := List.drop_eq_getElem_cons (by rw [hrl]; exact hi)
    rw [hd, List.map_append, List.append_assoc, List.append_assoc, List.append_assoc]
    rw [List.set_append_right _ _ (by simp [h.cl])]
    rw [List.length_map, h.cl, Nat.sub_self]
    rfl
  · intro c hc
    rcases List.mem_append.1 hc with hc | hc
    · obtain ⟨q1, q2⟩ := h.new c hc
      refine ⟨kS.at (kA.at (k.at q1 (fun e => ?_)) (by simp)) (fun e => ?_), q2⟩
      · simp at e; have := hbl.2 _ hbi; omega
      · simp at e; omega
    · simp at hc
      subst hc
      exact ⟨kS.at (al0 W1 _) (by simp; omega), by omega⟩
  · intro j hj hjb hij
    have hm : bs[j] ∈ bs := List.getElem_mem hjb
    refine ((((h.each j hj hjb (by omega)).keptF k (fun e => ?_)).keptF kA (by simp))).keptF kS (fun e => ?_)
    · simp at e
      have := (List.getElem_inj h.nd).1 e
      omega
    · simp at e; exact h.nb _ hm e
  · refine ((h.kept.trans k (H := b :: bs) (fun _ hx => hx) (fun x hx => .inl (by simp at hx; subst hx; simp [hbi]))).trans kA (H := b :: bs) (fun _ hx => hx) (by simp)).trans kS (fun _ hx => hx) (fun x hx => .inl (by simp at hx; simp [hx]))
theorem RowsS.rowss {F : List Nat} {w W W' : World} {b m n : Nat} {cs bs : List Nat} {xss : List (List Int)} (h : RowsS w W b m n cs bs xss) (hl : n ≤ 100000000) (k : Kept F W W') (hF : ∀ x ∈ F, x < w.heap.size ∧ x ≠ b) : Rowss W' (.slice (some ⟨b, 0, none⟩) n (n + 1)) (List.replicate n [-5]) := by
  refine ⟨by rw [List.length_replicate]; omega, .inr ⟨b, 0, n + 1, by rw [List.length_replicate], by rw [List.length_replicate]; omega, by unfold maxLen; omega, fun i hi => ?_⟩⟩
  rw [List.length_replicate] at hi
  have hic : i < cs.length := by rw [h.cl]; exact hi
  refine ⟨.slice (some ⟨cs[i], 0, none⟩) 1 1, ?_, ?_⟩
  · rw [Nat.zero_add, cell_of (k.at h.row (fun hx => (hF b hx).2 rfl))]
    simp only [List.getElem?_toArray]
    rw [List.append_assoc, List.getElem?_append_left (by simpa using hic)]
    simp [hic]
  · have hx := k.at (h.new _ (List.getElem_mem hic)).1 (fun hx => by have := (hF _ hx).1; have := (h.new _ (List.getElem_mem hic)).2; omega)
    have e : (List.replicate n ([-5] : List Int))[i]'(by rw [List.length_replicate]; exact hi) = [-5] := by simp
    rw [e]
    refine ⟨by decide, by simp, .inr ⟨_, 0, 1, rfl, by decide, by unfold maxLen; omega, fun j hj => ?_⟩⟩
    obtain rfl : j = 0 := by simpa using hj
    exact (cell_of hx 0).trans rfl
set_option maxHeartbeats 1600000 in
set_option maxRecDepth 10000 in
theorem spoilRows_any (b m : Nat) (bs : List Nat) (xss : List (List Int)) (w0 w : World) (h : RowsL w0 w b m bs xss) (hl : xss.length ≤ 100000000) :
    Calls Try.prog 34 #[.slice (some ⟨b, 0, none⟩) xss.length (xss.length + 1)] w fun e w' => (∃ v, e = .returned v) ∧ ∃ cs, RowsS w w' b m xss.length cs bs xss := by
  obtain ⟨n, hn⟩ : ∃ n, xss.length = n := ⟨_, rfl⟩
  have hblt : ∀ x ∈ bs, x < w.heap.size := fun x hx => by
    obtain ⟨j, hj, rfl⟩ := List.getElem_of_mem hx
    exact lt_of (h.rs.each j (by rw [← h.rs.len]; exact hj) hj).row
  have HS0 : Hid (RowsS w w b m 0 [] bs xss) := ⟨by simpa using h.row, rfl, by simp, h.rs.len, fun j hj hb _ => h.rs.each j hj hb, h.nd, fun x hx => by have := h.nb x hx; omega, ⟨lt_of h.row, hblt⟩, Kept.refl _ _⟩
  have HN : Hid (xss.length = n) := hn
  have HBL : Hid (bs.length = n) := by show _ = _; rw [h.rs.len, hn]
  rw [hn] at hl ⊢
  clear h hn hblt
  go_enter Try.func34, Try.ntmps34
  go_wp2_with fail
  go_loopw [2] (fun i wr => ∃ (k : Nat) (cs : List Nat), k ≤ n ∧ i = .int .i64 (k : Nat) ∧ Hid (RowsS w wr b m k cs bs xss)) (fun i _ => n - (intOf i).toNat)
  case atStart => exact ⟨0, [], Nat.zero_le _, rfl, HS0⟩
  case round =>
    obtain ⟨k, cs, hk, rfl, HS⟩ := hrel
    by_cases hlt : k < n
    · have hlt' : (k : Int) < (n : Int) := by omega
      have hkx : k < xss.length := by rw [HN.out]; exact hlt
      have hkb : k < bs.length := by rw [HBL.out]; exact hlt
      have hcell : wr.cell? ⟨b, k, none⟩ = some (.slice (some ⟨bs[k], 0, none⟩) xss[k].length (xss[k].length + 2)) := by
        rw [cell_of HS.out.row]
        simp only [List.getElem?_toArray]
        rw [List.append_assoc, List.getElem?_append_right (by simp [HS.out.cl]), List.length_map, HS.out.cl, Nat.sub_self, List.getElem?_append_left (by rw [List.length_drop, rowVs_len HS.out.len]; omega), List.getElem?_drop, Nat.add_zero]
        exact rowVs_at hkx hkb
      have HSP : Hid (Calls Try.prog 58 #[.slice (some ⟨bs[k], 0, none⟩) xss[k].length (xss[k].length + 2)] wr fun e w' => (∃ v, e = .returned v) ∧ ∃ x, w'.cell? ⟨b, k, none⟩ = some x ∧ w'.frozen? ⟨b, k, none⟩ = false ∧ (∀ o, (w'.alloc o).cell? ⟨b, k, none⟩ = some x ∧ (w'.alloc o).frozen? ⟨b, k, none⟩ = false) ∧ RowsS w ((w'.alloc (.cells #[.int .i64 (-5)] 3)).setCell ⟨b, k, none⟩ (.slice (some ⟨w'.heap.size, 0, none⟩) 1 1)) b m (k + 1) (cs ++ [w'.heap.size]) bs xss) := by
        refine (spoilInts_any _ _ _ wr (HS.out.each k hkx hkb (Nat.le_refl _))).mono ?_
        rintro e w' ⟨h1, h2, _⟩
        have hrow := h2.at HS.out.row (by simpa using fun e => HS.out.nb _ (List.getElem_mem hkb) e.symm)
        have hc' : w'.cell? ⟨b, k, none⟩ = some (.slice (some ⟨bs[k], 0, none⟩) xss[k].length (xss[k].length + 2)) := by
          rw [← hcell, cell_of hrow, cell_of HS.out.row]
        exact ⟨h1, _, hc', free_of hrow k, fun o => ⟨cell_kept0 ((Kept.refl [] w').alloc o) hc', free_of (alUp hrow o) k⟩, HS.out.step hkx hkb h2⟩
      generalize xss[k].length = ln at *
      generalize bs[k] = bk at *
      go_wp2_with (go_at_call 58; refine HSP.out.mono ?_; rintro e w2 ⟨⟨v, rfl⟩, x, c1, f1, ca, hS2⟩; have HS2 : Hid (RowsS w ((w2.alloc (.cells #[.int .i64 (-5)] 3)).setCell ⟨b, k, none⟩ (.slice (some ⟨w2.heap.size, 0, none⟩) 1 1)) b m (k + 1) (cs ++ [w2.heap.size]) bs xss) := hS2; have ca1 := fun o => (ca o).1; have ca2 := fun o => (ca o).2; clear ca hS2)
      go_roundw
      case rel => exact ⟨k + 1, cs ++ [w2.heap.size], by omega, by go_num, HS2⟩
      case measure => simp [intOf]; omega
    · obtain rfl : k = n := by omega
      have hlt' : ¬ (k : Int) < (k : Int) := by omega
      go_wp2
      first | go_end0 | refine bodyPost_ret (results_none rfl _ _ _) rfl ?_
      exact ⟨⟨_, rfl⟩, cs, HS.out⟩
end Go.Proofs.Ytbbfajbnklgncaa
