/- A formula that is handed in, as a tree in memory. -/
import Derived.Test.YtnljjbpbgjgnkaaGreatDoorTrSize
import Derived.Deep.Strs
namespace Go.Proofs.YtnljjbpbgjgnkaaGreatDoor
open Go.RowKit Go.Shelf

theorem list_of_each {α : Type} {p : Nat → α → Prop} : ∀ n, (∀ i, i < n → ∃ x, p i x) → ∃ l : List α, l.length = n ∧ ∀ i (h : i < l.length), p i l[i]
  | 0, _ => ⟨[], rfl, fun i h => by simp at h⟩
  | n + 1, h => by
    obtain ⟨l, hl, hp⟩ := list_of_each n (fun i hi => h i (by omega))
    obtain ⟨x, hx⟩ := h n (by omega)
    refine ⟨l ++ [x], by simp [hl], fun i hi => ?_⟩
    by_cases hin : i < l.length
    · rw [List.getElem_append_left hin]; exact hp i hin
    · have : i = n := by simp [hl] at hi; omega
      subst this
      rw [List.getElem_append_right (by omega)]
      simpa [hl] using hx
theorem add3 (b off i c : Nat) : ((⟨b, off, none⟩ : Addr).add (i * 3)).add c = ⟨b, off + i * 3 + c, none⟩ := by
  unfold Addr.add
  split <;> split <;> simp_all <;> omega
theorem wf_u8 {n : Int} (h : (Lit.int .u8 n).wf = true) : ∃ o : Nat, n = (o : Int) ∧ o < 256 := by
  have h1 : 0 ≤ n ∧ n ≤ 255 := by
    have h2 : (decide ((0 : Int) ≤ n) && decide (n ≤ 255)) = true := h
    simpa using h2
  exact ⟨n.toNat, by omega, by omega⟩

theorem weights_mem {H : Type} {P : Program} {e : TypeId} {n : Nat} : ∀ {l : List (DataW H)} {d : DataW H}, d ∈ l → n ∈ d.weights P e → n ∈ DataW.weightsAll P e l
  | x :: l, d, h, hn => by
    rw [DataW.weightsAll]
    rcases List.mem_cons.1 h with rfl | h
    · exact List.mem_append_left _ hn
    · exact List.mem_append_right _ (weights_mem h hn)

set_option maxRecDepth 100000 in
theorem trod_tree {H : Type} {enc : TypeId × Value → H} {w : World} {base : Nat} {spare : Nat → Bool} {held : Bool} : ∀ (fuel : Nat) (cs : List Value) (x : DataW H × List MemPlace), DataW.trod enc Tryz.prog w base spare held fuel 25 cs = some x →
    ∃ (t : Tr) (kv : Value), cs = [.int .u8 (t.op : Nat), .string t.name, kv] ∧ IsT (fun _ => True) w t kv ∧ t.Fine ∧ ((∀ n ∈ x.1.weights Tryz.prog 25, n ≤ 140737488351232) → t.All (fun x => x.name.size ≤ 140737488351232)) := by
  intro fuel
  induction fuel using Nat.strongRecOn with
  | _ fuel ih =>
    intro cs x h
    obtain ⟨xs, n, rfl, rfl, hl, hlen, hf⟩ := DataW.trod_struct Tryz.underlying25 h
    have h0 := hf 0 _ rfl
    have h1 := hf 1 _ rfl
    have h2 := hf 2 _ rfl
    have hl3 : cs.length = 3 := hl.trans (by kernel_rfl)
    have hx3 : xs.length = 3 := hlen
    clear hf hlen hl
    match cs, hl3, xs, hx3 with
    | [c0, c1, c2], _, [y0, y1, y2], _ =>
      obtain ⟨o, e0, _, hw0⟩ := DataW.trod_int (k := .u8) (by kernel_rfl) h0
      obtain ⟨s, e1, rfl, hs1⟩ := DataW.trod_string (by kernel_rfl) h1
      obtain ⟨op, rfl, hop⟩ := wf_u8 hw0
      have e0' : c0 = .int .u8 (op : Nat) := by
        have : [c0] = [Value.int .u8 (op : Nat)] := e0
        simpa using this
      have e1' : c1 = .string s := by
        have : [c1] = [Value.string s] := e1
        simpa using this
      subst e0' e1'
      have hwt : ∀ n, (n = s.size ∨ n ∈ y2.1.weights Tryz.prog 23) → n ∈ (DataW.agg ([y0, (.lit (.string s.data.toList), []), y2].map (·.1)) : DataW H).weights Tryz.prog 25 := by
        intro n hn
        rw [DataW.weights, Tryz.underlying25]
        show n ∈ y0.1.weights Tryz.prog 22 ++ ([s.data.toList.length] ++ (y2.1.weights Tryz.prog 23 ++ []))
        rcases hn with rfl | hn
        · exact List.mem_append_right _ (List.mem_append_left _ (List.mem_singleton.2 (by rw [Array.length_toList]; rfl)))
        · exact List.mem_append_right _ (List.mem_append_right _ (List.mem_append_left _ hn))
      rcases DataW.trod_slice (e := 25) (by kernel_rfl) h2 with ⟨e2, _⟩ | ⟨a, len, cap, elems, rest, m, rfl, e2, rfl, hb, hlc, hcm, hel, hE, _, _⟩
      · have e2' : c2 = .slice none 0 0 := by
          have : [c2] = [Value.slice none 0 0] := e2
          simpa using this
        subst e2'
        exact ⟨⟨op, s, []⟩, _, rfl, IsT.leaf _ _ rfl _ _, (Tr.all_eq _).2 ⟨⟨hop, hs1⟩, fun k hk => by cases hk⟩, fun hw => (Tr.all_eq _).2 ⟨hw _ (hwt _ (.inl rfl)), fun k hk => by cases hk⟩⟩
      · have e2' : c2 = .slice (some a) len cap := by
          have : [c2] = [Value.slice (some a) len cap] := e2
          simpa using this
        subst e2'
        have key : ∀ i, i < len → ∃ t : Tr, ∃ kv, w.cell? ((a.add (i * 3)).add 0) = some (.int .u8 (t.op : Nat)) ∧ w.cell? ((a.add (i * 3)).add 1) = some (.string t.name) ∧ w.cell? ((a.add (i * 3)).add 2) = some kv ∧ IsT (fun _ => True) w t kv ∧ t.Fine ∧ (∀ y, elems[i]? = some y → (∀ n ∈ y.1.weights Tryz.prog 25, n ≤ 140737488351232) → t.All (fun x => x.name.size ≤ 140737488351232)) := by
          intro i hi
          have hE' := hE i hi
          rw [List.getElem?_eq_getElem (by omega)] at hE' ⊢
          obtain ⟨cs', g1, g2⟩ := Option.bind_eq_some_iff.1 hE'
          obtain ⟨t, kv, rfl, hT, hF, hM⟩ := ih m (by omega) _ _ g2
          obtain ⟨_, _, hc⟩ := World.cells?_some g1
          have hcz : Tryz.prog.cellsOf 25 = 3 := by kernel_rfl
          rw [hcz] at hc
          exact ⟨t, kv, hc 0 (by omega), hc 1 (by omega), hc 2 (by omega), hT, hF, fun y hy => by cases hy; exact hM⟩
        rcases Nat.eq_zero_or_pos len with rfl | hpos
        · exact ⟨⟨op, s, []⟩, _, rfl, IsT.leaf _ _ rfl _ _, (Tr.all_eq _).2 ⟨⟨hop, hs1⟩, fun k hk => by cases hk⟩, fun hw => (Tr.all_eq _).2 ⟨hw _ (hwt _ (.inl rfl)), fun k hk => by cases hk⟩⟩
        · obtain ⟨b, off, rfl⟩ : ∃ b off, a = ⟨b, off, none⟩ := by
            obtain ⟨t, kv, c0, _⟩ := key 0 hpos
            simp only [Nat.zero_mul, Addr.add, if_true] at c0
            obtain ⟨b, off, sp⟩ := a
            cases sp with
            | none => exact ⟨b, off, rfl⟩
            | some z =>
              exfalso
              simp only [World.cell?] at c0
              split at c0 <;> simp at c0
          obtain ⟨ks, hks, hkp⟩ := list_of_each len key
          refine ⟨⟨op, s, ks⟩, _, rfl, (isT_eq _ _).2 ⟨some ⟨b, off, none⟩, cap, by rw [← hks], .inr ⟨b, off, rfl, trivial, fun i hi => ?_⟩⟩, (Tr.all_eq _).2 ⟨⟨hop, hs1⟩, fun k hk => ?_⟩, fun hw => (Tr.all_eq _).2 ⟨hw _ (hwt _ (.inl rfl)), fun k hk => ?_⟩⟩
          · obtain ⟨kv, c0, c1, c2, hT, _⟩ := hkp i hi
            rw [add3] at c0 c1 c2
            exact ⟨kv, c0, c1, c2, hT⟩
          · obtain ⟨i, hi, rfl⟩ := List.getElem_of_mem hk
            obtain ⟨kv, _, _, _, _, hF, _⟩ := hkp i hi
            exact hF
          · obtain ⟨i, hi, rfl⟩ := List.getElem_of_mem hk
            obtain ⟨kv, _, _, _, _, _, hM⟩ := hkp i hi
            have hi2 : i < elems.length := by have : i < ks.length := hi; omega
            refine hM _ (List.getElem?_eq_getElem hi2) fun n hn => hw n (hwt n (.inr ?_))
            rw [DataW.weights]
            show n ∈ (match Tryz.prog.underlying 23 with | some (.slice e) => _ | _ => [])
            rw [Tryz.underlying23]
            refine List.mem_cons_of_mem _ (List.mem_append_left _ (weights_mem (d := elems[i].1) (List.mem_map.2 ⟨_, List.getElem_mem _, rfl⟩) hn))
end Go.Proofs.YtnljjbpbgjgnkaaGreatDoor
