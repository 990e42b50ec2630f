/- Machines and events that are handed in. -/
import Derived.Test.YtbbfajbnklgncaaDrOpen
import Derived.Test.YtbbfajbnklgncaaHF
import Derived.Test.YtbbfajbnklgncaaHH
namespace Go.Proofs.Ytbbfajbnklgncaa
open Go.ChangeShapes Go.WideShapes Go.ChangeAt Go.WideMaps Go.WideElems Go.RowKit Go.Shelf

theorem wf_u8V {n : Int} (h : (Lit.int .u8 n).wf = true) : ∃ o : Nat, n = (o : Int) ∧ o < 256 := by
  have h1 : 0 ≤ n ∧ n ≤ 255 := by
    have h2 : (decide ((0 : Int) ≤ n) && decide (n ≤ 255)) = true := h
    simpa using h2
  exact ⟨n.toNat, by omega, by omega⟩
/-- A list of texts, an empty one at whatever place. -/
structure StrsE (W : World) (v : Value) (xs : List ByteArray) : Prop where
  few : xs.length ≤ 8796093022208
  small : ∀ x ∈ xs, x.size ≤ maxLen
  lie : ((∃ ad c, v = .slice ad 0 c) ∧ xs = []) ∨ ∃ b o c, v = .slice (some ⟨b, o, none⟩) xs.length c ∧ xs.length ≤ c ∧ c ≤ maxLen ∧ ∀ i (h : i < xs.length), W.cell? ⟨b, o + i, none⟩ = some (.string xs[i])
  src : Src 1 W v xs.length (cellsT xs)
theorem StrsE.kept {W W' : World} {v : Value} {xs : List ByteArray} (h : StrsE W v xs) (k : Kept [] W W') : StrsE W' v xs := by
  refine ⟨h.few, h.small, ?_, h.src.kept k⟩
  rcases h.lie with h1 | ⟨b, o, c, h1, h2, h3, h4⟩
  · exact .inl h1
  · exact .inr ⟨b, o, c, h1, h2, h3, fun i hi => cell_kept0 k (h4 i hi)⟩
theorem StrsE.cases {W : World} {v : Value} {xs : List ByteArray} (h : StrsE W v xs) : (xs = [] ∧ ∃ ad c, v = .slice ad 0 c) ∨ Strs W v xs := by
  rcases h.lie with ⟨h1, h2⟩ | h1
  · exact .inl ⟨h2, h1⟩
  · exact .inr ⟨h.few, h.small, .inr h1⟩
/-- Lists of texts. -/
structure Evs (W : World) (v : Value) (ss : List (List ByteArray)) : Prop where
  few : ss.length ≤ 8796093022208
  lie : (v = .slice none 0 0 ∧ ss = []) ∨ ∃ b o c, v = .slice (some ⟨b, o, none⟩) ss.length c ∧ ss.length ≤ c ∧ c ≤ maxLen ∧ ∀ i (h : i < ss.length), ∃ u, W.cell? ⟨b, o + i, none⟩ = some u ∧ StrsE W u ss[i] ∧ ∀ x ∈ ss[i], x.size ≤ 140737488351232
theorem Evs.kept {W W' : World} {v : Value} {ss : List (List ByteArray)} (h : Evs W v ss) (k : Kept [] W W') : Evs W' v ss := by
  refine ⟨h.few, ?_⟩
  rcases h.lie with h1 | ⟨b, o, c, h1, h2, h3, h4⟩
  · exact .inl h1
  · refine .inr ⟨b, o, c, h1, h2, h3, fun i hi => ?_⟩
    obtain ⟨u, q1, q2, q3⟩ := h4 i hi
    exact ⟨u, cell_kept0 k q1, q2.kept k, q3⟩
theorem Evs.form {W : World} {v : Value} {ss : List (List ByteArray)} (h : Evs W v ss) : ∃ ad c, v = .slice ad ss.length c := by
  rcases h.lie with ⟨rfl, rfl⟩ | ⟨b, o, c, rfl, _⟩
  · exact ⟨none, 0, rfl⟩
  · exact ⟨_, c, rfl⟩
set_option maxRecDepth 100000 in
theorem spot_noneV {W : World} {base : Nat} {a : Addr} {len cap : Nat} (h : Cell.okWide Try.prog W .any base 24 (.slice (some a) len cap)) : a.spot = none := by
  simp only [Cell.okWide, Try.underlying24, Cell.ok] at h
  exact h.2.2.2.1
set_option maxRecDepth 100000 in
theorem vds_of_trod {H : Type} {enc : TypeId × Value → H} {W : World} {base fuel : Nat} {c : Value} {y : DataW H × List MemPlace} (hok : Cell.okWide Try.prog W .any base 24 c) (h : DataW.trod enc Try.prog W 0 (fun _ => true) true fuel 24 [c] = some y) :
    ∃ xs, (∀ n ∈ y.1.weights Try.prog 24, n ≤ 140737488351232) → Vds W c xs := by
  rcases DataW.trod_slice (e := 60) Try.underlying24 h with ⟨e2, _⟩ | ⟨a, len, cap, elems, rest, m, rfl, e2, rfl, hb, hlc, hcm, hel, hE, _, _⟩
  · have e2' : c = .slice none 0 0 := by simpa using e2
    subst e2'
    exact ⟨[], fun _ => ⟨by simp, by simp, .inl ⟨rfl, rfl⟩⟩⟩
  · have e2' : c = .slice (some a) len cap := by simpa using e2
    subst e2'
    have hs := spot_noneV hok
    obtain ⟨b, off, sp⟩ := a
    simp only at hs
    subst hs
    have hcz : Try.prog.cellsOf 60 = 1 := by kernel_rfl
    have key : ∀ i, i < len → ∃ x : Nat, x < 256 ∧ W.cell? ⟨b, off + i, none⟩ = some (.int .u8 (x : Nat)) := by
      intro i hi
      have hE' := hE i hi
      rw [List.getElem?_eq_getElem (by omega)] at hE'
      obtain ⟨cs', g1, g2⟩ := Option.bind_eq_some_iff.1 hE'
      obtain ⟨o, e0, _, hw0⟩ := DataW.trod_int (k := .u8) Try.underlying60 g2
      obtain ⟨x, rfl, hx⟩ := wf_u8V hw0
      obtain ⟨_, _, hc⟩ := World.cells?_some g1
      rw [hcz] at hc
      have h0 := hc 0 (by omega)
      rw [e0] at h0
      have ea : ((⟨b, off, none⟩ : Addr).add (i * 1)).add 0 = ⟨b, off + i, none⟩ := by
        unfold Addr.add
        split <;> split <;> simp_all
      rw [ea] at h0
      exact ⟨x, hx, h0⟩
    obtain ⟨xs, hxs, hp⟩ := list_of_eachB len key
    refine ⟨xs, fun hw => ⟨?_, fun x hx => ?_, .inr ⟨b, off, cap, by rw [hxs], by omega, hcm, fun i hi => ?_⟩⟩⟩
    · have hbz : Try.prog.bytesOf 60 = 1 := by kernel_rfl
      have := hw ((elems.length + rest.length) * 1) (by
        rw [DataW.weights]
        show _ ∈ (match Try.prog.underlying 24 with | some (.slice e) => _ | _ => [])
        rw [Try.underlying24]
        simp only [List.length_map, hbz]
        exact List.mem_cons_self)
      omega
    · obtain ⟨i, hi, rfl⟩ := List.getElem_of_mem hx
      exact (hp i hi).1
    · rw [(hp i hi).2, List.getD_eq_getElem?_getD, List.getElem?_eq_getElem hi]
      rfl
set_option maxRecDepth 100000 in
theorem open_moore {H : Type} {enc : TypeId × Value → H} {W : World} {base : Nat} {v : Value} {d : DataW H} {p : List MemPlace} (hv : Value.okWide Try.prog W .any base 26 v) (h : DataW.Trod enc Try.prog W 0 (fun _ => true) true 26 v d p) :
    ∃ (pv nv lv : Value) (ps : List ByteArray) (next : List (List Int)) (live : List Nat), v = .agg #[pv, nv, lv] ∧ ((∀ n ∈ d.weights Try.prog 26, n ≤ 140737488351232) → (Strs W pv ps ∧ ∀ x ∈ ps, x.size ≤ 140737488351232) ∧ Rowss W nv next ∧ Vds W lv live) := by
  have hv' := hv
  simp only [Value.okWide, Try.underlying26] at hv'
  obtain ⟨cs, rfl, hsz, ts, hts, _, hok⟩ := hv'
  have hts' : Try.prog.cellTypes Try.prog.depth 26 = some [22, 23, 24] := by kernel_rfl
  rw [hts'] at hts
  cases hts
  have hs2 : cs.size = 3 := hsz.trans (by kernel_rfl)
  obtain ⟨fuel, hf0⟩ := h
  obtain ⟨xs, n, rfl, hdp, hl, hlen, hf⟩ := DataW.trod_struct Try.underlying26 hf0
  clear hf0
  obtain ⟨rfl, rfl⟩ := Prod.mk.inj hdp
  have h0 := hf 0 _ rfl
  have h1 := hf 1 _ rfl
  have h2 := hf 2 _ rfl
  have hx3 : xs.length = 3 := hlen
  clear hf hlen hl
  obtain ⟨cs⟩ := cs
  match cs, hs2, xs, hx3 with
  | [c0, c1, c2], _, [y0, y1, y2], _ =>
    have k0 : Cell.okWide Try.prog W .any base 22 c0 := by
      obtain ⟨u, hu, hk⟩ := hok 0 c0 rfl
      cases hu
      exact hk
    have k1 : Cell.okWide Try.prog W .any base 23 c1 := by
      obtain ⟨u, hu, hk⟩ := hok 1 c1 rfl
      cases hu
      exact hk
    have k2 : Cell.okWide Try.prog W .any base 24 c2 := by
      obtain ⟨u, hu, hk⟩ := hok 2 c2 rfl
      cases hu
      exact hk
    obtain ⟨ps, hps⟩ := strs_of_trodB k0 h0
    obtain ⟨ss, hss⟩ := rowss_of_trod k1 h1
    obtain ⟨bl, hbl⟩ := vds_of_trod k2 h2
    refine ⟨c0, c1, c2, ps, ss, bl, rfl, fun hw => ?_⟩
    have hwt : ∀ n, (n ∈ y0.1.weights Try.prog 22 ∨ n ∈ y1.1.weights Try.prog 23 ∨ n ∈ y2.1.weights Try.prog 24) → n ∈ (DataW.agg ([y0, y1, y2].map (·.1)) : DataW H).weights Try.prog 26 := by
      intro n hn
      rw [DataW.weights, Try.underlying26]
      show n ∈ y0.1.weights Try.prog 22 ++ (y1.1.weights Try.prog 23 ++ (y2.1.weights Try.prog 24 ++ []))
      rcases hn with hn | hn | hn
      · exact List.mem_append_left _ hn
      · exact List.mem_append_right _ (List.mem_append_left _ hn)
      · exact List.mem_append_right _ (List.mem_append_right _ (List.mem_append_left _ hn))
    exact ⟨hps fun n hn => hw n (hwt n (.inl hn)), hss fun n hn => hw n (hwt n (.inr (.inl hn))), hbl fun n hn => hw n (hwt n (.inr (.inr hn)))⟩
set_option maxRecDepth 100000 in
theorem moore_again {H : Type} {enc : TypeId × Value → H} {W W' : World} {v : Value} {d : DataW H} {p : List MemPlace} (h : DataW.Trod enc Try.prog W 0 (fun _ => true) true 26 v d p) (hb : Below W.heap.size W W') (hlt : ∀ x ∈ p, x.block < W.heap.size) :
    DataW.Trod enc Try.prog W' 0 (fun b => decide (b < W.heap.size)) true 26 v d p :=
  Below.trod laidOut (by kernel_rfl) (of_decide_eq_true (by kernel_rfl)) h hb hlt
set_option maxRecDepth 100000 in
theorem strs_of_trodE {H : Type} {enc : TypeId × Value → H} {W : World} {fuel : Nat} {c : Value} {y : DataW H × List MemPlace} (h : DataW.trod enc Try.prog W 0 (fun _ => true) true fuel 22 [c] = some y) :
    ∃ xs, (∀ n ∈ y.1.weights Try.prog 22, n ≤ 140737488351232) → StrsE W c xs ∧ ∀ x ∈ xs, x.size ≤ 140737488351232 := by
  rcases DataW.trod_slice (e := 9) Try.underlying22 h with ⟨e2, _⟩ | ⟨a, len, cap, elems, rest, m, rfl, e2, rfl, hb, hlc, hcm, hel, hE, _, _⟩
  · have e2' : c = .slice none 0 0 := by simpa using e2
    subst e2'
    exact ⟨[], fun _ => ⟨⟨by simp, by simp, .inl ⟨⟨none, 0, rfl⟩, rfl⟩, ⟨rfl, by simp [cellsT], .inl ⟨rfl, rfl⟩⟩⟩, by simp⟩⟩
  · have e2' : c = .slice (some a) len cap := by simpa using e2
    subst e2'
    have hcz : Try.prog.cellsOf 9 = 1 := by kernel_rfl
    have key : ∀ i, i < len → ∃ x : ByteArray, x.size ≤ maxLen ∧ W.cell? ((a.add (i * 1)).add 0) = some (.string x) ∧ ∃ h : i < elems.length, (elems[i]).1 = .lit (.string x.data.toList) := by
      intro i hi
      have hE' := hE i hi
      rw [List.getElem?_eq_getElem (by omega)] at hE'
      obtain ⟨cs', g1, g2⟩ := Option.bind_eq_some_iff.1 hE'
      obtain ⟨x, e0, ex, hw0⟩ := DataW.trod_string Try.underlying9 g2
      obtain ⟨_, _, hc⟩ := World.cells?_some g1
      rw [hcz] at hc
      have h0 := hc 0 (by omega)
      rw [e0] at h0
      exact ⟨x, hw0, h0, by omega, by rw [ex]⟩
    rcases Nat.eq_zero_or_pos len with rfl | hpos
    · exact ⟨[], fun _ => ⟨⟨by simp, by simp, .inl ⟨⟨some a, cap, rfl⟩, rfl⟩, ⟨rfl, by simp [cellsT], .inr ⟨a, cap, rfl, by simp, hcm, fun h => by simp at h, fun _ => rfl, fun j u hu => by simp [cellsT] at hu⟩⟩⟩, by simp⟩⟩
    obtain ⟨b, off, rfl⟩ : ∃ b off, a = ⟨b, off, none⟩ := by
      obtain ⟨x, _, c0, _⟩ := key 0 hpos
      simp only [Nat.zero_mul, Addr.add, if_true] at c0
      have := spot_cell c0
      obtain ⟨b, off, sp⟩ := a
      simp only at this
      subst this
      exact ⟨b, off, rfl⟩
    obtain ⟨xs, hxs, hp⟩ := list_of_eachB len key
    refine ⟨xs, fun hw => ⟨⟨?_, fun x hx => ?_, .inr ⟨b, off, cap, by rw [hxs], by omega, hcm, fun i hi => by have q := (hp i hi).2.1; rwa [add_at, Nat.mul_one, Nat.add_zero] at q⟩, ?_⟩, fun x hx => ?_⟩⟩
    · have hbz : Try.prog.bytesOf 9 = 16 := by kernel_rfl
      have := hw ((elems.length + rest.length) * 16) (by
        rw [DataW.weights]
        show _ ∈ (match Try.prog.underlying 22 with | some (.slice e) => _ | _ => [])
        rw [Try.underlying22]
        simp only [List.length_map, hbz]
        exact List.mem_cons_self)
      omega
    · obtain ⟨i, hi, rfl⟩ := List.getElem_of_mem hx
      exact (hp i hi).1
    · refine ⟨by simp [cellsT], cellsT_one xs, .inr ⟨⟨b, off, none⟩, cap, by rw [hxs], by omega, hcm, fun _ => rfl, fun hz => by omega, fun j u hu => ?_⟩⟩
      have hj : j < xs.length := by have := (List.getElem?_eq_some_iff.1 hu).1; simpa [cellsT] using this
      rw [cellsT_at hj] at hu
      cases hu
      have q := (hp j hj).2.1
      rw [add_at, Nat.mul_one, Nat.add_zero] at q
      rw [addr_add]
      exact q
    · obtain ⟨i, hi, rfl⟩ := List.getElem_of_mem hx
      obtain ⟨_, _, hie, he⟩ := hp i hi
      refine hw _ ?_
      rw [DataW.weights]
      show _ ∈ (match Try.prog.underlying 22 with | some (.slice e) => _ | _ => [])
      rw [Try.underlying22]
      refine List.mem_cons_of_mem _ (List.mem_append_left _ (weights_memB (d := (elems[i]).1) (List.mem_map.2 ⟨_, List.getElem_mem _, rfl⟩) ?_))
      rw [he]
      have h1 : xs[i].size = xs[i].data.toList.length := size_listB _
      rw [h1]
      exact List.mem_singleton.2 rfl
end Go.Proofs.Ytbbfajbnklgncaa
