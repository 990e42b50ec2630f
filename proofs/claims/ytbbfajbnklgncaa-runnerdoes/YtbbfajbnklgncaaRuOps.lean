/- A script of the law RunnerDoes among the arguments: from its reading to what the walk asks. -/
import Derived.Test.YtbbfajbnklgncaaRuScr
import Derived.Test.YtbbfajbnklgncaaMoOpen
namespace Go.Proofs.Ytbbfajbnklgncaa
open Go.ChangeShapes Go.WideShapes Go.ChangeAt Go.RowKit Go.Shelf Go.Maps
set_option maxRecDepth 100000

theorem op_of_trod {H : Type} {enc : TypeId × Value → H} {W : World} {fuel : Nat} {cs : List Value} {y : DataW H × List MemPlace} (h : DataW.trod enc Try.prog W 0 (fun _ => true) true fuel 48 cs = some y) :
    ∃ (o : OpV) (u : Value), o.ok ∧ cs = [.int .i64 o.kind, .int .i64 o.who, .int .i64 o.n, u] ∧ ((∀ n ∈ y.1.weights Try.prog 48, n ≤ 140737488351232) → StrsE W u o.names ∧ ∀ x ∈ o.names, x.size ≤ 140737488351232) := by
  obtain ⟨xs, n, rfl, rfl, hl, hlen, hf⟩ := DataW.trod_struct Try.underlying48 h
  have h0 := hf 0 _ rfl
  have h1 := hf 1 _ rfl
  have h2 := hf 2 _ rfl
  have h3 := hf 3 _ rfl
  have hl4 : cs.length = 4 := hl.trans (by kernel_rfl)
  have hx4 : xs.length = 4 := hlen
  clear hf hlen hl
  match cs, hl4, xs, hx4 with
  | [c0, c1, c2, c3], _, [y0, y1, y2, y3], _ =>
    obtain ⟨o0, e0, _, w0⟩ := DataW.trod_int (k := .i64) (by kernel_rfl) h0
    obtain ⟨o1, e1, _, w1⟩ := DataW.trod_int (k := .i64) (by kernel_rfl) h1
    obtain ⟨o2, e2, _, w2⟩ := DataW.trod_int (k := .i64) (by kernel_rfl) h2
    have e0' : c0 = .int .i64 o0 := by have : [c0] = [Value.int .i64 o0] := e0; simpa using this
    have e1' : c1 = .int .i64 o1 := by have : [c1] = [Value.int .i64 o1] := e1; simpa using this
    have e2' : c2 = .int .i64 o2 := by have : [c2] = [Value.int .i64 o2] := e2; simpa using this
    subst e0' e1' e2'
    obtain ⟨ns, hns⟩ := strs_of_trodE (c := c3) h3
    refine ⟨⟨o0, o1, o2, ns⟩, c3, ⟨wf_i64B w0, wf_i64B w1, wf_i64B w2⟩, rfl, fun hw => hns fun n hn => hw n ?_⟩
    rw [DataW.weights, Try.underlying48]
    show n ∈ y0.1.weights Try.prog 3 ++ (y1.1.weights Try.prog 3 ++ (y2.1.weights Try.prog 3 ++ (y3.1.weights Try.prog 22 ++ [])))
    exact List.mem_append_right _ (List.mem_append_right _ (List.mem_append_right _ (List.mem_append_left _ hn)))
theorem spot_noneO {W : World} {base : Nat} {a : Addr} {len cap : Nat} (h : Cell.okWide Try.prog W .any base 27 (.slice (some a) len cap)) : a.spot = none := by
  simp only [Cell.okWide, Try.underlying27, Cell.ok] at h
  exact h.2.2.2.1
theorem ops_of_trod {H : Type} {enc : TypeId × Value → H} {W : World} {base fuel : Nat} {c : Value} {y : DataW H × List MemPlace} (hok : Cell.okWide Try.prog W .any base 27 c) (h : DataW.trod enc Try.prog W 0 (fun _ => true) true fuel 27 [c] = some y) :
    ∃ xs, (∀ n ∈ y.1.weights Try.prog 27, n ≤ 140737488351232) → Scr W c xs := by
  rcases DataW.trod_slice (e := 48) Try.underlying27 h with ⟨e2, _⟩ | ⟨a, len, cap, elems, rest, m, rfl, e2, rfl, hb, hlc, hcm, hel, hE, _, _⟩
  · have e2' : c = .slice none 0 0 := by simpa using e2
    subst e2'
    exact ⟨[], fun _ => ⟨by simp, .inl ⟨rfl, rfl⟩⟩⟩
  · have e2' : c = .slice (some a) len cap := by simpa using e2
    subst e2'
    have hs := spot_noneO hok
    obtain ⟨b, off, sp⟩ := a
    simp only at hs
    subst hs
    have hcz : Try.prog.cellsOf 48 = 4 := by kernel_rfl
    have key : ∀ i, i < len → ∃ o : OpV, ∃ u, o.ok ∧ W.cell? ⟨b, off + i * 4, none⟩ = some (.int .i64 o.kind) ∧ W.cell? ⟨b, off + i * 4 + 1, none⟩ = some (.int .i64 o.who) ∧ W.cell? ⟨b, off + i * 4 + 2, none⟩ = some (.int .i64 o.n) ∧ W.cell? ⟨b, off + i * 4 + 3, none⟩ = some u ∧ ∃ h : i < elems.length, ((∀ n ∈ (elems[i]).1.weights Try.prog 48, n ≤ 140737488351232) → StrsE W u o.names ∧ ∀ x ∈ o.names, x.size ≤ 140737488351232) := by
      intro i hi
      have hE' := hE i hi
      rw [List.getElem?_eq_getElem (by omega)] at hE'
      obtain ⟨cs', g1, g2⟩ := Option.bind_eq_some_iff.1 hE'
      obtain ⟨o, u, ho, rfl, hw⟩ := op_of_trod g2
      obtain ⟨_, _, hc⟩ := World.cells?_some g1
      rw [hcz] at hc
      have q0 := hc 0 (by omega)
      have q1 := hc 1 (by omega)
      have q2 := hc 2 (by omega)
      have q3 := hc 3 (by omega)
      rw [add_at] at q0 q1 q2 q3
      exact ⟨o, u, ho, q0, q1, q2, q3, by omega, hw⟩
    obtain ⟨xs, hxs, hp⟩ := list_of_eachB len key
    refine ⟨xs, fun hw => ⟨?_, .inr ⟨b, off, cap, by rw [hxs], by omega, hcm, fun i hi => ?_⟩⟩⟩
    · have hbz : Try.prog.bytesOf 48 = 48 := by kernel_rfl
      have := hw ((elems.length + rest.length) * 48) (by
        rw [DataW.weights]
        show _ ∈ (match Try.prog.underlying 27 with | some (.slice e) => _ | _ => [])
        rw [Try.underlying27]
        simp only [List.length_map, hbz]
        exact List.mem_cons_self)
      omega
    · obtain ⟨u, ho, q0, q1, q2, q3, hie, hI⟩ := hp i hi
      obtain ⟨r1, r2⟩ := hI fun n hn => hw n (by
        rw [DataW.weights]
        show _ ∈ (match Try.prog.underlying 27 with | some (.slice e) => _ | _ => [])
        rw [Try.underlying27]
        exact List.mem_cons_of_mem _ (List.mem_append_left _ (weights_memB (d := (elems[i]).1) (List.mem_map.2 ⟨_, List.getElem_mem _, rfl⟩) hn)))
      exact ⟨u, q0, q1, q2, q3, r1, r2, ho⟩
theorem open_ops {H : Type} {enc : TypeId × Value → H} {W : World} {base : Nat} {v : Value} {d : DataW H} {p : List MemPlace} (hv : Value.okWide Try.prog W .any base 27 v) (h : DataW.Trod enc Try.prog W 0 (fun _ => true) true 27 v d p) :
    ∃ xs, (∀ n ∈ d.weights Try.prog 27, n ≤ 140737488351232) → Scr W v xs := by
  have hv' : Cell.okWide Try.prog W .any base 27 v := by
    have := hv
    simp only [Value.okWide, Try.underlying27] at this
    exact this
  obtain ⟨fuel, hf⟩ := h
  obtain ⟨ad, len, cap, rfl⟩ := okWide_slice Try.underlying27 hv
  exact ops_of_trod hv' hf
theorem ops_again {H : Type} {enc : TypeId × Value → H} {W W' : World} {v : Value} {d : DataW H} {p : List MemPlace} (h : DataW.Trod enc Try.prog W 0 (fun _ => true) true 27 v d p) (hb : Below W.heap.size W W') (hlt : ∀ x ∈ p, x.block < W.heap.size) :
    DataW.Trod enc Try.prog W' 0 (fun b => decide (b < W.heap.size)) true 27 v d p :=
  Below.trod laidOut (by kernel_rfl) (of_decide_eq_true (by kernel_rfl)) h hb hlt
end Go.Proofs.Ytbbfajbnklgncaa
