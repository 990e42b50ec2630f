/- A word, or letters, among the arguments: from their reading to what the walks ask. -/
import Derived.Test.YtgbmfclboliliaaDoorWdLaidO
import Derived.Test.YtgbmfclboliliaaDoorWdSmall
import Derived.Deep.Strs
namespace Go.Proofs.YtgbmfclboliliaaDoor
open Go.ChangeShapes Go.WideShapes Go.ChangeAt Go.RowKit Go.Shelf

theorem list_of_each {α : Type} {p : Nat → α → Prop} : ∀ n, (∀ i, i < n → ∃ x, p i x) → ∃ l : List α, l.length = n ∧ ∀ i (h : i < l.length), p i l[i]
  | 0, _ => ⟨[], rfl, fun i h => by simp at h⟩
  | n + 1, h => by
    obtain ⟨l, hl, hp⟩ := list_of_each n (fun i hi => h i (by omega))
    obtain ⟨x, hx⟩ := h n (by omega)
    refine ⟨l ++ [x], by simp [hl], fun i hi => ?_⟩
    by_cases hin : i < l.length
    · rw [List.getElem_append_left hin]; exact hp i hin
    · have : i = n := by simp [hl] at hi; omega
      subst this
      rw [List.getElem_append_right (by omega)]
      simpa [hl] using hx
theorem wf_u16 {n : Int} (h : (Lit.int .u16 n).wf = true) : ∃ o : Nat, n = (o : Int) ∧ o < 65536 := by
  have h1 : 0 ≤ n ∧ n ≤ 65535 := by
    have h2 : (decide ((0 : Int) ≤ n) && decide (n ≤ 65535)) = true := h
    simpa using h2
  exact ⟨n.toNat, by omega, by omega⟩
set_option maxRecDepth 100000 in
theorem spot_none {W : World} {base : Nat} {a : Addr} {len cap : Nat} (h : Cell.okWide Tryd.prog W .any base 22 (.slice (some a) len cap)) : a.spot = none := by
  simp only [Cell.okWide, Tryd.underlying22, Cell.ok] at h
  exact h.2.2.2.1
set_option maxRecDepth 100000 in
theorem lets_of_trod {H : Type} {enc : TypeId × Value → H} {W : World} {base fuel : Nat} {c : Value} {y : DataW H × List MemPlace} (hok : Cell.okWide Tryd.prog W .any base 22 c) (h : DataW.trod enc Tryd.prog W 0 (fun _ => true) true fuel 22 [c] = some y) :
    ∃ xs, (∀ n ∈ y.1.weights Tryd.prog 22, n ≤ 140737488351232) → Lets W c xs := by
  rcases DataW.trod_slice (e := 54) Tryd.underlying22 h with ⟨e2, _⟩ | ⟨a, len, cap, elems, rest, m, rfl, e2, rfl, hb, hlc, hcm, hel, hE, _, _⟩
  · have e2' : c = .slice none 0 0 := by simpa using e2
    subst e2'
    exact ⟨[], fun _ => Lets.nil W⟩
  · have e2' : c = .slice (some a) len cap := by simpa using e2
    subst e2'
    have hs := spot_none hok
    obtain ⟨b, off, sp⟩ := a
    simp only at hs
    subst hs
    have hcz : Tryd.prog.cellsOf 54 = 1 := by kernel_rfl
    have key : ∀ i, i < len → ∃ x : Nat, x < 65536 ∧ W.cell? ⟨b, off + i, none⟩ = some (.int .u16 (x : Nat)) := by
      intro i hi
      have hE' := hE i hi
      rw [List.getElem?_eq_getElem (by omega)] at hE'
      obtain ⟨cs', g1, g2⟩ := Option.bind_eq_some_iff.1 hE'
      obtain ⟨o, e0, _, hw0⟩ := DataW.trod_int (k := .u16) Tryd.underlying54 g2
      obtain ⟨x, rfl, hx⟩ := wf_u16 hw0
      obtain ⟨_, _, hc⟩ := World.cells?_some g1
      rw [hcz] at hc
      have h0 := hc 0 (by omega)
      rw [e0] at h0
      have ea : ((⟨b, off, none⟩ : Addr).add (i * 1)).add 0 = ⟨b, off + i, none⟩ := by
        unfold Addr.add
        split <;> split <;> simp_all
      rw [ea] at h0
      exact ⟨x, hx, h0⟩
    obtain ⟨xs, hxs, hp⟩ := list_of_each len key
    refine ⟨xs, fun hw => ⟨fun x hx => ?_, ?_, .inr ⟨b, off, cap, by rw [hxs], by omega, hcm, fun i hi => ?_⟩⟩⟩
    · obtain ⟨i, hi, rfl⟩ := List.getElem_of_mem hx
      exact (hp i hi).1
    · have hbz : Tryd.prog.bytesOf 54 = 2 := by kernel_rfl
      have := hw ((elems.length + rest.length) * 2) (by
        rw [DataW.weights]
        show _ ∈ (match Tryd.prog.underlying 22 with | some (.slice e) => _ | _ => [])
        rw [Tryd.underlying22]
        simp only [List.length_map, hbz]
        exact List.mem_cons_self)
      omega
    · rw [(hp i hi).2, List.getD_eq_getElem?_getD, List.getElem?_eq_getElem hi]
      rfl
set_option maxRecDepth 100000 in
theorem open_word {H : Type} {enc : TypeId × Value → H} {W : World} {base : Nat} {v : Value} {d : DataW H} {p : List MemPlace} (hv : Value.okWide Tryd.prog W .any base 24 v) (h : DataW.Trod enc Tryd.prog W 0 (fun _ => true) true 24 v d p) :
    ∃ (sv lv : Value) (q : Wd), v = .agg #[sv, lv] ∧ ((∀ n ∈ d.weights Tryd.prog 24, n ≤ 140737488351232) → Lets W sv q.stem ∧ Lets W lv q.loop) := by
  have hv' := hv
  simp only [Value.okWide, Tryd.underlying24] at hv'
  obtain ⟨cs, rfl, hsz, ts, hts, _, hok⟩ := hv'
  have hts' : Tryd.prog.cellTypes Tryd.prog.depth 24 = some [22, 22] := by kernel_rfl
  rw [hts'] at hts
  cases hts
  have hs2 : cs.size = 2 := hsz.trans (by kernel_rfl)
  obtain ⟨fuel, hf0⟩ := h
  obtain ⟨xs, n, rfl, hdp, hl, hlen, hf⟩ := DataW.trod_struct Tryd.underlying24 hf0
  clear hf0
  obtain ⟨rfl, rfl⟩ := Prod.mk.inj hdp
  have h0 := hf 0 _ rfl
  have h1 := hf 1 _ rfl
  have hx2 : xs.length = 2 := hlen
  clear hf hlen hl
  obtain ⟨cs⟩ := cs
  match cs, hs2, xs, hx2 with
  | [c0, c1], _, [y0, y1], _ =>
    have k0 : Cell.okWide Tryd.prog W .any base 22 c0 := by
      obtain ⟨u, hu, hk⟩ := hok 0 c0 rfl
      cases hu
      exact hk
    have k1 : Cell.okWide Tryd.prog W .any base 22 c1 := by
      obtain ⟨u, hu, hk⟩ := hok 1 c1 rfl
      cases hu
      exact hk
    obtain ⟨s, hs⟩ := lets_of_trod k0 h0
    obtain ⟨l, hl⟩ := lets_of_trod k1 h1
    refine ⟨c0, c1, ⟨s, l⟩, rfl, fun hw => ?_⟩
    have hwt : ∀ n, (n ∈ y0.1.weights Tryd.prog 22 ∨ n ∈ y1.1.weights Tryd.prog 22) → n ∈ (DataW.agg ([y0, y1].map (·.1)) : DataW H).weights Tryd.prog 24 := by
      intro n hn
      rw [DataW.weights, Tryd.underlying24]
      show n ∈ y0.1.weights Tryd.prog 22 ++ (y1.1.weights Tryd.prog 22 ++ [])
      rcases hn with hn | hn
      · exact List.mem_append_left _ hn
      · exact List.mem_append_right _ (List.mem_append_left _ hn)
    exact ⟨hs fun n hn => hw n (hwt n (.inl hn)), hl fun n hn => hw n (hwt n (.inr hn))⟩
set_option maxRecDepth 100000 in
theorem open_letters {H : Type} {enc : TypeId × Value → H} {W : World} {base : Nat} {v : Value} {d : DataW H} {p : List MemPlace} (hv : Value.okWide Tryd.prog W .any base 22 v) (h : DataW.Trod enc Tryd.prog W 0 (fun _ => true) true 22 v d p) :
    ∃ xs, (∀ n ∈ d.weights Tryd.prog 22, n ≤ 140737488351232) → Lets W v xs := by
  have hv' : Cell.okWide Tryd.prog W .any base 22 v := by
    have := hv
    simp only [Value.okWide, Tryd.underlying22] at this
    exact this
  obtain ⟨fuel, hf⟩ := h
  obtain ⟨ad, len, cap, rfl⟩ := okWide_slice Tryd.underlying22 hv
  exact lets_of_trod hv' hf
theorem word_again {H : Type} {enc : TypeId × Value → H} {W W' : World} {v : Value} {d : DataW H} {p : List MemPlace} (h : DataW.Trod enc Tryd.prog W 0 (fun _ => true) true 24 v d p) (hb : Below W.heap.size W W') (hlt : ∀ x ∈ p, x.block < W.heap.size) :
    DataW.Trod enc Tryd.prog W' 0 (fun b => decide (b < W.heap.size)) true 24 v d p :=
  Below.trod laidOut (by kernel_rfl) (of_decide_eq_true (by kernel_rfl)) h hb hlt
theorem letters_again {H : Type} {enc : TypeId × Value → H} {W W' : World} {v : Value} {d : DataW H} {p : List MemPlace} (h : DataW.Trod enc Tryd.prog W 0 (fun _ => true) true 22 v d p) (hb : Below W.heap.size W W') (hlt : ∀ x ∈ p, x.block < W.heap.size) :
    DataW.Trod enc Tryd.prog W' 0 (fun b => decide (b < W.heap.size)) true 22 v d p :=
  Below.trod laidOut (by kernel_rfl) (of_decide_eq_true (by kernel_rfl)) h hb hlt
theorem each_weight {H : Type} {P : Program} : ∀ {ts : List TypeId} {ds : List (DataW H)}, (DataW.weightsEach P ts ds).all (· ≤ reachBytes) = true → ∀ (i : Nat) t d, ts[i]? = some t → ds[i]? = some d → ∀ n ∈ d.weights P t, n ≤ 140737488351232
  | [], _, _, i, t, d, ht, _, _, _ => by simp at ht
  | _ :: _, [], _, i, t, d, _, hd, _, _ => by simp at hd
  | t :: ts, d :: ds, h, 0, t', d', ht, hd, n, hn => by
    simp only [List.getElem?_cons_zero, Option.some.injEq] at ht hd
    subst ht hd
    rw [DataW.weightsEach, List.all_append, Bool.and_eq_true] at h
    have := List.all_eq_true.1 h.1 n hn
    have h2 : n ≤ reachBytes := of_decide_eq_true this
    exact h2
  | t :: ts, d :: ds, h, i + 1, t', d', ht, hd, n, hn => by
    simp only [List.getElem?_cons_succ] at ht hd
    rw [DataW.weightsEach, List.all_append, Bool.and_eq_true] at h
    exact each_weight h.2 i t' d' ht hd n hn
end Go.Proofs.YtgbmfclboliliaaDoor
