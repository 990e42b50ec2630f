/- Rows of bytes that are handed in: from their reading to what the walks ask. -/
import Derived.Test.YtnaebadjejhdiaaGreatDoorCoByt
import Derived.Deep.Strs
import Derived.Carry
import Derived.OpenShut
import Derived.ProofKit
namespace Go.Proofs.YtnaebadjejhdiaaGreatDoor
open Go.ChangeShapes Go.WideShapes Go.ChangeAt Go.RowKit
set_option maxRecDepth 100000

theorem laidOut : laidOutB Tryz.prog = true := by kernel_rfl
theorem list_of_eachB {α : Type} {p : Nat → α → Prop} : ∀ n, (∀ i, i < n → ∃ x, p i x) → ∃ l : List α, l.length = n ∧ ∀ i (h : i < l.length), p i l[i]
  | 0, _ => ⟨[], rfl, fun i h => by simp at h⟩
  | n + 1, h => by
    obtain ⟨l, hl, hp⟩ := list_of_eachB n (fun i hi => h i (by omega))
    obtain ⟨x, hx⟩ := h n (by omega)
    refine ⟨l ++ [x], by simp [hl], fun i hi => ?_⟩
    by_cases hin : i < l.length
    · rw [List.getElem_append_left hin]; exact hp i hin
    · have : i = n := by simp [hl] at hi; omega
      subst this
      rw [List.getElem_append_right (by omega)]
      simpa [hl] using hx
theorem weights_memB {H : Type} {P : Program} {e : TypeId} {n : Nat} : ∀ {l : List (DataW H)} {d : DataW H}, d ∈ l → n ∈ d.weights P e → n ∈ DataW.weightsAll P e l
  | x :: l, d, h, hn => by
    rw [DataW.weightsAll]
    rcases List.mem_cons.1 h with rfl | h
    · exact List.mem_append_left _ hn
    · exact List.mem_append_right _ (weights_memB h hn)
theorem each_weightB {H : Type} {P : Program} : ∀ {ts : List TypeId} {ds : List (DataW H)}, (DataW.weightsEach P ts ds).all (· ≤ reachBytes) = true → ∀ (i : Nat) t d, ts[i]? = some t → ds[i]? = some d → ∀ n ∈ d.weights P t, n ≤ 140737488351232
  | [], _, _, i, t, d, ht, _, _, _ => by simp at ht
  | _ :: _, [], _, i, t, d, _, hd, _, _ => by simp at hd
  | t :: ts, d :: ds, h, 0, t', d', ht, hd, n, hn => by
    simp only [List.getElem?_cons_zero, Option.some.injEq] at ht hd
    subst ht hd
    rw [DataW.weightsEach, List.all_append, Bool.and_eq_true] at h
    have := List.all_eq_true.1 h.1 n hn
    have h2 : n ≤ reachBytes := of_decide_eq_true this
    exact h2
  | t :: ts, d :: ds, h, i + 1, t', d', ht, hd, n, hn => by
    simp only [List.getElem?_cons_succ] at ht hd
    rw [DataW.weightsEach, List.all_append, Bool.and_eq_true] at h
    exact each_weightB h.2 i t' d' ht hd n hn
theorem wf_i64B {n : Int} (h : (Lit.int .i64 n).wf = true) : -9223372036854775808 ≤ n ∧ n ≤ 9223372036854775807 := by
  have h2 : (decide ((-9223372036854775808 : Int) ≤ n) && decide (n ≤ 9223372036854775807)) = true := h
  simpa using h2
theorem spot_cell {W : World} {a : Addr} {v : Value} (h : W.cell? a = some v) : a.spot = none := by
  obtain ⟨b, off, sp⟩ := a
  cases sp with
  | none => rfl
  | some z =>
    exfalso
    simp only [World.cell?] at h
    split at h <;> simp at h
theorem add_at {b off i s c : Nat} : ((⟨b, off, none⟩ : Addr).add (i * s)).add c = ⟨b, off + i * s + c, none⟩ := by
  have e : ∀ (b o j : Nat), (⟨b, o, none⟩ : Addr).add j = ⟨b, o + j, none⟩ := fun b o j => by simp [Addr.add]
  rw [e, e]
theorem wf_u8C {n : Int} (h : (Lit.int .u8 n).wf = true) : ∃ o : Nat, n = (o : Int) ∧ o < 256 := by
  have h1 : 0 ≤ n ∧ n ≤ 255 := by
    have h2 : (decide ((0 : Int) ≤ n) && decide (n ≤ 255)) = true := h
    simpa using h2
  exact ⟨n.toNat, by omega, by omega⟩
set_option maxRecDepth 100000 in
/-- Bytes, wherever they lie. -/
theorem byts_of_trod {H : Type} {enc : TypeId × Value → H} {W : World} {fuel : Nat} {c : Value} {y : DataW H × List MemPlace} (h : DataW.trod enc Tryz.prog W 0 (fun _ => true) true fuel 22 [c] = some y) :
    ∃ xs, (∀ n ∈ y.1.weights Tryz.prog 22, n ≤ 140737488351232) → Byts W c xs := by
  rcases DataW.trod_slice (e := 5) Tryz.underlying22 h with ⟨e2, _⟩ | ⟨a, len, cap, elems, rest, m, rfl, e2, rfl, hb, hlc, hcm, hel, hE, _, _⟩
  · have e2' : c = .slice none 0 0 := by simpa using e2
    subst e2'
    exact ⟨[], fun _ => ⟨by simp, by simp, .inl ⟨⟨none, 0, rfl, by unfold maxLen; omega, fun _ => rfl⟩, rfl⟩⟩⟩
  · have e2' : c = .slice (some a) len cap := by simpa using e2
    subst e2'
    have hcz : Tryz.prog.cellsOf 5 = 1 := by kernel_rfl
    have key : ∀ i, i < len → ∃ x : Nat, x < 256 ∧ W.cell? ((a.add (i * 1)).add 0) = some (.int .u8 (x : Int)) := by
      intro i hi
      have hE' := hE i hi
      rw [List.getElem?_eq_getElem (by omega)] at hE'
      obtain ⟨cs', g1, g2⟩ := Option.bind_eq_some_iff.1 hE'
      obtain ⟨o, e0, _, hw0⟩ := DataW.trod_int (k := .u8) Tryz.underlying5 g2
      obtain ⟨_, _, hc⟩ := World.cells?_some g1
      rw [hcz] at hc
      have h0 := hc 0 (by omega)
      rw [e0] at h0
      obtain ⟨u, rfl, hu⟩ := wf_u8C hw0
      exact ⟨u, hu, h0⟩
    rcases Nat.eq_zero_or_pos len with rfl | hpos
    · exact ⟨[], fun _ => ⟨by simp, by simp, .inl ⟨⟨some a, cap, rfl, hcm, fun h => by cases h⟩, rfl⟩⟩⟩
    · obtain ⟨b, off, rfl⟩ : ∃ b off, a = ⟨b, off, none⟩ := by
        obtain ⟨x, _, c0⟩ := key 0 hpos
        simp only [Nat.zero_mul, Addr.add, if_true] at c0
        have := spot_cell c0
        obtain ⟨b, off, sp⟩ := a
        simp only at this
        subst this
        exact ⟨b, off, rfl⟩
      obtain ⟨xs, hxs, hp⟩ := list_of_eachB len key
      refine ⟨xs, fun hw => ⟨?_, fun x hx => ?_, .inr ⟨b, off, cap, by rw [hxs], by omega, hcm, fun i hi => ?_⟩⟩⟩
      · have hbz : Tryz.prog.bytesOf 5 = 1 := by kernel_rfl
        have := hw ((elems.length + rest.length) * 1) (by
          rw [DataW.weights]
          show _ ∈ (match Tryz.prog.underlying 22 with | some (.slice e) => _ | _ => [])
          rw [Tryz.underlying22]
          simp only [List.length_map, hbz]
          exact List.mem_cons_self)
        omega
      · obtain ⟨i, hi, rfl⟩ := List.getElem_of_mem hx
        exact (hp i hi).1
      · have q := (hp i hi).2
        rw [add_at, Nat.mul_one, Nat.add_zero] at q
        exact q
theorem open_byts {H : Type} {enc : TypeId × Value → H} {W : World} {base : Nat} {v : Value} {d : DataW H} {p : List MemPlace} (hv : Value.okWide Tryz.prog W .any base 22 v) (h : DataW.Trod enc Tryz.prog W 0 (fun _ => true) true 22 v d p) :
    ∃ xs, (∀ n ∈ d.weights Tryz.prog 22, n ≤ 140737488351232) → Byts W v xs := by
  obtain ⟨fuel, hf⟩ := h
  obtain ⟨ad, len, cap, rfl⟩ := okWide_slice Tryz.underlying22 hv
  exact byts_of_trod hf
theorem byts_again {H : Type} {enc : TypeId × Value → H} {W W' : World} {v : Value} {d : DataW H} {p : List MemPlace} (h : DataW.Trod enc Tryz.prog W 0 (fun _ => true) true 22 v d p) (hb : Below W.heap.size W W') (hlt : ∀ x ∈ p, x.block < W.heap.size) :
    DataW.Trod enc Tryz.prog W' 0 (fun b => decide (b < W.heap.size)) true 22 v d p :=
  Below.trod laidOut (by kernel_rfl) (of_decide_eq_true (by kernel_rfl)) h hb hlt
end Go.Proofs.YtnaebadjejhdiaaGreatDoor
