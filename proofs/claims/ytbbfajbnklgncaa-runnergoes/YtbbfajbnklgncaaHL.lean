/- A deterministic automaton, or letters, that are handed in: from their reading to what the walks ask. -/
import Derived.Test.YtbbfajbnklgncaaHF
import Derived.Deep.Strs
import Derived.Carry
import Derived.OpenShut
import Derived.ProofKit
import Derived.Test.YtbbfajbnklgncaaHH
import Derived.Test.YtbbfajbnklgncaaHK
namespace Go.Proofs.Ytbbfajbnklgncaa
open Go.ChangeShapes Go.WideShapes Go.ChangeAt Go.RowKit Go.Shelf
set_option maxRecDepth 100000

theorem laidOut : laidOutB Try.prog = true := by kernel_rfl
theorem list_of_eachB {α : Type} {p : Nat → α → Prop} : ∀ n, (∀ i, i < n → ∃ x, p i x) → ∃ l : List α, l.length = n ∧ ∀ i (h : i < l.length), p i l[i]
  | 0, _ => ⟨[], rfl, fun i h => by simp at h⟩
  | n + 1, h => by
    obtain ⟨l, hl, hp⟩ := list_of_eachB n (fun i hi => h i (by omega))
    obtain ⟨x, hx⟩ := h n (by omega)
    refine ⟨l ++ [x], by simp [hl], fun i hi => ?_⟩
    by_cases hin : i < l.length
    · rw [List.getElem_append_left hin]; exact hp i hin
    · have : i = n := by simp [hl] at hi; omega
      subst this
      rw [List.getElem_append_right (by omega)]
      simpa [hl] using hx
theorem weights_memB {H : Type} {P : Program} {e : TypeId} {n : Nat} : ∀ {l : List (DataW H)} {d : DataW H}, d ∈ l → n ∈ d.weights P e → n ∈ DataW.weightsAll P e l
  | x :: l, d, h, hn => by
    rw [DataW.weightsAll]
    rcases List.mem_cons.1 h with rfl | h
    · exact List.mem_append_left _ hn
    · exact List.mem_append_right _ (weights_memB h hn)
theorem each_weightB {H : Type} {P : Program} : ∀ {ts : List TypeId} {ds : List (DataW H)}, (DataW.weightsEach P ts ds).all (· ≤ reachBytes) = true → ∀ (i : Nat) t d, ts[i]? = some t → ds[i]? = some d → ∀ n ∈ d.weights P t, n ≤ 140737488351232
  | [], _, _, i, t, d, ht, _, _, _ => by simp at ht
  | _ :: _, [], _, i, t, d, _, hd, _, _ => by simp at hd
  | t :: ts, d :: ds, h, 0, t', d', ht, hd, n, hn => by
    simp only [List.getElem?_cons_zero, Option.some.injEq] at ht hd
    subst ht hd
    rw [DataW.weightsEach, List.all_append, Bool.and_eq_true] at h
    have := List.all_eq_true.1 h.1 n hn
    have h2 : n ≤ reachBytes := of_decide_eq_true this
    exact h2
  | t :: ts, d :: ds, h, i + 1, t', d', ht, hd, n, hn => by
    simp only [List.getElem?_cons_succ] at ht hd
    rw [DataW.weightsEach, List.all_append, Bool.and_eq_true] at h
    exact each_weightB h.2 i t' d' ht hd n hn
theorem wf_u16B {n : Int} (h : (Lit.int .u16 n).wf = true) : ∃ o : Nat, n = (o : Int) ∧ o < 65536 := by
  have h1 : 0 ≤ n ∧ n ≤ 65535 := by
    have h2 : (decide ((0 : Int) ≤ n) && decide (n ≤ 65535)) = true := h
    simpa using h2
  exact ⟨n.toNat, by omega, by omega⟩
theorem wf_i64B {n : Int} (h : (Lit.int .i64 n).wf = true) : -9223372036854775808 ≤ n ∧ n ≤ 9223372036854775807 := by
  have h2 : (decide ((-9223372036854775808 : Int) ≤ n) && decide (n ≤ 9223372036854775807)) = true := h
  simpa using h2
theorem spot_cell {W : World} {a : Addr} {v : Value} (h : W.cell? a = some v) : a.spot = none := by
  obtain ⟨b, off, sp⟩ := a
  cases sp with
  | none => rfl
  | some z =>
    exfalso
    simp only [World.cell?] at h
    split at h <;> simp at h
theorem size_listB (x : ByteArray) : x.size = x.data.toList.length := Array.length_toList.symm
theorem add_at {b off i s c : Nat} : ((⟨b, off, none⟩ : Addr).add (i * s)).add c = ⟨b, off + i * s + c, none⟩ := by rw [addr_add, addr_add]
theorem spot_noneT {W : World} {base : Nat} {a : Addr} {len cap : Nat} (h : Cell.okWide Try.prog W .any base 22 (.slice (some a) len cap)) : a.spot = none := by
  simp only [Cell.okWide, Try.underlying22, Cell.ok] at h
  exact h.2.2.2.1
theorem spot_noneR {W : World} {base : Nat} {a : Addr} {len cap : Nat} (h : Cell.okWide Try.prog W .any base 23 (.slice (some a) len cap)) : a.spot = none := by
  simp only [Cell.okWide, Try.underlying23, Cell.ok] at h
  exact h.2.2.2.1
set_option maxRecDepth 100000 in
/-- Numbers, wherever they lie. -/
theorem ints_of_trod {H : Type} {enc : TypeId × Value → H} {W : World} {fuel : Nat} {c : Value} {y : DataW H × List MemPlace} (h : DataW.trod enc Try.prog W 0 (fun _ => true) true fuel 83 [c] = some y) :
    ∃ xs, (∀ n ∈ y.1.weights Try.prog 83, n ≤ 140737488351232) → Ints W c xs := by
  rcases DataW.trod_slice (e := 3) Try.underlying83 h with ⟨e2, _⟩ | ⟨a, len, cap, elems, rest, m, rfl, e2, rfl, hb, hlc, hcm, hel, hE, _, _⟩
  · have e2' : c = .slice none 0 0 := by simpa using e2
    subst e2'
    exact ⟨[], fun _ => ⟨by simp, by simp, .inl ⟨⟨none, 0, rfl, by unfold maxLen; omega, fun _ => rfl⟩, rfl⟩⟩⟩
  · have e2' : c = .slice (some a) len cap := by simpa using e2
    subst e2'
    have hcz : Try.prog.cellsOf 3 = 1 := by kernel_rfl
    have key : ∀ i, i < len → ∃ x : Int, (-9223372036854775808 ≤ x ∧ x ≤ 9223372036854775807) ∧ W.cell? ((a.add (i * 1)).add 0) = some (.int .i64 x) := by
      intro i hi
      have hE' := hE i hi
      rw [List.getElem?_eq_getElem (by omega)] at hE'
      obtain ⟨cs', g1, g2⟩ := Option.bind_eq_some_iff.1 hE'
      obtain ⟨o, e0, _, hw0⟩ := DataW.trod_int (k := .i64) Try.underlying3 g2
      obtain ⟨_, _, hc⟩ := World.cells?_some g1
      rw [hcz] at hc
      have h0 := hc 0 (by omega)
      rw [e0] at h0
      exact ⟨o, wf_i64B hw0, h0⟩
    rcases Nat.eq_zero_or_pos len with rfl | hpos
    · exact ⟨[], fun _ => ⟨by simp, by simp, .inl ⟨⟨some a, cap, rfl, hcm, fun h => by cases h⟩, rfl⟩⟩⟩
    · obtain ⟨b, off, rfl⟩ : ∃ b off, a = ⟨b, off, none⟩ := by
        obtain ⟨x, _, c0⟩ := key 0 hpos
        simp only [Nat.zero_mul, Addr.add, if_true] at c0
        have := spot_cell c0
        obtain ⟨b, off, sp⟩ := a
        simp only at this
        subst this
        exact ⟨b, off, rfl⟩
      obtain ⟨xs, hxs, hp⟩ := list_of_eachB len key
      refine ⟨xs, fun hw => ⟨?_, fun x hx => ?_, .inr ⟨b, off, cap, by rw [hxs], by omega, hcm, fun i hi => ?_⟩⟩⟩
      · have hbz : Try.prog.bytesOf 3 = 8 := by kernel_rfl
        have := hw ((elems.length + rest.length) * 8) (by
          rw [DataW.weights]
          show _ ∈ (match Try.prog.underlying 83 with | some (.slice e) => _ | _ => [])
          rw [Try.underlying83]
          simp only [List.length_map, hbz]
          exact List.mem_cons_self)
        omega
      · obtain ⟨i, hi, rfl⟩ := List.getElem_of_mem hx
        exact (hp i hi).1
      · have q := (hp i hi).2
        rw [add_at, Nat.mul_one, Nat.add_zero] at q
        exact q
set_option maxRecDepth 100000 in
theorem strs_of_trodB {H : Type} {enc : TypeId × Value → H} {W : World} {base fuel : Nat} {c : Value} {y : DataW H × List MemPlace} (hok : Cell.okWide Try.prog W .any base 22 c) (h : DataW.trod enc Try.prog W 0 (fun _ => true) true fuel 22 [c] = some y) :
    ∃ xs, (∀ n ∈ y.1.weights Try.prog 22, n ≤ 140737488351232) → Strs W c xs ∧ ∀ x ∈ xs, x.size ≤ 140737488351232 := by
  rcases DataW.trod_slice (e := 9) Try.underlying22 h with ⟨e2, _⟩ | ⟨a, len, cap, elems, rest, m, rfl, e2, rfl, hb, hlc, hcm, hel, hE, _, _⟩
  · have e2' : c = .slice none 0 0 := by simpa using e2
    subst e2'
    exact ⟨[], fun _ => ⟨⟨by simp, by simp, .inl ⟨rfl, rfl⟩⟩, by simp⟩⟩
  · have e2' : c = .slice (some a) len cap := by simpa using e2
    subst e2'
    have hs := spot_noneT hok
    obtain ⟨b, off, sp⟩ := a
    simp only at hs
    subst hs
    have hcz : Try.prog.cellsOf 9 = 1 := by kernel_rfl
    have key : ∀ i, i < len → ∃ x : ByteArray, x.size ≤ maxLen ∧ W.cell? ⟨b, off + i, none⟩ = some (.string x) ∧ ∃ h : i < elems.length, (elems[i]).1 = .lit (.string x.data.toList) := by
      intro i hi
      have hE' := hE i hi
      rw [List.getElem?_eq_getElem (by omega)] at hE'
      obtain ⟨cs', g1, g2⟩ := Option.bind_eq_some_iff.1 hE'
      obtain ⟨x, e0, ex, hw0⟩ := DataW.trod_string Try.underlying9 g2
      obtain ⟨_, _, hc⟩ := World.cells?_some g1
      rw [hcz] at hc
      have h0 := hc 0 (by omega)
      rw [e0] at h0
      have h0' : W.cell? (((⟨b, off, none⟩ : Addr).add (i * 1)).add 0) = some (.string x) := h0
      rw [add_at, Nat.mul_one, Nat.add_zero] at h0'
      exact ⟨x, hw0, h0', by omega, by rw [ex]⟩
    obtain ⟨xs, hxs, hp⟩ := list_of_eachB len key
    refine ⟨xs, fun hw => ⟨⟨?_, fun x hx => ?_, .inr ⟨b, off, cap, by rw [hxs], by omega, hcm, fun i hi => (hp i hi).2.1⟩⟩, fun x hx => ?_⟩⟩
    · have hbz : Try.prog.bytesOf 9 = 16 := by kernel_rfl
      have := hw ((elems.length + rest.length) * 16) (by
        rw [DataW.weights]
        show _ ∈ (match Try.prog.underlying 22 with | some (.slice e) => _ | _ => [])
        rw [Try.underlying22]
        simp only [List.length_map, hbz]
        exact List.mem_cons_self)
      omega
    · obtain ⟨i, hi, rfl⟩ := List.getElem_of_mem hx
      exact (hp i hi).1
    · obtain ⟨i, hi, rfl⟩ := List.getElem_of_mem hx
      obtain ⟨_, _, hie, he⟩ := hp i hi
      refine hw _ ?_
      rw [DataW.weights]
      show _ ∈ (match Try.prog.underlying 22 with | some (.slice e) => _ | _ => [])
      rw [Try.underlying22]
      refine List.mem_cons_of_mem _ (List.mem_append_left _ (weights_memB (d := (elems[i]).1) (List.mem_map.2 ⟨_, List.getElem_mem _, rfl⟩) ?_))
      rw [he]
      have h1 : xs[i].size = xs[i].data.toList.length := size_listB _
      rw [h1]
      exact List.mem_singleton.2 rfl
set_option maxRecDepth 100000 in
theorem rowss_of_trod {H : Type} {enc : TypeId × Value → H} {W : World} {base fuel : Nat} {c : Value} {y : DataW H × List MemPlace} (hok : Cell.okWide Try.prog W .any base 23 c) (h : DataW.trod enc Try.prog W 0 (fun _ => true) true fuel 23 [c] = some y) :
    ∃ xs, (∀ n ∈ y.1.weights Try.prog 23, n ≤ 140737488351232) → Rowss W c xs := by
  rcases DataW.trod_slice (e := 83) Try.underlying23 h with ⟨e2, _⟩ | ⟨a, len, cap, elems, rest, m, rfl, e2, rfl, hb, hlc, hcm, hel, hE, _, _⟩
  · have e2' : c = .slice none 0 0 := by simpa using e2
    subst e2'
    exact ⟨[], fun _ => ⟨by simp, .inl ⟨rfl, rfl⟩⟩⟩
  · have e2' : c = .slice (some a) len cap := by simpa using e2
    subst e2'
    have hs := spot_noneR hok
    obtain ⟨b, off, sp⟩ := a
    simp only at hs
    subst hs
    have hcz : Try.prog.cellsOf 83 = 1 := by kernel_rfl
    have key : ∀ i, i < len → ∃ xs : List Int, ∃ u, W.cell? ⟨b, off + i, none⟩ = some u ∧ ∃ h : i < elems.length, ((∀ n ∈ (elems[i]).1.weights Try.prog 83, n ≤ 140737488351232) → Ints W u xs) := by
      intro i hi
      have hE' := hE i hi
      rw [List.getElem?_eq_getElem (by omega)] at hE'
      obtain ⟨cs', g1, g2⟩ := Option.bind_eq_some_iff.1 hE'
      obtain ⟨_, hcl, hc⟩ := World.cells?_some g1
      rw [hcz] at hc hcl
      have hl1 : cs'.length = 1 := by simpa using hcl
      match cs', hl1 with
      | [u], _ =>
        have q0 := hc 0 (by omega)
        rw [add_at, Nat.mul_one, Nat.add_zero] at q0
        obtain ⟨xs, hx⟩ := ints_of_trod g2
        exact ⟨xs, u, q0, by omega, hx⟩
    obtain ⟨xs, hxs, hp⟩ := list_of_eachB len key
    refine ⟨xs, fun hw => ⟨?_, .inr ⟨b, off, cap, by rw [hxs], by omega, hcm, fun i hi => ?_⟩⟩⟩
    · have hbz : Try.prog.bytesOf 83 = 24 := by kernel_rfl
      have := hw ((elems.length + rest.length) * 24) (by
        rw [DataW.weights]
        show _ ∈ (match Try.prog.underlying 23 with | some (.slice e) => _ | _ => [])
        rw [Try.underlying23]
        simp only [List.length_map, hbz]
        exact List.mem_cons_self)
      omega
    · obtain ⟨u, hu, hie, hI⟩ := hp i hi
      refine ⟨u, hu, hI fun n hn => hw n ?_⟩
      rw [DataW.weights]
      show _ ∈ (match Try.prog.underlying 23 with | some (.slice e) => _ | _ => [])
      rw [Try.underlying23]
      exact List.mem_cons_of_mem _ (List.mem_append_left _ (weights_memB (d := (elems[i]).1) (List.mem_map.2 ⟨_, List.getElem_mem _, rfl⟩) hn))
theorem spot_noneL {W : World} {base : Nat} {a : Addr} {len cap : Nat} (h : Cell.okWide Try.prog W .any base 53 (.slice (some a) len cap)) : a.spot = none := by
  simp only [Cell.okWide, Try.underlying53, Cell.ok] at h
  exact h.2.2.2.1
set_option maxRecDepth 100000 in
theorem lets_of_trod {H : Type} {enc : TypeId × Value → H} {W : World} {base fuel : Nat} {c : Value} {y : DataW H × List MemPlace} (hok : Cell.okWide Try.prog W .any base 53 c) (h : DataW.trod enc Try.prog W 0 (fun _ => true) true fuel 53 [c] = some y) :
    ∃ xs, (∀ n ∈ y.1.weights Try.prog 53, n ≤ 140737488351232) → Lets W c xs := by
  rcases DataW.trod_slice (e := 55) Try.underlying53 h with ⟨e2, _⟩ | ⟨a, len, cap, elems, rest, m, rfl, e2, rfl, hb, hlc, hcm, hel, hE, _, _⟩
  · have e2' : c = .slice none 0 0 := by simpa using e2
    subst e2'
    exact ⟨[], fun _ => Lets.nil W⟩
  · have e2' : c = .slice (some a) len cap := by simpa using e2
    subst e2'
    have hs := spot_noneL hok
    obtain ⟨b, off, sp⟩ := a
    simp only at hs
    subst hs
    have hcz : Try.prog.cellsOf 55 = 1 := by kernel_rfl
    have key : ∀ i, i < len → ∃ x : Nat, x < 65536 ∧ W.cell? ⟨b, off + i, none⟩ = some (.int .u16 (x : Nat)) := by
      intro i hi
      have hE' := hE i hi
      rw [List.getElem?_eq_getElem (by omega)] at hE'
      obtain ⟨cs', g1, g2⟩ := Option.bind_eq_some_iff.1 hE'
      obtain ⟨o, e0, _, hw0⟩ := DataW.trod_int (k := .u16) Try.underlying55 g2
      obtain ⟨x, rfl, hx⟩ := wf_u16B hw0
      obtain ⟨_, _, hc⟩ := World.cells?_some g1
      rw [hcz] at hc
      have h0 := hc 0 (by omega)
      rw [e0] at h0
      have ea : ((⟨b, off, none⟩ : Addr).add (i * 1)).add 0 = ⟨b, off + i, none⟩ := by
        unfold Addr.add
        split <;> split <;> simp_all
      rw [ea] at h0
      exact ⟨x, hx, h0⟩
    obtain ⟨xs, hxs, hp⟩ := list_of_eachB len key
    refine ⟨xs, fun hw => ⟨fun x hx => ?_, ?_, .inr ⟨b, off, cap, by rw [hxs], by omega, hcm, fun i hi => ?_⟩⟩⟩
    · obtain ⟨i, hi, rfl⟩ := List.getElem_of_mem hx
      exact (hp i hi).1
    · have hbz : Try.prog.bytesOf 55 = 2 := by kernel_rfl
      have := hw ((elems.length + rest.length) * 2) (by
        rw [DataW.weights]
        show _ ∈ (match Try.prog.underlying 53 with | some (.slice e) => _ | _ => [])
        rw [Try.underlying53]
        simp only [List.length_map, hbz]
        exact List.mem_cons_self)
      omega
    · rw [(hp i hi).2, List.getD_eq_getElem?_getD, List.getElem?_eq_getElem hi]
      rfl
theorem spot_noneW {W : World} {base : Nat} {a : Addr} {len cap : Nat} (h : Cell.okWide Try.prog W .any base 90 (.slice (some a) len cap)) : a.spot = none := by
  simp only [Cell.okWide, Try.underlying90, Cell.ok] at h
  exact h.2.2.2.1
set_option maxRecDepth 100000 in
theorem bls_of_trod {H : Type} {enc : TypeId × Value → H} {W : World} {base fuel : Nat} {c : Value} {y : DataW H × List MemPlace} (hok : Cell.okWide Try.prog W .any base 90 c) (h : DataW.trod enc Try.prog W 0 (fun _ => true) true fuel 90 [c] = some y) :
    ∃ xs, (∀ n ∈ y.1.weights Try.prog 90, n ≤ 140737488351232) → Bls W c xs := by
  rcases DataW.trod_slice (e := 4) Try.underlying90 h with ⟨e2, _⟩ | ⟨a, len, cap, elems, rest, m, rfl, e2, rfl, hb, hlc, hcm, hel, hE, _, _⟩
  · have e2' : c = .slice none 0 0 := by simpa using e2
    subst e2'
    exact ⟨[], fun _ => Bls.nil W⟩
  · have e2' : c = .slice (some a) len cap := by simpa using e2
    subst e2'
    have hs := spot_noneW hok
    obtain ⟨b, off, sp⟩ := a
    simp only at hs
    subst hs
    have hcz : Try.prog.cellsOf 4 = 1 := by kernel_rfl
    have key : ∀ i, i < len → ∃ x : Bool, W.cell? ⟨b, off + i, none⟩ = some (.bool x) := by
      intro i hi
      have hE' := hE i hi
      rw [List.getElem?_eq_getElem (by omega)] at hE'
      obtain ⟨cs', g1, g2⟩ := Option.bind_eq_some_iff.1 hE'
      obtain ⟨x, e0, _⟩ := DataW.trod_bool Try.underlying4 g2
      obtain ⟨_, _, hc⟩ := World.cells?_some g1
      rw [hcz] at hc
      have h0 := hc 0 (by omega)
      rw [e0] at h0
      have ea : ((⟨b, off, none⟩ : Addr).add (i * 1)).add 0 = ⟨b, off + i, none⟩ := by
        unfold Addr.add
        split <;> split <;> simp_all
      rw [ea] at h0
      exact ⟨x, h0⟩
    obtain ⟨xs, hxs, hp⟩ := list_of_eachB len key
    refine ⟨xs, fun hw => ⟨?_, .inr ⟨b, off, cap, by rw [hxs], by omega, hcm, fun i hi => ?_⟩⟩⟩
    · have hbz : Try.prog.bytesOf 4 = 1 := by kernel_rfl
      have := hw ((elems.length + rest.length) * 1) (by
        rw [DataW.weights]
        show _ ∈ (match Try.prog.underlying 90 with | some (.slice e) => _ | _ => [])
        rw [Try.underlying90]
        simp only [List.length_map, hbz]
        exact List.mem_cons_self)
      omega
    · rw [hp i hi, List.getD_eq_getElem?_getD, List.getElem?_eq_getElem hi]
      rfl
set_option maxRecDepth 100000 in
theorem open_dfa {H : Type} {enc : TypeId × Value → H} {W : World} {base : Nat} {v : Value} {d : DataW H} {p : List MemPlace} (hv : Value.okWide Try.prog W .any base 96 v) (h : DataW.Trod enc Try.prog W 0 (fun _ => true) true 96 v d p) :
    ∃ (pv nv lv : Value) (ps : List ByteArray) (next : List (List Int)) (live : List Bool), v = .agg #[pv, nv, lv] ∧ ((∀ n ∈ d.weights Try.prog 96, n ≤ 140737488351232) → (Strs W pv ps ∧ ∀ x ∈ ps, x.size ≤ 140737488351232) ∧ Rowss W nv next ∧ Bls W lv live) := by
  have hv' := hv
  simp only [Value.okWide, Try.underlying96] at hv'
  obtain ⟨cs, rfl, hsz, ts, hts, _, hok⟩ := hv'
  have hts' : Try.prog.cellTypes Try.prog.depth 96 = some [22, 23, 90] := by kernel_rfl
  rw [hts'] at hts
  cases hts
  have hs2 : cs.size = 3 := hsz.trans (by kernel_rfl)
  obtain ⟨fuel, hf0⟩ := h
  obtain ⟨xs, n, rfl, hdp, hl, hlen, hf⟩ := DataW.trod_struct Try.underlying96 hf0
  clear hf0
  obtain ⟨rfl, rfl⟩ := Prod.mk.inj hdp
  have h0 := hf 0 _ rfl
  have h1 := hf 1 _ rfl
  have h2 := hf 2 _ rfl
  have hx3 : xs.length = 3 := hlen
  clear hf hlen hl
  obtain ⟨cs⟩ := cs
  match cs, hs2, xs, hx3 with
  | [c0, c1, c2], _, [y0, y1, y2], _ =>
    have k0 : Cell.okWide Try.prog W .any base 22 c0 := by
      obtain ⟨u, hu, hk⟩ := hok 0 c0 rfl
      cases hu
      exact hk
    have k1 : Cell.okWide Try.prog W .any base 23 c1 := by
      obtain ⟨u, hu, hk⟩ := hok 1 c1 rfl
      cases hu
      exact hk
    have k2 : Cell.okWide Try.prog W .any base 90 c2 := by
      obtain ⟨u, hu, hk⟩ := hok 2 c2 rfl
      cases hu
      exact hk
    obtain ⟨ps, hps⟩ := strs_of_trodB k0 h0
    obtain ⟨ss, hss⟩ := rowss_of_trod k1 h1
    obtain ⟨bl, hbl⟩ := bls_of_trod k2 h2
    refine ⟨c0, c1, c2, ps, ss, bl, rfl, fun hw => ?_⟩
    have hwt : ∀ n, (n ∈ y0.1.weights Try.prog 22 ∨ n ∈ y1.1.weights Try.prog 23 ∨ n ∈ y2.1.weights Try.prog 90) → n ∈ (DataW.agg ([y0, y1, y2].map (·.1)) : DataW H).weights Try.prog 96 := by
      intro n hn
      rw [DataW.weights, Try.underlying96]
      show n ∈ y0.1.weights Try.prog 22 ++ (y1.1.weights Try.prog 23 ++ (y2.1.weights Try.prog 90 ++ []))
      rcases hn with hn | hn | hn
      · exact List.mem_append_left _ hn
      · exact List.mem_append_right _ (List.mem_append_left _ hn)
      · exact List.mem_append_right _ (List.mem_append_right _ (List.mem_append_left _ hn))
    exact ⟨hps fun n hn => hw n (hwt n (.inl hn)), hss fun n hn => hw n (hwt n (.inr (.inl hn))), hbl fun n hn => hw n (hwt n (.inr (.inr hn)))⟩
theorem open_letters {H : Type} {enc : TypeId × Value → H} {W : World} {base : Nat} {v : Value} {d : DataW H} {p : List MemPlace} (hv : Value.okWide Try.prog W .any base 53 v) (h : DataW.Trod enc Try.prog W 0 (fun _ => true) true 53 v d p) :
    ∃ xs, (∀ n ∈ d.weights Try.prog 53, n ≤ 140737488351232) → Lets W v xs := by
  have hv' : Cell.okWide Try.prog W .any base 53 v := by
    have := hv
    simp only [Value.okWide, Try.underlying53] at this
    exact this
  obtain ⟨fuel, hf⟩ := h
  obtain ⟨ad, len, cap, rfl⟩ := okWide_slice Try.underlying53 hv
  exact lets_of_trod hv' hf
theorem dfa_again {H : Type} {enc : TypeId × Value → H} {W W' : World} {v : Value} {d : DataW H} {p : List MemPlace} (h : DataW.Trod enc Try.prog W 0 (fun _ => true) true 96 v d p) (hb : Below W.heap.size W W') (hlt : ∀ x ∈ p, x.block < W.heap.size) :
    DataW.Trod enc Try.prog W' 0 (fun b => decide (b < W.heap.size)) true 96 v d p :=
  Below.trod laidOut (by kernel_rfl) (of_decide_eq_true (by kernel_rfl)) h hb hlt
theorem letters_again {H : Type} {enc : TypeId × Value → H} {W W' : World} {v : Value} {d : DataW H} {p : List MemPlace} (h : DataW.Trod enc Try.prog W 0 (fun _ => true) true 53 v d p) (hb : Below W.heap.size W W') (hlt : ∀ x ∈ p, x.block < W.heap.size) :
    DataW.Trod enc Try.prog W' 0 (fun b => decide (b < W.heap.size)) true 53 v d p :=
  Below.trod laidOut (by kernel_rfl) (of_decide_eq_true (by kernel_rfl)) h hb hlt
end Go.Proofs.Ytbbfajbnklgncaa

/- Machines and events that are handed in. -/
namespace Go.Proofs.Ytbbfajbnklgncaa
open Go.ChangeShapes Go.WideShapes Go.ChangeAt Go.WideMaps Go.WideElems Go.RowKit Go.Shelf

theorem wf_u8V {n : Int} (h : (Lit.int .u8 n).wf = true) : ∃ o : Nat, n = (o : Int) ∧ o < 256 := by
  have h1 : 0 ≤ n ∧ n ≤ 255 := by
    have h2 : (decide ((0 : Int) ≤ n) && decide (n ≤ 255)) = true := h
    simpa using h2
  exact ⟨n.toNat, by omega, by omega⟩
/-- A list of texts, an empty one at whatever place. -/
structure StrsE (W : World) (v : Value) (xs : List ByteArray) : Prop where
  few : xs.length ≤ 8796093022208
  small : ∀ x ∈ xs, x.size ≤ maxLen
  lie : ((∃ ad c, v = .slice ad 0 c) ∧ xs = []) ∨ ∃ b o c, v = .slice (some ⟨b, o, none⟩) xs.length c ∧ xs.length ≤ c ∧ c ≤ maxLen ∧ ∀ i (h : i < xs.length), W.cell? ⟨b, o + i, none⟩ = some (.string xs[i])
  src : Src 1 W v xs.length (cellsT xs)
theorem StrsE.kept {W W' : World} {v : Value} {xs : List ByteArray} (h : StrsE W v xs) (k : Kept [] W W') : StrsE W' v xs := by
  refine ⟨h.few, h.small, ?_, h.src.kept k⟩
  rcases h.lie with h1 | ⟨b, o, c, h1, h2, h3, h4⟩
  · exact .inl h1
  · exact .inr ⟨b, o, c, h1, h2, h3, fun i hi => cell_kept0 k (h4 i hi)⟩
theorem StrsE.cases {W : World} {v : Value} {xs : List ByteArray} (h : StrsE W v xs) : (xs = [] ∧ ∃ ad c, v = .slice ad 0 c) ∨ Strs W v xs := by
  rcases h.lie with ⟨h1, h2⟩ | h1
  · exact .inl ⟨h2, h1⟩
  · exact .inr ⟨h.few, h.small, .inr h1⟩
/-- Lists of texts. -/
structure Evs (W : World) (v : Value) (ss : List (List ByteArray)) : Prop where
  few : ss.length ≤ 8796093022208
  lie : (v = .slice none 0 0 ∧ ss = []) ∨ ∃ b o c, v = .slice (some ⟨b, o, none⟩) ss.length c ∧ ss.length ≤ c ∧ c ≤ maxLen ∧ ∀ i (h : i < ss.length), ∃ u, W.cell? ⟨b, o + i, none⟩ = some u ∧ StrsE W u ss[i] ∧ ∀ x ∈ ss[i], x.size ≤ 140737488351232
theorem Evs.kept {W W' : World} {v : Value} {ss : List (List ByteArray)} (h : Evs W v ss) (k : Kept [] W W') : Evs W' v ss := by
  refine ⟨h.few, ?_⟩
  rcases h.lie with h1 | ⟨b, o, c, h1, h2, h3, h4⟩
  · exact .inl h1
  · refine .inr ⟨b, o, c, h1, h2, h3, fun i hi => ?_⟩
    obtain ⟨u, q1, q2, q3⟩ := h4 i hi
    exact ⟨u, cell_kept0 k q1, q2.kept k, q3⟩
theorem Evs.form {W : World} {v : Value} {ss : List (List ByteArray)} (h : Evs W v ss) : ∃ ad c, v = .slice ad ss.length c := by
  rcases h.lie with ⟨rfl, rfl⟩ | ⟨b, o, c, rfl, _⟩
  · exact ⟨none, 0, rfl⟩
  · exact ⟨_, c, rfl⟩
set_option maxRecDepth 100000 in
theorem spot_noneV {W : World} {base : Nat} {a : Addr} {len cap : Nat} (h : Cell.okWide Try.prog W .any base 24 (.slice (some a) len cap)) : a.spot = none := by
  simp only [Cell.okWide, Try.underlying24, Cell.ok] at h
  exact h.2.2.2.1
set_option maxRecDepth 100000 in
theorem vds_of_trod {H : Type} {enc : TypeId × Value → H} {W : World} {base fuel : Nat} {c : Value} {y : DataW H × List MemPlace} (hok : Cell.okWide Try.prog W .any base 24 c) (h : DataW.trod enc Try.prog W 0 (fun _ => true) true fuel 24 [c] = some y) :
    ∃ xs, (∀ n ∈ y.1.weights Try.prog 24, n ≤ 140737488351232) → Vds W c xs := by
  rcases DataW.trod_slice (e := 60) Try.underlying24 h with ⟨e2, _⟩ | ⟨a, len, cap, elems, rest, m, rfl, e2, rfl, hb, hlc, hcm, hel, hE, _, _⟩
  · have e2' : c = .slice none 0 0 := by simpa using e2
    subst e2'
    exact ⟨[], fun _ => ⟨by simp, by simp, .inl ⟨rfl, rfl⟩⟩⟩
  · have e2' : c = .slice (some a) len cap := by simpa using e2
    subst e2'
    have hs := spot_noneV hok
    obtain ⟨b, off, sp⟩ := a
    simp only at hs
    subst hs
    have hcz : Try.prog.cellsOf 60 = 1 := by kernel_rfl
    have key : ∀ i, i < len → ∃ x : Nat, x < 256 ∧ W.cell? ⟨b, off + i, none⟩ = some (.int .u8 (x : Nat)) := by
      intro i hi
      have hE' := hE i hi
      rw [List.getElem?_eq_getElem (by omega)] at hE'
      obtain ⟨cs', g1, g2⟩ := Option.bind_eq_some_iff.1 hE'
      obtain ⟨o, e0, _, hw0⟩ := DataW.trod_int (k := .u8) Try.underlying60 g2
      obtain ⟨x, rfl, hx⟩ := wf_u8V hw0
      obtain ⟨_, _, hc⟩ := World.cells?_some g1
      rw [hcz] at hc
      have h0 := hc 0 (by omega)
      rw [e0] at h0
      have ea : ((⟨b, off, none⟩ : Addr).add (i * 1)).add 0 = ⟨b, off + i, none⟩ := by
        unfold Addr.add
        split <;> split <;> simp_all
      rw [ea] at h0
      exact ⟨x, hx, h0⟩
    obtain ⟨xs, hxs, hp⟩ := list_of_eachB len key
    refine ⟨xs, fun hw => ⟨?_, fun x hx => ?_, .inr ⟨b, off, cap, by rw [hxs], by omega, hcm, fun i hi => ?_⟩⟩⟩
    · have hbz : Try.prog.bytesOf 60 = 1 := by kernel_rfl
      have := hw ((elems.length + rest.length) * 1) (by
        rw [DataW.weights]
        show _ ∈ (match Try.prog.underlying 24 with | some (.slice e) => _ | _ => [])
        rw [Try.underlying24]
        simp only [List.length_map, hbz]
        exact List.mem_cons_self)
      omega
    · obtain ⟨i, hi, rfl⟩ := List.getElem_of_mem hx
      exact (hp i hi).1
    · rw [(hp i hi).2, List.getD_eq_getElem?_getD, List.getElem?_eq_getElem hi]
      rfl
set_option maxRecDepth 100000 in
theorem open_moore {H : Type} {enc : TypeId × Value → H} {W : World} {base : Nat} {v : Value} {d : DataW H} {p : List MemPlace} (hv : Value.okWide Try.prog W .any base 26 v) (h : DataW.Trod enc Try.prog W 0 (fun _ => true) true 26 v d p) :
    ∃ (pv nv lv : Value) (ps : List ByteArray) (next : List (List Int)) (live : List Nat), v = .agg #[pv, nv, lv] ∧ ((∀ n ∈ d.weights Try.prog 26, n ≤ 140737488351232) → (Strs W pv ps ∧ ∀ x ∈ ps, x.size ≤ 140737488351232) ∧ Rowss W nv next ∧ Vds W lv live) := by
  have hv' := hv
  simp only [Value.okWide, Try.underlying26] at hv'
  obtain ⟨cs, rfl, hsz, ts, hts, _, hok⟩ := hv'
  have hts' : Try.prog.cellTypes Try.prog.depth 26 = some [22, 23, 24] := by kernel_rfl
  rw [hts'] at hts
  cases hts
  have hs2 : cs.size = 3 := hsz.trans (by kernel_rfl)
  obtain ⟨fuel, hf0⟩ := h
  obtain ⟨xs, n, rfl, hdp, hl, hlen, hf⟩ := DataW.trod_struct Try.underlying26 hf0
  clear hf0
  obtain ⟨rfl, rfl⟩ := Prod.mk.inj hdp
  have h0 := hf 0 _ rfl
  have h1 := hf 1 _ rfl
  have h2 := hf 2 _ rfl
  have hx3 : xs.length = 3 := hlen
  clear hf hlen hl
  obtain ⟨cs⟩ := cs
  match cs, hs2, xs, hx3 with
  | [c0, c1, c2], _, [y0, y1, y2], _ =>
    have k0 : Cell.okWide Try.prog W .any base 22 c0 := by
      obtain ⟨u, hu, hk⟩ := hok 0 c0 rfl
      cases hu
      exact hk
    have k1 : Cell.okWide Try.prog W .any base 23 c1 := by
      obtain ⟨u, hu, hk⟩ := hok 1 c1 rfl
      cases hu
      exact hk
    have k2 : Cell.okWide Try.prog W .any base 24 c2 := by
      obtain ⟨u, hu, hk⟩ := hok 2 c2 rfl
      cases hu
      exact hk
    obtain ⟨ps, hps⟩ := strs_of_trodB k0 h0
    obtain ⟨ss, hss⟩ := rowss_of_trod k1 h1
    obtain ⟨bl, hbl⟩ := vds_of_trod k2 h2
    refine ⟨c0, c1, c2, ps, ss, bl, rfl, fun hw => ?_⟩
    have hwt : ∀ n, (n ∈ y0.1.weights Try.prog 22 ∨ n ∈ y1.1.weights Try.prog 23 ∨ n ∈ y2.1.weights Try.prog 24) → n ∈ (DataW.agg ([y0, y1, y2].map (·.1)) : DataW H).weights Try.prog 26 := by
      intro n hn
      rw [DataW.weights, Try.underlying26]
      show n ∈ y0.1.weights Try.prog 22 ++ (y1.1.weights Try.prog 23 ++ (y2.1.weights Try.prog 24 ++ []))
      rcases hn with hn | hn | hn
      · exact List.mem_append_left _ hn
      · exact List.mem_append_right _ (List.mem_append_left _ hn)
      · exact List.mem_append_right _ (List.mem_append_right _ (List.mem_append_left _ hn))
    exact ⟨hps fun n hn => hw n (hwt n (.inl hn)), hss fun n hn => hw n (hwt n (.inr (.inl hn))), hbl fun n hn => hw n (hwt n (.inr (.inr hn)))⟩
set_option maxRecDepth 100000 in
theorem moore_again {H : Type} {enc : TypeId × Value → H} {W W' : World} {v : Value} {d : DataW H} {p : List MemPlace} (h : DataW.Trod enc Try.prog W 0 (fun _ => true) true 26 v d p) (hb : Below W.heap.size W W') (hlt : ∀ x ∈ p, x.block < W.heap.size) :
    DataW.Trod enc Try.prog W' 0 (fun b => decide (b < W.heap.size)) true 26 v d p :=
  Below.trod laidOut (by kernel_rfl) (of_decide_eq_true (by kernel_rfl)) h hb hlt
set_option maxRecDepth 100000 in
theorem strs_of_trodE {H : Type} {enc : TypeId × Value → H} {W : World} {fuel : Nat} {c : Value} {y : DataW H × List MemPlace} (h : DataW.trod enc Try.prog W 0 (fun _ => true) true fuel 22 [c] = some y) :
    ∃ xs, (∀ n ∈ y.1.weights Try.prog 22, n ≤ 140737488351232) → StrsE W c xs ∧ ∀ x ∈ xs, x.size ≤ 140737488351232 := by
  rcases DataW.trod_slice (e := 9) Try.underlying22 h with ⟨e2, _⟩ | ⟨a, len, cap, elems, rest, m, rfl, e2, rfl, hb, hlc, hcm, hel, hE, _, _⟩
  · have e2' : c = .slice none 0 0 := by simpa using e2
    subst e2'
    exact ⟨[], fun _ => ⟨⟨by simp, by simp, .inl ⟨⟨none, 0, rfl⟩, rfl⟩, ⟨rfl, by simp [cellsT], .inl ⟨rfl, rfl⟩⟩⟩, by simp⟩⟩
  · have e2' : c = .slice (some a) len cap := by simpa using e2
    subst e2'
    have hcz : Try.prog.cellsOf 9 = 1 := by kernel_rfl
    have key : ∀ i, i < len → ∃ x : ByteArray, x.size ≤ maxLen ∧ W.cell? ((a.add (i * 1)).add 0) = some (.string x) ∧ ∃ h : i < elems.length, (elems[i]).1 = .lit (.string x.data.toList) := by
      intro i hi
      have hE' := hE i hi
      rw [List.getElem?_eq_getElem (by omega)] at hE'
      obtain ⟨cs', g1, g2⟩ := Option.bind_eq_some_iff.1 hE'
      obtain ⟨x, e0, ex, hw0⟩ := DataW.trod_string Try.underlying9 g2
      obtain ⟨_, _, hc⟩ := World.cells?_some g1
      rw [hcz] at hc
      have h0 := hc 0 (by omega)
      rw [e0] at h0
      exact ⟨x, hw0, h0, by omega, by rw [ex]⟩
    rcases Nat.eq_zero_or_pos len with rfl | hpos
    · exact ⟨[], fun _ => ⟨⟨by simp, by simp, .inl ⟨⟨some a, cap, rfl⟩, rfl⟩, ⟨rfl, by simp [cellsT], .inr ⟨a, cap, rfl, by simp, hcm, fun h => by simp at h, fun _ => rfl, fun j u hu => by simp [cellsT] at hu⟩⟩⟩, by simp⟩⟩
    obtain ⟨b, off, rfl⟩ : ∃ b off, a = ⟨b, off, none⟩ := by
      obtain ⟨x, _, c0, _⟩ := key 0 hpos
      simp only [Nat.zero_mul, Addr.add, if_true] at c0
      have := spot_cell c0
      obtain ⟨b, off, sp⟩ := a
      simp only at this
      subst this
      exact ⟨b, off, rfl⟩
    obtain ⟨xs, hxs, hp⟩ := list_of_eachB len key
    refine ⟨xs, fun hw => ⟨⟨?_, fun x hx => ?_, .inr ⟨b, off, cap, by rw [hxs], by omega, hcm, fun i hi => by have q := (hp i hi).2.1; rwa [add_at, Nat.mul_one, Nat.add_zero] at q⟩, ?_⟩, fun x hx => ?_⟩⟩
    · have hbz : Try.prog.bytesOf 9 = 16 := by kernel_rfl
      have := hw ((elems.length + rest.length) * 16) (by
        rw [DataW.weights]
        show _ ∈ (match Try.prog.underlying 22 with | some (.slice e) => _ | _ => [])
        rw [Try.underlying22]
        simp only [List.length_map, hbz]
        exact List.mem_cons_self)
      omega
    · obtain ⟨i, hi, rfl⟩ := List.getElem_of_mem hx
      exact (hp i hi).1
    · refine ⟨by simp [cellsT], cellsT_one xs, .inr ⟨⟨b, off, none⟩, cap, by rw [hxs], by omega, hcm, fun _ => rfl, fun hz => by omega, fun j u hu => ?_⟩⟩
      have hj : j < xs.length := by have := (List.getElem?_eq_some_iff.1 hu).1; simpa [cellsT] using this
      rw [cellsT_at hj] at hu
      cases hu
      have q := (hp j hj).2.1
      rw [add_at, Nat.mul_one, Nat.add_zero] at q
      rw [addr_add]
      exact q
    · obtain ⟨i, hi, rfl⟩ := List.getElem_of_mem hx
      obtain ⟨_, _, hie, he⟩ := hp i hi
      refine hw _ ?_
      rw [DataW.weights]
      show _ ∈ (match Try.prog.underlying 22 with | some (.slice e) => _ | _ => [])
      rw [Try.underlying22]
      refine List.mem_cons_of_mem _ (List.mem_append_left _ (weights_memB (d := (elems[i]).1) (List.mem_map.2 ⟨_, List.getElem_mem _, rfl⟩) ?_))
      rw [he]
      have h1 : xs[i].size = xs[i].data.toList.length := size_listB _
      rw [h1]
      exact List.mem_singleton.2 rfl
end Go.Proofs.Ytbbfajbnklgncaa

/- runner.Run of any machine and events. -/
namespace Go.Proofs.Ytbbfajbnklgncaa
open Go.RowKit Go.Shelf Go.Maps

/-- The state behind events. -/
def goN (ps : List ByteArray) (next : List (List Int)) (es : List (List ByteArray)) : Nat := es.foldl (fun s e => stepN ps next s (letterN ps e)) 0
theorem goN_take {ps : List ByteArray} {next : List (List Int)} {es : List (List ByteArray)} {k : Nat} {x : List ByteArray} (h : es[k]? = some x) : goN ps next (es.take (k + 1)) = stepN ps next (goN ps next (es.take k)) (letterN ps x) := by
  unfold goN
  rw [List.take_add_one, h]
  simp
/-- The verdicts behind each of the first k events; noughts behind them. -/
def runV (ps : List ByteArray) (next : List (List Int)) (out : List Nat) (es : List (List ByteArray)) (k : Nat) : List Nat := (List.range es.length).map fun i => if i < k then out.getD (goN ps next (es.take (i + 1))) 0 else 0
theorem runV_len {ps : List ByteArray} {next : List (List Int)} {out : List Nat} {es : List (List ByteArray)} {k : Nat} : (runV ps next out es k).length = es.length := by simp [runV]
theorem runV_zero {ps : List ByteArray} {next : List (List Int)} {out : List Nat} {es : List (List ByteArray)} : runV ps next out es 0 = List.replicate es.length 0 := by
  apply List.ext_getElem
  · simp [runV]
  · intro i h1 h2; simp [runV]
theorem runV_set {ps : List ByteArray} {next : List (List Int)} {out : List Nat} {es : List (List ByteArray)} {k : Nat} : (runV ps next out es k).set k (out.getD (goN ps next (es.take (k + 1))) 0) = runV ps next out es (k + 1) := by
  apply List.ext_getElem
  · simp [runV]
  · intro i h1 h2
    have hi : i < es.length := by simpa [runV] using h2
    rw [List.getElem_set]
    by_cases e : k = i
    · subst e
      simp [runV]
    · rw [if_neg e]
      simp only [runV, List.getElem_map, List.getElem_range]
      by_cases h3 : i < k
      · rw [if_pos h3, if_pos (by omega)]
      · rw [if_neg h3, if_neg (by omega)]
theorem runV_at {ps : List ByteArray} {next : List (List Int)} {out : List Nat} {es : List (List ByteArray)} {k : Nat} (hk : k < es.length) : (runV ps next out es es.length)[k]? = some (out.getD (goN ps next (es.take (k + 1))) 0) := by
  simp [runV, hk]
theorem make_vdsR (w : World) (k : Nat) (hk : k ≤ 10000000000000) : Sem.run Try.prog (Instr.makeSlice 24 (.int .i64 (k : Nat)) (.int .i64 (k : Nat))) w = .ok (.slice (some ⟨w.heap.size, 0, none⟩) k k) (w.alloc (.cells (vdC (List.replicate k 0)).toArray 60)) := by
  have hinf : (Try.prog.info? 60).map (fun i => (i.zero, i.size, i.bytes)) = some (some (.int .u8 0), 1, 1) := by kernel_rfl
  obtain ⟨i, hi, hz, hs, hb⟩ := info_parts hinf
  have h := run_make (P := Try.prog) w 24 60 i _ Try.underlying24 hi hz .i64 .i64 (k : Int) (k : Int) (by omega) (by omega) (by rw [hb]; omega) (by omega)
  have e : madeCells (Value.cells (.int .u8 0)) (k * 1) = (vdC (List.replicate k 0)).toArray := by
    rw [Nat.mul_one]
    apply Array.ext'
    simp only [madeCells, Value.cells, List.size_toArray, List.length_cons, List.length_nil, Array.toList_map, Array.toList_range, vdC]
    apply List.ext_getElem
    · simp
    · intro i h1 h2
      simp [Nat.mod_one]
  rw [h, hs, Int.toNat_natCast, e]
theorem vdC_set (xs : List Nat) (k x : Nat) : (vdC xs).set k (.int .u8 (x : Nat)) = vdC (xs.set k x) := by simp [vdC, List.map_set]
/-- Event's names may be none, at whatever place. -/
theorem letterE_any (lo N R : Nat) (ps : List ByteArray) (next : List (List Int)) (out : List Nat) (fin : List Bool) (s : Nat) (uv : Value) (us : List ByteArray) (w : World) (h : RunS w lo N R ps next out fin s) (h8 : ps.length ≤ 8) (hu : StrsE w uv us) :
    Calls Try.prog 39 #[.pointer (some ⟨R, 0, none⟩), uv] w fun e w' => e = .returned (.int .u16 (letterN ps us : Nat)) ∧ w' = w := by
  rcases hu.cases with ⟨rfl, ad, c, rfl⟩ | hu
  · clear h h8 hu
    go_enter Try.func39, Try.ntmps39
    go_wp2_with fail
    refine wp_loop_rounds 1 ?_
    rw [rounds_succ]
    go_wp2
    go_ret
    exact ⟨rfl, rfl⟩
  · exact letter_any lo N R ps next out fin s uv us w h h8 hu
theorem StrsE.form {W : World} {v : Value} {xs : List ByteArray} (h : StrsE W v xs) : ∃ ad c, v = .slice ad xs.length c := by
  rcases h.lie with ⟨⟨ad, c, rfl⟩, rfl⟩ | ⟨b, o, c, rfl, _⟩
  · exact ⟨ad, c, rfl⟩
  · exact ⟨_, c, rfl⟩
set_option maxHeartbeats 2000000 in
set_option maxRecDepth 10000 in
theorem eventE_any (lo N R : Nat) (ps : List ByteArray) (next : List (List Int)) (out : List Nat) (fin : List Bool) (s : Nat) (uv : Value) (us : List ByteArray) (w : World) (h : RunS w lo N R ps next out fin s) (hm : MachR ps next out) (hu : StrsE w uv us) :
    Calls Try.prog 22 #[.pointer (some ⟨R, 0, none⟩), uv] w fun e w' => e = .returned (.int .u8 (out.getD (stepN ps next s (letterN ps us)) 0 : Nat)) ∧ Hid (RunS w' lo N R ps next out fin (stepN ps next s (letterN ps us))) ∧ Hid (Kept [R] w w') := by
  obtain ⟨y, hy⟩ : ∃ y, letterN ps us = y := ⟨_, rfl⟩
  have HL : Hid (Calls Try.prog 39 #[.pointer (some ⟨R, 0, none⟩), uv] w fun e w' => e = .returned (.int .u16 (y : Nat)) ∧ w' = w) := by rw [← hy]; exact letterE_any lo N R ps next out fin s uv us w h hm.few hu
  have HS : Hid (Calls Try.prog 37 #[.pointer (some ⟨R, 0, none⟩), .int .u16 (y : Nat)] w fun e w' => e = .returned (.int .u8 (out.getD (stepN ps next s y) 0 : Nat)) ∧ Hid (RunS w' lo N R ps next out fin (stepN ps next s y)) ∧ Hid (Kept [R] w w')) := step_any lo N R ps next out fin s y w h hm (by have := letterN_lt hm.few us; omega)
  obtain ⟨ad, c, rfl⟩ := hu.form
  rw [hy]
  obtain ⟨s', hs'⟩ : ∃ s', stepN ps next s y = s' := ⟨_, rfl⟩
  rw [hs'] at HS ⊢
  clear h hm hu hy hs'
  go_enter Try.func22, Try.ntmps22
  go_wp2_with (first
    | (go_at_call 39; refine HL.out.mono ?_; rintro e w1 ⟨rfl, hw1⟩; rw [hw1]; clear hw1)
    | (go_at_call 37; refine HS.out.mono ?_; rintro e w2 ⟨rfl, HR2, HK2⟩))
  go_ret
  exact ⟨rfl, HR2, HK2⟩
/-- What Run leaves. -/
def RunEnd (ps : List ByteArray) (next : List (List Int)) (out : List Nat) (es : List (List ByteArray)) (b : Bool) (w : World) (e : Ending) (w' : World) : Prop :=
  Hid (Kept [] w w') ∧ (b = true → ∃ B, e = .returned (.tuple #[.slice (some ⟨B, 0, none⟩) es.length es.length, .int .i64 0]) ∧ Hid (w'.heap[B]? = some (.cells (vdC (runV ps next out es es.length)).toArray 60 (0, 0))) ∧ Hid (w.heap.size ≤ B)) ∧ (b = false → e = .returned (.tuple #[.slice none 0 0, .int .i64 170]))
end Go.Proofs.Ytbbfajbnklgncaa
