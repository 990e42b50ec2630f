/- A deterministic automaton, or letters, that are handed in: from their reading to what the walks ask. -/
import Derived.Test.YtbbfajbnklgncaaGreatHF
import Derived.Deep.Strs
import Derived.Carry
import Derived.OpenShut
import Derived.ProofKit
import Derived.Test.YtbbfajbnklgncaaGreatHH
import Derived.Test.YtbbfajbnklgncaaGreatHK
namespace Go.Proofs.YtbbfajbnklgncaaGreat
open Go.ChangeShapes Go.WideShapes Go.ChangeAt Go.RowKit Go.Shelf
set_option maxRecDepth 100000

theorem laidOut : laidOutB Tryz.prog = true := by kernel_rfl
theorem list_of_eachB {α : Type} {p : Nat → α → Prop} : ∀ n, (∀ i, i < n → ∃ x, p i x) → ∃ l : List α, l.length = n ∧ ∀ i (h : i < l.length), p i l[i]
  | 0, _ => ⟨[], rfl, fun i h => by simp at h⟩
  | n + 1, h => by
    obtain ⟨l, hl, hp⟩ := list_of_eachB n (fun i hi => h i (by omega))
    obtain ⟨x, hx⟩ := h n (by omega)
    refine ⟨l ++ [x], by simp [hl], fun i hi => ?_⟩
    by_cases hin : i < l.length
    · rw [List.getElem_append_left hin]; exact hp i hin
    · have : i = n := by simp [hl] at hi; omega
      subst this
      rw [List.getElem_append_right (by omega)]
      simpa [hl] using hx
theorem weights_memB {H : Type} {P : Program} {e : TypeId} {n : Nat} : ∀ {l : List (DataW H)} {d : DataW H}, d ∈ l → n ∈ d.weights P e → n ∈ DataW.weightsAll P e l
  | x :: l, d, h, hn => by
    rw [DataW.weightsAll]
    rcases List.mem_cons.1 h with rfl | h
    · exact List.mem_append_left _ hn
    · exact List.mem_append_right _ (weights_memB h hn)
theorem each_weightB {H : Type} {P : Program} : ∀ {ts : List TypeId} {ds : List (DataW H)}, (DataW.weightsEach P ts ds).all (· ≤ reachBytes) = true → ∀ (i : Nat) t d, ts[i]? = some t → ds[i]? = some d → ∀ n ∈ d.weights P t, n ≤ 140737488351232
  | [], _, _, i, t, d, ht, _, _, _ => by simp at ht
  | _ :: _, [], _, i, t, d, _, hd, _, _ => by simp at hd
  | t :: ts, d :: ds, h, 0, t', d', ht, hd, n, hn => by
    simp only [List.getElem?_cons_zero, Option.some.injEq] at ht hd
    subst ht hd
    rw [DataW.weightsEach, List.all_append, Bool.and_eq_true] at h
    have := List.all_eq_true.1 h.1 n hn
    have h2 : n ≤ reachBytes := of_decide_eq_true this
    exact h2
  | t :: ts, d :: ds, h, i + 1, t', d', ht, hd, n, hn => by
    simp only [List.getElem?_cons_succ] at ht hd
    rw [DataW.weightsEach, List.all_append, Bool.and_eq_true] at h
    exact each_weightB h.2 i t' d' ht hd n hn
theorem wf_u16B {n : Int} (h : (Lit.int .u16 n).wf = true) : ∃ o : Nat, n = (o : Int) ∧ o < 65536 := by
  have h1 : 0 ≤ n ∧ n ≤ 65535 := by
    have h2 : (decide ((0 : Int) ≤ n) && decide (n ≤ 65535)) = true := h
    simpa using h2
  exact ⟨n.toNat, by omega, by omega⟩
theorem wf_i64B {n : Int} (h : (Lit.int .i64 n).wf = true) : -9223372036854775808 ≤ n ∧ n ≤ 9223372036854775807 := by
  have h2 : (decide ((-9223372036854775808 : Int) ≤ n) && decide (n ≤ 9223372036854775807)) = true := h
  simpa using h2
theorem spot_cell {W : World} {a : Addr} {v : Value} (h : W.cell? a = some v) : a.spot = none := by
  obtain ⟨b, off, sp⟩ := a
  cases sp with
  | none => rfl
  | some z =>
    exfalso
    simp only [World.cell?] at h
    split at h <;> simp at h
theorem size_listB (x : ByteArray) : x.size = x.data.toList.length := Array.length_toList.symm
theorem add_at {b off i s c : Nat} : ((⟨b, off, none⟩ : Addr).add (i * s)).add c = ⟨b, off + i * s + c, none⟩ := by rw [addr_add, addr_add]
theorem spot_noneT {W : World} {base : Nat} {a : Addr} {len cap : Nat} (h : Cell.okWide Tryz.prog W .any base 22 (.slice (some a) len cap)) : a.spot = none := by
  simp only [Cell.okWide, Tryz.underlying22, Cell.ok] at h
  exact h.2.2.2.1
theorem spot_noneR {W : World} {base : Nat} {a : Addr} {len cap : Nat} (h : Cell.okWide Tryz.prog W .any base 23 (.slice (some a) len cap)) : a.spot = none := by
  simp only [Cell.okWide, Tryz.underlying23, Cell.ok] at h
  exact h.2.2.2.1
set_option maxRecDepth 100000 in
/-- Numbers, wherever they lie. -/
theorem ints_of_trod {H : Type} {enc : TypeId × Value → H} {W : World} {fuel : Nat} {c : Value} {y : DataW H × List MemPlace} (h : DataW.trod enc Tryz.prog W 0 (fun _ => true) true fuel 88 [c] = some y) :
    ∃ xs, (∀ n ∈ y.1.weights Tryz.prog 88, n ≤ 140737488351232) → Ints W c xs := by
  rcases DataW.trod_slice (e := 3) Tryz.underlying88 h with ⟨e2, _⟩ | ⟨a, len, cap, elems, rest, m, rfl, e2, rfl, hb, hlc, hcm, hel, hE, _, _⟩
  · have e2' : c = .slice none 0 0 := by simpa using e2
    subst e2'
    exact ⟨[], fun _ => ⟨by simp, by simp, .inl ⟨⟨none, 0, rfl, by unfold maxLen; omega, fun _ => rfl⟩, rfl⟩⟩⟩
  · have e2' : c = .slice (some a) len cap := by simpa using e2
    subst e2'
    have hcz : Tryz.prog.cellsOf 3 = 1 := by kernel_rfl
    have key : ∀ i, i < len → ∃ x : Int, (-9223372036854775808 ≤ x ∧ x ≤ 9223372036854775807) ∧ W.cell? ((a.add (i * 1)).add 0) = some (.int .i64 x) := by
      intro i hi
      have hE' := hE i hi
      rw [List.getElem?_eq_getElem (by omega)] at hE'
      obtain ⟨cs', g1, g2⟩ := Option.bind_eq_some_iff.1 hE'
      obtain ⟨o, e0, _, hw0⟩ := DataW.trod_int (k := .i64) Tryz.underlying3 g2
      obtain ⟨_, _, hc⟩ := World.cells?_some g1
      rw [hcz] at hc
      have h0 := hc 0 (by omega)
      rw [e0] at h0
      exact ⟨o, wf_i64B hw0, h0⟩
    rcases Nat.eq_zero_or_pos len with rfl | hpos
    · exact ⟨[], fun _ => ⟨by simp, by simp, .inl ⟨⟨some a, cap, rfl, hcm, fun h => by cases h⟩, rfl⟩⟩⟩
    · obtain ⟨b, off, rfl⟩ : ∃ b off, a = ⟨b, off, none⟩ := by
        obtain ⟨x, _, c0⟩ := key 0 hpos
        simp only [Nat.zero_mul, Addr.add, if_true] at c0
        have := spot_cell c0
        obtain ⟨b, off, sp⟩ := a
        simp only at this
        subst this
        exact ⟨b, off, rfl⟩
      obtain ⟨xs, hxs, hp⟩ := list_of_eachB len key
      refine ⟨xs, fun hw => ⟨?_, fun x hx => ?_, .inr ⟨b, off, cap, by rw [hxs], by omega, hcm, fun i hi => ?_⟩⟩⟩
      · have hbz : Tryz.prog.bytesOf 3 = 8 := by kernel_rfl
        have := hw ((elems.length + rest.length) * 8) (by
          rw [DataW.weights]
          show _ ∈ (match Tryz.prog.underlying 88 with | some (.slice e) => _ | _ => [])
          rw [Tryz.underlying88]
          simp only [List.length_map, hbz]
          exact List.mem_cons_self)
        omega
      · obtain ⟨i, hi, rfl⟩ := List.getElem_of_mem hx
        exact (hp i hi).1
      · have q := (hp i hi).2
        rw [add_at, Nat.mul_one, Nat.add_zero] at q
        exact q
set_option maxRecDepth 100000 in
theorem strs_of_trodB {H : Type} {enc : TypeId × Value → H} {W : World} {base fuel : Nat} {c : Value} {y : DataW H × List MemPlace} (hok : Cell.okWide Tryz.prog W .any base 22 c) (h : DataW.trod enc Tryz.prog W 0 (fun _ => true) true fuel 22 [c] = some y) :
    ∃ xs, (∀ n ∈ y.1.weights Tryz.prog 22, n ≤ 140737488351232) → Strs W c xs ∧ ∀ x ∈ xs, x.size ≤ 140737488351232 := by
  rcases DataW.trod_slice (e := 9) Tryz.underlying22 h with ⟨e2, _⟩ | ⟨a, len, cap, elems, rest, m, rfl, e2, rfl, hb, hlc, hcm, hel, hE, _, _⟩
  · have e2' : c = .slice none 0 0 := by simpa using e2
    subst e2'
    exact ⟨[], fun _ => ⟨⟨by simp, by simp, .inl ⟨rfl, rfl⟩⟩, by simp⟩⟩
  · have e2' : c = .slice (some a) len cap := by simpa using e2
    subst e2'
    have hs := spot_noneT hok
    obtain ⟨b, off, sp⟩ := a
    simp only at hs
    subst hs
    have hcz : Tryz.prog.cellsOf 9 = 1 := by kernel_rfl
    have key : ∀ i, i < len → ∃ x : ByteArray, x.size ≤ maxLen ∧ W.cell? ⟨b, off + i, none⟩ = some (.string x) ∧ ∃ h : i < elems.length, (elems[i]).1 = .lit (.string x.data.toList) := by
      intro i hi
      have hE' := hE i hi
      rw [List.getElem?_eq_getElem (by omega)] at hE'
      obtain ⟨cs', g1, g2⟩ := Option.bind_eq_some_iff.1 hE'
      obtain ⟨x, e0, ex, hw0⟩ := DataW.trod_string Tryz.underlying9 g2
      obtain ⟨_, _, hc⟩ := World.cells?_some g1
      rw [hcz] at hc
      have h0 := hc 0 (by omega)
      rw [e0] at h0
      have h0' : W.cell? (((⟨b, off, none⟩ : Addr).add (i * 1)).add 0) = some (.string x) := h0
      rw [add_at, Nat.mul_one, Nat.add_zero] at h0'
      exact ⟨x, hw0, h0', by omega, by rw [ex]⟩
    obtain ⟨xs, hxs, hp⟩ := list_of_eachB len key
    refine ⟨xs, fun hw => ⟨⟨?_, fun x hx => ?_, .inr ⟨b, off, cap, by rw [hxs], by omega, hcm, fun i hi => (hp i hi).2.1⟩⟩, fun x hx => ?_⟩⟩
    · have hbz : Tryz.prog.bytesOf 9 = 16 := by kernel_rfl
      have := hw ((elems.length + rest.length) * 16) (by
        rw [DataW.weights]
        show _ ∈ (match Tryz.prog.underlying 22 with | some (.slice e) => _ | _ => [])
        rw [Tryz.underlying22]
        simp only [List.length_map, hbz]
        exact List.mem_cons_self)
      omega
    · obtain ⟨i, hi, rfl⟩ := List.getElem_of_mem hx
      exact (hp i hi).1
    · obtain ⟨i, hi, rfl⟩ := List.getElem_of_mem hx
      obtain ⟨_, _, hie, he⟩ := hp i hi
      refine hw _ ?_
      rw [DataW.weights]
      show _ ∈ (match Tryz.prog.underlying 22 with | some (.slice e) => _ | _ => [])
      rw [Tryz.underlying22]
      refine List.mem_cons_of_mem _ (List.mem_append_left _ (weights_memB (d := (elems[i]).1) (List.mem_map.2 ⟨_, List.getElem_mem _, rfl⟩) ?_))
      rw [he]
      have h1 : xs[i].size = xs[i].data.toList.length := size_listB _
      rw [h1]
      exact List.mem_singleton.2 rfl
set_option maxRecDepth 100000 in
theorem rowss_of_trod {H : Type} {enc : TypeId × Value → H} {W : World} {base fuel : Nat} {c : Value} {y : DataW H × List MemPlace} (hok : Cell.okWide Tryz.prog W .any base 23 c) (h : DataW.trod enc Tryz.prog W 0 (fun _ => true) true fuel 23 [c] = some y) :
    ∃ xs, (∀ n ∈ y.1.weights Tryz.prog 23, n ≤ 140737488351232) → Rowss W c xs := by
  rcases DataW.trod_slice (e := 88) Tryz.underlying23 h with ⟨e2, _⟩ | ⟨a, len, cap, elems, rest, m, rfl, e2, rfl, hb, hlc, hcm, hel, hE, _, _⟩
  · have e2' : c = .slice none 0 0 := by simpa using e2
    subst e2'
    exact ⟨[], fun _ => ⟨by simp, .inl ⟨rfl, rfl⟩⟩⟩
  · have e2' : c = .slice (some a) len cap := by simpa using e2
    subst e2'
    have hs := spot_noneR hok
    obtain ⟨b, off, sp⟩ := a
    simp only at hs
    subst hs
    have hcz : Tryz.prog.cellsOf 88 = 1 := by kernel_rfl
    have key : ∀ i, i < len → ∃ xs : List Int, ∃ u, W.cell? ⟨b, off + i, none⟩ = some u ∧ ∃ h : i < elems.length, ((∀ n ∈ (elems[i]).1.weights Tryz.prog 88, n ≤ 140737488351232) → Ints W u xs) := by
      intro i hi
      have hE' := hE i hi
      rw [List.getElem?_eq_getElem (by omega)] at hE'
      obtain ⟨cs', g1, g2⟩ := Option.bind_eq_some_iff.1 hE'
      obtain ⟨_, hcl, hc⟩ := World.cells?_some g1
      rw [hcz] at hc hcl
      have hl1 : cs'.length = 1 := by simpa using hcl
      match cs', hl1 with
      | [u], _ =>
        have q0 := hc 0 (by omega)
        rw [add_at, Nat.mul_one, Nat.add_zero] at q0
        obtain ⟨xs, hx⟩ := ints_of_trod g2
        exact ⟨xs, u, q0, by omega, hx⟩
    obtain ⟨xs, hxs, hp⟩ := list_of_eachB len key
    refine ⟨xs, fun hw => ⟨?_, .inr ⟨b, off, cap, by rw [hxs], by omega, hcm, fun i hi => ?_⟩⟩⟩
    · have hbz : Tryz.prog.bytesOf 88 = 24 := by kernel_rfl
      have := hw ((elems.length + rest.length) * 24) (by
        rw [DataW.weights]
        show _ ∈ (match Tryz.prog.underlying 23 with | some (.slice e) => _ | _ => [])
        rw [Tryz.underlying23]
        simp only [List.length_map, hbz]
        exact List.mem_cons_self)
      omega
    · obtain ⟨u, hu, hie, hI⟩ := hp i hi
      refine ⟨u, hu, hI fun n hn => hw n ?_⟩
      rw [DataW.weights]
      show _ ∈ (match Tryz.prog.underlying 23 with | some (.slice e) => _ | _ => [])
      rw [Tryz.underlying23]
      exact List.mem_cons_of_mem _ (List.mem_append_left _ (weights_memB (d := (elems[i]).1) (List.mem_map.2 ⟨_, List.getElem_mem _, rfl⟩) hn))
theorem spot_noneL {W : World} {base : Nat} {a : Addr} {len cap : Nat} (h : Cell.okWide Tryz.prog W .any base 105 (.slice (some a) len cap)) : a.spot = none := by
  simp only [Cell.okWide, Tryz.underlying105, Cell.ok] at h
  exact h.2.2.2.1
set_option maxRecDepth 100000 in
theorem lets_of_trod {H : Type} {enc : TypeId × Value → H} {W : World} {base fuel : Nat} {c : Value} {y : DataW H × List MemPlace} (hok : Cell.okWide Tryz.prog W .any base 105 c) (h : DataW.trod enc Tryz.prog W 0 (fun _ => true) true fuel 105 [c] = some y) :
    ∃ xs, (∀ n ∈ y.1.weights Tryz.prog 105, n ≤ 140737488351232) → Lets W c xs := by
  rcases DataW.trod_slice (e := 73) Tryz.underlying105 h with ⟨e2, _⟩ | ⟨a, len, cap, elems, rest, m, rfl, e2, rfl, hb, hlc, hcm, hel, hE, _, _⟩
  · have e2' : c = .slice none 0 0 := by simpa using e2
    subst e2'
    exact ⟨[], fun _ => Lets.nil W⟩
  · have e2' : c = .slice (some a) len cap := by simpa using e2
    subst e2'
    have hs := spot_noneL hok
    obtain ⟨b, off, sp⟩ := a
    simp only at hs
    subst hs
    have hcz : Tryz.prog.cellsOf 73 = 1 := by kernel_rfl
    have key : ∀ i, i < len → ∃ x : Nat, x < 65536 ∧ W.cell? ⟨b, off + i, none⟩ = some (.int .u16 (x : Nat)) := by
      intro i hi
      have hE' := hE i hi
      rw [List.getElem?_eq_getElem (by omega)] at hE'
      obtain ⟨cs', g1, g2⟩ := Option.bind_eq_some_iff.1 hE'
      obtain ⟨o, e0, _, hw0⟩ := DataW.trod_int (k := .u16) Tryz.underlying73 g2
      obtain ⟨x, rfl, hx⟩ := wf_u16B hw0
      obtain ⟨_, _, hc⟩ := World.cells?_some g1
      rw [hcz] at hc
      have h0 := hc 0 (by omega)
      rw [e0] at h0
      have ea : ((⟨b, off, none⟩ : Addr).add (i * 1)).add 0 = ⟨b, off + i, none⟩ := by
        unfold Addr.add
        split <;> split <;> simp_all
      rw [ea] at h0
      exact ⟨x, hx, h0⟩
    obtain ⟨xs, hxs, hp⟩ := list_of_eachB len key
    refine ⟨xs, fun hw => ⟨fun x hx => ?_, ?_, .inr ⟨b, off, cap, by rw [hxs], by omega, hcm, fun i hi => ?_⟩⟩⟩
    · obtain ⟨i, hi, rfl⟩ := List.getElem_of_mem hx
      exact (hp i hi).1
    · have hbz : Tryz.prog.bytesOf 73 = 2 := by kernel_rfl
      have := hw ((elems.length + rest.length) * 2) (by
        rw [DataW.weights]
        show _ ∈ (match Tryz.prog.underlying 105 with | some (.slice e) => _ | _ => [])
        rw [Tryz.underlying105]
        simp only [List.length_map, hbz]
        exact List.mem_cons_self)
      omega
    · rw [(hp i hi).2, List.getD_eq_getElem?_getD, List.getElem?_eq_getElem hi]
      rfl
theorem spot_noneW {W : World} {base : Nat} {a : Addr} {len cap : Nat} (h : Cell.okWide Tryz.prog W .any base 96 (.slice (some a) len cap)) : a.spot = none := by
  simp only [Cell.okWide, Tryz.underlying96, Cell.ok] at h
  exact h.2.2.2.1
set_option maxRecDepth 100000 in
theorem bls_of_trod {H : Type} {enc : TypeId × Value → H} {W : World} {base fuel : Nat} {c : Value} {y : DataW H × List MemPlace} (hok : Cell.okWide Tryz.prog W .any base 96 c) (h : DataW.trod enc Tryz.prog W 0 (fun _ => true) true fuel 96 [c] = some y) :
    ∃ xs, (∀ n ∈ y.1.weights Tryz.prog 96, n ≤ 140737488351232) → Bls W c xs := by
  rcases DataW.trod_slice (e := 4) Tryz.underlying96 h with ⟨e2, _⟩ | ⟨a, len, cap, elems, rest, m, rfl, e2, rfl, hb, hlc, hcm, hel, hE, _, _⟩
  · have e2' : c = .slice none 0 0 := by simpa using e2
    subst e2'
    exact ⟨[], fun _ => Bls.nil W⟩
  · have e2' : c = .slice (some a) len cap := by simpa using e2
    subst e2'
    have hs := spot_noneW hok
    obtain ⟨b, off, sp⟩ := a
    simp only at hs
    subst hs
    have hcz : Tryz.prog.cellsOf 4 = 1 := by kernel_rfl
    have key : ∀ i, i < len → ∃ x : Bool, W.cell? ⟨b, off + i, none⟩ = some (.bool x) := by
      intro i hi
      have hE' := hE i hi
      rw [List.getElem?_eq_getElem (by omega)] at hE'
      obtain ⟨cs', g1, g2⟩ := Option.bind_eq_some_iff.1 hE'
      obtain ⟨x, e0, _⟩ := DataW.trod_bool Tryz.underlying4 g2
      obtain ⟨_, _, hc⟩ := World.cells?_some g1
      rw [hcz] at hc
      have h0 := hc 0 (by omega)
      rw [e0] at h0
      have ea : ((⟨b, off, none⟩ : Addr).add (i * 1)).add 0 = ⟨b, off + i, none⟩ := by
        unfold Addr.add
        split <;> split <;> simp_all
      rw [ea] at h0
      exact ⟨x, h0⟩
    obtain ⟨xs, hxs, hp⟩ := list_of_eachB len key
    refine ⟨xs, fun hw => ⟨?_, .inr ⟨b, off, cap, by rw [hxs], by omega, hcm, fun i hi => ?_⟩⟩⟩
    · have hbz : Tryz.prog.bytesOf 4 = 1 := by kernel_rfl
      have := hw ((elems.length + rest.length) * 1) (by
        rw [DataW.weights]
        show _ ∈ (match Tryz.prog.underlying 96 with | some (.slice e) => _ | _ => [])
        rw [Tryz.underlying96]
        simp only [List.length_map, hbz]
        exact List.mem_cons_self)
      omega
    · rw [hp i hi, List.getD_eq_getElem?_getD, List.getElem?_eq_getElem hi]
      rfl
set_option maxRecDepth 100000 in
theorem open_dfa {H : Type} {enc : TypeId × Value → H} {W : World} {base : Nat} {v : Value} {d : DataW H} {p : List MemPlace} (hv : Value.okWide Tryz.prog W .any base 130 v) (h : DataW.Trod enc Tryz.prog W 0 (fun _ => true) true 130 v d p) :
    ∃ (pv nv lv : Value) (ps : List ByteArray) (next : List (List Int)) (live : List Bool), v = .agg #[pv, nv, lv] ∧ ((∀ n ∈ d.weights Tryz.prog 130, n ≤ 140737488351232) → (Strs W pv ps ∧ ∀ x ∈ ps, x.size ≤ 140737488351232) ∧ Rowss W nv next ∧ Bls W lv live) := by
  have hv' := hv
  simp only [Value.okWide, Tryz.underlying130] at hv'
  obtain ⟨cs, rfl, hsz, ts, hts, _, hok⟩ := hv'
  have hts' : Tryz.prog.cellTypes Tryz.prog.depth 130 = some [22, 23, 96] := by kernel_rfl
  rw [hts'] at hts
  cases hts
  have hs2 : cs.size = 3 := hsz.trans (by kernel_rfl)
  obtain ⟨fuel, hf0⟩ := h
  obtain ⟨xs, n, rfl, hdp, hl, hlen, hf⟩ := DataW.trod_struct Tryz.underlying130 hf0
  clear hf0
  obtain ⟨rfl, rfl⟩ := Prod.mk.inj hdp
  have h0 := hf 0 _ rfl
  have h1 := hf 1 _ rfl
  have h2 := hf 2 _ rfl
  have hx3 : xs.length = 3 := hlen
  clear hf hlen hl
  obtain ⟨cs⟩ := cs
  match cs, hs2, xs, hx3 with
  | [c0, c1, c2], _, [y0, y1, y2], _ =>
    have k0 : Cell.okWide Tryz.prog W .any base 22 c0 := by
      obtain ⟨u, hu, hk⟩ := hok 0 c0 rfl
      cases hu
      exact hk
    have k1 : Cell.okWide Tryz.prog W .any base 23 c1 := by
      obtain ⟨u, hu, hk⟩ := hok 1 c1 rfl
      cases hu
      exact hk
    have k2 : Cell.okWide Tryz.prog W .any base 96 c2 := by
      obtain ⟨u, hu, hk⟩ := hok 2 c2 rfl
      cases hu
      exact hk
    obtain ⟨ps, hps⟩ := strs_of_trodB k0 h0
    obtain ⟨ss, hss⟩ := rowss_of_trod k1 h1
    obtain ⟨bl, hbl⟩ := bls_of_trod k2 h2
    refine ⟨c0, c1, c2, ps, ss, bl, rfl, fun hw => ?_⟩
    have hwt : ∀ n, (n ∈ y0.1.weights Tryz.prog 22 ∨ n ∈ y1.1.weights Tryz.prog 23 ∨ n ∈ y2.1.weights Tryz.prog 96) → n ∈ (DataW.agg ([y0, y1, y2].map (·.1)) : DataW H).weights Tryz.prog 130 := by
      intro n hn
      rw [DataW.weights, Tryz.underlying130]
      show n ∈ y0.1.weights Tryz.prog 22 ++ (y1.1.weights Tryz.prog 23 ++ (y2.1.weights Tryz.prog 96 ++ []))
      rcases hn with hn | hn | hn
      · exact List.mem_append_left _ hn
      · exact List.mem_append_right _ (List.mem_append_left _ hn)
      · exact List.mem_append_right _ (List.mem_append_right _ (List.mem_append_left _ hn))
    exact ⟨hps fun n hn => hw n (hwt n (.inl hn)), hss fun n hn => hw n (hwt n (.inr (.inl hn))), hbl fun n hn => hw n (hwt n (.inr (.inr hn)))⟩
theorem open_letters {H : Type} {enc : TypeId × Value → H} {W : World} {base : Nat} {v : Value} {d : DataW H} {p : List MemPlace} (hv : Value.okWide Tryz.prog W .any base 105 v) (h : DataW.Trod enc Tryz.prog W 0 (fun _ => true) true 105 v d p) :
    ∃ xs, (∀ n ∈ d.weights Tryz.prog 105, n ≤ 140737488351232) → Lets W v xs := by
  have hv' : Cell.okWide Tryz.prog W .any base 105 v := by
    have := hv
    simp only [Value.okWide, Tryz.underlying105] at this
    exact this
  obtain ⟨fuel, hf⟩ := h
  obtain ⟨ad, len, cap, rfl⟩ := okWide_slice Tryz.underlying105 hv
  exact lets_of_trod hv' hf
theorem dfa_again {H : Type} {enc : TypeId × Value → H} {W W' : World} {v : Value} {d : DataW H} {p : List MemPlace} (h : DataW.Trod enc Tryz.prog W 0 (fun _ => true) true 130 v d p) (hb : Below W.heap.size W W') (hlt : ∀ x ∈ p, x.block < W.heap.size) :
    DataW.Trod enc Tryz.prog W' 0 (fun b => decide (b < W.heap.size)) true 130 v d p :=
  Below.trod laidOut (by kernel_rfl) (of_decide_eq_true (by kernel_rfl)) h hb hlt
theorem letters_again {H : Type} {enc : TypeId × Value → H} {W W' : World} {v : Value} {d : DataW H} {p : List MemPlace} (h : DataW.Trod enc Tryz.prog W 0 (fun _ => true) true 105 v d p) (hb : Below W.heap.size W W') (hlt : ∀ x ∈ p, x.block < W.heap.size) :
    DataW.Trod enc Tryz.prog W' 0 (fun b => decide (b < W.heap.size)) true 105 v d p :=
  Below.trod laidOut (by kernel_rfl) (of_decide_eq_true (by kernel_rfl)) h hb hlt
end Go.Proofs.YtbbfajbnklgncaaGreat

/- Machines and events that are handed in. -/
namespace Go.Proofs.YtbbfajbnklgncaaGreat
open Go.ChangeShapes Go.WideShapes Go.ChangeAt Go.WideMaps Go.WideElems Go.RowKit Go.Shelf

theorem wf_u8V {n : Int} (h : (Lit.int .u8 n).wf = true) : ∃ o : Nat, n = (o : Int) ∧ o < 256 := by
  have h1 : 0 ≤ n ∧ n ≤ 255 := by
    have h2 : (decide ((0 : Int) ≤ n) && decide (n ≤ 255)) = true := h
    simpa using h2
  exact ⟨n.toNat, by omega, by omega⟩
/-- A list of texts, an empty one at whatever place. -/
structure StrsE (W : World) (v : Value) (xs : List ByteArray) : Prop where
  few : xs.length ≤ 8796093022208
  small : ∀ x ∈ xs, x.size ≤ maxLen
  lie : ((∃ ad c, v = .slice ad 0 c) ∧ xs = []) ∨ ∃ b o c, v = .slice (some ⟨b, o, none⟩) xs.length c ∧ xs.length ≤ c ∧ c ≤ maxLen ∧ ∀ i (h : i < xs.length), W.cell? ⟨b, o + i, none⟩ = some (.string xs[i])
  src : Src 1 W v xs.length (cellsT xs)
theorem StrsE.kept {W W' : World} {v : Value} {xs : List ByteArray} (h : StrsE W v xs) (k : Kept [] W W') : StrsE W' v xs := by
  refine ⟨h.few, h.small, ?_, h.src.kept k⟩
  rcases h.lie with h1 | ⟨b, o, c, h1, h2, h3, h4⟩
  · exact .inl h1
  · exact .inr ⟨b, o, c, h1, h2, h3, fun i hi => cell_kept0 k (h4 i hi)⟩
theorem StrsE.cases {W : World} {v : Value} {xs : List ByteArray} (h : StrsE W v xs) : (xs = [] ∧ ∃ ad c, v = .slice ad 0 c) ∨ Strs W v xs := by
  rcases h.lie with ⟨h1, h2⟩ | h1
  · exact .inl ⟨h2, h1⟩
  · exact .inr ⟨h.few, h.small, .inr h1⟩
/-- Lists of texts. -/
structure Evs (W : World) (v : Value) (ss : List (List ByteArray)) : Prop where
  few : ss.length ≤ 8796093022208
  lie : (v = .slice none 0 0 ∧ ss = []) ∨ ∃ b o c, v = .slice (some ⟨b, o, none⟩) ss.length c ∧ ss.length ≤ c ∧ c ≤ maxLen ∧ ∀ i (h : i < ss.length), ∃ u, W.cell? ⟨b, o + i, none⟩ = some u ∧ StrsE W u ss[i] ∧ ∀ x ∈ ss[i], x.size ≤ 140737488351232
theorem Evs.kept {W W' : World} {v : Value} {ss : List (List ByteArray)} (h : Evs W v ss) (k : Kept [] W W') : Evs W' v ss := by
  refine ⟨h.few, ?_⟩
  rcases h.lie with h1 | ⟨b, o, c, h1, h2, h3, h4⟩
  · exact .inl h1
  · refine .inr ⟨b, o, c, h1, h2, h3, fun i hi => ?_⟩
    obtain ⟨u, q1, q2, q3⟩ := h4 i hi
    exact ⟨u, cell_kept0 k q1, q2.kept k, q3⟩
theorem Evs.form {W : World} {v : Value} {ss : List (List ByteArray)} (h : Evs W v ss) : ∃ ad c, v = .slice ad ss.length c := by
  rcases h.lie with ⟨rfl, rfl⟩ | ⟨b, o, c, rfl, _⟩
  · exact ⟨none, 0, rfl⟩
  · exact ⟨_, c, rfl⟩
set_option maxRecDepth 100000 in
theorem spot_noneV {W : World} {base : Nat} {a : Addr} {len cap : Nat} (h : Cell.okWide Tryz.prog W .any base 24 (.slice (some a) len cap)) : a.spot = none := by
  simp only [Cell.okWide, Tryz.underlying24, Cell.ok] at h
  exact h.2.2.2.1
set_option maxRecDepth 100000 in
theorem vds_of_trod {H : Type} {enc : TypeId × Value → H} {W : World} {base fuel : Nat} {c : Value} {y : DataW H × List MemPlace} (hok : Cell.okWide Tryz.prog W .any base 24 c) (h : DataW.trod enc Tryz.prog W 0 (fun _ => true) true fuel 24 [c] = some y) :
    ∃ xs, (∀ n ∈ y.1.weights Tryz.prog 24, n ≤ 140737488351232) → Vds W c xs := by
  rcases DataW.trod_slice (e := 38) Tryz.underlying24 h with ⟨e2, _⟩ | ⟨a, len, cap, elems, rest, m, rfl, e2, rfl, hb, hlc, hcm, hel, hE, _, _⟩
  · have e2' : c = .slice none 0 0 := by simpa using e2
    subst e2'
    exact ⟨[], fun _ => ⟨by simp, by simp, .inl ⟨rfl, rfl⟩⟩⟩
  · have e2' : c = .slice (some a) len cap := by simpa using e2
    subst e2'
    have hs := spot_noneV hok
    obtain ⟨b, off, sp⟩ := a
    simp only at hs
    subst hs
    have hcz : Tryz.prog.cellsOf 38 = 1 := by kernel_rfl
    have key : ∀ i, i < len → ∃ x : Nat, x < 256 ∧ W.cell? ⟨b, off + i, none⟩ = some (.int .u8 (x : Nat)) := by
      intro i hi
      have hE' := hE i hi
      rw [List.getElem?_eq_getElem (by omega)] at hE'
      obtain ⟨cs', g1, g2⟩ := Option.bind_eq_some_iff.1 hE'
      obtain ⟨o, e0, _, hw0⟩ := DataW.trod_int (k := .u8) Tryz.underlying38 g2
      obtain ⟨x, rfl, hx⟩ := wf_u8V hw0
      obtain ⟨_, _, hc⟩ := World.cells?_some g1
      rw [hcz] at hc
      have h0 := hc 0 (by omega)
      rw [e0] at h0
      have ea : ((⟨b, off, none⟩ : Addr).add (i * 1)).add 0 = ⟨b, off + i, none⟩ := by
        unfold Addr.add
        split <;> split <;> simp_all
      rw [ea] at h0
      exact ⟨x, hx, h0⟩
    obtain ⟨xs, hxs, hp⟩ := list_of_eachB len key
    refine ⟨xs, fun hw => ⟨?_, fun x hx => ?_, .inr ⟨b, off, cap, by rw [hxs], by omega, hcm, fun i hi => ?_⟩⟩⟩
    · have hbz : Tryz.prog.bytesOf 38 = 1 := by kernel_rfl
      have := hw ((elems.length + rest.length) * 1) (by
        rw [DataW.weights]
        show _ ∈ (match Tryz.prog.underlying 24 with | some (.slice e) => _ | _ => [])
        rw [Tryz.underlying24]
        simp only [List.length_map, hbz]
        exact List.mem_cons_self)
      omega
    · obtain ⟨i, hi, rfl⟩ := List.getElem_of_mem hx
      exact (hp i hi).1
    · rw [(hp i hi).2, List.getD_eq_getElem?_getD, List.getElem?_eq_getElem hi]
      rfl
set_option maxRecDepth 100000 in
theorem open_moore {H : Type} {enc : TypeId × Value → H} {W : World} {base : Nat} {v : Value} {d : DataW H} {p : List MemPlace} (hv : Value.okWide Tryz.prog W .any base 26 v) (h : DataW.Trod enc Tryz.prog W 0 (fun _ => true) true 26 v d p) :
    ∃ (pv nv lv : Value) (ps : List ByteArray) (next : List (List Int)) (live : List Nat), v = .agg #[pv, nv, lv] ∧ ((∀ n ∈ d.weights Tryz.prog 26, n ≤ 140737488351232) → (Strs W pv ps ∧ ∀ x ∈ ps, x.size ≤ 140737488351232) ∧ Rowss W nv next ∧ Vds W lv live) := by
  have hv' := hv
  simp only [Value.okWide, Tryz.underlying26] at hv'
  obtain ⟨cs, rfl, hsz, ts, hts, _, hok⟩ := hv'
  have hts' : Tryz.prog.cellTypes Tryz.prog.depth 26 = some [22, 23, 24] := by kernel_rfl
  rw [hts'] at hts
  cases hts
  have hs2 : cs.size = 3 := hsz.trans (by kernel_rfl)
  obtain ⟨fuel, hf0⟩ := h
  obtain ⟨xs, n, rfl, hdp, hl, hlen, hf⟩ := DataW.trod_struct Tryz.underlying26 hf0
  clear hf0
  obtain ⟨rfl, rfl⟩ := Prod.mk.inj hdp
  have h0 := hf 0 _ rfl
  have h1 := hf 1 _ rfl
  have h2 := hf 2 _ rfl
  have hx3 : xs.length = 3 := hlen
  clear hf hlen hl
  obtain ⟨cs⟩ := cs
  match cs, hs2, xs, hx3 with
  | [c0, c1, c2], _, [y0, y1, y2], _ =>
    have k0 : Cell.okWide Tryz.prog W .any base 22 c0 := by
      obtain ⟨u, hu, hk⟩ := hok 0 c0 rfl
      cases hu
      exact hk
    have k1 : Cell.okWide Tryz.prog W .any base 23 c1 := by
      obtain ⟨u, hu, hk⟩ := hok 1 c1 rfl
      cases hu
      exact hk
    have k2 : Cell.okWide Tryz.prog W .any base 24 c2 := by
      obtain ⟨u, hu, hk⟩ := hok 2 c2 rfl
      cases hu
      exact hk
    obtain ⟨ps, hps⟩ := strs_of_trodB k0 h0
    obtain ⟨ss, hss⟩ := rowss_of_trod k1 h1
    obtain ⟨bl, hbl⟩ := vds_of_trod k2 h2
    refine ⟨c0, c1, c2, ps, ss, bl, rfl, fun hw => ?_⟩
    have hwt : ∀ n, (n ∈ y0.1.weights Tryz.prog 22 ∨ n ∈ y1.1.weights Tryz.prog 23 ∨ n ∈ y2.1.weights Tryz.prog 24) → n ∈ (DataW.agg ([y0, y1, y2].map (·.1)) : DataW H).weights Tryz.prog 26 := by
      intro n hn
      rw [DataW.weights, Tryz.underlying26]
      show n ∈ y0.1.weights Tryz.prog 22 ++ (y1.1.weights Tryz.prog 23 ++ (y2.1.weights Tryz.prog 24 ++ []))
      rcases hn with hn | hn | hn
      · exact List.mem_append_left _ hn
      · exact List.mem_append_right _ (List.mem_append_left _ hn)
      · exact List.mem_append_right _ (List.mem_append_right _ (List.mem_append_left _ hn))
    exact ⟨hps fun n hn => hw n (hwt n (.inl hn)), hss fun n hn => hw n (hwt n (.inr (.inl hn))), hbl fun n hn => hw n (hwt n (.inr (.inr hn)))⟩
set_option maxRecDepth 100000 in
theorem moore_again {H : Type} {enc : TypeId × Value → H} {W W' : World} {v : Value} {d : DataW H} {p : List MemPlace} (h : DataW.Trod enc Tryz.prog W 0 (fun _ => true) true 26 v d p) (hb : Below W.heap.size W W') (hlt : ∀ x ∈ p, x.block < W.heap.size) :
    DataW.Trod enc Tryz.prog W' 0 (fun b => decide (b < W.heap.size)) true 26 v d p :=
  Below.trod laidOut (by kernel_rfl) (of_decide_eq_true (by kernel_rfl)) h hb hlt
set_option maxRecDepth 100000 in
theorem strs_of_trodE {H : Type} {enc : TypeId × Value → H} {W : World} {fuel : Nat} {c : Value} {y : DataW H × List MemPlace} (h : DataW.trod enc Tryz.prog W 0 (fun _ => true) true fuel 22 [c] = some y) :
    ∃ xs, (∀ n ∈ y.1.weights Tryz.prog 22, n ≤ 140737488351232) → StrsE W c xs ∧ ∀ x ∈ xs, x.size ≤ 140737488351232 := by
  rcases DataW.trod_slice (e := 9) Tryz.underlying22 h with ⟨e2, _⟩ | ⟨a, len, cap, elems, rest, m, rfl, e2, rfl, hb, hlc, hcm, hel, hE, _, _⟩
  · have e2' : c = .slice none 0 0 := by simpa using e2
    subst e2'
    exact ⟨[], fun _ => ⟨⟨by simp, by simp, .inl ⟨⟨none, 0, rfl⟩, rfl⟩, ⟨rfl, by simp [cellsT], .inl ⟨rfl, rfl⟩⟩⟩, by simp⟩⟩
  · have e2' : c = .slice (some a) len cap := by simpa using e2
    subst e2'
    have hcz : Tryz.prog.cellsOf 9 = 1 := by kernel_rfl
    have key : ∀ i, i < len → ∃ x : ByteArray, x.size ≤ maxLen ∧ W.cell? ((a.add (i * 1)).add 0) = some (.string x) ∧ ∃ h : i < elems.length, (elems[i]).1 = .lit (.string x.data.toList) := by
      intro i hi
      have hE' := hE i hi
      rw [List.getElem?_eq_getElem (by omega)] at hE'
      obtain ⟨cs', g1, g2⟩ := Option.bind_eq_some_iff.1 hE'
      obtain ⟨x, e0, ex, hw0⟩ := DataW.trod_string Tryz.underlying9 g2
      obtain ⟨_, _, hc⟩ := World.cells?_some g1
      rw [hcz] at hc
      have h0 := hc 0 (by omega)
      rw [e0] at h0
      exact ⟨x, hw0, h0, by omega, by rw [ex]⟩
    rcases Nat.eq_zero_or_pos len with rfl | hpos
    · exact ⟨[], fun _ => ⟨⟨by simp, by simp, .inl ⟨⟨some a, cap, rfl⟩, rfl⟩, ⟨rfl, by simp [cellsT], .inr ⟨a, cap, rfl, by simp, hcm, fun h => by simp at h, fun _ => rfl, fun j u hu => by simp [cellsT] at hu⟩⟩⟩, by simp⟩⟩
    obtain ⟨b, off, rfl⟩ : ∃ b off, a = ⟨b, off, none⟩ := by
      obtain ⟨x, _, c0, _⟩ := key 0 hpos
      simp only [Nat.zero_mul, Addr.add, if_true] at c0
      have := spot_cell c0
      obtain ⟨b, off, sp⟩ := a
      simp only at this
      subst this
      exact ⟨b, off, rfl⟩
    obtain ⟨xs, hxs, hp⟩ := list_of_eachB len key
    refine ⟨xs, fun hw => ⟨⟨?_, fun x hx => ?_, .inr ⟨b, off, cap, by rw [hxs], by omega, hcm, fun i hi => by have q := (hp i hi).2.1; rwa [add_at, Nat.mul_one, Nat.add_zero] at q⟩, ?_⟩, fun x hx => ?_⟩⟩
    · have hbz : Tryz.prog.bytesOf 9 = 16 := by kernel_rfl
      have := hw ((elems.length + rest.length) * 16) (by
        rw [DataW.weights]
        show _ ∈ (match Tryz.prog.underlying 22 with | some (.slice e) => _ | _ => [])
        rw [Tryz.underlying22]
        simp only [List.length_map, hbz]
        exact List.mem_cons_self)
      omega
    · obtain ⟨i, hi, rfl⟩ := List.getElem_of_mem hx
      exact (hp i hi).1
    · refine ⟨by simp [cellsT], cellsT_one xs, .inr ⟨⟨b, off, none⟩, cap, by rw [hxs], by omega, hcm, fun _ => rfl, fun hz => by omega, fun j u hu => ?_⟩⟩
      have hj : j < xs.length := by have := (List.getElem?_eq_some_iff.1 hu).1; simpa [cellsT] using this
      rw [cellsT_at hj] at hu
      cases hu
      have q := (hp j hj).2.1
      rw [add_at, Nat.mul_one, Nat.add_zero] at q
      rw [addr_add]
      exact q
    · obtain ⟨i, hi, rfl⟩ := List.getElem_of_mem hx
      obtain ⟨_, _, hie, he⟩ := hp i hi
      refine hw _ ?_
      rw [DataW.weights]
      show _ ∈ (match Tryz.prog.underlying 22 with | some (.slice e) => _ | _ => [])
      rw [Tryz.underlying22]
      refine List.mem_cons_of_mem _ (List.mem_append_left _ (weights_memB (d := (elems[i]).1) (List.mem_map.2 ⟨_, List.getElem_mem _, rfl⟩) ?_))
      rw [he]
      have h1 : xs[i].size = xs[i].data.toList.length := size_listB _
      rw [h1]
      exact List.mem_singleton.2 rfl
set_option maxRecDepth 100000 in
theorem spot_noneY {W : World} {base : Nat} {a : Addr} {len cap : Nat} (h : Cell.okWide Tryz.prog W .any base 27 (.slice (some a) len cap)) : a.spot = none := by
  simp only [Cell.okWide, Tryz.underlying27, Cell.ok] at h
  exact h.2.2.2.1
set_option maxRecDepth 100000 in
theorem evs_of_trod {H : Type} {enc : TypeId × Value → H} {W : World} {base fuel : Nat} {c : Value} {y : DataW H × List MemPlace} (hok : Cell.okWide Tryz.prog W .any base 27 c) (h : DataW.trod enc Tryz.prog W 0 (fun _ => true) true fuel 27 [c] = some y) :
    ∃ xs, (∀ n ∈ y.1.weights Tryz.prog 27, n ≤ 140737488351232) → Evs W c xs := by
  rcases DataW.trod_slice (e := 22) Tryz.underlying27 h with ⟨e2, _⟩ | ⟨a, len, cap, elems, rest, m, rfl, e2, rfl, hb, hlc, hcm, hel, hE, _, _⟩
  · have e2' : c = .slice none 0 0 := by simpa using e2
    subst e2'
    exact ⟨[], fun _ => ⟨by simp, .inl ⟨rfl, rfl⟩⟩⟩
  · have e2' : c = .slice (some a) len cap := by simpa using e2
    subst e2'
    have hs := spot_noneY hok
    obtain ⟨b, off, sp⟩ := a
    simp only at hs
    subst hs
    have hcz : Tryz.prog.cellsOf 22 = 1 := by kernel_rfl
    have key : ∀ i, i < len → ∃ xs : List ByteArray, ∃ u, W.cell? ⟨b, off + i, none⟩ = some u ∧ ∃ h : i < elems.length, ((∀ n ∈ (elems[i]).1.weights Tryz.prog 22, n ≤ 140737488351232) → StrsE W u xs ∧ ∀ x ∈ xs, x.size ≤ 140737488351232) := by
      intro i hi
      have hE' := hE i hi
      rw [List.getElem?_eq_getElem (by omega)] at hE'
      obtain ⟨cs', g1, g2⟩ := Option.bind_eq_some_iff.1 hE'
      obtain ⟨_, hcl, hc⟩ := World.cells?_some g1
      rw [hcz] at hc hcl
      have hl1 : cs'.length = 1 := by simpa using hcl
      match cs', hl1 with
      | [u], _ =>
        have q0 := hc 0 (by omega)
        rw [add_at, Nat.mul_one, Nat.add_zero] at q0
        obtain ⟨xs, hx⟩ := strs_of_trodE g2
        exact ⟨xs, u, q0, by omega, hx⟩
    obtain ⟨xs, hxs, hp⟩ := list_of_eachB len key
    refine ⟨xs, fun hw => ⟨?_, .inr ⟨b, off, cap, by rw [hxs], by omega, hcm, fun i hi => ?_⟩⟩⟩
    · have hbz : Tryz.prog.bytesOf 22 = 24 := by kernel_rfl
      have := hw ((elems.length + rest.length) * 24) (by
        rw [DataW.weights]
        show _ ∈ (match Tryz.prog.underlying 27 with | some (.slice e) => _ | _ => [])
        rw [Tryz.underlying27]
        simp only [List.length_map, hbz]
        exact List.mem_cons_self)
      omega
    · obtain ⟨u, hu, hie, hI⟩ := hp i hi
      refine ⟨u, hu, hI fun n hn => hw n ?_⟩
      rw [DataW.weights]
      show _ ∈ (match Tryz.prog.underlying 27 with | some (.slice e) => _ | _ => [])
      rw [Tryz.underlying27]
      exact List.mem_cons_of_mem _ (List.mem_append_left _ (weights_memB (d := (elems[i]).1) (List.mem_map.2 ⟨_, List.getElem_mem _, rfl⟩) hn))
set_option maxRecDepth 100000 in
theorem open_evs {H : Type} {enc : TypeId × Value → H} {W : World} {base : Nat} {v : Value} {d : DataW H} {p : List MemPlace} (hv : Value.okWide Tryz.prog W .any base 27 v) (h : DataW.Trod enc Tryz.prog W 0 (fun _ => true) true 27 v d p) :
    ∃ xs, (∀ n ∈ d.weights Tryz.prog 27, n ≤ 140737488351232) → Evs W v xs := by
  have hv' : Cell.okWide Tryz.prog W .any base 27 v := by
    have := hv
    simp only [Value.okWide, Tryz.underlying27] at this
    exact this
  obtain ⟨fuel, hf⟩ := h
  obtain ⟨ad, len, cap, rfl⟩ := okWide_slice Tryz.underlying27 hv
  exact evs_of_trod hv' hf
set_option maxRecDepth 100000 in
theorem evs_again {H : Type} {enc : TypeId × Value → H} {W W' : World} {v : Value} {d : DataW H} {p : List MemPlace} (h : DataW.Trod enc Tryz.prog W 0 (fun _ => true) true 27 v d p) (hb : Below W.heap.size W W') (hlt : ∀ x ∈ p, x.block < W.heap.size) :
    DataW.Trod enc Tryz.prog W' 0 (fun b => decide (b < W.heap.size)) true 27 v d p :=
  Below.trod laidOut (by kernel_rfl) (of_decide_eq_true (by kernel_rfl)) h hb hlt
end Go.Proofs.YtbbfajbnklgncaaGreat

/- runner.Run of any machine and events. -/
namespace Go.Proofs.YtbbfajbnklgncaaGreat
open Go.RowKit Go.Shelf Go.Maps

/-- The state behind events. -/
def goN (ps : List ByteArray) (next : List (List Int)) (es : List (List ByteArray)) : Nat := es.foldl (fun s e => stepN ps next s (letterN ps e)) 0
theorem goN_take {ps : List ByteArray} {next : List (List Int)} {es : List (List ByteArray)} {k : Nat} {x : List ByteArray} (h : es[k]? = some x) : goN ps next (es.take (k + 1)) = stepN ps next (goN ps next (es.take k)) (letterN ps x) := by
  unfold goN
  rw [List.take_add_one, h]
  simp
/-- The verdicts behind each of the first k events; noughts behind them. -/
def runV (ps : List ByteArray) (next : List (List Int)) (out : List Nat) (es : List (List ByteArray)) (k : Nat) : List Nat := (List.range es.length).map fun i => if i < k then out.getD (goN ps next (es.take (i + 1))) 0 else 0
theorem runV_len {ps : List ByteArray} {next : List (List Int)} {out : List Nat} {es : List (List ByteArray)} {k : Nat} : (runV ps next out es k).length = es.length := by simp [runV]
theorem runV_zero {ps : List ByteArray} {next : List (List Int)} {out : List Nat} {es : List (List ByteArray)} : runV ps next out es 0 = List.replicate es.length 0 := by
  apply List.ext_getElem
  · simp [runV]
  · intro i h1 h2; simp [runV]
theorem runV_set {ps : List ByteArray} {next : List (List Int)} {out : List Nat} {es : List (List ByteArray)} {k : Nat} : (runV ps next out es k).set k (out.getD (goN ps next (es.take (k + 1))) 0) = runV ps next out es (k + 1) := by
  apply List.ext_getElem
  · simp [runV]
  · intro i h1 h2
    have hi : i < es.length := by simpa [runV] using h2
    rw [List.getElem_set]
    by_cases e : k = i
    · subst e
      simp [runV]
    · rw [if_neg e]
      simp only [runV, List.getElem_map, List.getElem_range]
      by_cases h3 : i < k
      · rw [if_pos h3, if_pos (by omega)]
      · rw [if_neg h3, if_neg (by omega)]
theorem runV_at {ps : List ByteArray} {next : List (List Int)} {out : List Nat} {es : List (List ByteArray)} {k : Nat} (hk : k < es.length) : (runV ps next out es es.length)[k]? = some (out.getD (goN ps next (es.take (k + 1))) 0) := by
  simp [runV, hk]
theorem make_vdsR (w : World) (k : Nat) (hk : k ≤ 10000000000000) : Sem.run Tryz.prog (Instr.makeSlice 24 (.int .i64 (k : Nat)) (.int .i64 (k : Nat))) w = .ok (.slice (some ⟨w.heap.size, 0, none⟩) k k) (w.alloc (.cells (vdC (List.replicate k 0)).toArray 38)) := by
  have hinf : (Tryz.prog.info? 38).map (fun i => (i.zero, i.size, i.bytes)) = some (some (.int .u8 0), 1, 1) := by kernel_rfl
  obtain ⟨i, hi, hz, hs, hb⟩ := info_parts hinf
  have h := run_make (P := Tryz.prog) w 24 38 i _ Tryz.underlying24 hi hz .i64 .i64 (k : Int) (k : Int) (by omega) (by omega) (by rw [hb]; omega) (by omega)
  have e : madeCells (Value.cells (.int .u8 0)) (k * 1) = (vdC (List.replicate k 0)).toArray := by
    rw [Nat.mul_one]
    apply Array.ext'
    simp only [madeCells, Value.cells, List.size_toArray, List.length_cons, List.length_nil, Array.toList_map, Array.toList_range, vdC]
    apply List.ext_getElem
    · simp
    · intro i h1 h2
      simp [Nat.mod_one]
  rw [h, hs, Int.toNat_natCast, e]
theorem vdC_set (xs : List Nat) (k x : Nat) : (vdC xs).set k (.int .u8 (x : Nat)) = vdC (xs.set k x) := by simp [vdC, List.map_set]
/-- Event's names may be none, at whatever place. -/
theorem letterE_any (lo N R : Nat) (ps : List ByteArray) (next : List (List Int)) (out : List Nat) (fin : List Bool) (s : Nat) (uv : Value) (us : List ByteArray) (w : World) (h : RunS w lo N R ps next out fin s) (h8 : ps.length ≤ 8) (hu : StrsE w uv us) :
    Calls Tryz.prog 48 #[.pointer (some ⟨R, 0, none⟩), uv] w fun e w' => e = .returned (.int .u16 (letterN ps us : Nat)) ∧ w' = w := by
  rcases hu.cases with ⟨rfl, ad, c, rfl⟩ | hu
  · clear h h8 hu
    go_enter Tryz.func48, Tryz.ntmps48
    go_wp2_with fail
    refine wp_loop_rounds 1 ?_
    rw [rounds_succ]
    go_wp2
    go_ret
    exact ⟨rfl, rfl⟩
  · exact letter_any lo N R ps next out fin s uv us w h h8 hu
theorem StrsE.form {W : World} {v : Value} {xs : List ByteArray} (h : StrsE W v xs) : ∃ ad c, v = .slice ad xs.length c := by
  rcases h.lie with ⟨⟨ad, c, rfl⟩, rfl⟩ | ⟨b, o, c, rfl, _⟩
  · exact ⟨ad, c, rfl⟩
  · exact ⟨_, c, rfl⟩
set_option maxHeartbeats 2000000 in
set_option maxRecDepth 10000 in
theorem eventE_any (lo N R : Nat) (ps : List ByteArray) (next : List (List Int)) (out : List Nat) (fin : List Bool) (s : Nat) (uv : Value) (us : List ByteArray) (w : World) (h : RunS w lo N R ps next out fin s) (hm : MachR ps next out) (hu : StrsE w uv us) :
    Calls Tryz.prog 20 #[.pointer (some ⟨R, 0, none⟩), uv] w fun e w' => e = .returned (.int .u8 (out.getD (stepN ps next s (letterN ps us)) 0 : Nat)) ∧ Hid (RunS w' lo N R ps next out fin (stepN ps next s (letterN ps us))) ∧ Hid (Kept [R] w w') := by
  obtain ⟨y, hy⟩ : ∃ y, letterN ps us = y := ⟨_, rfl⟩
  have HL : Hid (Calls Tryz.prog 48 #[.pointer (some ⟨R, 0, none⟩), uv] w fun e w' => e = .returned (.int .u16 (y : Nat)) ∧ w' = w) := by rw [← hy]; exact letterE_any lo N R ps next out fin s uv us w h hm.few hu
  have HS : Hid (Calls Tryz.prog 47 #[.pointer (some ⟨R, 0, none⟩), .int .u16 (y : Nat)] w fun e w' => e = .returned (.int .u8 (out.getD (stepN ps next s y) 0 : Nat)) ∧ Hid (RunS w' lo N R ps next out fin (stepN ps next s y)) ∧ Hid (Kept [R] w w')) := step_any lo N R ps next out fin s y w h hm (by have := letterN_lt hm.few us; omega)
  obtain ⟨ad, c, rfl⟩ := hu.form
  rw [hy]
  obtain ⟨s', hs'⟩ : ∃ s', stepN ps next s y = s' := ⟨_, rfl⟩
  rw [hs'] at HS ⊢
  clear h hm hu hy hs'
  go_enter Tryz.func20, Tryz.ntmps20
  go_wp2_with (first
    | (go_at_call 48; refine HL.out.mono ?_; rintro e w1 ⟨rfl, hw1⟩; rw [hw1]; clear hw1)
    | (go_at_call 47; refine HS.out.mono ?_; rintro e w2 ⟨rfl, HR2, HK2⟩))
  go_ret
  exact ⟨rfl, HR2, HK2⟩
/-- What Run leaves. -/
def RunEnd (ps : List ByteArray) (next : List (List Int)) (out : List Nat) (es : List (List ByteArray)) (b : Bool) (w : World) (e : Ending) (w' : World) : Prop :=
  Hid (Kept [] w w') ∧ (b = true → ∃ B, e = .returned (.tuple #[.slice (some ⟨B, 0, none⟩) es.length es.length, .int .i64 0]) ∧ Hid (w'.heap[B]? = some (.cells (vdC (runV ps next out es es.length)).toArray 38 (0, 0))) ∧ Hid (w.heap.size ≤ B)) ∧ (b = false → e = .returned (.tuple #[.slice none 0 0, .int .i64 170]))
set_option maxHeartbeats 4000000 in
set_option maxRecDepth 10000 in
theorem runR_any (pv nv ov ev : Value) (ps : List ByteArray) (next : List (List Int)) (out : List Nat) (es : List (List ByteArray)) (w : World) (hp : Strs w pv ps) (hn : Rowss w nv next) (ho : Vds w ov out) (he : Evs w ev es) (hf : out.length ≤ 1000000) (b : Bool) (hb : rightM ps next out = b) :
    Calls Tryz.prog 9 #[.agg #[pv, nv, ov], ev] w (RunEnd ps next out es b w) := by
  unfold RunEnd
  obtain ⟨pa, pc, rfl, _, _⟩ := hp.form
  obtain ⟨na, nc, rfl, _, _⟩ := hn.form13
  obtain ⟨oa, oc, rfl⟩ := ho.form
  obtain ⟨V, hV⟩ : ∃ V, w.alloc (.cells #[.slice pa ps.length pc, .slice na next.length nc, .slice oa out.length oc] 26) = V := ⟨_, rfl⟩
  have kV : Kept [] w V := by rw [← hV]; exact (Kept.refl [] w).alloc _
  have hB : Thr 26 V w.heap.size (.slice pa ps.length pc) (.slice na next.length nc) (.slice oa out.length oc) := by rw [← hV]; exact al0 _ _
  have HV : Hid (_ = V) := hV
  have HKV : Hid (Kept [] w V) := kV
  have HNW : Hid (Calls Tryz.prog 18 #[.agg #[.slice pa ps.length pc, .slice na next.length nc, .slice oa out.length oc]] V (NewEnd ps next out b V)) := new_any _ _ _ ps next out V (hp.kept kV) (hn.kept kV) (ho.kept kV) hf b hb
  obtain ⟨c0, c1, c2⟩ := hB.cells
  have HEV : Hid (∀ W, Kept [] w W → Evs W ev es) := fun W k => he.kept k
  have hef := he.few
  obtain ⟨ea, ec, rfl⟩ := he.form
  cases b with
  | false =>
    clear hp hn ho he hV kV hB hb hf
    go_enter Tryz.func9, Tryz.ntmps9
    go_upto_region 1 with fail
    rw [HV.out]
    clear HV
    go_wp2_with (go_at_call 18; refine Calls.mono HNW.out ?_; rintro e W1 ⟨HK1, _, hfa⟩; have e9 := hfa rfl; subst e9; clear hfa c0 c1 c2)
    go_ret2
    exact ⟨keptB HKV.out HK1.out, (fun h => by cases h), fun _ => rfl⟩
  | true =>
    have HM : Hid (MachR ps next out) := machR_of hb hf
    clear hp hn ho he hV kV hB hb hf
    go_enter Tryz.func9, Tryz.ntmps9
    go_upto_region 1 with fail
    rw [HV.out]
    clear HV
    go_upto_region 4 with (go_at_call 18; refine Calls.mono HNW.out ?_; rintro e W1 ⟨HK1, htr, _⟩; obtain ⟨R, lo, N, fin, rfl, HR, HLO⟩ := htr rfl; clear htr c0 c1 c2)
    have hmk := make_vdsR W1 es.length (by omega)
    obtain ⟨U, hU⟩ : ∃ U, W1.alloc (.cells (vdC (List.replicate es.length 0)).toArray 38) = U := ⟨_, rfl⟩
    have kU : Kept [] W1 U := by rw [← hU]; exact (Kept.refl [] W1).alloc _
    have HB0 : Hid (U.heap[W1.heap.size]? = some (.cells (vdC (runV ps next out es 0)).toArray 38 (0, 0))) := by show U.heap[_]? = _; rw [← hU, runV_zero]; exact al0 W1 _
    have HKU : Hid (Kept [] w U) := keptB (keptB HKV.out HK1.out) kU
    have HRU : Hid (RunS U lo N R ps next out fin (goN ps next (es.take 0))) := HR.out.kept kU
    rw [hU] at hmk
    obtain ⟨B, hBq⟩ : ∃ B, W1.heap.size = B := ⟨_, rfl⟩
    have HBB : Hid (w.heap.size ≤ B ∧ R ≠ B ∧ N ≤ B ∧ w.heap.size ≤ R ∧ lo ≤ R) := by
      have h1 := HLO.out
      have h2 := HKV.out.size
      have h3 := HK1.out.size
      have h4 := HR.out.high
      obtain ⟨T, MB, FR, nxv, outv, D, fl, _, h5, _⟩ := HR.out.ex
      have h6 := h5.low
      have h7 := h5.high
      refine ⟨by omega, by omega, by omega, by omega, by omega⟩
    rw [hBq] at hmk HB0
    clear hU kU HR HLO hBq HNW HKV HK1
    have z0 : (0 : Int) ≤ (es.length : Int) := by omega
    go_wp2_with fail
    clear hmk
    go_loopw [24] (fun v wr => ∃ k : Nat, v = .int .i64 (k : Nat) ∧ k ≤ es.length ∧ Hid (RunS wr lo N R ps next out fin (goN ps next (es.take k))) ∧ Hid (wr.heap[B]? = some (.cells (vdC (runV ps next out es k)).toArray 38 (0, 0))) ∧ Hid (Kept [] w wr)) (fun v _ => es.length - (intOf v).toNat)
    case atStart => exact ⟨0, rfl, Nat.zero_le _, HRU, HB0, HKU⟩
    case round =>
      obtain ⟨k, rfl, hk, HR, HB, HK⟩ := hrel
      by_cases hlt : k < es.length
      · have q0 : (k : Int) < (es.length : Int) := by omega
        have q1 : (0 : Int) ≤ (k : Int) := by omega
        rcases (HEV.out wr HK.out).lie with ⟨_, he⟩ | ⟨b, o, c, hpe, _, _, hcell⟩
        · rw [he] at hlt; simp at hlt
        · cases hpe
          obtain ⟨u, hu, hS, _⟩ := hcell k hlt
          have hx? : es[k]? = some es[k] := List.getElem?_eq_getElem hlt
          obtain ⟨x, hx⟩ : ∃ x, es[k] = x := ⟨_, rfl⟩
          rw [hx] at hS hx?
          have HE : Hid (Calls Tryz.prog 20 #[.pointer (some ⟨R, 0, none⟩), u] wr fun e w' => e = .returned (.int .u8 (out.getD (goN ps next (es.take (k + 1))) 0 : Nat)) ∧ Hid (RunS w' lo N R ps next out fin (goN ps next (es.take (k + 1)))) ∧ Hid (Kept [R] wr w')) := by
            rw [goN_take hx?]
            exact eventE_any lo N R ps next out fin _ u x wr HR.out HM.out hS
          obtain ⟨v, hv⟩ : ∃ v, out.getD (goN ps next (es.take (k + 1))) 0 = v := ⟨_, rfl⟩
          rw [hv] at HE
          have HNV : Hid ((runV ps next out es k).set k v = runV ps next out es (k + 1)) := by rw [← hv]; exact runV_set
          clear hcell hS hx hx? hv
          go_wp2_with (go_at_call 20; refine HE.out.mono ?_; rintro e W5 ⟨rfl, HR5, HK5⟩; have HB5 : Hid (W5.heap[B]? = some (.cells (vdC (runV ps next out es k)).toArray 38 (0, 0))) := HK5.out.at HB.out (by have := HBB.out.2.1; simpa using fun e => this e.symm); have y0 : W5.cell? ⟨B, k, none⟩ = some (.int .u8 0) := (by rw [cell_of HB5.out]; simp [vdC, runV, hlt]); have y1 : W5.frozen? ⟨B, k, none⟩ = false := free_of HB5.out k)
          go_roundw
          case rel =>
            have ks : Kept [B] W5 (W5.setCell ⟨B, k, none⟩ (.int .u8 (v : Nat))) := (Kept.refl [B] W5).setCell (.inl (by simp)) _
            refine ⟨k + 1, by go_num, by omega, HR5.out.keptF ks (by have := HBB.out.2.1; simpa using this) (fun x hx => by have := HBB.out.2.2.1; simp at hx; omega), ?_, (HK.out.trans HK5.out (by simp) (fun x hx => .inr (by have := HBB.out.2.2.2.1; simp at hx; omega))).setCell (.inr HBB.out.1) _⟩
            have h9 := bx_set (i := k) HB5.out (.int .u8 (v : Nat))
            have e9 : (vdC (runV ps next out es k)).toArray.setIfInBounds k (.int .u8 (v : Nat)) = (vdC (runV ps next out es (k + 1))).toArray := by
              apply Array.ext'
              rw [Array.toList_setIfInBounds, vdC_set, HNV.out]
            rw [e9] at h9
            exact h9
          case measure => simp [intOf]; omega
      · obtain rfl : k = es.length := by omega
        have q0 : ¬ ((es.length : Int) < (es.length : Int)) := by omega
        go_wp2
        go_ret2
        exact ⟨HK, B, rfl, HB, HBB.out.1⟩
end Go.Proofs.YtbbfajbnklgncaaGreat
