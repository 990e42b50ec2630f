/- BuchiSteps answers true for every automaton, every list of states and every letter: Step tells the document's states, or nil where the document says so, leaves what is handed in as it is, and each answer is a set of its own. Conditions: none but that the library's table of math/bits is as its initialiser lays it, which the card ties to the program's text. -/
import Derived.Test.YtkkhilgcjaigcaaDoorTzK
import Derived.ProofKit
import Derived.LaidMore
import Derived.OpenShut
import Derived.Stop.Joined
import Derived.Lib.LaidTab
import Derived.Test.YtkkhilgcjaigcaaDoorBuCheck
import Derived.Deep.Strs
import Derived.Carry
import Derived.Test.YtkkhilgcjaigcaaDoorBuSteps
import Derived.Test.YtkkhilgcjaigcaaDoorCards
import Derived.Test.YtkkhilgcjaigcaaDoorTie
namespace Go.Proofs.YtkkhilgcjaigcaaDoor
open Go.ChangeShapes Go.WideShapes Go.ChangeAt Go.WideMaps Go.WideElems Go.RowKit

def laidTab : List (String × DataW Unit) := [("math/bits.deBruijn64tab", Rows.laid_math_bits_deBruijn64tab)]
theorem own : ownKnob Tryd.prog.godebug = none := by kernel_rfl
theorem gTab : Tryd.prog.globalNamed "math/bits.deBruijn64tab" = some 0 := by kernel_rfl
theorem tTab : (Tryd.prog.globals[0]?).map (·.type) = some 124 := by kernel_rfl
theorem laid_is : (Rows.laid_math_bits_deBruijn64tab : DataW Unit) = Lib.tabData .u8 (Lib.deBruijn64tab.map fun z : Nat => (z : Int)) := by rfl

theorem door_met (os : Os) (args : Array Value) : laidMetH Tryd.prog laidTab ((World.doorLaid Tryd.prog 400 os).forCall (fun _ _ => 0) ⟨#[], args, []⟩).memory :=
  laidMetH_of_parts3 (fuel := 8) (laidMet_of_run' 8 (by kernel_rfl) (by kernel_rfl)) (by kernel_rfl) (by kernel_rfl)

theorem of_laid {W : World} (h : laidMetH Tryd.prog laidTab W) : Tab W := by
  rw [MakeChecks.laidMetH_plain _ _ _ (by kernel_rfl)] at h
  unfold laidTab at h
  rw [laid_is] at h
  have hT := Lib.tabIs_of_head gTab tTab (n := 64) (e := 5) (by kernel_rfl) (by kernel_rfl) (by kernel_rfl) (by kernel_rfl) h
  have hc : ∀ j, j < 64 → W.cell? ⟨0, j, none⟩ = some (.int .u8 (Lib.deBruijn64tab.getD j 0 : Nat)) := fun j hj => by
    have hl : Lib.deBruijn64tab.length = 64 := by decide
    rw [hT.cell gTab j (by rw [List.length_map, hl]; exact hj)]
    congr 2
    rw [List.getD_eq_getElem?_getD, List.getElem?_map, List.getD_eq_getElem?_getD]
    rw [List.getElem?_eq_getElem (by omega)]
    rfl
  exact ⟨World.block_lt_of_cell? W _ (hc 0 (by omega)), hc⟩
end Go.Proofs.YtkkhilgcjaigcaaDoor

/- An automaton that is handed in: from its reading to what the walks ask. -/
namespace Go.Proofs.YtkkhilgcjaigcaaDoor
open Go.ChangeShapes Go.WideShapes Go.ChangeAt Go.RowKit Go.Shelf
set_option maxRecDepth 100000

theorem laidOut : laidOutB Tryd.prog = true := by kernel_rfl
theorem list_of_eachB {α : Type} {p : Nat → α → Prop} : ∀ n, (∀ i, i < n → ∃ x, p i x) → ∃ l : List α, l.length = n ∧ ∀ i (h : i < l.length), p i l[i]
  | 0, _ => ⟨[], rfl, fun i h => by simp at h⟩
  | n + 1, h => by
    obtain ⟨l, hl, hp⟩ := list_of_eachB n (fun i hi => h i (by omega))
    obtain ⟨x, hx⟩ := h n (by omega)
    refine ⟨l ++ [x], by simp [hl], fun i hi => ?_⟩
    by_cases hin : i < l.length
    · rw [List.getElem_append_left hin]; exact hp i hin
    · have : i = n := by simp [hl] at hi; omega
      subst this
      rw [List.getElem_append_right (by omega)]
      simpa [hl] using hx
theorem weights_memB {H : Type} {P : Program} {e : TypeId} {n : Nat} : ∀ {l : List (DataW H)} {d : DataW H}, d ∈ l → n ∈ d.weights P e → n ∈ DataW.weightsAll P e l
  | x :: l, d, h, hn => by
    rw [DataW.weightsAll]
    rcases List.mem_cons.1 h with rfl | h
    · exact List.mem_append_left _ hn
    · exact List.mem_append_right _ (weights_memB h hn)
theorem each_weightB {H : Type} {P : Program} : ∀ {ts : List TypeId} {ds : List (DataW H)}, (DataW.weightsEach P ts ds).all (· ≤ reachBytes) = true → ∀ (i : Nat) t d, ts[i]? = some t → ds[i]? = some d → ∀ n ∈ d.weights P t, n ≤ 140737488351232
  | [], _, _, i, t, d, ht, _, _, _ => by simp at ht
  | _ :: _, [], _, i, t, d, _, hd, _, _ => by simp at hd
  | t :: ts, d :: ds, h, 0, t', d', ht, hd, n, hn => by
    simp only [List.getElem?_cons_zero, Option.some.injEq] at ht hd
    subst ht hd
    rw [DataW.weightsEach, List.all_append, Bool.and_eq_true] at h
    have := List.all_eq_true.1 h.1 n hn
    have h2 : n ≤ reachBytes := of_decide_eq_true this
    exact h2
  | t :: ts, d :: ds, h, i + 1, t', d', ht, hd, n, hn => by
    simp only [List.getElem?_cons_succ] at ht hd
    rw [DataW.weightsEach, List.all_append, Bool.and_eq_true] at h
    exact each_weightB h.2 i t' d' ht hd n hn
theorem wf_u16B {n : Int} (h : (Lit.int .u16 n).wf = true) : ∃ o : Nat, n = (o : Int) ∧ o < 65536 := by
  have h1 : 0 ≤ n ∧ n ≤ 65535 := by
    have h2 : (decide ((0 : Int) ≤ n) && decide (n ≤ 65535)) = true := h
    simpa using h2
  exact ⟨n.toNat, by omega, by omega⟩
theorem wf_i64B {n : Int} (h : (Lit.int .i64 n).wf = true) : -9223372036854775808 ≤ n ∧ n ≤ 9223372036854775807 := by
  have h2 : (decide ((-9223372036854775808 : Int) ≤ n) && decide (n ≤ 9223372036854775807)) = true := h
  simpa using h2
theorem spot_cell {W : World} {a : Addr} {v : Value} (h : W.cell? a = some v) : a.spot = none := by
  obtain ⟨b, off, sp⟩ := a
  cases sp with
  | none => rfl
  | some z =>
    exfalso
    simp only [World.cell?] at h
    split at h <;> simp at h
theorem size_listB (x : ByteArray) : x.size = x.data.toList.length := Array.length_toList.symm
theorem add_at {b off i s c : Nat} : ((⟨b, off, none⟩ : Addr).add (i * s)).add c = ⟨b, off + i * s + c, none⟩ := by rw [addr_add, addr_add]
theorem spot_noneT {W : World} {base : Nat} {a : Addr} {len cap : Nat} (h : Cell.okWide Tryd.prog W .any base 22 (.slice (some a) len cap)) : a.spot = none := by
  simp only [Cell.okWide, Tryd.underlying22, Cell.ok] at h
  exact h.2.2.2.1
theorem spot_noneE {W : World} {base : Nat} {a : Addr} {len cap : Nat} (h : Cell.okWide Tryd.prog W .any base 24 (.slice (some a) len cap)) : a.spot = none := by
  simp only [Cell.okWide, Tryd.underlying24, Cell.ok] at h
  exact h.2.2.2.1
theorem spot_noneR {W : World} {base : Nat} {a : Addr} {len cap : Nat} (h : Cell.okWide Tryd.prog W .any base 29 (.slice (some a) len cap)) : a.spot = none := by
  simp only [Cell.okWide, Tryd.underlying29, Cell.ok] at h
  exact h.2.2.2.1
set_option maxRecDepth 100000 in
/-- Numbers, wherever they lie. -/
theorem ints_of_trod {H : Type} {enc : TypeId × Value → H} {W : World} {fuel : Nat} {c : Value} {y : DataW H × List MemPlace} (h : DataW.trod enc Tryd.prog W 0 (fun _ => true) true fuel 23 [c] = some y) :
    ∃ xs, (∀ n ∈ y.1.weights Tryd.prog 23, n ≤ 140737488351232) → Ints W c xs := by
  rcases DataW.trod_slice (e := 3) Tryd.underlying23 h with ⟨e2, _⟩ | ⟨a, len, cap, elems, rest, m, rfl, e2, rfl, hb, hlc, hcm, hel, hE, _, _⟩
  · have e2' : c = .slice none 0 0 := by simpa using e2
    subst e2'
    exact ⟨[], fun _ => ⟨by simp, by simp, .inl ⟨⟨none, 0, rfl, by unfold maxLen; omega, fun _ => rfl⟩, rfl⟩⟩⟩
  · have e2' : c = .slice (some a) len cap := by simpa using e2
    subst e2'
    have hcz : Tryd.prog.cellsOf 3 = 1 := by kernel_rfl
    have key : ∀ i, i < len → ∃ x : Int, (-9223372036854775808 ≤ x ∧ x ≤ 9223372036854775807) ∧ W.cell? ((a.add (i * 1)).add 0) = some (.int .i64 x) := by
      intro i hi
      have hE' := hE i hi
      rw [List.getElem?_eq_getElem (by omega)] at hE'
      obtain ⟨cs', g1, g2⟩ := Option.bind_eq_some_iff.1 hE'
      obtain ⟨o, e0, _, hw0⟩ := DataW.trod_int (k := .i64) Tryd.underlying3 g2
      obtain ⟨_, _, hc⟩ := World.cells?_some g1
      rw [hcz] at hc
      have h0 := hc 0 (by omega)
      rw [e0] at h0
      exact ⟨o, wf_i64B hw0, h0⟩
    rcases Nat.eq_zero_or_pos len with rfl | hpos
    · exact ⟨[], fun _ => ⟨by simp, by simp, .inl ⟨⟨some a, cap, rfl, hcm, fun h => by cases h⟩, rfl⟩⟩⟩
    · obtain ⟨b, off, rfl⟩ : ∃ b off, a = ⟨b, off, none⟩ := by
        obtain ⟨x, _, c0⟩ := key 0 hpos
        simp only [Nat.zero_mul, Addr.add, if_true] at c0
        have := spot_cell c0
        obtain ⟨b, off, sp⟩ := a
        simp only at this
        subst this
        exact ⟨b, off, rfl⟩
      obtain ⟨xs, hxs, hp⟩ := list_of_eachB len key
      refine ⟨xs, fun hw => ⟨?_, fun x hx => ?_, .inr ⟨b, off, cap, by rw [hxs], by omega, hcm, fun i hi => ?_⟩⟩⟩
      · have hbz : Tryd.prog.bytesOf 3 = 8 := by kernel_rfl
        have := hw ((elems.length + rest.length) * 8) (by
          rw [DataW.weights]
          show _ ∈ (match Tryd.prog.underlying 23 with | some (.slice e) => _ | _ => [])
          rw [Tryd.underlying23]
          simp only [List.length_map, hbz]
          exact List.mem_cons_self)
        omega
      · obtain ⟨i, hi, rfl⟩ := List.getElem_of_mem hx
        exact (hp i hi).1
      · have q := (hp i hi).2
        rw [add_at, Nat.mul_one, Nat.add_zero] at q
        exact q
set_option maxRecDepth 100000 in
theorem strs_of_trodB {H : Type} {enc : TypeId × Value → H} {W : World} {base fuel : Nat} {c : Value} {y : DataW H × List MemPlace} (hok : Cell.okWide Tryd.prog W .any base 22 c) (h : DataW.trod enc Tryd.prog W 0 (fun _ => true) true fuel 22 [c] = some y) :
    ∃ xs, (∀ n ∈ y.1.weights Tryd.prog 22, n ≤ 140737488351232) → Strs W c xs ∧ ∀ x ∈ xs, x.size ≤ 140737488351232 := by
  rcases DataW.trod_slice (e := 9) Tryd.underlying22 h with ⟨e2, _⟩ | ⟨a, len, cap, elems, rest, m, rfl, e2, rfl, hb, hlc, hcm, hel, hE, _, _⟩
  · have e2' : c = .slice none 0 0 := by simpa using e2
    subst e2'
    exact ⟨[], fun _ => ⟨⟨by simp, by simp, .inl ⟨rfl, rfl⟩⟩, by simp⟩⟩
  · have e2' : c = .slice (some a) len cap := by simpa using e2
    subst e2'
    have hs := spot_noneT hok
    obtain ⟨b, off, sp⟩ := a
    simp only at hs
    subst hs
    have hcz : Tryd.prog.cellsOf 9 = 1 := by kernel_rfl
    have key : ∀ i, i < len → ∃ x : ByteArray, x.size ≤ maxLen ∧ W.cell? ⟨b, off + i, none⟩ = some (.string x) ∧ ∃ h : i < elems.length, (elems[i]).1 = .lit (.string x.data.toList) := by
      intro i hi
      have hE' := hE i hi
      rw [List.getElem?_eq_getElem (by omega)] at hE'
      obtain ⟨cs', g1, g2⟩ := Option.bind_eq_some_iff.1 hE'
      obtain ⟨x, e0, ex, hw0⟩ := DataW.trod_string Tryd.underlying9 g2
      obtain ⟨_, _, hc⟩ := World.cells?_some g1
      rw [hcz] at hc
      have h0 := hc 0 (by omega)
      rw [e0] at h0
      have h0' : W.cell? (((⟨b, off, none⟩ : Addr).add (i * 1)).add 0) = some (.string x) := h0
      rw [add_at, Nat.mul_one, Nat.add_zero] at h0'
      exact ⟨x, hw0, h0', by omega, by rw [ex]⟩
    obtain ⟨xs, hxs, hp⟩ := list_of_eachB len key
    refine ⟨xs, fun hw => ⟨⟨?_, fun x hx => ?_, .inr ⟨b, off, cap, by rw [hxs], by omega, hcm, fun i hi => (hp i hi).2.1⟩⟩, fun x hx => ?_⟩⟩
    · have hbz : Tryd.prog.bytesOf 9 = 16 := by kernel_rfl
      have := hw ((elems.length + rest.length) * 16) (by
        rw [DataW.weights]
        show _ ∈ (match Tryd.prog.underlying 22 with | some (.slice e) => _ | _ => [])
        rw [Tryd.underlying22]
        simp only [List.length_map, hbz]
        exact List.mem_cons_self)
      omega
    · obtain ⟨i, hi, rfl⟩ := List.getElem_of_mem hx
      exact (hp i hi).1
    · obtain ⟨i, hi, rfl⟩ := List.getElem_of_mem hx
      obtain ⟨_, _, hie, he⟩ := hp i hi
      refine hw _ ?_
      rw [DataW.weights]
      show _ ∈ (match Tryd.prog.underlying 22 with | some (.slice e) => _ | _ => [])
      rw [Tryd.underlying22]
      refine List.mem_cons_of_mem _ (List.mem_append_left _ (weights_memB (d := (elems[i]).1) (List.mem_map.2 ⟨_, List.getElem_mem _, rfl⟩) ?_))
      rw [he]
      have h1 : xs[i].size = xs[i].data.toList.length := size_listB _
      rw [h1]
      exact List.mem_singleton.2 rfl
theorem cell4 {a b c d : Value} {l : List Value} (h : l = [a, b, c, d]) : l[0]? = some a ∧ l[1]? = some b ∧ l[2]? = some c ∧ l[3]? = some d := by subst h; exact ⟨rfl, rfl, rfl, rfl⟩
set_option maxRecDepth 100000 in
theorem edg_of_trod {H : Type} {enc : TypeId × Value → H} {W : World} {fuel : Nat} {cs : List Value} {y : DataW H × List MemPlace} (h : DataW.trod enc Tryd.prog W 0 (fun _ => true) true fuel 52 cs = some y) :
    ∃ e : Edg, e.ok ∧ cs = [.int .i64 e.fr, .int .i64 e.to, .int .u16 (e.mu : Nat), .int .u16 (e.no : Nat)] := by
  obtain ⟨xs, n, rfl, rfl, hl, hlen, hf⟩ := DataW.trod_struct Tryd.underlying52 h
  have h0 := hf 0 _ rfl
  have h1 := hf 1 _ rfl
  have h2 := hf 2 _ rfl
  have h3 := hf 3 _ rfl
  have hl4 : cs.length = 4 := hl.trans (by kernel_rfl)
  have hx4 : xs.length = 4 := hlen
  clear hf hlen hl
  match cs, hl4, xs, hx4 with
  | [c0, c1, c2, c3], _, [y0, y1, y2, y3], _ =>
    obtain ⟨o0, e0, _, w0⟩ := DataW.trod_int (k := .i64) (by kernel_rfl) h0
    obtain ⟨o1, e1, _, w1⟩ := DataW.trod_int (k := .i64) (by kernel_rfl) h1
    obtain ⟨o2, e2, _, w2⟩ := DataW.trod_int (k := .u16) (by kernel_rfl) h2
    obtain ⟨o3, e3, _, w3⟩ := DataW.trod_int (k := .u16) (by kernel_rfl) h3
    obtain ⟨n2, rfl, b2⟩ := wf_u16B w2
    obtain ⟨n3, rfl, b3⟩ := wf_u16B w3
    have e0' : c0 = .int .i64 o0 := by have : [c0] = [Value.int .i64 o0] := e0; simpa using this
    have e1' : c1 = .int .i64 o1 := by have : [c1] = [Value.int .i64 o1] := e1; simpa using this
    have e2' : c2 = .int .u16 (n2 : Nat) := by have : [c2] = [Value.int .u16 (n2 : Nat)] := e2; simpa using this
    have e3' : c3 = .int .u16 (n3 : Nat) := by have : [c3] = [Value.int .u16 (n3 : Nat)] := e3; simpa using this
    subst e0' e1' e2' e3'
    exact ⟨⟨o0, o1, n2, n3⟩, ⟨wf_i64B w0, wf_i64B w1, b2, b3⟩, rfl⟩
set_option maxRecDepth 100000 in
theorem edgs_of_trod {H : Type} {enc : TypeId × Value → H} {W : World} {base fuel : Nat} {c : Value} {y : DataW H × List MemPlace} (hok : Cell.okWide Tryd.prog W .any base 24 c) (h : DataW.trod enc Tryd.prog W 0 (fun _ => true) true fuel 24 [c] = some y) :
    ∃ xs, (∀ n ∈ y.1.weights Tryd.prog 24, n ≤ 140737488351232) → Edgs W c xs := by
  rcases DataW.trod_slice (e := 52) Tryd.underlying24 h with ⟨e2, _⟩ | ⟨a, len, cap, elems, rest, m, rfl, e2, rfl, hb, hlc, hcm, hel, hE, _, _⟩
  · have e2' : c = .slice none 0 0 := by simpa using e2
    subst e2'
    exact ⟨[], fun _ => ⟨by simp, by simp, .inl ⟨rfl, rfl⟩⟩⟩
  · have e2' : c = .slice (some a) len cap := by simpa using e2
    subst e2'
    have hs := spot_noneE hok
    obtain ⟨b, off, sp⟩ := a
    simp only at hs
    subst hs
    have hcz : Tryd.prog.cellsOf 52 = 4 := by kernel_rfl
    have key : ∀ i, i < len → ∃ e : Edg, e.ok ∧ W.cell? ⟨b, off + i * 4, none⟩ = some (.int .i64 e.fr) ∧ W.cell? ⟨b, off + i * 4 + 1, none⟩ = some (.int .i64 e.to) ∧ W.cell? ⟨b, off + i * 4 + 2, none⟩ = some (.int .u16 (e.mu : Nat)) ∧ W.cell? ⟨b, off + i * 4 + 3, none⟩ = some (.int .u16 (e.no : Nat)) := by
      intro i hi
      have hE' := hE i hi
      rw [List.getElem?_eq_getElem (by omega)] at hE'
      obtain ⟨cs', g1, g2⟩ := Option.bind_eq_some_iff.1 hE'
      obtain ⟨e, he, rfl⟩ := edg_of_trod g2
      obtain ⟨_, _, hc⟩ := World.cells?_some g1
      rw [hcz] at hc
      have q0 := hc 0 (by omega)
      have q1 := hc 1 (by omega)
      have q2 := hc 2 (by omega)
      have q3 := hc 3 (by omega)
      rw [add_at] at q0 q1 q2 q3
      exact ⟨e, he, q0, q1, q2, q3⟩
    obtain ⟨xs, hxs, hp⟩ := list_of_eachB len key
    refine ⟨xs, fun hw => ⟨?_, fun x hx => ?_, .inr ⟨b, off, cap, by rw [hxs], by omega, hcm, fun i hi => (hp i hi).2⟩⟩⟩
    · have hbz : Tryd.prog.bytesOf 52 = 24 := by kernel_rfl
      have := hw ((elems.length + rest.length) * 24) (by
        rw [DataW.weights]
        show _ ∈ (match Tryd.prog.underlying 24 with | some (.slice e) => _ | _ => [])
        rw [Tryd.underlying24]
        simp only [List.length_map, hbz]
        exact List.mem_cons_self)
      omega
    · obtain ⟨i, hi, rfl⟩ := List.getElem_of_mem hx
      exact (hp i hi).1
set_option maxRecDepth 100000 in
theorem rowss_of_trod {H : Type} {enc : TypeId × Value → H} {W : World} {base fuel : Nat} {c : Value} {y : DataW H × List MemPlace} (hok : Cell.okWide Tryd.prog W .any base 29 c) (h : DataW.trod enc Tryd.prog W 0 (fun _ => true) true fuel 29 [c] = some y) :
    ∃ xs, (∀ n ∈ y.1.weights Tryd.prog 29, n ≤ 140737488351232) → Rowss W c xs := by
  rcases DataW.trod_slice (e := 23) Tryd.underlying29 h with ⟨e2, _⟩ | ⟨a, len, cap, elems, rest, m, rfl, e2, rfl, hb, hlc, hcm, hel, hE, _, _⟩
  · have e2' : c = .slice none 0 0 := by simpa using e2
    subst e2'
    exact ⟨[], fun _ => ⟨by simp, .inl ⟨rfl, rfl⟩⟩⟩
  · have e2' : c = .slice (some a) len cap := by simpa using e2
    subst e2'
    have hs := spot_noneR hok
    obtain ⟨b, off, sp⟩ := a
    simp only at hs
    subst hs
    have hcz : Tryd.prog.cellsOf 23 = 1 := by kernel_rfl
    have key : ∀ i, i < len → ∃ xs : List Int, ∃ u, W.cell? ⟨b, off + i, none⟩ = some u ∧ ∃ h : i < elems.length, ((∀ n ∈ (elems[i]).1.weights Tryd.prog 23, n ≤ 140737488351232) → Ints W u xs) := by
      intro i hi
      have hE' := hE i hi
      rw [List.getElem?_eq_getElem (by omega)] at hE'
      obtain ⟨cs', g1, g2⟩ := Option.bind_eq_some_iff.1 hE'
      obtain ⟨_, hcl, hc⟩ := World.cells?_some g1
      rw [hcz] at hc hcl
      have hl1 : cs'.length = 1 := by simpa using hcl
      match cs', hl1 with
      | [u], _ =>
        have q0 := hc 0 (by omega)
        rw [add_at, Nat.mul_one, Nat.add_zero] at q0
        obtain ⟨xs, hx⟩ := ints_of_trod g2
        exact ⟨xs, u, q0, by omega, hx⟩
    obtain ⟨xs, hxs, hp⟩ := list_of_eachB len key
    refine ⟨xs, fun hw => ⟨?_, .inr ⟨b, off, cap, by rw [hxs], by omega, hcm, fun i hi => ?_⟩⟩⟩
    · have hbz : Tryd.prog.bytesOf 23 = 24 := by kernel_rfl
      have := hw ((elems.length + rest.length) * 24) (by
        rw [DataW.weights]
        show _ ∈ (match Tryd.prog.underlying 29 with | some (.slice e) => _ | _ => [])
        rw [Tryd.underlying29]
        simp only [List.length_map, hbz]
        exact List.mem_cons_self)
      omega
    · obtain ⟨u, hu, hie, hI⟩ := hp i hi
      refine ⟨u, hu, hI fun n hn => hw n ?_⟩
      rw [DataW.weights]
      show _ ∈ (match Tryd.prog.underlying 29 with | some (.slice e) => _ | _ => [])
      rw [Tryd.underlying29]
      exact List.mem_cons_of_mem _ (List.mem_append_left _ (weights_memB (d := (elems[i]).1) (List.mem_map.2 ⟨_, List.getElem_mem _, rfl⟩) hn))
set_option maxRecDepth 100000 in
theorem open_general {H : Type} {enc : TypeId × Value → H} {W : World} {base : Nat} {v : Value} {d : DataW H} {p : List MemPlace} (hv : Value.okWide Tryd.prog W .any base 31 v) (h : DataW.Trod enc Tryd.prog W 0 (fun _ => true) true 31 v d p) :
    ∃ (pv iv ev sv : Value) (g : Gen), v = .agg #[pv, .int .i64 g.st, iv, ev, sv] ∧ ((∀ n ∈ d.weights Tryd.prog 31, n ≤ 140737488351232) → IsG W pv iv ev sv g ∧ ∀ x ∈ g.ps, x.size ≤ 140737488351232) := by
  have hv' := hv
  simp only [Value.okWide, Tryd.underlying31] at hv'
  obtain ⟨cs, rfl, hsz, ts, hts, _, hok⟩ := hv'
  have hts' : Tryd.prog.cellTypes Tryd.prog.depth 31 = some [22, 3, 23, 24, 29] := by kernel_rfl
  rw [hts'] at hts
  cases hts
  have hs2 : cs.size = 5 := hsz.trans (by kernel_rfl)
  obtain ⟨fuel, hf0⟩ := h
  obtain ⟨xs, n, rfl, hdp, hl, hlen, hf⟩ := DataW.trod_struct Tryd.underlying31 hf0
  clear hf0
  obtain ⟨rfl, rfl⟩ := Prod.mk.inj hdp
  have h0 := hf 0 _ rfl
  have h1 := hf 1 _ rfl
  have h2 := hf 2 _ rfl
  have h3 := hf 3 _ rfl
  have h4 := hf 4 _ rfl
  have hx5 : xs.length = 5 := hlen
  clear hf hlen hl
  obtain ⟨cs⟩ := cs
  match cs, hs2, xs, hx5 with
  | [c0, c1, c2, c3, c4], _, [y0, y1, y2, y3, y4], _ =>
    have k0 : Cell.okWide Tryd.prog W .any base 22 c0 := by
      obtain ⟨u, hu, hk⟩ := hok 0 c0 rfl
      cases hu
      exact hk
    have k3 : Cell.okWide Tryd.prog W .any base 24 c3 := by
      obtain ⟨u, hu, hk⟩ := hok 3 c3 rfl
      cases hu
      exact hk
    have k4 : Cell.okWide Tryd.prog W .any base 29 c4 := by
      obtain ⟨u, hu, hk⟩ := hok 4 c4 rfl
      cases hu
      exact hk
    obtain ⟨ps, hps⟩ := strs_of_trodB k0 h0
    obtain ⟨st, est, _, wst⟩ := DataW.trod_int (k := .i64) (by kernel_rfl) h1
    obtain ⟨ini, hini⟩ := ints_of_trod h2
    obtain ⟨es, hes⟩ := edgs_of_trod k3 h3
    obtain ⟨ss, hss⟩ := rowss_of_trod k4 h4
    have e1 : c1 = .int .i64 st := by have : [c1] = [Value.int .i64 st] := est; simpa using this
    subst e1
    refine ⟨c0, c2, c3, c4, ⟨ps, st, ini, es, ss⟩, rfl, fun hw => ?_⟩
    have hwt : ∀ n, (n ∈ y0.1.weights Tryd.prog 22 ∨ n ∈ y2.1.weights Tryd.prog 23 ∨ n ∈ y3.1.weights Tryd.prog 24 ∨ n ∈ y4.1.weights Tryd.prog 29) → n ∈ (DataW.agg ([y0, y1, y2, y3, y4].map (·.1)) : DataW H).weights Tryd.prog 31 := by
      intro n hn
      rw [DataW.weights, Tryd.underlying31]
      show n ∈ y0.1.weights Tryd.prog 22 ++ (y1.1.weights Tryd.prog 3 ++ (y2.1.weights Tryd.prog 23 ++ (y3.1.weights Tryd.prog 24 ++ (y4.1.weights Tryd.prog 29 ++ []))))
      rcases hn with hn | hn | hn | hn
      · exact List.mem_append_left _ hn
      · exact List.mem_append_right _ (List.mem_append_right _ (List.mem_append_left _ hn))
      · exact List.mem_append_right _ (List.mem_append_right _ (List.mem_append_right _ (List.mem_append_left _ hn)))
      · exact List.mem_append_right _ (List.mem_append_right _ (List.mem_append_right _ (List.mem_append_right _ (List.mem_append_left _ hn))))
    obtain ⟨q1, q2⟩ := hps fun n hn => hw n (hwt n (.inl hn))
    exact ⟨⟨q1, hini fun n hn => hw n (hwt n (.inr (.inl hn))), hes fun n hn => hw n (hwt n (.inr (.inr (.inl hn)))), hss fun n hn => hw n (hwt n (.inr (.inr (.inr hn)))), wf_i64B wst⟩, q2⟩
set_option maxRecDepth 100000 in
theorem open_buchi {H : Type} {enc : TypeId × Value → H} {W : World} {base : Nat} {v : Value} {d : DataW H} {p : List MemPlace} (hv : Value.okWide Tryd.prog W .any base 26 v) (h : DataW.Trod enc Tryd.prog W 0 (fun _ => true) true 26 v d p) :
    ∃ (pv iv ev fv : Value) (g : Gen) (fin : List Int), v = .agg #[pv, .int .i64 g.st, iv, ev, fv] ∧ ((∀ n ∈ d.weights Tryd.prog 26, n ≤ 140737488351232) → IsB W pv iv ev fv g fin ∧ ∀ x ∈ g.ps, x.size ≤ 140737488351232) := by
  have hv' := hv
  simp only [Value.okWide, Tryd.underlying26] at hv'
  obtain ⟨cs, rfl, hsz, ts, hts, _, hok⟩ := hv'
  have hts' : Tryd.prog.cellTypes Tryd.prog.depth 26 = some [22, 3, 23, 24, 23] := by kernel_rfl
  rw [hts'] at hts
  cases hts
  have hs2 : cs.size = 5 := hsz.trans (by kernel_rfl)
  obtain ⟨fuel, hf0⟩ := h
  obtain ⟨xs, n, rfl, hdp, hl, hlen, hf⟩ := DataW.trod_struct Tryd.underlying26 hf0
  clear hf0
  obtain ⟨rfl, rfl⟩ := Prod.mk.inj hdp
  have h0 := hf 0 _ rfl
  have h1 := hf 1 _ rfl
  have h2 := hf 2 _ rfl
  have h3 := hf 3 _ rfl
  have h4 := hf 4 _ rfl
  have hx5 : xs.length = 5 := hlen
  clear hf hlen hl
  obtain ⟨cs⟩ := cs
  match cs, hs2, xs, hx5 with
  | [c0, c1, c2, c3, c4], _, [y0, y1, y2, y3, y4], _ =>
    have k0 : Cell.okWide Tryd.prog W .any base 22 c0 := by
      obtain ⟨u, hu, hk⟩ := hok 0 c0 rfl
      cases hu
      exact hk
    have k3 : Cell.okWide Tryd.prog W .any base 24 c3 := by
      obtain ⟨u, hu, hk⟩ := hok 3 c3 rfl
      cases hu
      exact hk
    obtain ⟨ps, hps⟩ := strs_of_trodB k0 h0
    obtain ⟨st, est, _, wst⟩ := DataW.trod_int (k := .i64) (by kernel_rfl) h1
    obtain ⟨ini, hini⟩ := ints_of_trod h2
    obtain ⟨es, hes⟩ := edgs_of_trod k3 h3
    obtain ⟨ss, hss⟩ := ints_of_trod h4
    have e1 : c1 = .int .i64 st := by have : [c1] = [Value.int .i64 st] := est; simpa using this
    subst e1
    refine ⟨c0, c2, c3, c4, ⟨ps, st, ini, es, []⟩, ss, rfl, fun hw => ?_⟩
    have hwt : ∀ n, (n ∈ y0.1.weights Tryd.prog 22 ∨ n ∈ y2.1.weights Tryd.prog 23 ∨ n ∈ y3.1.weights Tryd.prog 24 ∨ n ∈ y4.1.weights Tryd.prog 23) → n ∈ (DataW.agg ([y0, y1, y2, y3, y4].map (·.1)) : DataW H).weights Tryd.prog 26 := by
      intro n hn
      rw [DataW.weights, Tryd.underlying26]
      show n ∈ y0.1.weights Tryd.prog 22 ++ (y1.1.weights Tryd.prog 3 ++ (y2.1.weights Tryd.prog 23 ++ (y3.1.weights Tryd.prog 24 ++ (y4.1.weights Tryd.prog 23 ++ []))))
      rcases hn with hn | hn | hn | hn
      · exact List.mem_append_left _ hn
      · exact List.mem_append_right _ (List.mem_append_right _ (List.mem_append_left _ hn))
      · exact List.mem_append_right _ (List.mem_append_right _ (List.mem_append_right _ (List.mem_append_left _ hn)))
      · exact List.mem_append_right _ (List.mem_append_right _ (List.mem_append_right _ (List.mem_append_right _ (List.mem_append_left _ hn))))
    obtain ⟨q1, q2⟩ := hps fun n hn => hw n (hwt n (.inl hn))
    exact ⟨⟨q1, hini fun n hn => hw n (hwt n (.inr (.inl hn))), hes fun n hn => hw n (hwt n (.inr (.inr (.inl hn)))), hss fun n hn => hw n (hwt n (.inr (.inr (.inr hn)))), wf_i64B wst⟩, q2⟩
theorem general_again {H : Type} {enc : TypeId × Value → H} {W W' : World} {v : Value} {d : DataW H} {p : List MemPlace} (h : DataW.Trod enc Tryd.prog W 0 (fun _ => true) true 31 v d p) (hb : Below W.heap.size W W') (hlt : ∀ x ∈ p, x.block < W.heap.size) :
    DataW.Trod enc Tryd.prog W' 0 (fun b => decide (b < W.heap.size)) true 31 v d p :=
  Below.trod laidOut (by kernel_rfl) (of_decide_eq_true (by kernel_rfl)) h hb hlt
theorem buchi_again {H : Type} {enc : TypeId × Value → H} {W W' : World} {v : Value} {d : DataW H} {p : List MemPlace} (h : DataW.Trod enc Tryd.prog W 0 (fun _ => true) true 26 v d p) (hb : Below W.heap.size W W') (hlt : ∀ x ∈ p, x.block < W.heap.size) :
    DataW.Trod enc Tryd.prog W' 0 (fun b => decide (b < W.heap.size)) true 26 v d p :=
  Below.trod laidOut (by kernel_rfl) (of_decide_eq_true (by kernel_rfl)) h hb hlt
theorem open_ints {H : Type} {enc : TypeId × Value → H} {W : World} {base : Nat} {v : Value} {d : DataW H} {p : List MemPlace} (hv : Value.okWide Tryd.prog W .any base 23 v) (h : DataW.Trod enc Tryd.prog W 0 (fun _ => true) true 23 v d p) :
    ∃ xs, (∀ n ∈ d.weights Tryd.prog 23, n ≤ 140737488351232) → Ints W v xs := by
  obtain ⟨fuel, hf⟩ := h
  obtain ⟨ad, len, cap, rfl⟩ := okWide_slice Tryd.underlying23 hv
  exact ints_of_trod hf
theorem ints_again {H : Type} {enc : TypeId × Value → H} {W W' : World} {v : Value} {d : DataW H} {p : List MemPlace} (h : DataW.Trod enc Tryd.prog W 0 (fun _ => true) true 23 v d p) (hb : Below W.heap.size W W') (hlt : ∀ x ∈ p, x.block < W.heap.size) :
    DataW.Trod enc Tryd.prog W' 0 (fun b => decide (b < W.heap.size)) true 23 v d p :=
  Below.trod laidOut (by kernel_rfl) (of_decide_eq_true (by kernel_rfl)) h hb hlt
end Go.Proofs.YtkkhilgcjaigcaaDoor

namespace Go.Proofs.YtkkhilgcjaigcaaDoor
open Go.ChangeShapes Go.WideShapes Go.ChangeAt Go.WideMaps Go.WideElems Go.RowKit Go.Shelf

set_option maxRecDepth 100000 in
theorem buchiSteps_lifted (os : Os) (started : os.Started) (H : Type) (enc : TypeId × Value → H) :
    ReturnsInHanded {} Tryd.checked os 3 .any (fun w args => (Rows.buchiStepsSpec.pre enc Tryd.prog Tryd.f3 [] false w args ∧ laidMetH Tryd.prog laidTab w) ∧ sizedMet enc Tryd.prog Tryd.f3 (OpenSpec.ofChange Rows.buchiStepsSpec) false w args)
      (Rows.buchiStepsSpec.post enc Tryd.prog Tryd.f3 false true false false) := by
  refine returnsInHanded_of_change_and (C := Tryd.checked) (X := fun w _ => laidMetH Tryd.prog laidTab w) (fun _ _ _ hh h => h.of_heap hh) own started (by kernel_rfl) Tryd.func3
    (ChangeSpec.witness_shaped (enc := enc) (C := Tryd.checked) (os := os) (X := fun w _ => laidMetH Tryd.prog laidTab w) false (World.doorLaid Tryd.prog 400 os) #[.agg #[.slice none 0 0, .int .i64 0, .slice none 0 0, .slice none 0 0, .slice none 0 0], .slice none 0 0, .int .u16 0] 8 rfl (World.shaped_of_RefB (by kernel_rfl) (by kernel_rfl)) (by kernel_rfl) (by kernel_rfl) (by kernel_rfl) (door_met os _)) ?_
  intro W base args ds gs before hval0 hW _ hsz0 hL _
  have hW' := hW
  obtain ⟨p, q, hA0, hV, rfl, hfz, hnd⟩ := hW
  have hA : DataW.TrodAll enc Tryd.prog W 0 (fun _ => true) true Tryd.f3.params.toList args.toList ds p := hA0
  have hval : ∀ (j : Nat) t v, Tryd.f3.params[j]? = some t → args[j]? = some v → Value.okWide Tryd.prog W .any base t v := hval0
  have hsz : (DataW.weightsEach Tryd.prog (Tryd.f3.params.toList ++ Rows.buchiStepsSpec.plain.varTypes Tryd.prog) (ds ++ gs)).all (· ≤ reachBytes) = true := hsz0
  rw [Tryd.params3] at hA hval hsz
  obtain ⟨v0, v1, v2, d0, d1, d2, p0, p1, p2, rfl, rfl, rfl, h0, h1, h2⟩ := trodAll_three hA
  obtain ⟨rfl, rfl⟩ := trodVars_none hV
  obtain ⟨pv0, iv0, ev0, fv0, g0, fin0, rfl, i0⟩ := open_buchi (hval 0 26 v0 rfl rfl) h0
  have i0 := i0 (each_weightB hsz 0 26 d0 rfl rfl)
  obtain ⟨x1, i1⟩ := open_ints (hval 1 23 v1 rfl rfl) h1
  have i1 := i1 (each_weightB hsz 1 23 d1 rfl rfl)
  obtain ⟨z2, rfl, rfl, rfl, m2⟩ := open_int Tryd.underlying27 (hval 2 27 v2 rfl rfl) h2
  obtain ⟨n2, rfl, b2⟩ := wf_u16B m2
  clear hA0 hval0 hsz0 hsz
  simp only [List.append_nil] at hW'
  have l0 : ∀ x ∈ p0, x.block < W.heap.size := fun x hx => by simpa using hW'.lt x (by simp [hx])
  have l1 : ∀ x ∈ p1, x.block < W.heap.size := fun x hx => by simpa using hW'.lt x (by simp [hx])
  refine (buchiSteps_walk pv0 iv0 ev0 fv0 g0 fin0 v1 x1 n2 W i0.1 i1 b2 (of_laid hL)).mono fun e W' ⟨he, hg⟩ => ?_
  subst he
  have hb := hg.below
  exact ⟨_, rfl, _, _, _, [], _, [], hW', trodAll_mk1 (shut_bool Tryd.underlying4 _), trodAll_mk3 (buchi_again h0 hb l0) (ints_again h1 hb l1) (shut_int Tryd.underlying27 m2), rfl, hb.frame _, fun h => by cases h⟩

theorem buchiSteps_holds : Rows.BuchiStepsSaid :=
  OpenClaim.holds_of_wide 3 Tryd.f3 rfl rfl rfl rfl rfl rfl rfl ⟨rfl, rfl, rfl, rfl, rfl⟩ rfl rfl rfl rfl rfl (by kernel_rfl) Tryd.func3 (by kernel_rfl)
    (of_decide_eq_true (by kernel_rfl)) (by unfold Func.isWrapper; first | (rw [if_pos (by decide +kernel)]; kernel_rfl) | (rw [if_neg (by decide +kernel)]; exact ⟨rfl, rfl⟩))
    (fun os started H enc _ => buchiSteps_lifted os started H enc)

theorem buchiSteps_card : Rows.BuchiStepsCardSaid :=
  Claim7.holds_tied_plain_at .later [] _ _ _ _ buchiSteps_holds (fun _ h => by cases h) (by kernel_rfl) (fun _ h => by cases h) buchiSteps_row_tie rfl ⟨rfl, rfl⟩ (by kernel_rfl) rfl
    (fun f fn hf hfn => by
      obtain rfl : f = 3 := Option.some.inj ((show Tryd.prog.funcNamed "augur/augurlaw10.BuchiSteps" = some 3 by kernel_rfl).symm.trans hf) |>.symm
      obtain rfl : fn = Tryd.f3 := (Option.some.inj (Tryd.func3.symm.trans hfn)).symm
      exact ⟨by kernel_rfl, fun j t ht => by
        rw [Tryd.params3] at ht
        have hm : t ∈ [26, 23, 27] := by simpa using Array.mem_of_getElem? ht
        have hall : ([26, 23, 27].all fun u => !Tryd.prog.wantsStandIn u) = true := by kernel_rfl
        exact (show Tryd.prog.wantsStandIn t = false by simpa using List.all_eq_true.1 hall t hm)⟩)
    (by kernel_rfl)
end Go.Proofs.YtkkhilgcjaigcaaDoor
