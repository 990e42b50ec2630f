/- The listed variable: a start that has it, and what it gives. -/
import Derived.Test.YtondmjnagkldpaaDoorTrForm
import Derived.ProofKit
import Derived.OpenShut
import Derived.LaidMore
import Derived.Lay
import Derived.SevenTiedAt
import Derived.Stop.Joined
import Derived.Stop.LaidErr
import Derived.Lib.LaidTab
import Derived.Test.YtondmjnagkldpaaDoorRows
import Derived.Test.YtondmjnagkldpaaDoorTrOpen
import Derived.Test.YtondmjnagkldpaaDoorTrWeight
import Derived.Test.YtondmjnagkldpaaDoorWdSmall
import Derived.Test.YtondmjnagkldpaaDoorEvStr
import Derived.Deep.Strs
import Derived.Carry
namespace Go.Proofs.YtondmjnagkldpaaDoor
open Go.ChangeShapes Go.WideShapes Go.ChangeAt Go.RowKit Go.Shelf

def laidTab : List (String × DataW Unit) := Rows.evalNumbersRow.laid
theorem own : ownKnob Tryd.prog.godebug = none := by kernel_rfl
theorem laidOut : laidOutB Tryd.prog = true := by kernel_rfl
theorem tab_plain (W : World) : laidMetH Tryd.prog laidTab W = laidMet Tryd.prog laidTab W := MakeChecks.laidMetH_plain _ _ _ (by kernel_rfl)
theorem tab_shape (os : Os) : (World.laidAll Tryd.prog os laidTab).Shaped Tryd.prog := World.shaped_of_ZipB (by kernel_rfl) (by kernel_rfl)
theorem tab_met (os : Os) (args : Array Value) : laidMetH Tryd.prog laidTab ((World.laidAll Tryd.prog os laidTab).forCall (fun _ _ => 0) ⟨#[], args, []⟩).memory := by
  rw [tab_plain]
  exact laidMet_laidAll _ (by kernel_rfl) (by kernel_rfl)
theorem gKids : Tryd.prog.globalNamed "augur/tree.kidsOf" = some 0 := by kernel_rfl
theorem kids_at : ∀ i, i < 22 → (kidsL.map fun (n : Nat) => (n : Int)).getD i 0 = ((kidsN i : Nat) : Int) := by decide
theorem kids_of_laid {W : World} (h : laidMetH Tryd.prog laidTab W) : KidsTab W := by
  rw [tab_plain] at h
  have ht : Lib.TabIs Tryd.prog W "augur/tree.kidsOf" .i64 (kidsL.map fun (n : Nat) => (n : Int)) :=
    Lib.tabIs_of_head (t := 121) (e := 3) (n := 22) gKids (by kernel_rfl) (by kernel_rfl) (by kernel_rfl) (by kernel_rfl) (by kernel_rfl) h
  intro i hi
  rw [ht.cell gKids i (by simpa [kidsL] using hi), kids_at i hi]
end Go.Proofs.YtondmjnagkldpaaDoor

/- A law's formulas, names and word among the arguments: from their reading to what the walks ask. -/
namespace Go.Proofs.YtondmjnagkldpaaDoor
open Go.ChangeShapes Go.WideShapes Go.ChangeAt Go.RowKit Go.Shelf
set_option maxRecDepth 100000

set_option maxRecDepth 100000 in
theorem open_tree {H : Type} {enc : TypeId × Value → H} {W : World} {base : Nat} {v : Value} {d : DataW H} {p : List MemPlace} (hv : Value.okWide Tryd.prog W .any base 26 v) (h : DataW.Trod enc Tryd.prog W 0 (fun _ => true) true 26 v d p) :
    ∃ t kv, v = .agg #[.int .u8 (t.op : Nat), .string t.name, kv] ∧ IsF W t kv ∧ t.Fine ∧ ((∀ n ∈ d.weights Tryd.prog 26, n ≤ 140737488351232) → t.Modest) := by
  obtain ⟨cs, rfl, _⟩ := okWide_struct Tryd.underlying26 hv
  obtain ⟨fuel, hf⟩ := h
  obtain ⟨t, kv, e, hT, hF, hM⟩ := trod_tree fuel _ _ hf
  have e' : cs.toList = [.int .u8 (t.op : Nat), .string t.name, kv] := e
  refine ⟨t, kv, ?_, IsT.isF hT, hF, hM⟩
  congr 1
  exact Array.toList_inj.1 e'
theorem tree_again {H : Type} {enc : TypeId × Value → H} {W W' : World} {v : Value} {d : DataW H} {p : List MemPlace} (h : DataW.Trod enc Tryd.prog W 0 (fun _ => true) true 26 v d p) (hb : Below W.heap.size W W') (hlt : ∀ x ∈ p, x.block < W.heap.size) :
    DataW.Trod enc Tryd.prog W' 0 (fun b => decide (b < W.heap.size)) true 26 v d p :=
  Below.trod laidOut (by kernel_rfl) (of_decide_eq_true (by kernel_rfl)) h hb hlt
theorem each_weight {H : Type} {P : Program} : ∀ {ts : List TypeId} {ds : List (DataW H)}, (DataW.weightsEach P ts ds).all (· ≤ reachBytes) = true → ∀ (i : Nat) t d, ts[i]? = some t → ds[i]? = some d → ∀ n ∈ d.weights P t, n ≤ 140737488351232
  | [], _, _, i, t, d, ht, _, _, _ => by simp at ht
  | _ :: _, [], _, i, t, d, _, hd, _, _ => by simp at hd
  | t :: ts, d :: ds, h, 0, t', d', ht, hd, n, hn => by
    simp only [List.getElem?_cons_zero, Option.some.injEq] at ht hd
    subst ht hd
    rw [DataW.weightsEach, List.all_append, Bool.and_eq_true] at h
    have := List.all_eq_true.1 h.1 n hn
    have h2 : n ≤ reachBytes := of_decide_eq_true this
    exact h2
  | t :: ts, d :: ds, h, i + 1, t', d', ht, hd, n, hn => by
    simp only [List.getElem?_cons_succ] at ht hd
    rw [DataW.weightsEach, List.all_append, Bool.and_eq_true] at h
    exact each_weight h.2 i t' d' ht hd n hn
theorem wf_u16 {n : Int} (h : (Lit.int .u16 n).wf = true) : ∃ o : Nat, n = (o : Int) ∧ o < 65536 := by
  have h1 : 0 ≤ n ∧ n ≤ 65535 := by
    have h2 : (decide ((0 : Int) ≤ n) && decide (n ≤ 65535)) = true := h
    simpa using h2
  exact ⟨n.toNat, by omega, by omega⟩
theorem spot_none {W : World} {base : Nat} {a : Addr} {len cap : Nat} (h : Cell.okWide Tryd.prog W .any base 28 (.slice (some a) len cap)) : a.spot = none := by
  simp only [Cell.okWide, Tryd.underlying28, Cell.ok] at h
  exact h.2.2.2.1
set_option maxRecDepth 100000 in
theorem lets_of_trod {H : Type} {enc : TypeId × Value → H} {W : World} {base fuel : Nat} {c : Value} {y : DataW H × List MemPlace} (hok : Cell.okWide Tryd.prog W .any base 28 c) (h : DataW.trod enc Tryd.prog W 0 (fun _ => true) true fuel 28 [c] = some y) :
    ∃ xs, (∀ n ∈ y.1.weights Tryd.prog 28, n ≤ 140737488351232) → Lets W c xs := by
  rcases DataW.trod_slice (e := 45) Tryd.underlying28 h with ⟨e2, _⟩ | ⟨a, len, cap, elems, rest, m, rfl, e2, rfl, hb, hlc, hcm, hel, hE, _, _⟩
  · have e2' : c = .slice none 0 0 := by simpa using e2
    subst e2'
    exact ⟨[], fun _ => Lets.nil W⟩
  · have e2' : c = .slice (some a) len cap := by simpa using e2
    subst e2'
    have hs := spot_none hok
    obtain ⟨b, off, sp⟩ := a
    simp only at hs
    subst hs
    have hcz : Tryd.prog.cellsOf 45 = 1 := by kernel_rfl
    have key : ∀ i, i < len → ∃ x : Nat, x < 65536 ∧ W.cell? ⟨b, off + i, none⟩ = some (.int .u16 (x : Nat)) := by
      intro i hi
      have hE' := hE i hi
      rw [List.getElem?_eq_getElem (by omega)] at hE'
      obtain ⟨cs', g1, g2⟩ := Option.bind_eq_some_iff.1 hE'
      obtain ⟨o, e0, _, hw0⟩ := DataW.trod_int (k := .u16) Tryd.underlying45 g2
      obtain ⟨x, rfl, hx⟩ := wf_u16 hw0
      obtain ⟨_, _, hc⟩ := World.cells?_some g1
      rw [hcz] at hc
      have h0 := hc 0 (by omega)
      rw [e0] at h0
      have ea : ((⟨b, off, none⟩ : Addr).add (i * 1)).add 0 = ⟨b, off + i, none⟩ := by
        unfold Addr.add
        split <;> split <;> simp_all
      rw [ea] at h0
      exact ⟨x, hx, h0⟩
    obtain ⟨xs, hxs, hp⟩ := list_of_each len key
    refine ⟨xs, fun hw => ⟨fun x hx => ?_, ?_, .inr ⟨b, off, cap, by rw [hxs], by omega, hcm, fun i hi => ?_⟩⟩⟩
    · obtain ⟨i, hi, rfl⟩ := List.getElem_of_mem hx
      exact (hp i hi).1
    · have hbz : Tryd.prog.bytesOf 45 = 2 := by kernel_rfl
      have := hw ((elems.length + rest.length) * 2) (by
        rw [DataW.weights]
        show _ ∈ (match Tryd.prog.underlying 28 with | some (.slice e) => _ | _ => [])
        rw [Tryd.underlying28]
        simp only [List.length_map, hbz]
        exact List.mem_cons_self)
      omega
    · rw [(hp i hi).2, List.getD_eq_getElem?_getD, List.getElem?_eq_getElem hi]
      rfl
set_option maxRecDepth 100000 in
theorem open_word {H : Type} {enc : TypeId × Value → H} {W : World} {base : Nat} {v : Value} {d : DataW H} {p : List MemPlace} (hv : Value.okWide Tryd.prog W .any base 30 v) (h : DataW.Trod enc Tryd.prog W 0 (fun _ => true) true 30 v d p) :
    ∃ (sv lv : Value) (q : Wd), v = .agg #[sv, lv] ∧ ((∀ n ∈ d.weights Tryd.prog 30, n ≤ 140737488351232) → Lets W sv q.stem ∧ Lets W lv q.loop) := by
  have hv' := hv
  simp only [Value.okWide, Tryd.underlying30] at hv'
  obtain ⟨cs, rfl, hsz, ts, hts, _, hok⟩ := hv'
  have hts' : Tryd.prog.cellTypes Tryd.prog.depth 30 = some [28, 28] := by kernel_rfl
  rw [hts'] at hts
  cases hts
  have hs2 : cs.size = 2 := hsz.trans (by kernel_rfl)
  obtain ⟨fuel, hf0⟩ := h
  obtain ⟨xs, n, rfl, hdp, hl, hlen, hf⟩ := DataW.trod_struct Tryd.underlying30 hf0
  clear hf0
  obtain ⟨rfl, rfl⟩ := Prod.mk.inj hdp
  have h0 := hf 0 _ rfl
  have h1 := hf 1 _ rfl
  have hx2 : xs.length = 2 := hlen
  clear hf hlen hl
  obtain ⟨cs⟩ := cs
  match cs, hs2, xs, hx2 with
  | [c0, c1], _, [y0, y1], _ =>
    have k0 : Cell.okWide Tryd.prog W .any base 28 c0 := by
      obtain ⟨u, hu, hk⟩ := hok 0 c0 rfl
      cases hu
      exact hk
    have k1 : Cell.okWide Tryd.prog W .any base 28 c1 := by
      obtain ⟨u, hu, hk⟩ := hok 1 c1 rfl
      cases hu
      exact hk
    obtain ⟨s, hs⟩ := lets_of_trod k0 h0
    obtain ⟨l, hl⟩ := lets_of_trod k1 h1
    refine ⟨c0, c1, ⟨s, l⟩, rfl, fun hw => ?_⟩
    have hwt : ∀ n, (n ∈ y0.1.weights Tryd.prog 28 ∨ n ∈ y1.1.weights Tryd.prog 28) → n ∈ (DataW.agg ([y0, y1].map (·.1)) : DataW H).weights Tryd.prog 30 := by
      intro n hn
      rw [DataW.weights, Tryd.underlying30]
      show n ∈ y0.1.weights Tryd.prog 28 ++ (y1.1.weights Tryd.prog 28 ++ [])
      rcases hn with hn | hn
      · exact List.mem_append_left _ hn
      · exact List.mem_append_right _ (List.mem_append_left _ hn)
    exact ⟨hs fun n hn => hw n (hwt n (.inl hn)), hl fun n hn => hw n (hwt n (.inr hn))⟩
theorem word_again {H : Type} {enc : TypeId × Value → H} {W W' : World} {v : Value} {d : DataW H} {p : List MemPlace} (h : DataW.Trod enc Tryd.prog W 0 (fun _ => true) true 30 v d p) (hb : Below W.heap.size W W') (hlt : ∀ x ∈ p, x.block < W.heap.size) :
    DataW.Trod enc Tryd.prog W' 0 (fun b => decide (b < W.heap.size)) true 30 v d p :=
  Below.trod laidOut (by kernel_rfl) (of_decide_eq_true (by kernel_rfl)) h hb hlt
theorem size_list (x : ByteArray) : x.size = x.data.toList.length := Array.length_toList.symm
theorem spot_noneS {W : World} {base : Nat} {a : Addr} {len cap : Nat} (h : Cell.okWide Tryd.prog W .any base 27 (.slice (some a) len cap)) : a.spot = none := by
  simp only [Cell.okWide, Tryd.underlying27, Cell.ok] at h
  exact h.2.2.2.1
set_option maxRecDepth 100000 in
theorem strs_of_trod {H : Type} {enc : TypeId × Value → H} {W : World} {base fuel : Nat} {c : Value} {y : DataW H × List MemPlace} (hok : Cell.okWide Tryd.prog W .any base 27 c) (h : DataW.trod enc Tryd.prog W 0 (fun _ => true) true fuel 27 [c] = some y) :
    ∃ xs, (∀ n ∈ y.1.weights Tryd.prog 27, n ≤ 140737488351232) → Strs W c xs ∧ ∀ x ∈ xs, x.size ≤ 140737488351232 := by
  rcases DataW.trod_slice (e := 9) Tryd.underlying27 h with ⟨e2, _⟩ | ⟨a, len, cap, elems, rest, m, rfl, e2, rfl, hb, hlc, hcm, hel, hE, _, _⟩
  · have e2' : c = .slice none 0 0 := by simpa using e2
    subst e2'
    exact ⟨[], fun _ => ⟨⟨by simp, by simp, .inl ⟨rfl, rfl⟩⟩, by simp⟩⟩
  · have e2' : c = .slice (some a) len cap := by simpa using e2
    subst e2'
    have hs := spot_noneS hok
    obtain ⟨b, off, sp⟩ := a
    simp only at hs
    subst hs
    have hcz : Tryd.prog.cellsOf 9 = 1 := by kernel_rfl
    have key : ∀ i, i < len → ∃ x : ByteArray, x.size ≤ maxLen ∧ W.cell? ⟨b, off + i, none⟩ = some (.string x) ∧ ∃ h : i < elems.length, (elems[i]).1 = .lit (.string x.data.toList) := by
      intro i hi
      have hE' := hE i hi
      rw [List.getElem?_eq_getElem (by omega)] at hE'
      obtain ⟨cs', g1, g2⟩ := Option.bind_eq_some_iff.1 hE'
      obtain ⟨x, e0, ex, hw0⟩ := DataW.trod_string Tryd.underlying9 g2
      obtain ⟨_, _, hc⟩ := World.cells?_some g1
      rw [hcz] at hc
      have h0 := hc 0 (by omega)
      rw [e0] at h0
      have ea : ((⟨b, off, none⟩ : Addr).add (i * 1)).add 0 = ⟨b, off + i, none⟩ := by
        unfold Addr.add
        split <;> split <;> simp_all
      rw [ea] at h0
      exact ⟨x, hw0, h0, by omega, by rw [ex]⟩
    obtain ⟨xs, hxs, hp⟩ := list_of_each len key
    refine ⟨xs, fun hw => ⟨⟨?_, fun x hx => ?_, .inr ⟨b, off, cap, by rw [hxs], by omega, hcm, fun i hi => (hp i hi).2.1⟩⟩, fun x hx => ?_⟩⟩
    · have hbz : Tryd.prog.bytesOf 9 = 16 := by kernel_rfl
      have := hw ((elems.length + rest.length) * 16) (by
        rw [DataW.weights]
        show _ ∈ (match Tryd.prog.underlying 27 with | some (.slice e) => _ | _ => [])
        rw [Tryd.underlying27]
        simp only [List.length_map, hbz]
        exact List.mem_cons_self)
      omega
    · obtain ⟨i, hi, rfl⟩ := List.getElem_of_mem hx
      exact (hp i hi).1
    · obtain ⟨i, hi, rfl⟩ := List.getElem_of_mem hx
      obtain ⟨_, _, hie, he⟩ := hp i hi
      refine hw _ ?_
      rw [DataW.weights]
      show _ ∈ (match Tryd.prog.underlying 27 with | some (.slice e) => _ | _ => [])
      rw [Tryd.underlying27]
      refine List.mem_cons_of_mem _ (List.mem_append_left _ (weights_mem (d := (elems[i]).1) (List.mem_map.2 ⟨_, List.getElem_mem _, rfl⟩) ?_))
      rw [he]
      have h1 : xs[i].size = xs[i].data.toList.length := size_list _
      rw [h1]
      exact List.mem_singleton.2 rfl
theorem open_strs {H : Type} {enc : TypeId × Value → H} {W : World} {base : Nat} {v : Value} {d : DataW H} {p : List MemPlace} (hv : Value.okWide Tryd.prog W .any base 27 v) (h : DataW.Trod enc Tryd.prog W 0 (fun _ => true) true 27 v d p) :
    ∃ xs, (∀ n ∈ d.weights Tryd.prog 27, n ≤ 140737488351232) → Strs W v xs ∧ ∀ x ∈ xs, x.size ≤ 140737488351232 := by
  have hv' : Cell.okWide Tryd.prog W .any base 27 v := by
    have := hv
    simp only [Value.okWide, Tryd.underlying27] at this
    exact this
  obtain ⟨fuel, hf⟩ := h
  obtain ⟨ad, len, cap, rfl⟩ := okWide_slice Tryd.underlying27 hv
  exact strs_of_trod hv' hf
theorem strs_again {H : Type} {enc : TypeId × Value → H} {W W' : World} {v : Value} {d : DataW H} {p : List MemPlace} (h : DataW.Trod enc Tryd.prog W 0 (fun _ => true) true 27 v d p) (hb : Below W.heap.size W W') (hlt : ∀ x ∈ p, x.block < W.heap.size) :
    DataW.Trod enc Tryd.prog W' 0 (fun b => decide (b < W.heap.size)) true 27 v d p :=
  Below.trod laidOut (by kernel_rfl) (of_decide_eq_true (by kernel_rfl)) h hb hlt
end Go.Proofs.YtondmjnagkldpaaDoor
