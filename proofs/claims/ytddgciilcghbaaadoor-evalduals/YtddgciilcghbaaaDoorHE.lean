/- EvalDuals: F, G, W, M are what they are by U and R; the negations of U, R, W, F, X, and of an implication and an equivalence; X goes into U, M and G: at each place of a word both formulas of each pair hold or neither. Conditions: none but that the listed package variable is as the program's text lays it, which the card ties. -/
import Derived.Test.YtddgciilcghbaaaDoorTrSize
import Derived.Deep.Strs
import Derived.Test.YtddgciilcghbaaaDoorTrForm
import Derived.ProofKit
import Derived.OpenShut
import Derived.LaidMore
import Derived.Lay
import Derived.SevenTiedAt
import Derived.Stop.Joined
import Derived.Stop.LaidErr
import Derived.Lib.LaidTab
import Derived.Test.YtddgciilcghbaaaDoorRows
import Derived.Test.YtddgciilcghbaaaDoorTrWeight
import Derived.Test.YtddgciilcghbaaaDoorWdSmall
import Derived.Test.YtddgciilcghbaaaDoorEvStr
import Derived.Carry
import Derived.Test.YtddgciilcghbaaaDoorHD
import Derived.Test.YtddgciilcghbaaaDoorCards
import Derived.Test.YtddgciilcghbaaaDoorTie
namespace Go.Proofs.YtddgciilcghbaaaDoor
open Go.RowKit Go.Shelf

theorem list_of_each {α : Type} {p : Nat → α → Prop} : ∀ n, (∀ i, i < n → ∃ x, p i x) → ∃ l : List α, l.length = n ∧ ∀ i (h : i < l.length), p i l[i]
  | 0, _ => ⟨[], rfl, fun i h => by simp at h⟩
  | n + 1, h => by
    obtain ⟨l, hl, hp⟩ := list_of_each n (fun i hi => h i (by omega))
    obtain ⟨x, hx⟩ := h n (by omega)
    refine ⟨l ++ [x], by simp [hl], fun i hi => ?_⟩
    by_cases hin : i < l.length
    · rw [List.getElem_append_left hin]; exact hp i hin
    · have : i = n := by simp [hl] at hi; omega
      subst this
      rw [List.getElem_append_right (by omega)]
      simpa [hl] using hx
theorem add3 (b off i c : Nat) : ((⟨b, off, none⟩ : Addr).add (i * 3)).add c = ⟨b, off + i * 3 + c, none⟩ := by
  unfold Addr.add
  split <;> split <;> simp_all <;> omega
theorem wf_u8 {n : Int} (h : (Lit.int .u8 n).wf = true) : ∃ o : Nat, n = (o : Int) ∧ o < 256 := by
  have h1 : 0 ≤ n ∧ n ≤ 255 := by
    have h2 : (decide ((0 : Int) ≤ n) && decide (n ≤ 255)) = true := h
    simpa using h2
  exact ⟨n.toNat, by omega, by omega⟩

theorem weights_mem {H : Type} {P : Program} {e : TypeId} {n : Nat} : ∀ {l : List (DataW H)} {d : DataW H}, d ∈ l → n ∈ d.weights P e → n ∈ DataW.weightsAll P e l
  | x :: l, d, h, hn => by
    rw [DataW.weightsAll]
    rcases List.mem_cons.1 h with rfl | h
    · exact List.mem_append_left _ hn
    · exact List.mem_append_right _ (weights_mem h hn)

set_option maxRecDepth 100000 in
theorem trod_tree {H : Type} {enc : TypeId × Value → H} {w : World} {base : Nat} {spare : Nat → Bool} {held : Bool} : ∀ (fuel : Nat) (cs : List Value) (x : DataW H × List MemPlace), DataW.trod enc Tryd.prog w base spare held fuel 25 cs = some x →
    ∃ (t : Tr) (kv : Value), cs = [.int .u8 (t.op : Nat), .string t.name, kv] ∧ IsT (fun _ => True) w t kv ∧ t.Fine ∧ ((∀ n ∈ x.1.weights Tryd.prog 25, n ≤ 140737488351232) → t.All (fun x => x.name.size ≤ 140737488351232)) := by
  intro fuel
  induction fuel using Nat.strongRecOn with
  | _ fuel ih =>
    intro cs x h
    obtain ⟨xs, n, rfl, rfl, hl, hlen, hf⟩ := DataW.trod_struct Tryd.underlying25 h
    have h0 := hf 0 _ rfl
    have h1 := hf 1 _ rfl
    have h2 := hf 2 _ rfl
    have hl3 : cs.length = 3 := hl.trans (by kernel_rfl)
    have hx3 : xs.length = 3 := hlen
    clear hf hlen hl
    match cs, hl3, xs, hx3 with
    | [c0, c1, c2], _, [y0, y1, y2], _ =>
      obtain ⟨o, e0, _, hw0⟩ := DataW.trod_int (k := .u8) (by kernel_rfl) h0
      obtain ⟨s, e1, rfl, hs1⟩ := DataW.trod_string (by kernel_rfl) h1
      obtain ⟨op, rfl, hop⟩ := wf_u8 hw0
      have e0' : c0 = .int .u8 (op : Nat) := by
        have : [c0] = [Value.int .u8 (op : Nat)] := e0
        simpa using this
      have e1' : c1 = .string s := by
        have : [c1] = [Value.string s] := e1
        simpa using this
      subst e0' e1'
      have hwt : ∀ n, (n = s.size ∨ n ∈ y2.1.weights Tryd.prog 23) → n ∈ (DataW.agg ([y0, (.lit (.string s.data.toList), []), y2].map (·.1)) : DataW H).weights Tryd.prog 25 := by
        intro n hn
        rw [DataW.weights, Tryd.underlying25]
        show n ∈ y0.1.weights Tryd.prog 22 ++ ([s.data.toList.length] ++ (y2.1.weights Tryd.prog 23 ++ []))
        rcases hn with rfl | hn
        · exact List.mem_append_right _ (List.mem_append_left _ (List.mem_singleton.2 (by rw [Array.length_toList]; rfl)))
        · exact List.mem_append_right _ (List.mem_append_right _ (List.mem_append_left _ hn))
      rcases DataW.trod_slice (e := 25) (by kernel_rfl) h2 with ⟨e2, _⟩ | ⟨a, len, cap, elems, rest, m, rfl, e2, rfl, hb, hlc, hcm, hel, hE, _, _⟩
      · have e2' : c2 = .slice none 0 0 := by
          have : [c2] = [Value.slice none 0 0] := e2
          simpa using this
        subst e2'
        exact ⟨⟨op, s, []⟩, _, rfl, IsT.leaf _ _ rfl _ _, (Tr.all_eq _).2 ⟨⟨hop, hs1⟩, fun k hk => by cases hk⟩, fun hw => (Tr.all_eq _).2 ⟨hw _ (hwt _ (.inl rfl)), fun k hk => by cases hk⟩⟩
      · have e2' : c2 = .slice (some a) len cap := by
          have : [c2] = [Value.slice (some a) len cap] := e2
          simpa using this
        subst e2'
        have key : ∀ i, i < len → ∃ t : Tr, ∃ kv, w.cell? ((a.add (i * 3)).add 0) = some (.int .u8 (t.op : Nat)) ∧ w.cell? ((a.add (i * 3)).add 1) = some (.string t.name) ∧ w.cell? ((a.add (i * 3)).add 2) = some kv ∧ IsT (fun _ => True) w t kv ∧ t.Fine ∧ (∀ y, elems[i]? = some y → (∀ n ∈ y.1.weights Tryd.prog 25, n ≤ 140737488351232) → t.All (fun x => x.name.size ≤ 140737488351232)) := by
          intro i hi
          have hE' := hE i hi
          rw [List.getElem?_eq_getElem (by omega)] at hE' ⊢
          obtain ⟨cs', g1, g2⟩ := Option.bind_eq_some_iff.1 hE'
          obtain ⟨t, kv, rfl, hT, hF, hM⟩ := ih m (by omega) _ _ g2
          obtain ⟨_, _, hc⟩ := World.cells?_some g1
          have hcz : Tryd.prog.cellsOf 25 = 3 := by kernel_rfl
          rw [hcz] at hc
          exact ⟨t, kv, hc 0 (by omega), hc 1 (by omega), hc 2 (by omega), hT, hF, fun y hy => by cases hy; exact hM⟩
        rcases Nat.eq_zero_or_pos len with rfl | hpos
        · exact ⟨⟨op, s, []⟩, _, rfl, IsT.leaf _ _ rfl _ _, (Tr.all_eq _).2 ⟨⟨hop, hs1⟩, fun k hk => by cases hk⟩, fun hw => (Tr.all_eq _).2 ⟨hw _ (hwt _ (.inl rfl)), fun k hk => by cases hk⟩⟩
        · obtain ⟨b, off, rfl⟩ : ∃ b off, a = ⟨b, off, none⟩ := by
            obtain ⟨t, kv, c0, _⟩ := key 0 hpos
            simp only [Nat.zero_mul, Addr.add, if_true] at c0
            obtain ⟨b, off, sp⟩ := a
            cases sp with
            | none => exact ⟨b, off, rfl⟩
            | some z =>
              exfalso
              simp only [World.cell?] at c0
              split at c0 <;> simp at c0
          obtain ⟨ks, hks, hkp⟩ := list_of_each len key
          refine ⟨⟨op, s, ks⟩, _, rfl, (isT_eq _ _).2 ⟨some ⟨b, off, none⟩, cap, by rw [← hks], .inr ⟨b, off, rfl, trivial, fun i hi => ?_⟩⟩, (Tr.all_eq _).2 ⟨⟨hop, hs1⟩, fun k hk => ?_⟩, fun hw => (Tr.all_eq _).2 ⟨hw _ (hwt _ (.inl rfl)), fun k hk => ?_⟩⟩
          · obtain ⟨kv, c0, c1, c2, hT, _⟩ := hkp i hi
            rw [add3] at c0 c1 c2
            exact ⟨kv, c0, c1, c2, hT⟩
          · obtain ⟨i, hi, rfl⟩ := List.getElem_of_mem hk
            obtain ⟨kv, _, _, _, _, hF, _⟩ := hkp i hi
            exact hF
          · obtain ⟨i, hi, rfl⟩ := List.getElem_of_mem hk
            obtain ⟨kv, _, _, _, _, _, hM⟩ := hkp i hi
            have hi2 : i < elems.length := by have : i < ks.length := hi; omega
            refine hM _ (List.getElem?_eq_getElem hi2) fun n hn => hw n (hwt n (.inr ?_))
            rw [DataW.weights]
            show n ∈ (match Tryd.prog.underlying 23 with | some (.slice e) => _ | _ => [])
            rw [Tryd.underlying23]
            refine List.mem_cons_of_mem _ (List.mem_append_left _ (weights_mem (d := elems[i].1) (List.mem_map.2 ⟨_, List.getElem_mem _, rfl⟩) hn))
end Go.Proofs.YtddgciilcghbaaaDoor

/- The listed variable: a start that has it, and what it gives. -/
namespace Go.Proofs.YtddgciilcghbaaaDoor
open Go.ChangeShapes Go.WideShapes Go.ChangeAt Go.RowKit Go.Shelf

def laidTab : List (String × DataW Unit) := Rows.evalDualsRow.laid
theorem own : ownKnob Tryd.prog.godebug = none := by kernel_rfl
theorem laidOut : laidOutB Tryd.prog = true := by kernel_rfl
theorem tab_plain (W : World) : laidMetH Tryd.prog laidTab W = laidMet Tryd.prog laidTab W := MakeChecks.laidMetH_plain _ _ _ (by kernel_rfl)
theorem tab_shape (os : Os) : (World.laidAll Tryd.prog os laidTab).Shaped Tryd.prog := World.shaped_of_ZipB (by kernel_rfl) (by kernel_rfl)
theorem tab_met (os : Os) (args : Array Value) : laidMetH Tryd.prog laidTab ((World.laidAll Tryd.prog os laidTab).forCall (fun _ _ => 0) ⟨#[], args, []⟩).memory := by
  rw [tab_plain]
  exact laidMet_laidAll _ (by kernel_rfl) (by kernel_rfl)
theorem gKids : Tryd.prog.globalNamed "augur/tree.kidsOf" = some 1 := by kernel_rfl
theorem kids_at : ∀ i, i < 22 → (kidsL.map fun (n : Nat) => (n : Int)).getD i 0 = ((kidsN i : Nat) : Int) := by decide
theorem kids_of_laid {W : World} (h : laidMetH Tryd.prog laidTab W) : KidsTab W := by
  rw [tab_plain] at h
  have ht : Lib.TabIs Tryd.prog W "augur/tree.kidsOf" .i64 (kidsL.map fun (n : Nat) => (n : Int)) :=
    Lib.tabIs_of_head (t := 153) (e := 3) (n := 22) gKids (by kernel_rfl) (by kernel_rfl) (by kernel_rfl) (by kernel_rfl) (by kernel_rfl) h
  intro i hi
  rw [ht.cell gKids i (by simpa [kidsL] using hi), kids_at i hi]
end Go.Proofs.YtddgciilcghbaaaDoor

/- A law's formulas, names and word among the arguments: from their reading to what the walks ask. -/
namespace Go.Proofs.YtddgciilcghbaaaDoor
open Go.ChangeShapes Go.WideShapes Go.ChangeAt Go.RowKit Go.Shelf
set_option maxRecDepth 100000

set_option maxRecDepth 100000 in
theorem open_tree {H : Type} {enc : TypeId × Value → H} {W : World} {base : Nat} {v : Value} {d : DataW H} {p : List MemPlace} (hv : Value.okWide Tryd.prog W .any base 25 v) (h : DataW.Trod enc Tryd.prog W 0 (fun _ => true) true 25 v d p) :
    ∃ t kv, v = .agg #[.int .u8 (t.op : Nat), .string t.name, kv] ∧ IsF W t kv ∧ t.Fine ∧ ((∀ n ∈ d.weights Tryd.prog 25, n ≤ 140737488351232) → t.Modest) := by
  obtain ⟨cs, rfl, _⟩ := okWide_struct Tryd.underlying25 hv
  obtain ⟨fuel, hf⟩ := h
  obtain ⟨t, kv, e, hT, hF, hM⟩ := trod_tree fuel _ _ hf
  have e' : cs.toList = [.int .u8 (t.op : Nat), .string t.name, kv] := e
  refine ⟨t, kv, ?_, IsT.isF hT, hF, hM⟩
  congr 1
  exact Array.toList_inj.1 e'
theorem tree_again {H : Type} {enc : TypeId × Value → H} {W W' : World} {v : Value} {d : DataW H} {p : List MemPlace} (h : DataW.Trod enc Tryd.prog W 0 (fun _ => true) true 25 v d p) (hb : Below W.heap.size W W') (hlt : ∀ x ∈ p, x.block < W.heap.size) :
    DataW.Trod enc Tryd.prog W' 0 (fun b => decide (b < W.heap.size)) true 25 v d p :=
  Below.trod laidOut (by kernel_rfl) (of_decide_eq_true (by kernel_rfl)) h hb hlt
theorem each_weight {H : Type} {P : Program} : ∀ {ts : List TypeId} {ds : List (DataW H)}, (DataW.weightsEach P ts ds).all (· ≤ reachBytes) = true → ∀ (i : Nat) t d, ts[i]? = some t → ds[i]? = some d → ∀ n ∈ d.weights P t, n ≤ 140737488351232
  | [], _, _, i, t, d, ht, _, _, _ => by simp at ht
  | _ :: _, [], _, i, t, d, _, hd, _, _ => by simp at hd
  | t :: ts, d :: ds, h, 0, t', d', ht, hd, n, hn => by
    simp only [List.getElem?_cons_zero, Option.some.injEq] at ht hd
    subst ht hd
    rw [DataW.weightsEach, List.all_append, Bool.and_eq_true] at h
    have := List.all_eq_true.1 h.1 n hn
    have h2 : n ≤ reachBytes := of_decide_eq_true this
    exact h2
  | t :: ts, d :: ds, h, i + 1, t', d', ht, hd, n, hn => by
    simp only [List.getElem?_cons_succ] at ht hd
    rw [DataW.weightsEach, List.all_append, Bool.and_eq_true] at h
    exact each_weight h.2 i t' d' ht hd n hn
theorem wf_u16 {n : Int} (h : (Lit.int .u16 n).wf = true) : ∃ o : Nat, n = (o : Int) ∧ o < 65536 := by
  have h1 : 0 ≤ n ∧ n ≤ 65535 := by
    have h2 : (decide ((0 : Int) ≤ n) && decide (n ≤ 65535)) = true := h
    simpa using h2
  exact ⟨n.toNat, by omega, by omega⟩
theorem spot_none {W : World} {base : Nat} {a : Addr} {len cap : Nat} (h : Cell.okWide Tryd.prog W .any base 27 (.slice (some a) len cap)) : a.spot = none := by
  simp only [Cell.okWide, Tryd.underlying27, Cell.ok] at h
  exact h.2.2.2.1
set_option maxRecDepth 100000 in
theorem lets_of_trod {H : Type} {enc : TypeId × Value → H} {W : World} {base fuel : Nat} {c : Value} {y : DataW H × List MemPlace} (hok : Cell.okWide Tryd.prog W .any base 27 c) (h : DataW.trod enc Tryd.prog W 0 (fun _ => true) true fuel 27 [c] = some y) :
    ∃ xs, (∀ n ∈ y.1.weights Tryd.prog 27, n ≤ 140737488351232) → Lets W c xs := by
  rcases DataW.trod_slice (e := 52) Tryd.underlying27 h with ⟨e2, _⟩ | ⟨a, len, cap, elems, rest, m, rfl, e2, rfl, hb, hlc, hcm, hel, hE, _, _⟩
  · have e2' : c = .slice none 0 0 := by simpa using e2
    subst e2'
    exact ⟨[], fun _ => Lets.nil W⟩
  · have e2' : c = .slice (some a) len cap := by simpa using e2
    subst e2'
    have hs := spot_none hok
    obtain ⟨b, off, sp⟩ := a
    simp only at hs
    subst hs
    have hcz : Tryd.prog.cellsOf 52 = 1 := by kernel_rfl
    have key : ∀ i, i < len → ∃ x : Nat, x < 65536 ∧ W.cell? ⟨b, off + i, none⟩ = some (.int .u16 (x : Nat)) := by
      intro i hi
      have hE' := hE i hi
      rw [List.getElem?_eq_getElem (by omega)] at hE'
      obtain ⟨cs', g1, g2⟩ := Option.bind_eq_some_iff.1 hE'
      obtain ⟨o, e0, _, hw0⟩ := DataW.trod_int (k := .u16) Tryd.underlying52 g2
      obtain ⟨x, rfl, hx⟩ := wf_u16 hw0
      obtain ⟨_, _, hc⟩ := World.cells?_some g1
      rw [hcz] at hc
      have h0 := hc 0 (by omega)
      rw [e0] at h0
      have ea : ((⟨b, off, none⟩ : Addr).add (i * 1)).add 0 = ⟨b, off + i, none⟩ := by
        unfold Addr.add
        split <;> split <;> simp_all
      rw [ea] at h0
      exact ⟨x, hx, h0⟩
    obtain ⟨xs, hxs, hp⟩ := list_of_each len key
    refine ⟨xs, fun hw => ⟨fun x hx => ?_, ?_, .inr ⟨b, off, cap, by rw [hxs], by omega, hcm, fun i hi => ?_⟩⟩⟩
    · obtain ⟨i, hi, rfl⟩ := List.getElem_of_mem hx
      exact (hp i hi).1
    · have hbz : Tryd.prog.bytesOf 52 = 2 := by kernel_rfl
      have := hw ((elems.length + rest.length) * 2) (by
        rw [DataW.weights]
        show _ ∈ (match Tryd.prog.underlying 27 with | some (.slice e) => _ | _ => [])
        rw [Tryd.underlying27]
        simp only [List.length_map, hbz]
        exact List.mem_cons_self)
      omega
    · rw [(hp i hi).2, List.getD_eq_getElem?_getD, List.getElem?_eq_getElem hi]
      rfl
set_option maxRecDepth 100000 in
theorem open_word {H : Type} {enc : TypeId × Value → H} {W : World} {base : Nat} {v : Value} {d : DataW H} {p : List MemPlace} (hv : Value.okWide Tryd.prog W .any base 29 v) (h : DataW.Trod enc Tryd.prog W 0 (fun _ => true) true 29 v d p) :
    ∃ (sv lv : Value) (q : Wd), v = .agg #[sv, lv] ∧ ((∀ n ∈ d.weights Tryd.prog 29, n ≤ 140737488351232) → Lets W sv q.stem ∧ Lets W lv q.loop) := by
  have hv' := hv
  simp only [Value.okWide, Tryd.underlying29] at hv'
  obtain ⟨cs, rfl, hsz, ts, hts, _, hok⟩ := hv'
  have hts' : Tryd.prog.cellTypes Tryd.prog.depth 29 = some [27, 27] := by kernel_rfl
  rw [hts'] at hts
  cases hts
  have hs2 : cs.size = 2 := hsz.trans (by kernel_rfl)
  obtain ⟨fuel, hf0⟩ := h
  obtain ⟨xs, n, rfl, hdp, hl, hlen, hf⟩ := DataW.trod_struct Tryd.underlying29 hf0
  clear hf0
  obtain ⟨rfl, rfl⟩ := Prod.mk.inj hdp
  have h0 := hf 0 _ rfl
  have h1 := hf 1 _ rfl
  have hx2 : xs.length = 2 := hlen
  clear hf hlen hl
  obtain ⟨cs⟩ := cs
  match cs, hs2, xs, hx2 with
  | [c0, c1], _, [y0, y1], _ =>
    have k0 : Cell.okWide Tryd.prog W .any base 27 c0 := by
      obtain ⟨u, hu, hk⟩ := hok 0 c0 rfl
      cases hu
      exact hk
    have k1 : Cell.okWide Tryd.prog W .any base 27 c1 := by
      obtain ⟨u, hu, hk⟩ := hok 1 c1 rfl
      cases hu
      exact hk
    obtain ⟨s, hs⟩ := lets_of_trod k0 h0
    obtain ⟨l, hl⟩ := lets_of_trod k1 h1
    refine ⟨c0, c1, ⟨s, l⟩, rfl, fun hw => ?_⟩
    have hwt : ∀ n, (n ∈ y0.1.weights Tryd.prog 27 ∨ n ∈ y1.1.weights Tryd.prog 27) → n ∈ (DataW.agg ([y0, y1].map (·.1)) : DataW H).weights Tryd.prog 29 := by
      intro n hn
      rw [DataW.weights, Tryd.underlying29]
      show n ∈ y0.1.weights Tryd.prog 27 ++ (y1.1.weights Tryd.prog 27 ++ [])
      rcases hn with hn | hn
      · exact List.mem_append_left _ hn
      · exact List.mem_append_right _ (List.mem_append_left _ hn)
    exact ⟨hs fun n hn => hw n (hwt n (.inl hn)), hl fun n hn => hw n (hwt n (.inr hn))⟩
theorem word_again {H : Type} {enc : TypeId × Value → H} {W W' : World} {v : Value} {d : DataW H} {p : List MemPlace} (h : DataW.Trod enc Tryd.prog W 0 (fun _ => true) true 29 v d p) (hb : Below W.heap.size W W') (hlt : ∀ x ∈ p, x.block < W.heap.size) :
    DataW.Trod enc Tryd.prog W' 0 (fun b => decide (b < W.heap.size)) true 29 v d p :=
  Below.trod laidOut (by kernel_rfl) (of_decide_eq_true (by kernel_rfl)) h hb hlt
theorem size_list (x : ByteArray) : x.size = x.data.toList.length := Array.length_toList.symm
theorem spot_noneS {W : World} {base : Nat} {a : Addr} {len cap : Nat} (h : Cell.okWide Tryd.prog W .any base 26 (.slice (some a) len cap)) : a.spot = none := by
  simp only [Cell.okWide, Tryd.underlying26, Cell.ok] at h
  exact h.2.2.2.1
set_option maxRecDepth 100000 in
theorem strs_of_trod {H : Type} {enc : TypeId × Value → H} {W : World} {base fuel : Nat} {c : Value} {y : DataW H × List MemPlace} (hok : Cell.okWide Tryd.prog W .any base 26 c) (h : DataW.trod enc Tryd.prog W 0 (fun _ => true) true fuel 26 [c] = some y) :
    ∃ xs, (∀ n ∈ y.1.weights Tryd.prog 26, n ≤ 140737488351232) → Strs W c xs ∧ ∀ x ∈ xs, x.size ≤ 140737488351232 := by
  rcases DataW.trod_slice (e := 9) Tryd.underlying26 h with ⟨e2, _⟩ | ⟨a, len, cap, elems, rest, m, rfl, e2, rfl, hb, hlc, hcm, hel, hE, _, _⟩
  · have e2' : c = .slice none 0 0 := by simpa using e2
    subst e2'
    exact ⟨[], fun _ => ⟨⟨by simp, by simp, .inl ⟨rfl, rfl⟩⟩, by simp⟩⟩
  · have e2' : c = .slice (some a) len cap := by simpa using e2
    subst e2'
    have hs := spot_noneS hok
    obtain ⟨b, off, sp⟩ := a
    simp only at hs
    subst hs
    have hcz : Tryd.prog.cellsOf 9 = 1 := by kernel_rfl
    have key : ∀ i, i < len → ∃ x : ByteArray, x.size ≤ maxLen ∧ W.cell? ⟨b, off + i, none⟩ = some (.string x) ∧ ∃ h : i < elems.length, (elems[i]).1 = .lit (.string x.data.toList) := by
      intro i hi
      have hE' := hE i hi
      rw [List.getElem?_eq_getElem (by omega)] at hE'
      obtain ⟨cs', g1, g2⟩ := Option.bind_eq_some_iff.1 hE'
      obtain ⟨x, e0, ex, hw0⟩ := DataW.trod_string Tryd.underlying9 g2
      obtain ⟨_, _, hc⟩ := World.cells?_some g1
      rw [hcz] at hc
      have h0 := hc 0 (by omega)
      rw [e0] at h0
      have ea : ((⟨b, off, none⟩ : Addr).add (i * 1)).add 0 = ⟨b, off + i, none⟩ := by
        unfold Addr.add
        split <;> split <;> simp_all
      rw [ea] at h0
      exact ⟨x, hw0, h0, by omega, by rw [ex]⟩
    obtain ⟨xs, hxs, hp⟩ := list_of_each len key
    refine ⟨xs, fun hw => ⟨⟨?_, fun x hx => ?_, .inr ⟨b, off, cap, by rw [hxs], by omega, hcm, fun i hi => (hp i hi).2.1⟩⟩, fun x hx => ?_⟩⟩
    · have hbz : Tryd.prog.bytesOf 9 = 16 := by kernel_rfl
      have := hw ((elems.length + rest.length) * 16) (by
        rw [DataW.weights]
        show _ ∈ (match Tryd.prog.underlying 26 with | some (.slice e) => _ | _ => [])
        rw [Tryd.underlying26]
        simp only [List.length_map, hbz]
        exact List.mem_cons_self)
      omega
    · obtain ⟨i, hi, rfl⟩ := List.getElem_of_mem hx
      exact (hp i hi).1
    · obtain ⟨i, hi, rfl⟩ := List.getElem_of_mem hx
      obtain ⟨_, _, hie, he⟩ := hp i hi
      refine hw _ ?_
      rw [DataW.weights]
      show _ ∈ (match Tryd.prog.underlying 26 with | some (.slice e) => _ | _ => [])
      rw [Tryd.underlying26]
      refine List.mem_cons_of_mem _ (List.mem_append_left _ (weights_mem (d := (elems[i]).1) (List.mem_map.2 ⟨_, List.getElem_mem _, rfl⟩) ?_))
      rw [he]
      have h1 : xs[i].size = xs[i].data.toList.length := size_list _
      rw [h1]
      exact List.mem_singleton.2 rfl
theorem open_strs {H : Type} {enc : TypeId × Value → H} {W : World} {base : Nat} {v : Value} {d : DataW H} {p : List MemPlace} (hv : Value.okWide Tryd.prog W .any base 26 v) (h : DataW.Trod enc Tryd.prog W 0 (fun _ => true) true 26 v d p) :
    ∃ xs, (∀ n ∈ d.weights Tryd.prog 26, n ≤ 140737488351232) → Strs W v xs ∧ ∀ x ∈ xs, x.size ≤ 140737488351232 := by
  have hv' : Cell.okWide Tryd.prog W .any base 26 v := by
    have := hv
    simp only [Value.okWide, Tryd.underlying26] at this
    exact this
  obtain ⟨fuel, hf⟩ := h
  obtain ⟨ad, len, cap, rfl⟩ := okWide_slice Tryd.underlying26 hv
  exact strs_of_trod hv' hf
theorem strs_again {H : Type} {enc : TypeId × Value → H} {W W' : World} {v : Value} {d : DataW H} {p : List MemPlace} (h : DataW.Trod enc Tryd.prog W 0 (fun _ => true) true 26 v d p) (hb : Below W.heap.size W W') (hlt : ∀ x ∈ p, x.block < W.heap.size) :
    DataW.Trod enc Tryd.prog W' 0 (fun b => decide (b < W.heap.size)) true 26 v d p :=
  Below.trod laidOut (by kernel_rfl) (of_decide_eq_true (by kernel_rfl)) h hb hlt
end Go.Proofs.YtddgciilcghbaaaDoor

namespace Go.Proofs.YtddgciilcghbaaaDoor
open Go.ChangeShapes Go.WideShapes Go.ChangeAt Go.WideMaps Go.WideElems Go.RowKit Go.Shelf

set_option maxRecDepth 100000 in
theorem evalDuals_lifted (os : Os) (started : os.Started) (H : Type) (enc : TypeId × Value → H) :
    ReturnsInHanded {} Tryd.checked os 3 .any (fun w args => (Rows.evalDualsSpec.pre enc Tryd.prog Tryd.f3 [] false w args ∧ laidMetH Tryd.prog laidTab w) ∧ sizedMet enc Tryd.prog Tryd.f3 (OpenSpec.ofChange Rows.evalDualsSpec) false w args)
      (Rows.evalDualsSpec.post enc Tryd.prog Tryd.f3 false true false false) := by
  refine returnsInHanded_of_change_and (C := Tryd.checked) (X := fun w _ => laidMetH Tryd.prog laidTab w) (fun _ _ _ hh h => h.of_heap hh) own started (by kernel_rfl) Tryd.func3
    (ChangeSpec.witness_shaped (enc := enc) (C := Tryd.checked) (os := os) (X := fun w _ => laidMetH Tryd.prog laidTab w) false (World.laidAll Tryd.prog os laidTab) #[.agg #[.int .u8 0, .string ⟨#[]⟩, .slice none 0 0], .agg #[.int .u8 0, .string ⟨#[]⟩, .slice none 0 0], .slice none 0 0, .agg #[.slice none 0 0, .slice none 0 0]] 8 (World.laidAll_os _ _ _) (tab_shape os) (by kernel_rfl) (by kernel_rfl) (by kernel_rfl) (tab_met os _)) ?_
  intro W base args ds gs before hval0 hW _ hsz0 hL _
  have hW' := hW
  obtain ⟨p, q, hA0, hV, rfl, hfz, hnd⟩ := hW
  have hA : DataW.TrodAll enc Tryd.prog W 0 (fun _ => true) true Tryd.f3.params.toList args.toList ds p := hA0
  have hval : ∀ (j : Nat) t v, Tryd.f3.params[j]? = some t → args[j]? = some v → Value.okWide Tryd.prog W .any base t v := hval0
  have hsz : (DataW.weightsEach Tryd.prog (Tryd.f3.params.toList ++ Rows.evalDualsSpec.plain.varTypes Tryd.prog) (ds ++ gs)).all (· ≤ reachBytes) = true := hsz0
  rw [Tryd.params3] at hA hval hsz
  obtain ⟨v0, v1, v2, v3, d0, d1, d2, d3, p0, p1, p2, p3, rfl, rfl, rfl, h0, h1, h2, h3⟩ := trodAll_four hA
  obtain ⟨rfl, rfl⟩ := trodVars_none hV
  obtain ⟨t0, k0, rfl, i0, f0, m0⟩ := open_tree (hval 0 25 v0 rfl rfl) h0
  have m0 := m0 (each_weight hsz 0 25 d0 rfl rfl)
  obtain ⟨t1, k1, rfl, i1, f1, m1⟩ := open_tree (hval 1 25 v1 rfl rfl) h1
  have m1 := m1 (each_weight hsz 1 25 d1 rfl rfl)
  obtain ⟨x2, i2⟩ := open_strs (hval 2 26 v2 rfl rfl) h2
  have i2 := i2 (each_weight hsz 2 26 d2 rfl rfl)
  obtain ⟨sv3, lv3, q3, rfl, i3⟩ := open_word (hval 3 29 v3 rfl rfl) h3
  have i3 := i3 (each_weight hsz 3 29 d3 rfl rfl)
  clear hA0 hval0 hsz0 hsz
  simp only [List.append_nil] at hW'
  have l0 : ∀ x ∈ p0, x.block < W.heap.size := fun x hx => by simpa using hW'.lt x (by simp [hx])
  have l1 : ∀ x ∈ p1, x.block < W.heap.size := fun x hx => by simpa using hW'.lt x (by simp [hx])
  have l2 : ∀ x ∈ p2, x.block < W.heap.size := fun x hx => by simpa using hW'.lt x (by simp [hx])
  have l3 : ∀ x ∈ p3, x.block < W.heap.size := fun x hx => by simpa using hW'.lt x (by simp [hx])
  refine (evalDuals_walk t0 t1 k0 k1 v2 sv3 lv3 x2 q3 W i0 i1 f0 f1 m0 m1 i2.1 i2.2 i3.1 i3.2 (kids_of_laid hL)).mono fun e W' ⟨he, hg⟩ => ?_
  subst he
  have hb := hg.below
  exact ⟨_, rfl, _, _, _, [], _, [], hW', trodAll_mk1 (shut_bool Tryd.underlying4 _), trodAll_mk4 (tree_again h0 hb l0) (tree_again h1 hb l1) (strs_again h2 hb l2) (word_again h3 hb l3), rfl, hb.frame _, fun h => by cases h⟩

theorem evalDuals_holds : Rows.EvalDualsSaid :=
  OpenClaim.holds_of_wide 3 Tryd.f3 rfl rfl rfl rfl rfl rfl rfl ⟨rfl, rfl, rfl, rfl, rfl⟩ rfl rfl rfl rfl rfl (by kernel_rfl) Tryd.func3 (by kernel_rfl)
    (of_decide_eq_true (by kernel_rfl)) (by unfold Func.isWrapper; first | (rw [if_pos (by decide +kernel)]; kernel_rfl) | (rw [if_neg (by decide +kernel)]; exact ⟨rfl, rfl⟩))
    (fun os started H enc _ => evalDuals_lifted os started H enc)

theorem evalDuals_card : Rows.EvalDualsCardSaid :=
  Claim7.holds_tied_plain_at .later [] _ _ _ _ evalDuals_holds (fun _ h => by cases h) (by kernel_rfl) (fun _ h => by cases h) evalDuals_row_tie rfl ⟨rfl, rfl⟩ (by kernel_rfl) rfl
    (fun f fn hf hfn => by
      obtain rfl : f = 3 := Option.some.inj ((show Tryd.prog.funcNamed "augur/augurlaw06.EvalDuals" = some 3 by kernel_rfl).symm.trans hf) |>.symm
      obtain rfl : fn = Tryd.f3 := (Option.some.inj (Tryd.func3.symm.trans hfn)).symm
      exact ⟨by kernel_rfl, fun j t ht => by
        rw [Tryd.params3] at ht
        have hm : t ∈ [25, 25, 26, 29] := by simpa using Array.mem_of_getElem? ht
        have hall : ([25, 25, 26, 29].all fun u => !Tryd.prog.wantsStandIn u) = true := by kernel_rfl
        exact (show Tryd.prog.wantsStandIn t = false by simpa using List.all_eq_true.1 hall t hm)⟩)
    (by kernel_rfl)
end Go.Proofs.YtddgciilcghbaaaDoor
