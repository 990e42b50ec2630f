/- A formula that is handed in, as a tree in memory. -/
import Derived.Test.YtnjajafmmociiaaGreatDoorTrSize
import Derived.Deep.Strs
import Derived.Test.YtnjajafmmociiaaGreatDoorTrNum
import Derived.ProofKit
import Derived.OpenShut
import Derived.LaidMore
import Derived.Lay
import Derived.SevenTiedAt
import Derived.Stop.Joined
import Derived.Stop.LaidErr
import Derived.Lib.LaidTab
import Derived.Test.YtnjajafmmociiaaGreatDoorRows
import Derived.Test.YtnjajafmmociiaaGreatDoorGM
import Derived.Test.YtnjajafmmociiaaGreatDoorGE
import Derived.Carry
namespace Go.Proofs.YtnjajafmmociiaaGreatDoor
open Go.RowKit Go.Shelf

theorem list_of_each {α : Type} {p : Nat → α → Prop} : ∀ n, (∀ i, i < n → ∃ x, p i x) → ∃ l : List α, l.length = n ∧ ∀ i (h : i < l.length), p i l[i]
  | 0, _ => ⟨[], rfl, fun i h => by simp at h⟩
  | n + 1, h => by
    obtain ⟨l, hl, hp⟩ := list_of_each n (fun i hi => h i (by omega))
    obtain ⟨x, hx⟩ := h n (by omega)
    refine ⟨l ++ [x], by simp [hl], fun i hi => ?_⟩
    by_cases hin : i < l.length
    · rw [List.getElem_append_left hin]; exact hp i hin
    · have : i = n := by simp [hl] at hi; omega
      subst this
      rw [List.getElem_append_right (by omega)]
      simpa [hl] using hx
theorem add3 (b off i c : Nat) : ((⟨b, off, none⟩ : Addr).add (i * 3)).add c = ⟨b, off + i * 3 + c, none⟩ := by
  unfold Addr.add
  split <;> split <;> simp_all <;> omega
theorem wf_u8 {n : Int} (h : (Lit.int .u8 n).wf = true) : ∃ o : Nat, n = (o : Int) ∧ o < 256 := by
  have h1 : 0 ≤ n ∧ n ≤ 255 := by
    have h2 : (decide ((0 : Int) ≤ n) && decide (n ≤ 255)) = true := h
    simpa using h2
  exact ⟨n.toNat, by omega, by omega⟩

theorem weights_mem {H : Type} {P : Program} {e : TypeId} {n : Nat} : ∀ {l : List (DataW H)} {d : DataW H}, d ∈ l → n ∈ d.weights P e → n ∈ DataW.weightsAll P e l
  | x :: l, d, h, hn => by
    rw [DataW.weightsAll]
    rcases List.mem_cons.1 h with rfl | h
    · exact List.mem_append_left _ hn
    · exact List.mem_append_right _ (weights_mem h hn)

set_option maxRecDepth 100000 in
theorem trod_tree {H : Type} {enc : TypeId × Value → H} {w : World} {base : Nat} {spare : Nat → Bool} {held : Bool} : ∀ (fuel : Nat) (cs : List Value) (x : DataW H × List MemPlace), DataW.trod enc Tryz.prog w base spare held fuel 25 cs = some x →
    ∃ (t : Tr) (kv : Value), cs = [.int .u8 (t.op : Nat), .string t.name, kv] ∧ IsT (fun _ => True) w t kv ∧ t.Fine ∧ ((∀ n ∈ x.1.weights Tryz.prog 25, n ≤ 140737488351232) → t.All (fun x => x.name.size ≤ 140737488351232)) := by
  intro fuel
  induction fuel using Nat.strongRecOn with
  | _ fuel ih =>
    intro cs x h
    obtain ⟨xs, n, rfl, rfl, hl, hlen, hf⟩ := DataW.trod_struct Tryz.underlying25 h
    have h0 := hf 0 _ rfl
    have h1 := hf 1 _ rfl
    have h2 := hf 2 _ rfl
    have hl3 : cs.length = 3 := hl.trans (by kernel_rfl)
    have hx3 : xs.length = 3 := hlen
    clear hf hlen hl
    match cs, hl3, xs, hx3 with
    | [c0, c1, c2], _, [y0, y1, y2], _ =>
      obtain ⟨o, e0, _, hw0⟩ := DataW.trod_int (k := .u8) (by kernel_rfl) h0
      obtain ⟨s, e1, rfl, hs1⟩ := DataW.trod_string (by kernel_rfl) h1
      obtain ⟨op, rfl, hop⟩ := wf_u8 hw0
      have e0' : c0 = .int .u8 (op : Nat) := by
        have : [c0] = [Value.int .u8 (op : Nat)] := e0
        simpa using this
      have e1' : c1 = .string s := by
        have : [c1] = [Value.string s] := e1
        simpa using this
      subst e0' e1'
      have hwt : ∀ n, (n = s.size ∨ n ∈ y2.1.weights Tryz.prog 23) → n ∈ (DataW.agg ([y0, (.lit (.string s.data.toList), []), y2].map (·.1)) : DataW H).weights Tryz.prog 25 := by
        intro n hn
        rw [DataW.weights, Tryz.underlying25]
        show n ∈ y0.1.weights Tryz.prog 22 ++ ([s.data.toList.length] ++ (y2.1.weights Tryz.prog 23 ++ []))
        rcases hn with rfl | hn
        · exact List.mem_append_right _ (List.mem_append_left _ (List.mem_singleton.2 (by rw [Array.length_toList]; rfl)))
        · exact List.mem_append_right _ (List.mem_append_right _ (List.mem_append_left _ hn))
      rcases DataW.trod_slice (e := 25) (by kernel_rfl) h2 with ⟨e2, _⟩ | ⟨a, len, cap, elems, rest, m, rfl, e2, rfl, hb, hlc, hcm, hel, hE, _, _⟩
      · have e2' : c2 = .slice none 0 0 := by
          have : [c2] = [Value.slice none 0 0] := e2
          simpa using this
        subst e2'
        exact ⟨⟨op, s, []⟩, _, rfl, IsT.leaf _ _ rfl _ _, (Tr.all_eq _).2 ⟨⟨hop, hs1⟩, fun k hk => by cases hk⟩, fun hw => (Tr.all_eq _).2 ⟨hw _ (hwt _ (.inl rfl)), fun k hk => by cases hk⟩⟩
      · have e2' : c2 = .slice (some a) len cap := by
          have : [c2] = [Value.slice (some a) len cap] := e2
          simpa using this
        subst e2'
        have key : ∀ i, i < len → ∃ t : Tr, ∃ kv, w.cell? ((a.add (i * 3)).add 0) = some (.int .u8 (t.op : Nat)) ∧ w.cell? ((a.add (i * 3)).add 1) = some (.string t.name) ∧ w.cell? ((a.add (i * 3)).add 2) = some kv ∧ IsT (fun _ => True) w t kv ∧ t.Fine ∧ (∀ y, elems[i]? = some y → (∀ n ∈ y.1.weights Tryz.prog 25, n ≤ 140737488351232) → t.All (fun x => x.name.size ≤ 140737488351232)) := by
          intro i hi
          have hE' := hE i hi
          rw [List.getElem?_eq_getElem (by omega)] at hE' ⊢
          obtain ⟨cs', g1, g2⟩ := Option.bind_eq_some_iff.1 hE'
          obtain ⟨t, kv, rfl, hT, hF, hM⟩ := ih m (by omega) _ _ g2
          obtain ⟨_, _, hc⟩ := World.cells?_some g1
          have hcz : Tryz.prog.cellsOf 25 = 3 := by kernel_rfl
          rw [hcz] at hc
          exact ⟨t, kv, hc 0 (by omega), hc 1 (by omega), hc 2 (by omega), hT, hF, fun y hy => by cases hy; exact hM⟩
        rcases Nat.eq_zero_or_pos len with rfl | hpos
        · exact ⟨⟨op, s, []⟩, _, rfl, IsT.leaf _ _ rfl _ _, (Tr.all_eq _).2 ⟨⟨hop, hs1⟩, fun k hk => by cases hk⟩, fun hw => (Tr.all_eq _).2 ⟨hw _ (hwt _ (.inl rfl)), fun k hk => by cases hk⟩⟩
        · obtain ⟨b, off, rfl⟩ : ∃ b off, a = ⟨b, off, none⟩ := by
            obtain ⟨t, kv, c0, _⟩ := key 0 hpos
            simp only [Nat.zero_mul, Addr.add, if_true] at c0
            obtain ⟨b, off, sp⟩ := a
            cases sp with
            | none => exact ⟨b, off, rfl⟩
            | some z =>
              exfalso
              simp only [World.cell?] at c0
              split at c0 <;> simp at c0
          obtain ⟨ks, hks, hkp⟩ := list_of_each len key
          refine ⟨⟨op, s, ks⟩, _, rfl, (isT_eq _ _).2 ⟨some ⟨b, off, none⟩, cap, by rw [← hks], .inr ⟨b, off, rfl, trivial, fun i hi => ?_⟩⟩, (Tr.all_eq _).2 ⟨⟨hop, hs1⟩, fun k hk => ?_⟩, fun hw => (Tr.all_eq _).2 ⟨hw _ (hwt _ (.inl rfl)), fun k hk => ?_⟩⟩
          · obtain ⟨kv, c0, c1, c2, hT, _⟩ := hkp i hi
            rw [add3] at c0 c1 c2
            exact ⟨kv, c0, c1, c2, hT⟩
          · obtain ⟨i, hi, rfl⟩ := List.getElem_of_mem hk
            obtain ⟨kv, _, _, _, _, hF, _⟩ := hkp i hi
            exact hF
          · obtain ⟨i, hi, rfl⟩ := List.getElem_of_mem hk
            obtain ⟨kv, _, _, _, _, _, hM⟩ := hkp i hi
            have hi2 : i < elems.length := by have : i < ks.length := hi; omega
            refine hM _ (List.getElem?_eq_getElem hi2) fun n hn => hw n (hwt n (.inr ?_))
            rw [DataW.weights]
            show n ∈ (match Tryz.prog.underlying 23 with | some (.slice e) => _ | _ => [])
            rw [Tryz.underlying23]
            refine List.mem_cons_of_mem _ (List.mem_append_left _ (weights_mem (d := elems[i].1) (List.mem_map.2 ⟨_, List.getElem_mem _, rfl⟩) hn))
end Go.Proofs.YtnjajafmmociiaaGreatDoor

/- The listed variables: a start that has them, and what they give. -/
namespace Go.Proofs.YtnjajafmmociiaaGreatDoor
open Go.ChangeShapes Go.WideShapes Go.ChangeAt Go.RowKit Go.Shelf

def laidTab : List (String × DataW Unit) := Rows.treeRenamesRow.laid
theorem own : ownKnob Tryz.prog.godebug = none := by kernel_rfl
theorem laidOut : laidOutB Tryz.prog = true := by kernel_rfl
theorem tab_plain (W : World) : laidMetH Tryz.prog laidTab W = laidMet Tryz.prog laidTab W := MakeChecks.laidMetH_plain _ _ _ (by kernel_rfl)
theorem tab_shape (os : Os) : (World.laidAll Tryz.prog os laidTab).Shaped Tryz.prog := World.shaped_of_ZipB (by kernel_rfl) (by kernel_rfl)
theorem tab_met (os : Os) (args : Array Value) : laidMetH Tryz.prog laidTab ((World.laidAll Tryz.prog os laidTab).forCall (fun _ _ => 0) ⟨#[], args, []⟩).memory := by
  rw [tab_plain]
  exact laidMet_laidAll _ (by kernel_rfl) (by kernel_rfl)
theorem gKids : Tryz.prog.globalNamed "augur/tree.kidsOf" = some 0 := by kernel_rfl
theorem gSyn : Tryz.prog.globalNamed "strconv.ErrSyntax" = some 1 := by kernel_rfl
theorem gRng : Tryz.prog.globalNamed "strconv.ErrRange" = some 2 := by kernel_rfl
theorem star : "*" ++ "errors.errorString" = "*errors.errorString" := by decide
theorem nameErr (u : TypeId) (h : Tryz.prog.typeName? 3 u = some "*errors.errorString") : u = 219 :=
  typeName_ptr_named (nm := "errors.errorString") (by rw [star]; kernel_rfl) (by kernel_rfl) (by decide) u (by rw [star]; exact h)
theorem kids_at : ∀ i, i < 22 → (kidsL.map fun (n : Nat) => (n : Int)).getD i 0 = ((kidsN i : Nat) : Int) := by decide
theorem kids_of_laid {W : World} (h : laidMetH Tryz.prog laidTab W) : KidsTab W := by
  rw [tab_plain] at h
  have h6 := h.tail.tail.tail.tail.tail.tail
  have ht : Lib.TabIs Tryz.prog W "augur/tree.kidsOf" .i64 (kidsL.map fun (n : Nat) => (n : Int)) :=
    Lib.tabIs_of_head (t := 171) (e := 3) (n := 22) gKids (by kernel_rfl) (by kernel_rfl) (by kernel_rfl) (by kernel_rfl) (by kernel_rfl) h6
  intro i hi
  rw [ht.cell gKids i (by simpa [kidsL] using hi), kids_at i hi]
theorem num_of_laid {W : World} (h : laidMetH Tryz.prog laidTab W) : NumAt W := by
  rw [tab_plain] at h
  have h2 := h.tail.tail
  have h4 := h2.tail.tail
  have h5 := h4.tail
  refine ⟨?_, ?_, ?_⟩
  · obtain ⟨a1, s1, hv1, -, -, -⟩ := laid_sentinel h5 gSyn (ti := 116) (by kernel_rfl) Tryz.underlying116 nameErr Tryz.underlying219 Tryz.underlying221 rfl rfl Tryz.underlying9 (by kernel_rfl) (by kernel_rfl)
    have h0 := World.var?_cell gSyn hv1 0
    exact ⟨_, _, h0⟩
  · obtain ⟨a1, s1, hv1, -, -, -⟩ := laid_sentinel h4 gRng (ti := 116) (by kernel_rfl) Tryz.underlying116 nameErr Tryz.underlying219 Tryz.underlying221 rfl rfl Tryz.underlying9 (by kernel_rfl) (by kernel_rfl)
    have h0 := World.var?_cell gRng hv1 0
    exact ⟨_, _, h0⟩
  · exact Lib.tabIs_of_head (t := 223) (e := 183) (n := 20) Tryz.globPow (by kernel_rfl) (by kernel_rfl) (by kernel_rfl) (by kernel_rfl) (by kernel_rfl) h2
end Go.Proofs.YtnjajafmmociiaaGreatDoor

/- Formulas among the arguments: from the row to walks. -/
namespace Go.Proofs.YtnjajafmmociiaaGreatDoor
open Go.ChangeShapes Go.WideShapes Go.ChangeAt Go.RowKit Go.Shelf

set_option maxRecDepth 100000 in
theorem open_tree {H : Type} {enc : TypeId × Value → H} {W : World} {base : Nat} {v : Value} {d : DataW H} {p : List MemPlace} (hv : Value.okWide Tryz.prog W .any base 25 v) (h : DataW.Trod enc Tryz.prog W 0 (fun _ => true) true 25 v d p) :
    ∃ t kv, v = .agg #[.int .u8 (t.op : Nat), .string t.name, kv] ∧ IsF W t kv ∧ t.Fine ∧ ((∀ n ∈ d.weights Tryz.prog 25, n ≤ 140737488351232) → t.Modest) := by
  obtain ⟨cs, rfl, _⟩ := okWide_struct Tryz.underlying25 hv
  obtain ⟨fuel, hf⟩ := h
  obtain ⟨t, kv, e, hT, hF, hM⟩ := trod_tree fuel _ _ hf
  have e' : cs.toList = [.int .u8 (t.op : Nat), .string t.name, kv] := e
  refine ⟨t, kv, ?_, IsT.isF hT, hF, hM⟩
  congr 1
  exact Array.toList_inj.1 e'
theorem tree_again {H : Type} {enc : TypeId × Value → H} {W W' : World} {v : Value} {d : DataW H} {p : List MemPlace} (h : DataW.Trod enc Tryz.prog W 0 (fun _ => true) true 25 v d p) (hb : Below W.heap.size W W') (hlt : ∀ x ∈ p, x.block < W.heap.size) :
    DataW.Trod enc Tryz.prog W' 0 (fun b => decide (b < W.heap.size)) true 25 v d p :=
  Below.trod laidOut (by kernel_rfl) (of_decide_eq_true (by kernel_rfl)) h hb hlt
theorem each_weight {H : Type} {P : Program} : ∀ {ts : List TypeId} {ds : List (DataW H)}, (DataW.weightsEach P ts ds).all (· ≤ reachBytes) = true → ∀ (i : Nat) t d, ts[i]? = some t → ds[i]? = some d → ∀ n ∈ d.weights P t, n ≤ 140737488351232
  | [], _, _, i, t, d, ht, _, _, _ => by simp at ht
  | _ :: _, [], _, i, t, d, _, hd, _, _ => by simp at hd
  | t :: ts, d :: ds, h, 0, t', d', ht, hd, n, hn => by
    simp only [List.getElem?_cons_zero, Option.some.injEq] at ht hd
    subst ht hd
    rw [DataW.weightsEach, List.all_append, Bool.and_eq_true] at h
    have := List.all_eq_true.1 h.1 n hn
    have h2 : n ≤ reachBytes := of_decide_eq_true this
    exact h2
  | t :: ts, d :: ds, h, i + 1, t', d', ht, hd, n, hn => by
    simp only [List.getElem?_cons_succ] at ht hd
    rw [DataW.weightsEach, List.all_append, Bool.and_eq_true] at h
    exact each_weight h.2 i t' d' ht hd n hn
end Go.Proofs.YtnjajafmmociiaaGreatDoor

/- Lists of texts among the arguments. -/
namespace Go.Proofs.YtnjajafmmociiaaGreatDoor
open Go.ChangeShapes Go.WideShapes Go.ChangeAt Go.RowKit Go.Shelf

set_option maxRecDepth 100000 in
theorem size_list (x : ByteArray) : x.size = x.data.toList.length := Array.length_toList.symm
set_option maxRecDepth 100000 in
theorem spot_noneS {W : World} {base : Nat} {a : Addr} {len cap : Nat} (h : Cell.okWide Tryz.prog W .any base 51 (.slice (some a) len cap)) : a.spot = none := by
  simp only [Cell.okWide, Tryz.underlying51, Cell.ok] at h
  exact h.2.2.2.1
set_option maxRecDepth 100000 in
theorem strs_of_trod {H : Type} {enc : TypeId × Value → H} {W : World} {base fuel : Nat} {c : Value} {y : DataW H × List MemPlace} (hok : Cell.okWide Tryz.prog W .any base 51 c) (h : DataW.trod enc Tryz.prog W 0 (fun _ => true) true fuel 51 [c] = some y) :
    ∃ xs, (∀ n ∈ y.1.weights Tryz.prog 51, n ≤ 140737488351232) → Strs W c xs ∧ ∀ x ∈ xs, x.size ≤ 140737488351232 := by
  rcases DataW.trod_slice (e := 9) Tryz.underlying51 h with ⟨e2, _⟩ | ⟨a, len, cap, elems, rest, m, rfl, e2, rfl, hb, hlc, hcm, hel, hE, _, _⟩
  · have e2' : c = .slice none 0 0 := by simpa using e2
    subst e2'
    exact ⟨[], fun _ => ⟨⟨by simp, by simp, .inl ⟨rfl, rfl⟩⟩, by simp⟩⟩
  · have e2' : c = .slice (some a) len cap := by simpa using e2
    subst e2'
    have hs := spot_noneS hok
    obtain ⟨b, off, sp⟩ := a
    simp only at hs
    subst hs
    have hcz : Tryz.prog.cellsOf 9 = 1 := by kernel_rfl
    have key : ∀ i, i < len → ∃ x : ByteArray, x.size ≤ maxLen ∧ W.cell? ⟨b, off + i, none⟩ = some (.string x) ∧ ∃ h : i < elems.length, (elems[i]).1 = .lit (.string x.data.toList) := by
      intro i hi
      have hE' := hE i hi
      rw [List.getElem?_eq_getElem (by omega)] at hE'
      obtain ⟨cs', g1, g2⟩ := Option.bind_eq_some_iff.1 hE'
      obtain ⟨x, e0, ex, hw0⟩ := DataW.trod_string Tryz.underlying9 g2
      obtain ⟨_, _, hc⟩ := World.cells?_some g1
      rw [hcz] at hc
      have h0 := hc 0 (by omega)
      rw [e0] at h0
      have ea : ((⟨b, off, none⟩ : Addr).add (i * 1)).add 0 = ⟨b, off + i, none⟩ := by
        unfold Addr.add
        split <;> split <;> simp_all
      rw [ea] at h0
      exact ⟨x, hw0, h0, by omega, by rw [ex]⟩
    obtain ⟨xs, hxs, hp⟩ := list_of_each len key
    refine ⟨xs, fun hw => ⟨⟨?_, fun x hx => ?_, .inr ⟨b, off, cap, by rw [hxs], by omega, hcm, fun i hi => (hp i hi).2.1⟩⟩, fun x hx => ?_⟩⟩
    · have hbz : Tryz.prog.bytesOf 9 = 16 := by kernel_rfl
      have := hw ((elems.length + rest.length) * 16) (by
        rw [DataW.weights]
        show _ ∈ (match Tryz.prog.underlying 51 with | some (.slice e) => _ | _ => [])
        rw [Tryz.underlying51]
        simp only [List.length_map, hbz]
        exact List.mem_cons_self)
      omega
    · obtain ⟨i, hi, rfl⟩ := List.getElem_of_mem hx
      exact (hp i hi).1
    · obtain ⟨i, hi, rfl⟩ := List.getElem_of_mem hx
      obtain ⟨_, _, hie, he⟩ := hp i hi
      refine hw _ ?_
      rw [DataW.weights]
      show _ ∈ (match Tryz.prog.underlying 51 with | some (.slice e) => _ | _ => [])
      rw [Tryz.underlying51]
      refine List.mem_cons_of_mem _ (List.mem_append_left _ (weights_mem (d := (elems[i]).1) (List.mem_map.2 ⟨_, List.getElem_mem _, rfl⟩) ?_))
      rw [he]
      have h1 : xs[i].size = xs[i].data.toList.length := size_list _
      rw [h1]
      exact List.mem_singleton.2 rfl
set_option maxRecDepth 100000 in
theorem open_strs {H : Type} {enc : TypeId × Value → H} {W : World} {base : Nat} {v : Value} {d : DataW H} {p : List MemPlace} (hv : Value.okWide Tryz.prog W .any base 51 v) (h : DataW.Trod enc Tryz.prog W 0 (fun _ => true) true 51 v d p) :
    ∃ xs, (∀ n ∈ d.weights Tryz.prog 51, n ≤ 140737488351232) → Strs W v xs ∧ ∀ x ∈ xs, x.size ≤ 140737488351232 := by
  have hv' : Cell.okWide Tryz.prog W .any base 51 v := by
    have := hv
    simp only [Value.okWide, Tryz.underlying51] at this
    exact this
  obtain ⟨fuel, hf⟩ := h
  obtain ⟨ad, len, cap, rfl⟩ := okWide_slice Tryz.underlying51 hv
  exact strs_of_trod hv' hf
set_option maxRecDepth 100000 in
theorem strs_again {H : Type} {enc : TypeId × Value → H} {W W' : World} {v : Value} {d : DataW H} {p : List MemPlace} (h : DataW.Trod enc Tryz.prog W 0 (fun _ => true) true 51 v d p) (hb : Below W.heap.size W W') (hlt : ∀ x ∈ p, x.block < W.heap.size) :
    DataW.Trod enc Tryz.prog W' 0 (fun b => decide (b < W.heap.size)) true 51 v d p :=
  Below.trod laidOut (by kernel_rfl) (of_decide_eq_true (by kernel_rfl)) h hb hlt
end Go.Proofs.YtnjajafmmociiaaGreatDoor
