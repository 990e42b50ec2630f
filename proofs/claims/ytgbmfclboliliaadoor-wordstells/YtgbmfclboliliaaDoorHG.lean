/- WordsTells, of every word, numbers and letters: it returns true. Conditions: none but that the listed package variables are as the program's text lays them, which the card ties. -/
import Derived.Test.YtgbmfclboliliaaDoorWdTells
import Derived.Carry
import Derived.Test.YtgbmfclboliliaaDoorWdShow
import Derived.ProofKit
import Derived.OpenShut
import Derived.LaidMore
import Derived.Lay
import Derived.SevenTiedAt
import Derived.Lib.LaidTab
import Derived.Stop.LaidErr
import Derived.Test.YtgbmfclboliliaaDoorRows
import Derived.Test.YtgbmfclboliliaaDoorWdSmall
import Derived.Deep.Strs
import Derived.Test.YtgbmfclboliliaaDoorCards
import Derived.Test.YtgbmfclboliliaaDoorTie
namespace Go.Proofs.YtgbmfclboliliaaDoor
open Go.RowKit Go.Shelf
attribute [local go_sem ↓] Go.wp_at_zero Go.wp_at_succ

set_option maxHeartbeats 2000000 in
set_option maxRecDepth 20000 in
theorem tells_heavy (a1 a2 au : Option Addr) (c1 c2 cu ns nl nu : Nat) (props i n : Int) (w : World) (hT : PowTab w) (hs : ns ≤ 70368744177664) (hl : nl ≤ 70368744177664) (hq : 4194304 < ns + nl) :
    Calls Tryd.prog 3 #[.agg #[.slice a1 ns c1, .slice a2 nl c2], .int .i64 props, .int .i64 i, .int .i64 n, .slice au nu cu] w fun e w' => e = .returned (.bool true) ∧ Kept [] w w' := by
  obtain ⟨V, hV⟩ : ∃ V, w.alloc (.cells #[.slice a1 ns c1, .slice a2 nl c2] 24) = V := ⟨_, rfl⟩
  have HKV : Hid (Kept [] w V) := by show Kept [] w V; rw [← hV]; exact (Kept.refl [] w).alloc _
  have HAV : Hid (Wd2 V w.heap.size (.slice a1 ns c1) (.slice a2 nl c2)) := by show Wd2 _ _ _ _; rw [← hV]; exact al0 _ _
  have HVV : Hid (_ = V) := hV
  have HHV : Hid (∀ W, Calls Tryd.prog 7 #[.agg #[.slice a1 ns c1, .slice a2 nl c2]] W fun e w' => e = .returned (.bool true) ∧ Hid (Kept [] W w')) := fun W => heavy_any a1 a2 _ c1 _ c2 W true hs hl (decide_eq_true (by omega))
  have HWK : Hid (Calls Tryd.prog 6 #[] V fun e w' => e = .returned (.bool true) ∧ Hid (Kept [] V w')) := works_any V (hT.kept HKV.out)
  obtain ⟨g0, g1, _, _⟩ := HAV.out.cells
  clear hT hV
  go_enter Tryd.func3, Tryd.ntmps3
  go_wp2_with (first
    | (go_at_call 6; rw [HVV.out]; refine HWK.out.mono ?_; rintro e W1 ⟨rfl, HK1⟩; clear g0 g1; obtain ⟨g0, g1, -, -⟩ := (HAV.out.kept HK1.out).cells)
    | (go_at_call 7; refine (HHV.out W1).mono ?_; rintro e W2 ⟨rfl, HK2⟩))
  go_ret
  exact ⟨rfl, kept_same HKV.out (kept_same HK1.out HK2.out)⟩
set_option maxHeartbeats 2000000 in
set_option maxRecDepth 20000 in
theorem tells_long (a1 a2 au : Option Addr) (c1 c2 cu ns nl nu : Nat) (props i n : Int) (w : World) (hT : PowTab w) (hs : ns ≤ 70368744177664) (hl : nl ≤ 70368744177664) (hq : ns + nl ≤ 4194304) (hu : 4194304 < nu) :
    Calls Tryd.prog 3 #[.agg #[.slice a1 ns c1, .slice a2 nl c2], .int .i64 props, .int .i64 i, .int .i64 n, .slice au nu cu] w fun e w' => e = .returned (.bool true) ∧ Kept [] w w' := by
  obtain ⟨V, hV⟩ : ∃ V, w.alloc (.cells #[.slice a1 ns c1, .slice a2 nl c2] 24) = V := ⟨_, rfl⟩
  have HKV : Hid (Kept [] w V) := by show Kept [] w V; rw [← hV]; exact (Kept.refl [] w).alloc _
  have HAV : Hid (Wd2 V w.heap.size (.slice a1 ns c1) (.slice a2 nl c2)) := by show Wd2 _ _ _ _; rw [← hV]; exact al0 _ _
  have HVV : Hid (_ = V) := hV
  have HHV : Hid (∀ W, Calls Tryd.prog 7 #[.agg #[.slice a1 ns c1, .slice a2 nl c2]] W fun e w' => e = .returned (.bool false) ∧ Hid (Kept [] W w')) := fun W => heavy_any a1 a2 _ c1 _ c2 W false hs hl (decide_eq_false (by omega))
  have HWK : Hid (Calls Tryd.prog 6 #[] V fun e w' => e = .returned (.bool true) ∧ Hid (Kept [] V w')) := works_any V (hT.kept HKV.out)
  obtain ⟨g0, g1, _, _⟩ := HAV.out.cells
  have hu2 : (4194304 : Int) < (nu : Int) := by omega
  have hu3 : decide ((4194304 : Int) < (nu : Int)) = true := decide_eq_true hu2
  clear hT hV
  go_enter Tryd.func3, Tryd.ntmps3
  go_wp2_with (first
    | (go_at_call 6; rw [HVV.out]; refine HWK.out.mono ?_; rintro e W1 ⟨rfl, HK1⟩; clear g0 g1; obtain ⟨g0, g1, -, -⟩ := (HAV.out.kept HK1.out).cells)
    | (go_at_call 7; refine (HHV.out W1).mono ?_; rintro e W2 ⟨rfl, HK2⟩))
  go_ret
  exact ⟨rfl, kept_same HKV.out (kept_same HK1.out HK2.out)⟩
theorem wordsTells_walk (sv lv : Value) (q : Wd) (props i n : Int) (uv : Value) (us : List Nat) (w : World) (h1 : Lets w sv q.stem) (h2 : Lets w lv q.loop) (_hp : -9223372036854775808 ≤ props ∧ props ≤ 9223372036854775807) (hi : -9223372036854775808 ≤ i ∧ i ≤ 9223372036854775807) (hn : -9223372036854775808 ≤ n ∧ n ≤ 9223372036854775807) (hu : Lets w uv us) (hT : PowTab w) :
    Calls Tryd.prog 3 #[.agg #[sv, lv], .int .i64 props, .int .i64 i, .int .i64 n, uv] w fun e w' => e = .returned (.bool true) ∧ Kept [] w w' := by
  have f1 := h1.few
  have f2 := h2.few
  obtain ⟨a1, c1, rfl, _⟩ := h1.form
  obtain ⟨a2, c2, rfl, _⟩ := h2.form
  obtain ⟨au, cu, rfl, _⟩ := hu.form
  rcases Nat.lt_or_ge 4194304 (q.stem.length + q.loop.length) with hb | hb
  · exact tells_heavy a1 a2 au c1 c2 cu _ _ _ props i n w hT f1 f2 hb
  · rcases Nat.lt_or_ge 4194304 us.length with hc | hc
    · exact tells_long a1 a2 au c1 c2 cu _ _ _ props i n w hT f1 f2 hb hc
    · exact tells_some a1 a2 au c1 c2 cu q us props i n w ⟨h1, h2, by omega⟩ hu hi.2 hn.2 hT hb hc
section
open Go.ChangeShapes
variable {H : Type} {enc : TypeId × Value → H} {P : Program} {w : World} {base : Nat} {spare : Nat → Bool} {held : Bool}
theorem trodAll_five {t0 t1 t2 t3 t4 : TypeId} {args : Array Value} {ds : List (DataW H)} {ps : List MemPlace} (h : DataW.TrodAll enc P w base spare held [t0, t1, t2, t3, t4] args.toList ds ps) :
    ∃ v0 v1 v2 v3 v4 d0 d1 d2 d3 d4 p0 p1 p2 p3 p4, args = #[v0, v1, v2, v3, v4] ∧ ds = [d0, d1, d2, d3, d4] ∧ ps = p0 ++ (p1 ++ (p2 ++ (p3 ++ p4))) ∧ DataW.Trod enc P w base spare held t0 v0 d0 p0 ∧ DataW.Trod enc P w base spare held t1 v1 d1 p1 ∧ DataW.Trod enc P w base spare held t2 v2 d2 p2 ∧ DataW.Trod enc P w base spare held t3 v3 d3 p3 ∧ DataW.Trod enc P w base spare held t4 v4 d4 p4 := by
  obtain ⟨v0, vs0, d0, ds0, p0, q0, hargs, rfl, rfl, h0, r0⟩ := trodAll_cons h
  obtain ⟨v1, vs1, d1, ds1, p1, q1, rfl, rfl, rfl, h1, r1⟩ := trodAll_cons r0
  obtain ⟨v2, vs2, d2, ds2, p2, q2, rfl, rfl, rfl, h2, r2⟩ := trodAll_cons r1
  obtain ⟨v3, vs3, d3, ds3, p3, q3, rfl, rfl, rfl, h3, r3⟩ := trodAll_cons r2
  obtain ⟨v4, vs4, d4, ds4, p4, q4, rfl, rfl, rfl, h4, r4⟩ := trodAll_cons r3
  obtain ⟨rfl, rfl, rfl⟩ := trodAll_nil r4
  exact ⟨v0, v1, v2, v3, v4, d0, d1, d2, d3, d4, p0, p1, p2, p3, p4, by cases args; simp_all, rfl, by simp, h0, h1, h2, h3, h4⟩
theorem trodAll_mk5 {t0 t1 t2 t3 t4 : TypeId} {v0 v1 v2 v3 v4 : Value} {d0 d1 d2 d3 d4 : DataW H} {p0 p1 p2 p3 p4 : List MemPlace} (h0 : DataW.Trod enc P w base spare held t0 v0 d0 p0) (h1 : DataW.Trod enc P w base spare held t1 v1 d1 p1) (h2 : DataW.Trod enc P w base spare held t2 v2 d2 p2) (h3 : DataW.Trod enc P w base spare held t3 v3 d3 p3) (h4 : DataW.Trod enc P w base spare held t4 v4 d4 p4) :
    DataW.TrodAll enc P w base spare held [t0, t1, t2, t3, t4] [v0, v1, v2, v3, v4] [d0, d1, d2, d3, d4] (p0 ++ (p1 ++ (p2 ++ (p3 ++ p4)))) := ⟨p0, _, h0, trodAll_mk4 h1 h2 h3 h4, rfl⟩
end
end Go.Proofs.YtgbmfclboliliaaDoor

/- The listed variables: a start that has them, and what they give. -/
namespace Go.Proofs.YtgbmfclboliliaaDoor
open Go.ChangeShapes Go.WideShapes Go.ChangeAt Go.RowKit Go.Shelf

def laidTab : List (String × DataW Unit) := Rows.wordsTellsRow.laid
theorem own : ownKnob Tryd.prog.godebug = none := by kernel_rfl
theorem laidOut : laidOutB Tryd.prog = true := by kernel_rfl
theorem tab_plain (W : World) : laidMetH Tryd.prog laidTab W = laidMet Tryd.prog laidTab W := MakeChecks.laidMetH_plain _ _ _ (by kernel_rfl)
theorem tab_shape (os : Os) : (World.laidAll Tryd.prog os laidTab).Shaped Tryd.prog := World.shaped_of_ZipB (by kernel_rfl) (by kernel_rfl)
theorem tab_met (os : Os) (args : Array Value) : laidMetH Tryd.prog laidTab ((World.laidAll Tryd.prog os laidTab).forCall (fun _ _ => 0) ⟨#[], args, []⟩).memory := by
  rw [tab_plain]
  exact laidMet_laidAll _ (by kernel_rfl) (by kernel_rfl)
theorem pow_of_laid {W : World} (h : laidMetH Tryd.prog laidTab W) : PowTab W := by
  rw [tab_plain] at h
  exact Lib.tabIs_of_head (t := 137) (e := 80) (n := 20) Tryd.globPow (by kernel_rfl) (by kernel_rfl) (by kernel_rfl) (by kernel_rfl) (by kernel_rfl) h.tail.tail
end Go.Proofs.YtgbmfclboliliaaDoor

/- A word, or letters, among the arguments: from their reading to what the walks ask. -/
namespace Go.Proofs.YtgbmfclboliliaaDoor
open Go.ChangeShapes Go.WideShapes Go.ChangeAt Go.RowKit Go.Shelf

theorem list_of_each {α : Type} {p : Nat → α → Prop} : ∀ n, (∀ i, i < n → ∃ x, p i x) → ∃ l : List α, l.length = n ∧ ∀ i (h : i < l.length), p i l[i]
  | 0, _ => ⟨[], rfl, fun i h => by simp at h⟩
  | n + 1, h => by
    obtain ⟨l, hl, hp⟩ := list_of_each n (fun i hi => h i (by omega))
    obtain ⟨x, hx⟩ := h n (by omega)
    refine ⟨l ++ [x], by simp [hl], fun i hi => ?_⟩
    by_cases hin : i < l.length
    · rw [List.getElem_append_left hin]; exact hp i hin
    · have : i = n := by simp [hl] at hi; omega
      subst this
      rw [List.getElem_append_right (by omega)]
      simpa [hl] using hx
theorem wf_u16 {n : Int} (h : (Lit.int .u16 n).wf = true) : ∃ o : Nat, n = (o : Int) ∧ o < 65536 := by
  have h1 : 0 ≤ n ∧ n ≤ 65535 := by
    have h2 : (decide ((0 : Int) ≤ n) && decide (n ≤ 65535)) = true := h
    simpa using h2
  exact ⟨n.toNat, by omega, by omega⟩
set_option maxRecDepth 100000 in
theorem spot_none {W : World} {base : Nat} {a : Addr} {len cap : Nat} (h : Cell.okWide Tryd.prog W .any base 22 (.slice (some a) len cap)) : a.spot = none := by
  simp only [Cell.okWide, Tryd.underlying22, Cell.ok] at h
  exact h.2.2.2.1
set_option maxRecDepth 100000 in
theorem lets_of_trod {H : Type} {enc : TypeId × Value → H} {W : World} {base fuel : Nat} {c : Value} {y : DataW H × List MemPlace} (hok : Cell.okWide Tryd.prog W .any base 22 c) (h : DataW.trod enc Tryd.prog W 0 (fun _ => true) true fuel 22 [c] = some y) :
    ∃ xs, (∀ n ∈ y.1.weights Tryd.prog 22, n ≤ 140737488351232) → Lets W c xs := by
  rcases DataW.trod_slice (e := 54) Tryd.underlying22 h with ⟨e2, _⟩ | ⟨a, len, cap, elems, rest, m, rfl, e2, rfl, hb, hlc, hcm, hel, hE, _, _⟩
  · have e2' : c = .slice none 0 0 := by simpa using e2
    subst e2'
    exact ⟨[], fun _ => Lets.nil W⟩
  · have e2' : c = .slice (some a) len cap := by simpa using e2
    subst e2'
    have hs := spot_none hok
    obtain ⟨b, off, sp⟩ := a
    simp only at hs
    subst hs
    have hcz : Tryd.prog.cellsOf 54 = 1 := by kernel_rfl
    have key : ∀ i, i < len → ∃ x : Nat, x < 65536 ∧ W.cell? ⟨b, off + i, none⟩ = some (.int .u16 (x : Nat)) := by
      intro i hi
      have hE' := hE i hi
      rw [List.getElem?_eq_getElem (by omega)] at hE'
      obtain ⟨cs', g1, g2⟩ := Option.bind_eq_some_iff.1 hE'
      obtain ⟨o, e0, _, hw0⟩ := DataW.trod_int (k := .u16) Tryd.underlying54 g2
      obtain ⟨x, rfl, hx⟩ := wf_u16 hw0
      obtain ⟨_, _, hc⟩ := World.cells?_some g1
      rw [hcz] at hc
      have h0 := hc 0 (by omega)
      rw [e0] at h0
      have ea : ((⟨b, off, none⟩ : Addr).add (i * 1)).add 0 = ⟨b, off + i, none⟩ := by
        unfold Addr.add
        split <;> split <;> simp_all
      rw [ea] at h0
      exact ⟨x, hx, h0⟩
    obtain ⟨xs, hxs, hp⟩ := list_of_each len key
    refine ⟨xs, fun hw => ⟨fun x hx => ?_, ?_, .inr ⟨b, off, cap, by rw [hxs], by omega, hcm, fun i hi => ?_⟩⟩⟩
    · obtain ⟨i, hi, rfl⟩ := List.getElem_of_mem hx
      exact (hp i hi).1
    · have hbz : Tryd.prog.bytesOf 54 = 2 := by kernel_rfl
      have := hw ((elems.length + rest.length) * 2) (by
        rw [DataW.weights]
        show _ ∈ (match Tryd.prog.underlying 22 with | some (.slice e) => _ | _ => [])
        rw [Tryd.underlying22]
        simp only [List.length_map, hbz]
        exact List.mem_cons_self)
      omega
    · rw [(hp i hi).2, List.getD_eq_getElem?_getD, List.getElem?_eq_getElem hi]
      rfl
set_option maxRecDepth 100000 in
theorem open_word {H : Type} {enc : TypeId × Value → H} {W : World} {base : Nat} {v : Value} {d : DataW H} {p : List MemPlace} (hv : Value.okWide Tryd.prog W .any base 24 v) (h : DataW.Trod enc Tryd.prog W 0 (fun _ => true) true 24 v d p) :
    ∃ (sv lv : Value) (q : Wd), v = .agg #[sv, lv] ∧ ((∀ n ∈ d.weights Tryd.prog 24, n ≤ 140737488351232) → Lets W sv q.stem ∧ Lets W lv q.loop) := by
  have hv' := hv
  simp only [Value.okWide, Tryd.underlying24] at hv'
  obtain ⟨cs, rfl, hsz, ts, hts, _, hok⟩ := hv'
  have hts' : Tryd.prog.cellTypes Tryd.prog.depth 24 = some [22, 22] := by kernel_rfl
  rw [hts'] at hts
  cases hts
  have hs2 : cs.size = 2 := hsz.trans (by kernel_rfl)
  obtain ⟨fuel, hf0⟩ := h
  obtain ⟨xs, n, rfl, hdp, hl, hlen, hf⟩ := DataW.trod_struct Tryd.underlying24 hf0
  clear hf0
  obtain ⟨rfl, rfl⟩ := Prod.mk.inj hdp
  have h0 := hf 0 _ rfl
  have h1 := hf 1 _ rfl
  have hx2 : xs.length = 2 := hlen
  clear hf hlen hl
  obtain ⟨cs⟩ := cs
  match cs, hs2, xs, hx2 with
  | [c0, c1], _, [y0, y1], _ =>
    have k0 : Cell.okWide Tryd.prog W .any base 22 c0 := by
      obtain ⟨u, hu, hk⟩ := hok 0 c0 rfl
      cases hu
      exact hk
    have k1 : Cell.okWide Tryd.prog W .any base 22 c1 := by
      obtain ⟨u, hu, hk⟩ := hok 1 c1 rfl
      cases hu
      exact hk
    obtain ⟨s, hs⟩ := lets_of_trod k0 h0
    obtain ⟨l, hl⟩ := lets_of_trod k1 h1
    refine ⟨c0, c1, ⟨s, l⟩, rfl, fun hw => ?_⟩
    have hwt : ∀ n, (n ∈ y0.1.weights Tryd.prog 22 ∨ n ∈ y1.1.weights Tryd.prog 22) → n ∈ (DataW.agg ([y0, y1].map (·.1)) : DataW H).weights Tryd.prog 24 := by
      intro n hn
      rw [DataW.weights, Tryd.underlying24]
      show n ∈ y0.1.weights Tryd.prog 22 ++ (y1.1.weights Tryd.prog 22 ++ [])
      rcases hn with hn | hn
      · exact List.mem_append_left _ hn
      · exact List.mem_append_right _ (List.mem_append_left _ hn)
    exact ⟨hs fun n hn => hw n (hwt n (.inl hn)), hl fun n hn => hw n (hwt n (.inr hn))⟩
set_option maxRecDepth 100000 in
theorem open_letters {H : Type} {enc : TypeId × Value → H} {W : World} {base : Nat} {v : Value} {d : DataW H} {p : List MemPlace} (hv : Value.okWide Tryd.prog W .any base 22 v) (h : DataW.Trod enc Tryd.prog W 0 (fun _ => true) true 22 v d p) :
    ∃ xs, (∀ n ∈ d.weights Tryd.prog 22, n ≤ 140737488351232) → Lets W v xs := by
  have hv' : Cell.okWide Tryd.prog W .any base 22 v := by
    have := hv
    simp only [Value.okWide, Tryd.underlying22] at this
    exact this
  obtain ⟨fuel, hf⟩ := h
  obtain ⟨ad, len, cap, rfl⟩ := okWide_slice Tryd.underlying22 hv
  exact lets_of_trod hv' hf
theorem word_again {H : Type} {enc : TypeId × Value → H} {W W' : World} {v : Value} {d : DataW H} {p : List MemPlace} (h : DataW.Trod enc Tryd.prog W 0 (fun _ => true) true 24 v d p) (hb : Below W.heap.size W W') (hlt : ∀ x ∈ p, x.block < W.heap.size) :
    DataW.Trod enc Tryd.prog W' 0 (fun b => decide (b < W.heap.size)) true 24 v d p :=
  Below.trod laidOut (by kernel_rfl) (of_decide_eq_true (by kernel_rfl)) h hb hlt
theorem letters_again {H : Type} {enc : TypeId × Value → H} {W W' : World} {v : Value} {d : DataW H} {p : List MemPlace} (h : DataW.Trod enc Tryd.prog W 0 (fun _ => true) true 22 v d p) (hb : Below W.heap.size W W') (hlt : ∀ x ∈ p, x.block < W.heap.size) :
    DataW.Trod enc Tryd.prog W' 0 (fun b => decide (b < W.heap.size)) true 22 v d p :=
  Below.trod laidOut (by kernel_rfl) (of_decide_eq_true (by kernel_rfl)) h hb hlt
theorem each_weight {H : Type} {P : Program} : ∀ {ts : List TypeId} {ds : List (DataW H)}, (DataW.weightsEach P ts ds).all (· ≤ reachBytes) = true → ∀ (i : Nat) t d, ts[i]? = some t → ds[i]? = some d → ∀ n ∈ d.weights P t, n ≤ 140737488351232
  | [], _, _, i, t, d, ht, _, _, _ => by simp at ht
  | _ :: _, [], _, i, t, d, _, hd, _, _ => by simp at hd
  | t :: ts, d :: ds, h, 0, t', d', ht, hd, n, hn => by
    simp only [List.getElem?_cons_zero, Option.some.injEq] at ht hd
    subst ht hd
    rw [DataW.weightsEach, List.all_append, Bool.and_eq_true] at h
    have := List.all_eq_true.1 h.1 n hn
    have h2 : n ≤ reachBytes := of_decide_eq_true this
    exact h2
  | t :: ts, d :: ds, h, i + 1, t', d', ht, hd, n, hn => by
    simp only [List.getElem?_cons_succ] at ht hd
    rw [DataW.weightsEach, List.all_append, Bool.and_eq_true] at h
    exact each_weight h.2 i t' d' ht hd n hn
end Go.Proofs.YtgbmfclboliliaaDoor

namespace Go.Proofs.YtgbmfclboliliaaDoor
open Go.ChangeShapes Go.WideShapes Go.ChangeAt Go.WideMaps Go.WideElems Go.RowKit Go.Shelf

theorem wordsTells_i64 {n : Int} (h : (Lit.int .i64 n).wf = true) : -9223372036854775808 ≤ n ∧ n ≤ 9223372036854775807 := by
  simp [Lit.wf, IntKind.min, IntKind.max, IntKind.signed, IntKind.bits] at h
  omega
set_option maxRecDepth 100000 in
theorem wordsTells_lifted (os : Os) (started : os.Started) (H : Type) (enc : TypeId × Value → H) :
    ReturnsInHanded {} Tryd.checked os 3 .any (fun w args => (Rows.wordsTellsSpec.pre enc Tryd.prog Tryd.f3 [] false w args ∧ laidMetH Tryd.prog laidTab w) ∧ sizedMet enc Tryd.prog Tryd.f3 (OpenSpec.ofChange Rows.wordsTellsSpec) false w args)
      (Rows.wordsTellsSpec.post enc Tryd.prog Tryd.f3 false true false false) := by
  refine returnsInHanded_of_change_and (C := Tryd.checked) (X := fun w _ => laidMetH Tryd.prog laidTab w) (fun _ _ _ hh h => h.of_heap hh) own started (by kernel_rfl) Tryd.func3
    (ChangeSpec.witness_shaped (enc := enc) (C := Tryd.checked) (os := os) (X := fun w _ => laidMetH Tryd.prog laidTab w) false (World.laidAll Tryd.prog os laidTab) #[.agg #[.slice none 0 0, .slice none 0 0], .int .i64 0, .int .i64 0, .int .i64 0, .slice none 0 0] 8 (World.laidAll_os _ _ _) (tab_shape os) (by kernel_rfl) (by kernel_rfl) (by kernel_rfl) (tab_met os _)) ?_
  intro W base args ds gs before hval0 hW _ hsz0 hL _
  have hW' := hW
  obtain ⟨p, q, hA0, hV, rfl, hfz, hnd⟩ := hW
  have hA : DataW.TrodAll enc Tryd.prog W 0 (fun _ => true) true Tryd.f3.params.toList args.toList ds p := hA0
  have hval : ∀ (j : Nat) t v, Tryd.f3.params[j]? = some t → args[j]? = some v → Value.okWide Tryd.prog W .any base t v := hval0
  have hsz : (DataW.weightsEach Tryd.prog (Tryd.f3.params.toList ++ Rows.wordsTellsSpec.plain.varTypes Tryd.prog) (ds ++ gs)).all (· ≤ reachBytes) = true := hsz0
  rw [Tryd.params3] at hA hval hsz
  obtain ⟨v0, v1, v2, v3, v4, d0, d1, d2, d3, d4, p0, p1, p2, p3, p4, rfl, rfl, rfl, h0, h1, h2, h3, h4⟩ := trodAll_five hA
  obtain ⟨rfl, rfl⟩ := trodVars_none hV
  obtain ⟨s0, l0, q0, rfl, m0⟩ := open_word (hval 0 24 v0 rfl rfl) h0
  have m0 := m0 (each_weight hsz 0 24 d0 rfl rfl)
  obtain ⟨z1, rfl, rfl, rfl, m1⟩ := open_int Tryd.underlying3 (hval 1 3 v1 rfl rfl) h1
  obtain ⟨z2, rfl, rfl, rfl, m2⟩ := open_int Tryd.underlying3 (hval 2 3 v2 rfl rfl) h2
  obtain ⟨z3, rfl, rfl, rfl, m3⟩ := open_int Tryd.underlying3 (hval 3 3 v3 rfl rfl) h3
  obtain ⟨q4, m4⟩ := open_letters (hval 4 22 v4 rfl rfl) h4
  have m4 := m4 (each_weight hsz 4 22 d4 rfl rfl)
  clear hA0 hval0 hsz0 hsz
  simp only [List.append_nil] at hW'
  have l0t : ∀ x ∈ p0, x.block < W.heap.size := fun x hx => by simpa using hW'.lt x (by simp [hx])
  have l4t : ∀ x ∈ p4, x.block < W.heap.size := fun x hx => by simpa using hW'.lt x (by simp [hx])
  refine (wordsTells_walk s0 l0 q0 z1 z2 z3 v4 q4 W m0.1 m0.2 (wordsTells_i64 m1) (wordsTells_i64 m2) (wordsTells_i64 m3) m4 (pow_of_laid hL)).mono fun e W' ⟨he, hg⟩ => ?_
  subst he
  have hb := hg.below
  exact ⟨_, rfl, _, _, _, [], _, [], hW', trodAll_mk1 (shut_bool Tryd.underlying4 _), trodAll_mk5 (word_again h0 hb l0t) (shut_int Tryd.underlying3 m1) (shut_int Tryd.underlying3 m2) (shut_int Tryd.underlying3 m3) (letters_again h4 hb l4t), rfl, hb.frame _, fun h => by cases h⟩

theorem wordsTells_holds : Rows.WordsTellsSaid :=
  OpenClaim.holds_of_wide 3 Tryd.f3 rfl rfl rfl rfl rfl rfl rfl ⟨rfl, rfl, rfl, rfl, rfl⟩ rfl rfl rfl rfl rfl (by kernel_rfl) Tryd.func3 (by kernel_rfl)
    (of_decide_eq_true (by kernel_rfl)) (by unfold Func.isWrapper; first | (rw [if_pos (by decide +kernel)]; kernel_rfl) | (rw [if_neg (by decide +kernel)]; exact ⟨rfl, rfl⟩))
    (fun os started H enc _ => wordsTells_lifted os started H enc)

theorem wordsTells_card : Rows.WordsTellsCardSaid :=
  Claim7.holds_tied_plain_at .later [] _ _ _ _ wordsTells_holds (fun _ h => by cases h) (by kernel_rfl) (fun _ h => by cases h) wordsTells_row_tie rfl ⟨rfl, rfl⟩ (by kernel_rfl) rfl
    (fun f fn hf hfn => by
      obtain rfl : f = 3 := Option.some.inj ((show Tryd.prog.funcNamed "augur/augurlaw05.WordsTells" = some 3 by kernel_rfl).symm.trans hf) |>.symm
      obtain rfl : fn = Tryd.f3 := (Option.some.inj (Tryd.func3.symm.trans hfn)).symm
      exact ⟨by kernel_rfl, fun j t ht => by
        rw [Tryd.params3] at ht
        have hm : t ∈ [24, 3, 3, 3, 22] := by simpa using Array.mem_of_getElem? ht
        have hall : ([24, 3, 3, 3, 22].all fun u => !Tryd.prog.wantsStandIn u) = true := by kernel_rfl
        exact (show Tryd.prog.wantsStandIn t = false by simpa using List.all_eq_true.1 hall t hm)⟩)
    (by kernel_rfl)
end Go.Proofs.YtgbmfclboliliaaDoor
