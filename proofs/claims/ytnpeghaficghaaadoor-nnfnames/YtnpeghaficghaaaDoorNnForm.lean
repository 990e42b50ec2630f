/- plan.fits, plan.formula: a formula made of a plan. -/
import Derived.Test.YtnpeghaficghaaaDoorNnPlan
import Derived.Deep.RegionLaw
import Derived.Deep.RegionHeld3
namespace Go.Proofs.YtnpeghaficghaaaDoor
open Go.RowKit Go.Shelf

/-- Is it within the bounds. -/
def fitB (t : Tr) : Bool := decide (t.size ≤ 1000) && decide (t.depth ≤ 100)
set_option maxHeartbeats 400000 in
theorem fitsP_any (t : Tr) (kad : Option Addr) (n kcap : Nat) (w : World) :
    Calls Tryd.prog 107 #[.agg #[.int .u8 (t.op : Nat), .string t.name, .slice kad n kcap, .int .i64 (psz t : Nat), .int .i64 (pdp t : Nat)]] w fun e w' => e = .returned (.bool (fitB t)) ∧ Kept [] w w' := by
  obtain ⟨a, ha⟩ : ∃ a, psz t = a := ⟨_, rfl⟩
  obtain ⟨d, hd⟩ : ∃ d, pdp t = d := ⟨_, rfl⟩
  have e1 : decide (t.size ≤ 1000) = decide (a ≤ 1000) := by rw [decide_eq_decide, ← ha]; unfold psz; omega
  have e2 : decide (t.depth ≤ 100) = decide (d ≤ 100) := by rw [decide_eq_decide, ← hd]; unfold pdp; omega
  rw [ha, hd]
  unfold fitB
  rw [e1, e2]
  clear ha hd e1 e2
  by_cases h1 : (a : Int) ≤ 1000
  · have e1 : decide (a ≤ 1000) = true := by rw [decide_eq_true_iff]; omega
    rw [e1]
    by_cases h2 : (d : Int) ≤ 100
    · have e2 : decide (d ≤ 100) = true := by rw [decide_eq_true_iff]; omega
      rw [e2]
      clear e1 e2
      go_enter Tryd.func107, Tryd.ntmps107
      go_wp2
      go_ret
      exact ⟨rfl, (Kept.refl _ _).alloc _⟩
    · have e2 : decide (d ≤ 100) = false := by rw [decide_eq_false_iff_not]; omega
      rw [e2]
      clear e1 e2
      go_enter Tryd.func107, Tryd.ntmps107
      go_wp2
      go_ret
      exact ⟨rfl, (Kept.refl _ _).alloc _⟩
  · have e1 : decide (a ≤ 1000) = false := by rw [decide_eq_false_iff_not]; omega
    rw [e1]
    clear e1
    go_enter Tryd.func107, Tryd.ntmps107
    go_wp2
    go_ret
    exact ⟨rfl, (Kept.refl _ _).alloc _⟩

/-- A list of formulas that grows: its first cells in a row of its own, what hangs on them elsewhere. -/
def rowV (ts : List Tr) (kvs : List Value) : List Value := (ts.zip kvs).flatMap fun x => [.int .u8 (x.1.op : Nat), .string x.1.name, x.2]
theorem rowV_snoc (ts : List Tr) (kvs : List Value) (h : ts.length = kvs.length) (t : Tr) (kv : Value) : rowV (ts ++ [t]) (kvs ++ [kv]) = rowV ts kvs ++ [.int .u8 (t.op : Nat), .string t.name, kv] := by
  unfold rowV
  rw [List.zip_append h, List.flatMap_append]
  rfl
theorem rowV_length (ts : List Tr) (kvs : List Value) (h : ts.length = kvs.length) : (rowV ts kvs).length = ts.length * 3 := by
  unfold rowV
  rw [List.length_flatMap]
  simp only [List.length_cons, List.length_nil, List.map_const', List.sum_replicate_nat, List.length_zip, h, Nat.min_self]
theorem rowV_at : ∀ (ts : List Tr) (kvs : List Value) (i : Nat) (h : i < ts.length) (h' : i < kvs.length), (rowV ts kvs)[i * 3]? = some (.int .u8 (ts[i].op : Nat)) ∧ (rowV ts kvs)[i * 3 + 1]? = some (.string ts[i].name) ∧ (rowV ts kvs)[i * 3 + 2]? = some kvs[i]
  | [], _, _, h, _ => by cases h
  | _ :: _, [], _, _, h => by cases h
  | t :: ts, kv :: kvs, 0, _, _ => ⟨rfl, rfl, rfl⟩
  | t :: ts, kv :: kvs, i + 1, h, h' => by
    obtain ⟨q0, q1, q2⟩ := rowV_at ts kvs i (by simpa using h) (by simpa using h')
    have e : rowV (t :: ts) (kv :: kvs) = [.int .u8 (t.op : Nat), .string t.name, kv] ++ rowV ts kvs := rfl
    refine ⟨?_, ?_, ?_⟩
    · rw [e, show (i + 1) * 3 = 3 + i * 3 by omega, List.getElem?_append_right (by simp)]; simpa using q0
    · rw [e, show (i + 1) * 3 + 1 = 3 + (i * 3 + 1) by omega, List.getElem?_append_right (by simp)]; simpa using q1
    · rw [e, show (i + 1) * 3 + 2 = 3 + (i * 3 + 2) by omega, List.getElem?_append_right (by simp)]; simpa using q2
theorem IsT.lt {X : Nat → Prop} {w : World} {t : Tr} {kv : Value} (h : IsT X w t kv) : IsT (fun k => X k ∧ k < w.heap.size) w t kv := by
  induction t using Tr.ind generalizing kv with
  | h t ih =>
    obtain ⟨ad, cap, e, h⟩ := (isT_eq t kv).1 h
    refine (isT_eq t kv).2 ⟨ad, cap, e, ?_⟩
    rcases Nat.eq_zero_or_pos t.kids.length with h0 | h0
    · exact .inl h0
    · obtain ⟨b, off, e1, hb, hk⟩ := h.resolve_left (by omega)
      obtain ⟨kv0, c0, _⟩ := hk 0 h0
      refine .inr ⟨b, off, e1, ⟨hb, World.block_lt_of_cell? w _ c0⟩, fun i hi => ?_⟩
      obtain ⟨kv', c0, c1, c2, hr⟩ := hk i hi
      exact ⟨kv', c0, c1, c2, ih _ (List.getElem_mem _) hr⟩
/-- The new formula in its box, with its first kids. -/
structure Fml (w : World) (o : Nat) (s : ByteArray) (us : List Tr) (W : World) (v : Value) : Prop where
  kept : Kept [] w W
  res : For3 W (w.heap.size + 1) (.int .u8 0) (.string ⟨#[]⟩) (.slice none 0 0)
  box : For3 W (w.heap.size + 1 + 1) (.int .u8 (o : Nat)) (.string s) v
  own : ∃ kvs, us.length = kvs.length ∧ W.ownsRow (w.heap.size + 1 + 1 + 1) 25 3 v us.length (rowV us kvs) ∧ ∀ i (h : i < us.length) (h' : i < kvs.length), IsT (fun k => w.heap.size + 1 + 1 + 1 ≤ k ∧ v.ownBlock ≠ some k) W us[i] kvs[i]
theorem Fml.app {w W U : World} {o : Nat} {s : ByteArray} {us : List Tr} {v : Value} (h : Fml w o s us W v) (k : Kept [] W U) {u : Tr} {kv : Value} (hI : IsT (fun b => W.heap.size ≤ b) U u kv) (hk1 : kv.oneCell' = true) (hl : us.length ≤ 1000) :
    ∃ g n cp w3, (∀ ty, (Builtin.append_ #[23, 23] ty #[v, .slice (some ⟨U.heap.size, 0, none⟩) 1 1]).run Tryd.prog (U.alloc (.cells #[.int .u8 (u.op : Nat), .string u.name, kv] 25)) = .ok (.slice (some ⟨g, 0, none⟩) n cp) w3) ∧ For3 w3 (w.heap.size + 1 + 1) (.int .u8 (o : Nat)) (.string s) v ∧ Fml w o s (us ++ [u]) (w3.setCell ⟨w.heap.size + 1 + 1, 2, none⟩ (.slice (some ⟨g, 0, none⟩) n cp)) (.slice (some ⟨g, 0, none⟩) n cp) := by
  obtain ⟨kvs, hkl, hown, hts⟩ := h.own
  have hbl := lt_of h.box
  have hWU := k.size
  have kU : Kept [] W (U.alloc (.cells #[.int .u8 (u.op : Nat), .string u.name, kv] 25)) := k.alloc _
  obtain ⟨i0, hi, hz0, hz1, hz2⟩ := info_parts Tryd.infoFor
  have hown2 : (U.alloc (.cells #[.int .u8 (u.op : Nat), .string u.name, kv] 25)).ownsRow (w.heap.size + 1 + 1 + 1) 25 3 v us.length (rowV us kvs) := by
    refine ⟨hown.1, ?_⟩
    rcases hown.2 with hn | ⟨g, cap, cur, rfl, hb, hgg, rest⟩
    · exact .inl hn
    · exact .inr ⟨g, cap, cur, rfl, hb, kU.at hgg (by simp), rest⟩
  have hnew := heap_alloc_new U (.cells #[.int .u8 (u.op : Nat), .string u.name, kv] 25)
  obtain ⟨g, cap, w3, hr, h1, h2, h3, h4⟩ := run_append_lies (P := Tryd.prog) (U.alloc (.cells #[.int .u8 (u.op : Nat), .string u.name, kv] 25)) 23 0 (w.heap.size + 1 + 1 + 1) 25 i0 _ 3 48 Tryd.underlying23 hi hz0 hz1 hz2 rfl (by decide) v _ _ hown2 ⟨U.heap.size, 0, none⟩ 1 1 [.int .u8 (u.op : Nat), .string u.name, kv] rfl
    (fun j x hj => by
      rw [show (⟨U.heap.size, 0, none⟩ : Addr).add j = ⟨U.heap.size, j, none⟩ from by unfold Addr.add; by_cases h : j = 0 <;> simp [h], cell_of hnew, ← hj, ← List.getElem?_toArray])
    (fun x hx => by
      simp only [List.mem_cons, List.not_mem_nil, or_false] at hx
      rcases hx with rfl | rfl | rfl
      · rfl
      · rfl
      · exact hk1) (by decide) (by unfold maxLen; omega) (by omega) (by rw [World.size_alloc]; omega) _ rfl
  have hb3 : ∀ b, b < U.heap.size + 1 → v.ownBlock ≠ some b → w3.heap[b]? = (U.alloc (.cells #[.int .u8 (u.op : Nat), .string u.name, kv] 25)).heap[b]? := fun b hb hne => h2.block b (by rw [World.size_alloc]; exact hb) (fun e => hne e.symm)
  have hlow : ∀ b, v.ownBlock = some b → w.heap.size + 1 + 1 + 1 ≤ b ∧ b < W.heap.size := fun b e => hown.lt b e
  have hbx : For3 w3 (w.heap.size + 1 + 1) (.int .u8 (o : Nat)) (.string s) v := (hb3 _ (by omega) (fun e => by have := (hlow _ e).1; omega)).trans (h.box.kept kU)
  refine ⟨g, us.length + 1, cap, w3, fun ty => hr, hbx, ?_, ?_, ?_, kvs ++ [kv], by simp [hkl], ?_, ?_⟩
  · exact ((h.kept.trans kU (H := []) (by simp) (by simp)).grown h2 (fun b e => .inr (by have := (hlow b e).1; omega))).setCell (p := ⟨w.heap.size + 1 + 1, 2, none⟩) (.inr (by show w.heap.size ≤ w.heap.size + 1 + 1; omega)) _
  · exact (Below.heap_setCell _ _ _ _ (by show w.heap.size + 1 ≠ w.heap.size + 1 + 1; omega)).trans ((hb3 _ (by omega) (fun e => by have := (hlow _ e).1; omega)).trans (h.res.kept kU))
  · unfold For3; rw [row_set hbx]; rfl
  · rw [List.length_append, List.length_singleton, rowV_snoc us kvs hkl]
    refine ⟨h1.1, ?_⟩
    rcases h1.2 with ⟨e, _⟩ | ⟨g', cap', cur, e, hb, hgg, rest⟩
    · cases e
    · exact .inr ⟨g', cap', cur, e, hb, (Below.heap_setCell _ _ _ _ (by show g' ≠ w.heap.size + 1 + 1; omega)).trans hgg, rest⟩
  · intro i hi1 hi2
    have hnb : ¬ (w.heap.size + 1 + 1 + 1 ≤ w.heap.size + 1 + 1 ∧ (Value.slice (some ⟨g, 0, none⟩) (us.length + 1) cap).ownBlock ≠ some (w.heap.size + 1 + 1)) := fun h => by omega
    refine IsT.other ?_ hnb _ _
    by_cases hlt : i < us.length
    · have e1 : (us ++ [u])[i] = us[i] := List.getElem_append_left hlt
      have e2 : (kvs ++ [kv])[i] = kvs[i]'(by omega) := List.getElem_append_left (by omega)
      rw [e1, e2]
      refine IsT.keep (fun b hb => ?_) (fun b ob hb hob => ?_) (hts i hlt (by omega)).lt
      · refine ⟨hb.1.1, fun e => ?_⟩
        have e' : g = b := by simpa [Value.ownBlock] using e
        rcases h3 with h3 | h3
        · exact hb.1.2 (by rw [← e']; exact h3)
        · rw [World.size_alloc] at h3; have := hb.2; omega
      · rw [hb3 b (by have := hb.2; omega) hb.1.2]
        exact kU.at hob (by simp)
    · have e0 : i = us.length := by rw [List.length_append, List.length_singleton] at hi1; omega
      subst e0
      have e1 : (us ++ [u])[us.length] = u := by rw [List.getElem_append_right (Nat.le_refl _)]; simp
      have e2 : (kvs ++ [kv])[us.length] = kv := by rw [List.getElem_append_right (by omega)]; simp
      rw [e1, e2]
      have hu2 : Kept [] U (U.alloc (.cells #[.int .u8 (u.op : Nat), .string u.name, kv] 25)) := (Kept.refl [] U).alloc _
      refine IsT.keep (fun b hb => ?_) (fun b ob hb hob => ?_) hI.lt
      · refine ⟨by have := hb.1; omega, fun e => ?_⟩
        have e' : g = b := by simpa [Value.ownBlock] using e
        rcases h3 with h3 | h3
        · have := (hlow _ h3).2; have := hb.1; omega
        · rw [World.size_alloc] at h3; have := hb.2; omega
      · rw [hb3 b (by have := hb.2; omega) (fun e => by have := (hlow _ e).2; have := hb.1; omega)]
        exact hu2.at hob (by simp)
/-- The formula, as it is handed out. -/
theorem Fml.isT {w W : World} {o : Nat} {s : ByteArray} {us : List Tr} {v : Value} (h : Fml w o s us W v) : ∃ ad cap, v = .slice ad us.length cap ∧ IsT (fun b => w.heap.size + 1 + 1 + 1 ≤ b) W ⟨o, s, us⟩ v := by
  obtain ⟨kvs, hkl, hown, hts⟩ := h.own
  rcases hown.2 with ⟨e, h0⟩ | ⟨g, cap, cur, rfl, hb, hgg, rest⟩
  · exact ⟨none, 0, by rw [h0]; exact e, (isT_eq _ _).2 ⟨none, 0, by show v = .slice none us.length 0; rw [h0]; exact e, .inl h0⟩⟩
  · refine ⟨_, cap, rfl, (isT_eq _ _).2 ⟨_, cap, rfl, .inr ⟨g, 0, rfl, hb, fun i hi => ?_⟩⟩⟩
    have hi' : i < us.length := hi
    obtain ⟨q0, q1, q2⟩ := rowV_at us kvs i hi' (by omega)
    refine ⟨kvs[i]'(by omega), ?_, ?_, ?_, (hts i hi' (by omega)).mono (fun b hb => hb.1)⟩
    · rw [Nat.zero_add, hown.cellAt _ (by omega)]; exact q0
    · rw [Nat.zero_add, hown.cellAt _ (by omega)]; exact q1
    · rw [Nat.zero_add, hown.cellAt _ (by omega)]; exact q2
theorem step_append_eq {P : Program} {ops : Array Oper} {o : Oper} {a : Act} {w : World} {K : Act → World → Prop} {Q : Exit → Act → World → Prop} {E : Prop}
    (hg : o.guard = none) (s x : Operand) (t : TypeId) (hop : o.op = Op.call { callee := Callee.builtin Builtin.append, args := #[s, x], argTypes := #[t, t] })
    (v u v' : Value) (w' : World) (hs : a.eval s = v) (hx : a.eval x = u) (hrun : (Builtin.append_ #[t, t] o.type #[v, u]).run P w = .ok v' w') (hK : K (a.put o.dst v') w') :
    if Region.wanted o (yielded ops a.tmps) = true then Oper.wp P o a w K Q else E := by
  have hw : Region.wanted o (yielded ops a.tmps) = true := by simp [Region.wanted, hg]
  rw [if_pos hw]
  unfold Oper.wp
  simp [execOp, hop, resolve, invoke, builtin, hs, hx, hrun, Result.andThen]
  exact hK
theorem Tr.eta (t : Tr) : (⟨t.op, t.name, t.kids⟩ : Tr) = t := by cases t; rfl
theorem nf_len {w W : World} {o : Nat} {s : ByteArray} {us : List Tr} {ad : Option Addr} {n m cap : Nat} (h : Fml w o s us W (.slice ad n cap)) (hm : us.length = m) : n = m := by
  obtain ⟨_, _, e, _⟩ := h.isT
  cases e; exact hm
def FormDoes (t : Tr) : Prop := ∀ (kv : Value) (w : World), IsP w t kv → t.size ≤ 1000 → Calls Tryd.prog 108 #[.agg #[.int .u8 (t.op : Nat), .string t.name, kv, .int .i64 (psz t : Nat), .int .i64 (pdp t : Nat)]] w fun e w' =>
  ∃ kad kcap, e = .returned (.agg #[.int .u8 (t.op : Nat), .string t.name, .slice kad t.kids.length kcap]) ∧ IsT (fun b => w.heap.size ≤ b) w' t (.slice kad t.kids.length kcap) ∧ Kept [] w w'
set_option maxHeartbeats 2000000 in
set_option maxRecDepth 20000 in
theorem formula_any (t : Tr) : FormDoes t := by
  induction t using Tr.ind with
  | h t ih =>
    intro kv w hI hs
    have HIH : Hid (∀ k ∈ t.kids, FormDoes k) := ih
    obtain ⟨kad, kcap, rfl⟩ := hI.slice
    have HI : Hid (IsP w t (.slice kad t.kids.length kcap)) := hI
    have hkl := Tr.kids_size t
    clear ih hI
    go_enter Tryd.func108, Tryd.ntmps108
    go_wp2
    go_loopw [14] (fun v wr => ∃ (i : Nat) (fa : Option Addr) (fc : Nat), v = .int .i64 i ∧ i ≤ t.kids.length ∧ Hid (Fml w t.op t.name (t.kids.take i) wr (.slice fa i fc))) (fun v wr => t.kids.length - (intOf v).toNat)
    case atStart =>
      refine ⟨0, none, 0, rfl, Nat.zero_le _, ⟨(((Kept.refl [] w).alloc _).alloc _).alloc _, alUp (al1 w _ _) _, al2 w _ _ _, [], rfl, ⟨rfl, .inl ⟨rfl, rfl⟩⟩, fun i h => by simp at h⟩⟩
    case round =>
      obtain ⟨i, fa, fc, rfl, hi, HR⟩ := hrel
      obtain ⟨b0, b1, b2, bf⟩ := HR.out.box.cells
      have lw := lt_of HR.out.box
      by_cases hlt : i < t.kids.length
      · obtain ⟨kb, off, rfl, hk⟩ := HI.out.kid (show 0 < t.kids.length by omega)
        obtain ⟨kv, hP, hIk⟩ := hk i hlt
        obtain ⟨ckad, ckcap, rfl⟩ := hIk.slice
        obtain ⟨k, hkk⟩ : ∃ k, t.kids[i] = k := ⟨_, rfl⟩
        have hkm : k ∈ t.kids := by rw [← hkk]; exact List.getElem_mem _
        have HTK : Hid (t.kids.take (i + 1) = t.kids.take i ++ [k]) := by show _ = _; rw [List.take_succ_eq_append_getElem hlt, hkk]
        rw [hkk] at hP hIk
        obtain ⟨e0, e1, e2, e3, e4⟩ := hP.kept HR.out.kept
        have lk : kb < wr.heap.size := World.block_lt_of_cell? wr _ e0
        have nk1 : ¬ kb = wr.heap.size := by omega
        have nk2 : ¬ wr.heap.size = kb := by omega
        have nw1 : ¬ w.heap.size + 1 + 1 = wr.heap.size := by omega
        have nw2 : ¬ wr.heap.size = w.heap.size + 1 + 1 := by omega
        have hii : (i : Int) < (t.kids.length : Int) := by omega
        have hsz := Tr.kid_size hkm
        have HREC : Hid (∀ W, Kept [] wr W → Calls Tryd.prog 108 #[.agg #[.int .u8 (k.op : Nat), .string k.name, .slice ckad k.kids.length ckcap, .int .i64 (psz k : Nat), .int .i64 (pdp k : Nat)]] W fun e w' => ∃ kad kcap, e = .returned (.agg #[.int .u8 (k.op : Nat), .string k.name, .slice kad k.kids.length kcap]) ∧ IsT (fun b => W.heap.size ≤ b) w' k (.slice kad k.kids.length kcap) ∧ Kept [] W w') :=
          fun W kW => HIH.out k hkm _ W ((hIk.kept HR.out.kept).kept kW) (by omega)
        have HLT : Hid ((t.kids.take i).length = i) := by show _ = _; rw [List.length_take]; omega
        have HLL : Hid ((t.kids.take i).length ≤ 1000) := by show _ ≤ _; rw [List.length_take]; omega
        have HKK : Hid (∀ o, Kept [] wr (wr.alloc o).drew) := fun o => ((Kept.refl [] wr).alloc o).drew
        clear hk hP hIk hkk hkm hlt hsz
        generalize psz k = ps at *
        generalize pdp k = pd at *
        go_wp2_with fail
        go_region_law (first | (refine step_append_eq (by rfl) _ _ _ (by rfl) _ _ _ _ (by rfl) (by rfl) (HRUN.out _) ?_) | (go_simp; go_at_call 108; refine (HREC.out _ (HKK.out _)).mono ?_; rintro e U ⟨ua, uc, rfl, hIu, kU⟩; have kU' : Kept [] wr U := (HKK.out _).trans kU (by simp) (by simp); obtain ⟨g, n3, cp, w3, hrun, hbx, hfm⟩ := HR.out.app kU' (u := k) (kv := .slice ua k.kids.length uc) (hIu.mono (fun b hb => by simp at hb; omega)) rfl HLL.out; have HRUN : Hid (∀ ty, (Builtin.append_ #[23, 23] ty #[.slice fa i fc, .slice (some ⟨U.heap.size, 0, none⟩) 1 1]).run Tryd.prog (U.alloc (.cells #[.int .u8 (k.op : Nat), .string k.name, .slice ua k.kids.length uc] 25)) = .ok (.slice (some ⟨g, 0, none⟩) n3 cp) w3) := hrun; have HN3 : Hid (n3 = i + 1) := nf_len hfm (by rw [List.length_append, HLT.out]; rfl); obtain ⟨g0, g1, g2, gf⟩ := hbx.cells; obtain ⟨h0, h1, h2, hf⟩ := (HR.out.box.kept kU').cells; have HFM : Hid (Fml w t.op t.name (t.kids.take i ++ [k]) (w3.setCell ⟨w.heap.size + 1 + 1, 2, none⟩ (.slice (some ⟨g, 0, none⟩) n3 cp)) (.slice (some ⟨g, 0, none⟩) n3 cp)) := hfm; have lU : w.heap.size + 1 + 1 < U.heap.size := Nat.lt_of_lt_of_le lw kU'.size; have nU1 : ¬ w.heap.size + 1 + 1 = U.heap.size := (by omega); have nU2 : ¬ U.heap.size = w.heap.size + 1 + 1 := (by omega); clear hrun hbx hfm hIu kU kU'))
        all_goals go_wp2
        all_goals go_roundw
        all_goals first
          | exact ⟨i + 1, some ⟨g, 0, none⟩, cp, by go_num, by omega, by rw [HTK.out, ← HN3.out]; exact HFM⟩
          | (simp [intOf]; omega)
      · obtain rfl : i = t.kids.length := by omega
        obtain ⟨d0, d1, d2, df⟩ := HR.out.res.cells
        clear hlt
        go_wp2
        obtain ⟨ad, cap, e, hT⟩ := HR.out.isT
        refine ret_for rfl rfl rfl (HR.out.res.set _ _ _) ⟨fa, fc, rfl, ?_, kept_set3 HR.out.kept (by omega) _ _ _⟩
        rw [List.take_length] at hT
        rw [Tr.eta] at hT
        have hn : ¬ (w.heap.size + 1 + 1 + 1 ≤ w.heap.size + 1) := by omega
        exact (((hT.other hn _ _).other hn _ _).other hn _ _).mono (fun b hb => by omega)
end Go.Proofs.YtnpeghaficghaaaDoor
