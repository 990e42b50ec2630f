/- tree.At. -/
import Derived.Test.YtnjajafmmociiaaGreatDoorTrNum
import Derived.Test.YtnjajafmmociiaaGreatDoorTrPut
namespace Go.Proofs.YtnjajafmmociiaaGreatDoor
open Go.RowKit Go.Shelf
attribute [local go_sem] Oper.semAt_some

def forC (u : Tr) (kad : Option Addr) (kcap : Nat) : Array Value := #[.int .u8 (u.op : Nat), .string u.name, .slice kad u.kids.length kcap]
def zeroC : Array Value := #[.int .u8 0, .string ⟨#[]⟩, .slice none 0 0]
/-- The tree that the path has led to, in the caller's box. -/
def OnAt (t : Tr) (w : World) (B : Nat) (l : List (List UInt8)) (X : Nat → Prop) (W : World) : Prop :=
  ∃ u kad kcap, goAt t l = some u ∧ u.size ≤ t.size ∧ u.Fine ∧ IsF w u (.slice kad u.kids.length kcap) ∧ Blk B (forC u kad kcap) 25 X W
theorem abide_on {α : Type} (t : Tr) (w : World) (B : Nat) (f : List α → List (List UInt8)) : Abide (fun X l W => OnAt t w B (f l) X W) :=
  ⟨fun ⟨u, a, c, h1, h2, h3, h4, h5⟩ hX => ⟨u, a, c, h1, h2, h3, h4, h5.more hX⟩, fun ⟨u, a, c, h1, h2, h3, h4, h5⟩ hg hr => ⟨u, a, c, h1, h2, h3, h4, h5.turn hg hr⟩⟩
theorem kid_ok {t u k : Tr} {i : Nat} (h : u.size ≤ t.size) (hF : u.Fine) (hk : u.kids[i]? = some k) : k.size ≤ t.size ∧ k.Fine := by
  have hm : k ∈ u.kids := List.mem_of_getElem? hk
  exact ⟨by have := Tr.kid_size hm; omega, ((Tr.all_eq u).1 hF).2 k hm⟩
theorem load_errno (w : World) (g : Nat) (v : Value) (h : w.cell? ⟨g, 0, none⟩ = some v) : (loadVar 28 ⟨g, 0, none⟩).run Tryz.prog w = .ok v w := by
  simp [go_sem, h]
theorem results_at {fn : Func} {p q : Tmp} (h : fn.results = #[.cell p 25, .cell q 28]) (tmps : Array Value) (w : World) (g g2 : Nat) (cs : Array Value) (v : Value) (hp : tmps.getD p undef = .pointer (some ⟨g, 0, none⟩)) (hq : tmps.getD q undef = .pointer (some ⟨g2, 0, none⟩)) (hg : w.heap[g]? = some (.cells cs 25 (0, 0))) (hb : Boxed w g2 28 v) (hsz : cs.size = 3) :
    (results fn tmps).run Tryz.prog w = .ok (.tuple #[.agg cs, v]) w := by
  have hp' : tmps[p]?.getD undef = .pointer (some ⟨g, 0, none⟩) := by simpa using hp
  have hq' : tmps[q]?.getD undef = .pointer (some ⟨g2, 0, none⟩) := by simpa using hq
  have hl := run_loadVar_row (P := Tryz.prog) w g 25 25 cs (0, 0) _ hg Tryz.underlying25 rfl (by rw [hsz]; kernel_rfl)
  have c2 := hb.cell
  have hl2 := load_errno w g2 v c2
  simp [results, h, hp', hq', asAddr, hl, hl2]
theorem leaveAt {n : Nat} {fn : Func} {p q : Tmp} {tmps : Array Value} {W : World} {g g2 D : Nat} {cs : Array Value} {v : Value} {R : Ending → World → Prop} (h : fn.results = #[.cell p 25, .cell q 28]) (hp : tmps.getD p undef = .pointer (some ⟨g, 0, none⟩)) (hq : tmps.getD q undef = .pointer (some ⟨g2, 0, none⟩)) (hg : W.heap[g]? = some (.cells cs 25 (0, 0))) (hb : Boxed W g2 28 v) (hsz : cs.size = 3)
    (hK : W.heap[D]? = some (.deferred (some []))) (hR : R (.returned (.tuple #[.agg cs, v])) (W.putObj D (.deferred none))) :
    bodyPostM Fence.wide n Tryz.prog fn R .ret { tmps := tmps, defers := [{ target := .collected D, args := #[] }] } W := by
  refine ⟨by simp, .inl ⟨_, _, rfl, run_takeDeferred hK, ⟨_, results_at h tmps _ g g2 cs v hp hq ?_ (box_shut hb hK) hsz, hR⟩⟩⟩
  exact (World.putObj_heap_other (fun e => by subst e; rw [hg] at hK; cases hK)).trans hg
theorem leaveAt0 {n : Nat} {fn : Func} {p q : Tmp} {tmps : Array Value} {W : World} {g g2 : Nat} {cs : Array Value} {v : Value} {R : Ending → World → Prop} (h : fn.results = #[.cell p 25, .cell q 28]) (hp : tmps.getD p undef = .pointer (some ⟨g, 0, none⟩)) (hq : tmps.getD q undef = .pointer (some ⟨g2, 0, none⟩)) (hg : W.heap[g]? = some (.cells cs 25 (0, 0))) (hb : Boxed W g2 28 v) (hsz : cs.size = 3)
    (hR : R (.returned (.tuple #[.agg cs, v])) W) :
    bodyPostM Fence.wide n Tryz.prog fn R .ret { tmps := tmps, defers := [] } W :=
  ⟨_, results_at h tmps _ g g2 cs v hp hq hg hb hsz, hR⟩

/-- The way out with nothing. -/
theorem at_err {n₀ : Nat} {w W W2 : World} {X : Nat → Prop} (h1 : Blk (n₀ + 1) #[.int .u8 0, .string ⟨#[]⟩, .slice none 0 0] 25 X W) (h2 : Bx1 (n₀ + 1 + 1) 28 (.int .i64 0) X W) (h3 : Bw n₀ w X W) (hk : Kept [] W W2) {W3 : World}
    (h : W3 = (((W2.setCell ⟨n₀ + 1, 0, none⟩ (.int .u8 0)).setCell ⟨n₀ + 1, 1, none⟩ (.string ⟨#[]⟩)).setCell ⟨n₀ + 1, 2, none⟩ (.slice none 0 0)).setCell ⟨n₀ + 1 + 1, 0, none⟩ (.int .i64 32)) :
    KpX (orT (fun _ => False) X) W W3 ∧ Blk (n₀ + 1) zeroC 25 X W3 ∧ Bx1 (n₀ + 1 + 1) 28 (.int .i64 32) X W3 ∧ Bw n₀ w X W3 := by
  subst h
  have g1 := h1.kept0 hk
  have g2 := h2.kept0 hk
  have g3 := h3.kept0 hk
  have n1 : ∀ B, ¬ X B → ¬ orT (fun _ => False) X B := fun B hB h => h.elim hB (fun q => q)
  refine ⟨(KpX.of_kept hk).trans ((KpX.setCell (p := ⟨n₀ + 1, 0, none⟩) (n1 _ h1.2) _).trans ((KpX.setCell (p := ⟨n₀ + 1, 1, none⟩) (n1 _ h1.2) _).trans ((KpX.setCell (p := ⟨n₀ + 1, 2, none⟩) (n1 _ h1.2) _).trans (KpX.setCell (p := ⟨n₀ + 1 + 1, 0, none⟩) (n1 _ h2.2) _)))), ?_, ?_, ?_⟩
  · refine Blk.other ⟨?_, h1.2⟩ (by omega)
    exact For3.set (show For3 W2 (n₀ + 1) _ _ _ from g1.1) _ _ _
  · exact (((g2.other (by omega)).other (by omega)).other (by omega)).set _
  · exact (((g3.set (by omega) _).set (by omega) _).set (by omega) _).set (by omega) _
/-- A step down. -/
theorem at_step {n₀ : Nat} {w W W2 : World} {X : Nat → Prop} {a b c a' b' c' : Value} (h0 : Blk n₀ #[a, b, c] 25 X W) (h1 : Blk (n₀ + 1) #[.int .u8 0, .string ⟨#[]⟩, .slice none 0 0] 25 X W) (h2 : Bx1 (n₀ + 1 + 1) 28 (.int .i64 0) X W) (h3 : Bw n₀ w X W) (hk : Kept [] W W2) {W3 : World}
    (h : W3 = ((W2.setCell ⟨n₀, 0, none⟩ a').setCell ⟨n₀, 1, none⟩ b').setCell ⟨n₀, 2, none⟩ c') :
    KpX (orT (fun _ => False) X) W W3 ∧ Blk n₀ #[a', b', c'] 25 X W3 ∧ Blk (n₀ + 1) zeroC 25 X W3 ∧ Bx1 (n₀ + 1 + 1) 28 (.int .i64 0) X W3 ∧ Bw n₀ w X W3 := by
  subst h
  have g0 := h0.kept0 hk
  have g1 := h1.kept0 hk
  have g2 := h2.kept0 hk
  have g3 := h3.kept0 hk
  have n1 : ∀ B, ¬ X B → ¬ orT (fun _ => False) X B := fun B hB h => h.elim hB (fun q => q)
  refine ⟨(KpX.of_kept hk).trans ((KpX.setCell (p := ⟨n₀, 0, none⟩) (n1 _ h0.2) _).trans ((KpX.setCell (p := ⟨n₀, 1, none⟩) (n1 _ h0.2) _).trans (KpX.setCell (p := ⟨n₀, 2, none⟩) (n1 _ h0.2) _))), ⟨?_, h0.2⟩, ?_, ?_, ?_⟩
  · exact For3.set (show For3 W2 n₀ _ _ _ from g0.1) _ _ _
  · exact (((g1.other (by omega)).other (by omega)).other (by omega))
  · exact (((g2.other (by omega)).other (by omega)).other (by omega))
  · exact ((g3.set (by omega) _).set (by omega) _).set (by omega) _

/-- What At answers. -/
def AtDoes (w : World) (r : Option Tr) (e : Ending) (w' : World) : Prop :=
  match r with
  | some u => ∃ kad kcap, e = .returned (.tuple #[.agg #[.int .u8 (u.op : Nat), .string u.name, .slice kad u.kids.length kcap], .int .i64 0]) ∧ IsT (fun k => w.heap.size ≤ k) w' u (.slice kad u.kids.length kcap) ∧ Kept [] w w'
  | none => e = .returned (.tuple #[.agg #[.int .u8 0, .string ⟨#[]⟩, .slice none 0 0], .int .i64 32]) ∧ Kept [] w w'

set_option maxHeartbeats 2000000 in
set_option maxRecDepth 20000 in
theorem at_any (t : Tr) (kv : Value) (p : ByteArray) (w : World) (hI : IsF w t kv) (hs : t.size ≤ 1099511627776) (hF : t.Fine) (hp : p.size ≤ 281474976710656) (hN : NumAt w) :
    Calls Tryz.prog 24 #[.agg #[.int .u8 (t.op : Nat), .string t.name, kv], .string p] w (AtDoes w (atT t p.data.toList)) := by
  obtain ⟨kad, kcap, rfl⟩ := hI.slice
  have HN : Hid (NumAt w) := hN
  have HI : Hid (IsF w t (.slice kad t.kids.length kcap)) := hI
  have HF : Hid t.Fine := hF
  have HCP : Hid _ := fun W' (u : Tr) (a : Option Addr) (c : Nat) (h : IsF W' u (.slice a u.kids.length c)) (h2 : u.size ≤ t.size) (h3 : u.Fine) => copy_any u _ W' h (by omega) h3
  clear hI hF hN
  obtain ⟨V, hV⟩ : ∃ V, ((w.alloc (.cells #[.int .u8 (t.op : Nat), .string t.name, .slice kad t.kids.length kcap] 25)).alloc (.cells #[.int .u8 0, .string ⟨#[]⟩, .slice none 0 0] 25)).alloc (.cells #[.int .i64 0] 28) = V := ⟨_, rfl⟩
  have kV : Kept [] w V := by rw [← hV]; exact (((Kept.refl [] w).alloc _).alloc _).alloc _
  have zV : V.heap.size = w.heap.size + 3 := by rw [← hV]; simp
  have v0 : For3 V w.heap.size (.int .u8 (t.op : Nat)) (.string t.name) (.slice kad t.kids.length kcap) := by rw [← hV]; exact alUp (alUp (al0 _ _) _) _
  have v1 : For3 V (w.heap.size + 1) (.int .u8 0) (.string ⟨#[]⟩) (.slice none 0 0) := by rw [← hV]; exact alUp (al1 _ _ _) _
  have v2 : Boxed V (w.heap.size + 1 + 1) 28 (.int .i64 0) := by rw [← hV]; exact al2 _ _ _ _
  have HV : Hid _ := hV
  have HK : Hid (Kept [] w V) := kV
  have HV0 : Hid (For3 V w.heap.size (.int .u8 (t.op : Nat)) (.string t.name) (.slice kad t.kids.length kcap)) := v0
  have HV1 : Hid (For3 V (w.heap.size + 1) (.int .u8 0) (.string ⟨#[]⟩) (.slice none 0 0)) := v1
  have HV2 : Hid (Boxed V (w.heap.size + 1 + 1) 28 (.int .i64 0)) := v2
  clear hV kV v0 v1 v2
  have HEMP : Hid (p.toList = p.data.toList) := ByteArray.toList_eq p
  refine (callsIn_wide (n := 9)).1 ?_
  refine callsIn_of_wp_marks Tryz.func24 rfl trivial ?_ rfl
  simp only [Tryz.ntmps24, List.size_toArray, List.length_cons, List.length_nil, Nat.reduceAdd, Nat.reduceSub, Array.replicate_succ, Array.replicate_zero, List.push_toArray, List.append_toArray, List.nil_append, List.cons_append]
  cases he : p.toList.isEmpty with
  | true =>
    have HR : Hid (atT t p.data.toList = some t) := by show atT t p.data.toList = _; unfold atT; rw [← HEMP.out, he]; rfl
    rw [HR.out]
    gi_wp2_with (refine ⟨trivial, ?_⟩; gi_at_call 45; rw [HV.out]; refine (callsIn_wide.2 (HCP.out _ t kad kcap (HI.out.kept HK.out) (Nat.le_refl _) HF.out)).mono ?_; rintro e W2 ⟨cad, ccap, rfl, hI2, hk2⟩; obtain ⟨d0, d1, d2, df⟩ := (HV1.out.kept hk2).cells; have hb2 : Boxed W2 (w.heap.size + 1 + 1) 28 (.int .i64 0) := (hk2.at HV2.out (by simp)); have cb := hb2.cell; have fb := hb2.frozen; have HI2 : Hid _ := hI2; have HK2 : Hid (Kept [] V W2) := hk2; clear hk2 hI2 hb2)
    have kset := kept_set3 (HK.out.trans HK2.out (by simp) (by simp) : Kept [] w W2) (B := w.heap.size + 1) (by omega) (.int .u8 (t.op : Nat)) (.string t.name) (.slice cad t.kids.length ccap)
    have hset := (HV1.out.kept HK2.out).set (.int .u8 (t.op : Nat)) (.string t.name) (.slice cad t.kids.length ccap)
    have hn : ¬ (V.heap.size ≤ w.heap.size + 1) := by omega
    have hn2 : ¬ (V.heap.size ≤ w.heap.size + 1 + 1) := by omega
    have hI3 : IsT (fun k => V.heap.size ≤ k) W2 t (.slice cad t.kids.length ccap) := HI2.out
    have hI4 := ((((hI3.other hn 0 (.int .u8 (t.op : Nat))).other hn 1 (.string t.name)).other hn 2 (.slice cad t.kids.length ccap)).other hn2 0 (.int .i64 0)).mono (Y := fun k => w.heap.size ≤ k) (fun k h => by omega)
    have hb3 : Boxed (((W2.setCell ⟨w.heap.size + 1, 0, none⟩ (.int .u8 (t.op : Nat))).setCell ⟨w.heap.size + 1, 1, none⟩ (.string t.name)).setCell ⟨w.heap.size + 1, 2, none⟩ (.slice cad t.kids.length ccap)) (w.heap.size + 1 + 1) 28 (.int .i64 0) :=
      (Below.heap_setCell _ _ _ _ (by show w.heap.size + 1 + 1 ≠ w.heap.size + 1; omega)).trans ((Below.heap_setCell _ _ _ _ (by show w.heap.size + 1 + 1 ≠ w.heap.size + 1; omega)).trans ((Below.heap_setCell _ _ _ _ (by show w.heap.size + 1 + 1 ≠ w.heap.size + 1; omega)).trans (HK2.out.at HV2.out (by simp))))
    refine leaveAt0 rfl rfl rfl ((Below.heap_setCell _ _ _ _ (by show w.heap.size + 1 ≠ w.heap.size + 1 + 1; omega)).trans hset) (hb3.set _) rfl ⟨cad, ccap, rfl, hI4, kset.setCell (p := ⟨w.heap.size + 1 + 1, 0, none⟩) (.inr (by dsimp only; omega)) _⟩
  | false =>
    have HR : Hid (atT t p.data.toList = goAt t (splitB 46 p.data.toList)) := by show atT t p.data.toList = _; unfold atT; rw [← HEMP.out, he]; rfl
    rw [HR.out]
    have HE : Hid _ := he
    gi_wp2_with (refine ⟨trivial, ?_⟩; gi_at_call 74; rw [HV.out]; refine (callsIn_wide.2 (splitSeq_any p V)).mono ?_; rintro e V2 ⟨rfl, hA, hz, hk⟩)
    rw [zV] at hA hz
    have kV2 : Kept [] w V2 := HK.out.trans hk (by simp) (by simp)
    have b0 : Blk w.heap.size (forC t kad kcap) 25 (splitX ((w.heap.size + 3) + 1) (w.heap.size + 3) ((w.heap.size + 3) + 1 + 1)) V2 := ⟨hk.at HV0.out (by simp), by unfold splitX; omega⟩
    have b1 : Blk (w.heap.size + 1) zeroC 25 (splitX ((w.heap.size + 3) + 1) (w.heap.size + 3) ((w.heap.size + 3) + 1 + 1)) V2 := ⟨hk.at HV1.out (by simp), by unfold splitX; omega⟩
    have b2 : Bx1 (w.heap.size + 1 + 1) 28 (.int .i64 0) (splitX ((w.heap.size + 3) + 1) (w.heap.size + 3) ((w.heap.size + 3) + 1 + 1)) V2 := ⟨hk.at HV2.out (by simp), by unfold splitX; omega⟩
    refine rangeAt1 rfl (by omega) (gf := 120) (lb := #[.pointer (some ⟨(w.heap.size + 3) + 1, 0, none⟩), .pointer (some ⟨(w.heap.size + 3), 0, none⟩), .pointer (some ⟨(w.heap.size + 3) + 1 + 1, 0, none⟩)]) rfl trivial (enters_of Tryz.func120 (by kernel_rfl) rfl)
      (split_goes (9 - 1) ((w.heap.size + 3) + 1) (w.heap.size + 3) ((w.heap.size + 3) + 1 + 1) p (by omega) V2 hA (by omega) (by omega)) ⟨fun _ h => h, fun _ _ h => h⟩ (fun k h => h.elim) (fun k h => by unfold splitX at h; omega) (fun _ => rfl)
      (fun X pre W => OnAt t w w.heap.size (pre.map bytesL) X W ∧ Blk (w.heap.size + 1) zeroC 25 X W ∧ Bx1 (w.heap.size + 1 + 1) 28 (.int .i64 0) X W ∧ Bw w.heap.size w X W)
      (fun c X pre W => c = .ret ∧ goAt t (pre.map bytesL) = none ∧ Blk (w.heap.size + 1) zeroC 25 X W ∧ Bx1 (w.heap.size + 1 + 1) 28 (.int .i64 32) X W ∧ Bw w.heap.size w X W)
      (abide_and (abide_on t w w.heap.size (fun pre : List ByteArray => pre.map bytesL)) (abide_and (abide_blk _ (fun _ => zeroC) _) (abide_and (abide_bx _ _ (fun _ => .int .i64 0)) (abide_bw _ _))))
      (fun _ => abide_and (abide_pure _) (abide_and (abide_pure (fun pre : List ByteArray => goAt t (pre.map bytesL) = none)) (abide_and (abide_blk _ (fun _ => zeroC) _) (abide_and (abide_bx _ _ (fun _ => .int .i64 32)) (abide_bw _ _)))))
      ⟨⟨t, kad, kcap, rfl, Nat.le_refl _, HF.out, HI.out, b0⟩, b1, b2, kV2.below, kV2.size, fun k h => by unfold splitX at h; omega⟩ ?a1 ?assign ?body ?done ?stop
    case assign =>
      intro l x W K hK
      dsimp only [bytesV]
      gi_wp2
      exact hK
    case body =>
      rintro l X pre x W _ _ hXb ⟨⟨u, uad, ucap, g1, g2, g3, g4, g5⟩, c1, c2, hB⟩ hxs hlt
      have hkW : Kept [] w W := kept_of_below hB.1
      have hNW := HN.out.kept hkW
      have HSN : Hid (goAt t ((pre ++ [x]).map bytesL) = stepAt x.data.toList u) := by show goAt t _ = _; rw [List.map_append, List.map_singleton, goAt_snoc, g1]; rfl
      dsimp only [forC] at g5
      dsimp only [zeroC] at c1
      obtain ⟨f0, f1, f2, ff⟩ := For3.cells (show For3 W w.heap.size _ _ _ from g5.1)
      obtain ⟨d0, d1, d2, df⟩ := For3.cells (show For3 W (w.heap.size + 1) _ _ _ from c1.1)
      have ec := c2.1.cell
      have ef := c2.1.frozen
      have HB0 : Hid (Blk w.heap.size #[.int .u8 (u.op : Nat), .string u.name, .slice uad u.kids.length ucap] 25 X W) := g5
      have HB1 : Hid (Blk (w.heap.size + 1) #[.int .u8 0, .string ⟨#[]⟩, .slice none 0 0] 25 X W) := c1
      have HB2 : Hid (Bx1 (w.heap.size + 1 + 1) 28 (.int .i64 0) X W) := c2
      have HB3 : Hid (Bw w.heap.size w X W) := hB
      have HNW : Hid (NumAt W) := hNW
      have HG : Hid (u.size ≤ t.size ∧ u.Fine ∧ IsF w u (.slice uad u.kids.length ucap)) := ⟨g2, g3, g4⟩
      clear g1 g2 g3 g4 g5 c1 c2 hB hNW hkW
      by_cases hok : ∃ v, Lib.atoiAll x.data.toList = .ok v
      · obtain ⟨v, hv⟩ := hok
        have HAT : Hid _ := fun W' => atoi_ok x (by omega) v hv W'
        obtain ⟨hv0, hv1⟩ := Lib.atoiAll_bounds hv
        have HIT : Hid _ := fun W' (k : Kept [] W W') => itoa_any v hv0 hv1 W' (HNW.out.kept k)
        have HST : Hid _ := stepN_ok hv
        clear hv
        obtain ⟨y, hy⟩ : ∃ y : ByteArray, (⟨(Lib.itoa v).toArray⟩ : ByteArray) = y := ⟨_, rfl⟩
        have hyl : Lib.itoa v = y.toList := by rw [← hy, ByteArray.toList_eq]
        rw [hy] at HIT
        have hxl : x.data.toList = x.toList := (ByteArray.toList_eq x).symm
        rw [hxl, hyl] at HST
        rw [hxl] at HSN
        clear hy hyl hxl
        by_cases hyx : (y.toList == x.toList) = true
        · rw [hyx, Bool.true_and] at HST
          have hyn : (y.toList != x.toList) = false := by simp [bne, hyx]
          by_cases hneg : v < 0
          · have HS2 : Hid (stepN x.toList = none) := by show stepN x.toList = none; rw [HST.out, if_neg (by simpa using hneg)]
            gi_wp2_with (first | (refine ⟨trivial, ?_⟩; gi_at_call 75; refine (CallsIn.inRound l (callsIn_wide.2 (HAT.out _))).mono ?_; rintro e W2 ⟨rfl, hk2⟩; have HK2 : Hid (Kept [] W W2) := hk2; clear hk2) | (refine ⟨trivial, ?_⟩; gi_at_call 76; refine (CallsIn.inRound l (callsIn_wide.2 (HIT.out _ HK2.out))).mono ?_; rintro e W3 ⟨rfl, hk3⟩; have hk4 := HK2.out.trans hk3 (H := []) (by simp) (by simp); obtain ⟨d0, d1, d2, df⟩ := For3.cells (show For3 W3 (w.heap.size + 1) _ _ _ from (HB1.out.kept0 hk4).1); obtain ⟨f0, f1, f2, ff⟩ := For3.cells (show For3 W3 w.heap.size _ _ _ from (HB0.out.kept0 hk4).1); have ec := (HB2.out.kept0 hk4).1.cell; have ef := (HB2.out.kept0 hk4).1.frozen; have HK3 : Hid (Kept [] W W3) := hk4; clear hk4 hk3))
            obtain ⟨r1, r2, r3, r4⟩ := at_err HB1.out HB2.out HB3.out HK3.out rfl
            exact ⟨r1, rfl, by rw [HSN.out, stepAt, HS2.out]; rfl, r2, r3, r4⟩
          · obtain ⟨i, rfl⟩ : ∃ i : Nat, v = (i : Int) := ⟨v.toNat, by omega⟩
            have HS2 : Hid (stepN x.toList = some i) := by show stepN x.toList = some i; rw [HST.out, if_pos (by simp)]; rfl
            clear HST hneg
            by_cases hil : i < u.kids.length
            · have hki : u.kids[i]? = some u.kids[i] := List.getElem?_eq_getElem hil
              obtain ⟨hk1, hk2'⟩ := kid_ok HG.out.1 HG.out.2.1 hki
              obtain ⟨b, off, rfl, hbl, hcs⟩ := IsT.kid HG.out.2.2 (show 0 < u.kids.length by omega)
              obtain ⟨kv', q0, q1, q2, q3⟩ := hcs i hil
              obtain ⟨lad, lcap, rfl⟩ := IsT.slice q3
              have HKI : Hid (goAt t ((pre ++ [x]).map bytesL) = some u.kids[i]) := by show goAt t _ = _; rw [HSN.out, stepAt, HS2.out]; exact hki
              obtain ⟨k, hkk⟩ : ∃ k, u.kids[i] = k := ⟨_, rfl⟩
              rw [hkk] at hki hk1 hk2' q0 q1 q2 q3 HKI
              have HQ3 : Hid (IsF w k (.slice lad k.kids.length lcap)) := q3
              have HK1 : Hid (k.size ≤ t.size ∧ k.Fine) := ⟨hk1, hk2'⟩
              have hili : (i : Int) < (u.kids.length : Int) := by omega
              have hun : u.kids.length ≤ 1099511627776 := by have := Tr.kids_size u; have := HG.out.1; omega
              clear hcs hki hk1 hk2' q3 HS2 HSN hkk
              gi_wp2_with (first | (refine ⟨trivial, ?_⟩; gi_at_call 75; refine (CallsIn.inRound l (callsIn_wide.2 (HAT.out _))).mono ?_; rintro e W2 ⟨rfl, hk2⟩; have HK2 : Hid (Kept [] W W2) := hk2; clear hk2) | (refine ⟨trivial, ?_⟩; gi_at_call 76; refine (CallsIn.inRound l (callsIn_wide.2 (HIT.out _ HK2.out))).mono ?_; rintro e W3 ⟨rfl, hk3⟩; have hk4 := HK2.out.trans hk3 (H := []) (by simp) (by simp); obtain ⟨d0, d1, d2, df⟩ := For3.cells (show For3 W3 (w.heap.size + 1) _ _ _ from (HB1.out.kept0 hk4).1); obtain ⟨f0, f1, f2, ff⟩ := For3.cells (show For3 W3 w.heap.size _ _ _ from (HB0.out.kept0 hk4).1); have ec := (HB2.out.kept0 hk4).1.cell; have ef := (HB2.out.kept0 hk4).1.frozen; have kk := (kept_of_below HB3.out.1).trans hk4 (H := []) (by simp) (by simp); have e0 := cell_kept0 kk q0; have e1 := cell_kept0 kk q1; have e2 := cell_kept0 kk q2; have HK3 : Hid (Kept [] W W3) := hk4; clear hk4 hk3 kk))
              obtain ⟨r1, r2, r3, r4, r5⟩ := at_step HB0.out HB1.out HB2.out HB3.out HK3.out rfl
              exact ⟨r1, ⟨k, lad, lcap, HKI.out, HK1.out.1, HK1.out.2, HQ3.out, r2⟩, r3, r4, r5⟩
            · have HS3 : Hid (u.kids[i]? = none) := List.getElem?_eq_none (by omega)
              have hili : (u.kids.length : Int) ≤ (i : Int) := by omega
              have hili2 : ¬ ((i : Int) < (u.kids.length : Int)) := by omega
              gi_wp2_with (first | (refine ⟨trivial, ?_⟩; gi_at_call 75; refine (CallsIn.inRound l (callsIn_wide.2 (HAT.out _))).mono ?_; rintro e W2 ⟨rfl, hk2⟩; have HK2 : Hid (Kept [] W W2) := hk2; clear hk2) | (refine ⟨trivial, ?_⟩; gi_at_call 76; refine (CallsIn.inRound l (callsIn_wide.2 (HIT.out _ HK2.out))).mono ?_; rintro e W3 ⟨rfl, hk3⟩; have hk4 := HK2.out.trans hk3 (H := []) (by simp) (by simp); obtain ⟨d0, d1, d2, df⟩ := For3.cells (show For3 W3 (w.heap.size + 1) _ _ _ from (HB1.out.kept0 hk4).1); obtain ⟨f0, f1, f2, ff⟩ := For3.cells (show For3 W3 w.heap.size _ _ _ from (HB0.out.kept0 hk4).1); have ec := (HB2.out.kept0 hk4).1.cell; have ef := (HB2.out.kept0 hk4).1.frozen; have HK3 : Hid (Kept [] W W3) := hk4; clear hk4 hk3))
              obtain ⟨r1, r2, r3, r4⟩ := at_err HB1.out HB2.out HB3.out HK3.out rfl
              exact ⟨r1, rfl, by rw [HSN.out, stepAt, HS2.out]; exact HS3.out, r2, r3, r4⟩
        · have hyf : (y.toList == x.toList) = false := by simpa using hyx
          have hyn : (y.toList != x.toList) = true := by simp [bne, hyf]
          rw [hyf, Bool.false_and] at HST
          have HS2 : Hid (stepN x.toList = none) := HST.out
          clear hyx
          gi_wp2_with (first | (refine ⟨trivial, ?_⟩; gi_at_call 75; refine (CallsIn.inRound l (callsIn_wide.2 (HAT.out _))).mono ?_; rintro e W2 ⟨rfl, hk2⟩; have HK2 : Hid (Kept [] W W2) := hk2; clear hk2) | (refine ⟨trivial, ?_⟩; gi_at_call 76; refine (CallsIn.inRound l (callsIn_wide.2 (HIT.out _ HK2.out))).mono ?_; rintro e W3 ⟨rfl, hk3⟩; have hk4 := HK2.out.trans hk3 (H := []) (by simp) (by simp); obtain ⟨d0, d1, d2, df⟩ := For3.cells (show For3 W3 (w.heap.size + 1) _ _ _ from (HB1.out.kept0 hk4).1); obtain ⟨f0, f1, f2, ff⟩ := For3.cells (show For3 W3 w.heap.size _ _ _ from (HB0.out.kept0 hk4).1); have ec := (HB2.out.kept0 hk4).1.cell; have ef := (HB2.out.kept0 hk4).1.frozen; have HK3 : Hid (Kept [] W W3) := hk4; clear hk4 hk3))
          obtain ⟨r1, r2, r3, r4⟩ := at_err HB1.out HB2.out HB3.out HK3.out rfl
          exact ⟨r1, rfl, by rw [HSN.out, stepAt, HS2.out]; rfl, r2, r3, r4⟩
      · have hno : ∀ v, Lib.atoiAll x.data.toList ≠ .ok v := fun v h => hok ⟨v, h⟩
        have HAT : Hid _ := fun W' (k : Kept [] W W') => atoi_not x (by omega) hno W' (HNW.out.kept k)
        have HST : Hid _ := stepN_not hno
        clear hok hno
        gi_wp2_with (refine ⟨trivial, ?_⟩; gi_at_call 75; refine (CallsIn.inRound l (callsIn_wide.2 (HAT.out _ (Kept.refl [] _)))).mono ?_; rintro e W2 ⟨n, N, rfl, hk2⟩; obtain ⟨d0, d1, d2, df⟩ := For3.cells (show For3 W2 (w.heap.size + 1) _ _ _ from (HB1.out.kept0 hk2).1); have ec := (HB2.out.kept0 hk2).1.cell; have ef := (HB2.out.kept0 hk2).1.frozen; have HK2 : Hid (Kept [] W W2) := hk2; clear hk2)
        refine ⟨trivial, ?_⟩
        gi_wp2
        obtain ⟨r1, r2, r3, r4⟩ := at_err HB1.out HB2.out HB3.out HK2.out rfl
        exact ⟨r1, rfl, by rw [HSN.out, stepAt, HST.out]; rfl, r2, r3, r4⟩
    case done =>
      rintro D X xs W hD hXD hS ⟨⟨u, uad, ucap, g1, g2, g3, g4, g5⟩, c1, c2, hB⟩ hK
      dsimp only [forC] at g5
      dsimp only [zeroC] at c1
      have HGO : Hid (goAt t (splitB 46 p.data.toList) = some u) := by show goAt t _ = _; rw [← hS, g1]
      obtain ⟨f0, f1, f2, ff⟩ := For3.cells (show For3 W w.heap.size _ _ _ from g5.1)
      have HB1 : Hid (Blk (w.heap.size + 1) #[.int .u8 0, .string ⟨#[]⟩, .slice none 0 0] 25 X W) := c1
      have HB2 : Hid (Bx1 (w.heap.size + 1 + 1) 28 (.int .i64 0) X W) := c2
      have HB3 : Hid (Bw w.heap.size w X W) := hB
      have HQ : Hid _ := hK
      have HCW : Hid _ := HCP.out W u uad ucap (g4.kept (kept_of_below hB.1)) g2 g3
      have hzW : w.heap.size ≤ W.heap.size := hB.2.1
      have hz2 := c2.1.lt
      clear g1 g2 g3 g4 g5 c1 c2 hB hK hS HCP
      gi_wp2_with (refine ⟨trivial, ?_⟩; gi_at_call 45; refine (callsIn_wide.2 HCW.out).mono ?_; rintro e W2 ⟨cad, ccap, rfl, hI2, hk2⟩; obtain ⟨d0, d1, d2, df⟩ := For3.cells (show For3 W2 (w.heap.size + 1) _ _ _ from (HB1.out.kept0 hk2).1); have ec := (HB2.out.kept0 hk2).1.cell; have ef := (HB2.out.kept0 hk2).1.frozen; have HI2 : Hid _ := hI2; have HK2 : Hid (Kept [] W W2) := hk2; clear hk2 hI2)
      have hn : ¬ (W.heap.size ≤ w.heap.size + 1) := by omega
      have hn2 : ¬ (W.heap.size ≤ w.heap.size + 1 + 1) := by omega
      have hI3 : IsT (fun k => W.heap.size ≤ k) W2 u (.slice cad u.kids.length ccap) := HI2.out
      have hI4 := ((((hI3.other hn 0 (.int .u8 (u.op : Nat))).other hn 1 (.string u.name)).other hn 2 (.slice cad u.kids.length ccap)).other hn2 0 (.int .i64 0)).mono (Y := fun k => w.heap.size ≤ k) (fun k h => by omega)
      have hset := For3.set (show For3 W2 (w.heap.size + 1) _ _ _ from (HB1.out.kept0 HK2.out).1) (.int .u8 (u.op : Nat)) (.string u.name) (.slice cad u.kids.length ccap)
      have hbx := ((((HB2.out.kept0 HK2.out).other (C := w.heap.size + 1) (o := 0) (u := .int .u8 (u.op : Nat)) (by omega)).other (C := w.heap.size + 1) (o := 1) (u := .string u.name) (by omega)).other (C := w.heap.size + 1) (o := 2) (u := .slice cad u.kids.length ccap) (by omega)).set (.int .i64 0)
      have hbw := ((((HB3.out.kept0 HK2.out).set (b := w.heap.size + 1) (o := 0) (by omega) (.int .u8 (u.op : Nat))).set (b := w.heap.size + 1) (o := 1) (by omega) (.string u.name)).set (b := w.heap.size + 1) (o := 2) (by omega) (.slice cad u.kids.length ccap)).set (b := w.heap.size + 1 + 1) (o := 0) (by omega) (.int .i64 0)
      have hD2 := HK2.out.at HQ.out (by simp)
      have hset2 := (Below.heap_setCell _ ⟨w.heap.size + 1 + 1, 0, none⟩ (.int .i64 0) (w.heap.size + 1) (by show w.heap.size + 1 ≠ w.heap.size + 1 + 1; omega)).trans hset
      obtain ⟨W6, hW6⟩ : ∃ W6, (((W2.setCell ⟨w.heap.size + 1, 0, none⟩ (.int .u8 (u.op : Nat))).setCell ⟨w.heap.size + 1, 1, none⟩ (.string u.name)).setCell ⟨w.heap.size + 1, 2, none⟩ (.slice cad u.kids.length ccap)).setCell ⟨w.heap.size + 1 + 1, 0, none⟩ (.int .i64 0) = W6 := ⟨_, rfl⟩
      have hD6 : W6.heap[D]? = some (.deferred (some [])) := by
        rw [← hW6]
        exact (Below.heap_setCell _ _ _ _ (by show D ≠ w.heap.size + 1 + 1; omega)).trans ((Below.heap_setCell _ _ _ _ (by show D ≠ w.heap.size + 1; omega)).trans ((Below.heap_setCell _ _ _ _ (by show D ≠ w.heap.size + 1; omega)).trans ((Below.heap_setCell _ _ _ _ (by show D ≠ w.heap.size + 1; omega)).trans hD2)))
      rw [hW6] at hI4 hbx hbw hset2 ⊢
      have hk6 := nil_or_eq hD6 hbw.1 (by omega)
      refine leaveAt rfl rfl rfl hset2 hbx.1 rfl hD6 ?_
      show AtDoes w (goAt t (splitB 46 p.data.toList)) _ _
      rw [HGO.out]
      refine ⟨cad, ccap, rfl, ?_, hk6⟩
      exact hI4.cells (fun _ h => h) (fun _ _ _ _ c => cell_turn hD6 rfl c)
    case stop =>
      rintro D X c pre W hD _ hS ⟨rfl, hno, c1, c2, hB⟩ hK
      have hgo : goAt t (splitB 46 p.data.toList) = none := by
        obtain ⟨r, hr⟩ := hS
        rw [← hr]
        exact goAt_none t _ r hno
      gi_wp2
      refine leaveAt rfl rfl rfl c1.1 c2.1 rfl hK ?_
      show AtDoes w (goAt t (splitB 46 p.data.toList)) _ _
      rw [hgo]
      exact ⟨rfl, nil_or_eq hK hB.1 (by omega)⟩
end Go.Proofs.YtnjajafmmociiaaGreatDoor
