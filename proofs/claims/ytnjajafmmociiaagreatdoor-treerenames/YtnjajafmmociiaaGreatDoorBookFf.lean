/- The book's Formula and Formulas: all lists of a tree. -/
import Derived.Test.YtnjajafmmociiaaGreatDoorFB
import Derived.Test.YtnjajafmmociiaaGreatDoorTrOwn
import Derived.Deep.CutRange
namespace Go.Proofs.YtnjajafmmociiaaGreatDoor
open Go.RowKit Go.Shelf
attribute [local go_sem ↓] Go.wp_at_zero Go.wp_at_succ

theorem triples : ∀ (n : Nat) (l : List Value), l.length = n * 3 → ∃ xs : List T3, xs.length = n ∧ f3s xs = l
  | 0, l, h => ⟨[], rfl, (List.eq_nil_of_length_eq_zero (by simpa using h)).symm⟩
  | n + 1, l, h => by
    match l, h with
    | a :: b :: c :: l', h =>
      obtain ⟨xs, h1, h2⟩ := triples n l' (by simp at h; omega)
      exact ⟨(a, b, c) :: xs, by simp [h1], by rw [← h2]; rfl⟩
    | [], h => simp at h
    | [_], h => simp at h; omega
    | [_, _], h => simp at h; omega
theorem IsO.type {w : World} {t : Tr} : ∀ {kv : Value} {L : List Nat}, IsO w t kv L → ∀ g ∈ L, ∃ arr, w.heap[g]? = some (.cells arr 25 (0, 0)) := by
  induction t using Tr.ind with
  | h t ih =>
    intro kv L h g hg
    rcases (isO_eq t kv L).1 h with ⟨_, _, rfl⟩ | ⟨h0, b, arr, Ls, e1, e2, e3, e4, rfl, e6⟩
    · cases hg
    · rcases List.mem_cons.1 hg with rfl | hg
      · exact ⟨arr, e2⟩
      · obtain ⟨l, hl, hx⟩ := List.mem_flatten.1 hg
        obtain ⟨i, hi, rfl⟩ := List.getElem_of_mem hl
        obtain ⟨kv', _, _, _, hr⟩ := e6 i (by omega) hi
        exact ih _ (List.getElem_mem _) hr g hx
theorem BookF.offL {W : World} {base base' B g : Nat} {lv : Value} {vs : List Value} {xss : List (List T3)} (h : BookF W base base' B lv vs xss) {arr : Array Value} (hg : W.heap[g]? = some (.cells arr 25 (0, 0))) : g ∉ bookW B lv := by
  intro hm
  rcases List.mem_cons.1 hm with q | q
  · subst q
    rw [h.head] at hg
    cases hg
  · obtain ⟨c, e⟩ := row_typeF h.inn.list (show lv.ownBlock = some g by simpa using q)
    rw [e] at hg
    cases hg
theorem blocks_snoc {vs : List Value} {v : Value} {g : Nat} (h : g ∈ blocksOfF (vs ++ [v])) : g ∈ blocksOfF vs ∨ v.ownBlock = some g := by
  unfold blocksOfF at h ⊢
  rw [List.filterMap_append, List.mem_append] at h
  refine h.imp id (fun q => ?_)
  obtain ⟨u, hu, hg⟩ := List.mem_filterMap.1 q
  rw [List.mem_singleton.1 hu] at hg
  exact hg
theorem blocks_app {vs us : List Value} {g : Nat} (h : g ∈ blocksOfF (vs ++ us)) : g ∈ blocksOfF vs ∨ g ∈ blocksOfF us := by
  unfold blocksOfF at h ⊢
  rwa [List.filterMap_append, List.mem_append] at h
/-- What the book holds behind a tree's lists. -/
def Shelved (w : World) (base base' B : Nat) (lv : Value) (vs : List Value) (xss : List (List T3)) (L : List Nat) (n : Nat) (w' : World) : Prop :=
  ∃ lv' vs' xss', BookF w' base base' B lv' (vs ++ vs') (xss ++ xss') ∧ (∀ g ∈ blocksOfF vs', g ∈ L) ∧ vs'.length = n ∧ Kept (bookW B lv) w w' ∧ (∀ g, lv'.ownBlock = some g → lv.ownBlock = some g ∨ w.heap.size ≤ g)
def PutDoes (t : Tr) : Prop := ∀ (o : Nat) (nm : ByteArray) (kv : Value) (L : List Nat) (B base base' : Nat) (lv : Value) (vs : List Value) (xss : List (List T3)) (w : World), IsO w t kv L → L.Nodup → (∀ g ∈ L, base ≤ g) → BookF w base base' B lv vs xss → (∀ g ∈ L, g ∉ blocksOfF vs) → vs.length + t.size ≤ 100000000 →
  Calls Tryz.prog 10 #[.pointer (some ⟨B, 0, none⟩), .agg #[.int .u8 (o : Nat), .string nm, kv]] w fun e w' => (∃ v, e = .returned v) ∧ Shelved w base base' B lv vs xss L t.size w'
theorem flat_notin {Ls : List (List Nat)} (hnd : Ls.flatten.Nodup) {i : Nat} (hi : i < Ls.length) {g : Nat} (hg : g ∈ Ls[i]) : g ∉ (Ls.take i).flatten := by
  intro hx
  obtain ⟨l, hl, hgl⟩ := List.mem_flatten.1 hx
  obtain ⟨j, hj, rfl⟩ := List.getElem_of_mem hl
  rw [List.length_take] at hj
  rw [List.getElem_take] at hgl
  have := (List.pairwise_flatten.1 hnd).2
  exact List.pairwise_iff_getElem.1 this j i (by omega) hi (by omega) g hgl g hg rfl
theorem sum_take_leB (l : List Nat) (i : Nat) : (l.take i).sum ≤ l.sum := by
  conv => rhs; rw [← List.take_append_drop i l, List.sum_append]
  omega
theorem sum_take_succB (l : List Nat) (i : Nat) (h : i < l.length) : (l.take (i + 1)).sum = (l.take i).sum + l[i] := by
  rw [List.take_succ_eq_append_getElem h, List.sum_append, List.sum_singleton]
/-- What the book holds between two rounds. -/
structure ShAt (w : World) (base base' B : Nat) (lv : Value) (vs : List Value) (xss : List (List T3)) (kv : Value) (xs : List T3) (Ls : List (List Nat)) (sz : List Nat) (i : Nat) (wr : World) : Prop where
  ex : ∃ lv' vs' xss', BookF wr base base' B lv' (vs ++ [kv] ++ vs') (xss ++ [xs] ++ xss') ∧ (∀ g ∈ blocksOfF vs', g ∈ (Ls.take i).flatten) ∧ vs'.length = (sz.take i).sum ∧ (∀ g, lv'.ownBlock = some g → lv.ownBlock = some g ∨ w.heap.size ≤ g)
  kept : Kept (bookW B lv) w wr
theorem ShAt.next {w wr W2 : World} {base base' B : Nat} {lv lv' : Value} {vs vs' : List Value} {xss xss' : List (List T3)} {kv : Value} {xs : List T3} {Ls : List (List Nat)} {sz : List Nat} {i n : Nat} (hi : i < Ls.length) (hs : i < sz.length) (hn : sz[i] = n)
    (h1 : ∀ g ∈ blocksOfF vs', g ∈ (Ls.take i).flatten) (h2 : vs'.length = (sz.take i).sum) (h3 : ∀ g, lv'.ownBlock = some g → lv.ownBlock = some g ∨ w.heap.size ≤ g) (hk : Kept (bookW B lv) w wr)
    (h : Shelved wr base base' B lv' (vs ++ [kv] ++ vs') (xss ++ [xs] ++ xss') Ls[i] n W2) : ShAt w base base' B lv vs xss kv xs Ls sz (i + 1) W2 := by
  obtain ⟨lv2, vs2, xss2, q1, q2, q3, q4, q5⟩ := h
  have hsz := hk.size
  refine ⟨⟨lv2, vs' ++ vs2, xss' ++ xss2, by simpa [List.append_assoc] using q1, fun g hg => ?_, by rw [List.length_append, h2, q3, sum_take_succB _ _ hs, hn], fun g hg => ?_⟩, hk.trans q4 (fun _ h => h) (fun x hx => ?_)⟩
  · rw [List.take_succ_eq_append_getElem hi, List.flatten_append, List.mem_append]
    rcases blocks_app hg with q | q
    · exact .inl (h1 g q)
    · exact .inr (by simpa using q2 g q)
  · rcases q5 g hg with q | q
    · exact h3 g q
    · right; omega
  · rcases List.mem_cons.1 hx with rfl | q
    · exact .inl (by simp [bookW])
    · rcases h3 x (by simpa using q) with r | r
      · exact .inl (by simp [bookW, r])
      · exact .inr r
set_option maxHeartbeats 2000000 in
set_option maxRecDepth 20000 in
theorem puts_any (t : Tr) (ih : ∀ k ∈ t.kids, PutDoes k) (kv : Value) (L : List Nat) (B base base' : Nat) (lv : Value) (vs : List Value) (xss : List (List T3)) (w : World) (hI : IsO w t kv L) (hnd : L.Nodup) (hb : ∀ g ∈ L, base ≤ g) (hB : BookF w base base' B lv vs xss) (hoff : ∀ g ∈ L, g ∉ blocksOfF vs) (hfew : vs.length + t.size ≤ 100000000) :
    Calls Tryz.prog 46 #[.pointer (some ⟨B, 0, none⟩), kv] w fun e w' => (∃ v, e = .returned v) ∧ Shelved w base base' B lv vs xss L t.size w' := by
  have hty := hI.type
  have hlt := hI.lt
  have hsize := t.size_eq
  -- the list itself
  obtain ⟨kad, kcap, xs, Ls, rfl, hxl, hrow, hown, hLs, hflat, hkids⟩ : ∃ (kad : Option Addr) (kcap : Nat) (xs : List T3) (Ls : List (List Nat)), kv = .slice kad xs.length kcap ∧ xs.length = t.kids.length ∧ w.ownsRow base 25 3 kv xs.length (f3s xs) ∧ (∀ g, kv.ownBlock = some g → g ∈ L ∧ g ∉ Ls.flatten) ∧ Ls.length = t.kids.length ∧ (Ls.flatten.Nodup ∧ ∀ g ∈ Ls.flatten, g ∈ L) ∧
      ∀ i (h : i < t.kids.length) (h' : i < Ls.length), ∃ b kvi, kad = some ⟨b, 0, none⟩ ∧ b ∈ L ∧ w.cell? ⟨b, i * 3, none⟩ = some (.int .u8 (t.kids[i].op : Nat)) ∧ w.cell? ⟨b, i * 3 + 1, none⟩ = some (.string t.kids[i].name) ∧ w.cell? ⟨b, i * 3 + 2, none⟩ = some kvi ∧ IsO w t.kids[i] kvi Ls[i] := by
    rcases (isO_eq t kv L).1 hI with ⟨h0, rfl, rfl⟩ | ⟨h0, b, arr, Ls, rfl, e2, e3, e4, rfl, e6⟩
    · exact ⟨none, 0, [], [], rfl, h0.symm, World.ownsRow_nil _ _ _ _, (fun g hg => by cases hg), (by rw [h0]; rfl), ⟨by simp, by simp⟩, fun i hi => by omega⟩
    · obtain ⟨xs, h1, h2⟩ := triples t.kids.length arr.toList (by rw [Array.length_toList]; exact e3)
      rw [List.nodup_cons] at hnd
      refine ⟨_, _, xs, Ls, by rw [h1], h1, ⟨by rw [f3s_len], .inr ⟨b, t.kids.length, arr, by rw [h1], hb b (by simp), e2, by omega, by have := t.kids_size; unfold maxLen; omega, e3, ?_⟩⟩, fun g hg => ?_, e4, ⟨hnd.2, fun g hg => List.mem_cons_of_mem _ hg⟩, fun i hi hl => ?_⟩
      · rw [h1, ← e3, List.take_of_length_le (by rw [Array.length_toList]; exact Nat.le_refl _), h2]
      · have e : b = g := by simpa [Value.ownBlock] using hg
        subst e
        exact ⟨by simp, hnd.1⟩
      · obtain ⟨kvi, c0, c1, c2, hr⟩ := e6 i hi hl
        exact ⟨b, kvi, rfl, by simp, (cell_of e2 _).trans c0, (cell_of e2 _).trans c1, (cell_of e2 _).trans c2, hr⟩
  have hone := hown
  obtain ⟨g, cap, w', hrun, hfz, hB1, hK1, hg1, hc⟩ := hB.put hrow (fun v hv g hg hg2 => hoff g (hone g hg2).1 (List.mem_filterMap.2 ⟨v, hv, hg⟩)) (by have := t.kids_size; omega) (by have := t.kids_size; omega)
  have hoffB : ∀ x ∈ L, x ∉ bookW B lv := fun x hx => by
    obtain ⟨arr, ha⟩ := hty x hx
    exact hB.offL ha
  obtain ⟨w1, hw1⟩ : ∃ w1, w'.setCell ⟨B, 12, none⟩ (.slice (some ⟨g, 0, none⟩) (vs.length + 1) cap) = w1 := ⟨_, rfl⟩
  rw [hw1] at hB1 hK1
  have HW1 : Hid (w'.setCell ⟨B, 12, none⟩ (.slice (some ⟨g, 0, none⟩) (vs.length + 1) cap) = w1) := hw1
  obtain ⟨sz, hsz⟩ : ∃ sz, t.kids.map Tr.size = sz := ⟨_, rfl⟩
  have hszl : sz.length = t.kids.length := by rw [← hsz, List.length_map]
  have HST : Hid (ShAt w base base' B lv vs xss (.slice kad xs.length kcap) xs Ls sz 0 w1) := ⟨⟨_, [], [], by simpa using hB1, by simp [blocksOfF], by simp, fun b hb => by
    have e : g = b := by simpa [Value.ownBlock] using hb
    subst e
    exact hg1⟩, hK1⟩
  have HEND : Hid (∀ wr, ShAt w base base' B lv vs xss (.slice kad xs.length kcap) xs Ls sz t.kids.length wr → Shelved w base base' B lv vs xss L t.size wr) := fun wr h => by
    obtain ⟨⟨lv', vs', xss', q1, q2, q3, q4⟩, q5⟩ := h
    refine ⟨lv', [.slice kad xs.length kcap] ++ vs', [xs] ++ xss', by simpa [List.append_assoc] using q1, fun x hx => ?_, ?_, q5, q4⟩
    · rcases blocks_app hx with r | r
      · have r' : (Value.slice kad xs.length kcap).ownBlock = some x := by simpa [blocksOfF] using r
        exact (hone x r').1
      · have := q2 x r
        rw [List.take_of_length_le (by omega)] at this
        exact hflat.2 x this
    · rw [List.length_append, q3, List.take_of_length_le (by omega), hsize, hsz]
      rfl
  have HCALL : Hid (∀ i (h : i < t.kids.length) (wr : World), ShAt w base base' B lv vs xss (.slice kad xs.length kcap) xs Ls sz i wr → ∃ b kvad kvcap, kad = some ⟨b, 0, none⟩ ∧ wr.cell? ⟨b, i * 3, none⟩ = some (.int .u8 (t.kids[i].op : Nat)) ∧ wr.cell? ⟨b, i * 3 + 1, none⟩ = some (.string t.kids[i].name) ∧ wr.cell? ⟨b, i * 3 + 2, none⟩ = some (.slice kvad t.kids[i].kids.length kvcap) ∧
      Calls Tryz.prog 10 #[.pointer (some ⟨B, 0, none⟩), .agg #[.int .u8 (t.kids[i].op : Nat), .string t.kids[i].name, .slice kvad t.kids[i].kids.length kvcap]] wr fun e w' => (∃ v, e = .returned v) ∧ ShAt w base base' B lv vs xss (.slice kad xs.length kcap) xs Ls sz (i + 1) w') := fun i hi wr h => by
    have hil : i < Ls.length := by omega
    have his : i < sz.length := by omega
    obtain ⟨b, kvi, rfl, hbL, c0, c1, c2, hIk⟩ := hkids i hi hil
    obtain ⟨kvad, kvcap, rfl⟩ := hIk.slice
    obtain ⟨⟨lv', vs', xss', q1, q2, q3, q4⟩, q5⟩ := h
    have same : ∀ x ∈ L, wr.heap[x]? = w.heap[x]? := fun x hx => q5.block x (hlt x hx) (hoffB x hx)
    have cc : ∀ o v, w.cell? ⟨b, o, none⟩ = some v → wr.cell? ⟨b, o, none⟩ = some v := fun o v hc => by
      rw [World.cell?_of_block (w := w) (a := ⟨b, o, none⟩) (same b hbL)]
      exact hc
    have hsi : sz[i] = t.kids[i].size := by subst hsz; simp
    refine ⟨b, kvad, kvcap, rfl, cc _ _ c0, cc _ _ c1, cc _ _ c2, ?_⟩
    refine (ih t.kids[i] (List.getElem_mem _) _ _ _ Ls[i] B base base' lv' _ _ wr (hIk.keep (fun x hx => same x (hflat.2 x (mem_flat hil hx)))) ((List.pairwise_flatten.1 hflat.1).1 _ (List.getElem_mem _)) (fun x hx => hb x (hflat.2 x (mem_flat hil hx))) q1 (fun x hx hm => ?_) ?_).mono (fun e w2 r => ⟨r.1, ShAt.next hil his hsi q2 q3 q4 q5 r.2⟩)
    · have hxf := mem_flat hil hx
      rcases blocks_app hm with r | r
      · rcases blocks_snoc r with r | r
        · exact hoff x (hflat.2 x hxf) r
        · exact (hone x r).2 hxf
      · exact flat_notin hflat.1 hil hx (q2 x r)
    · have h1 := sum_take_succB sz i his
      have h2 := sum_take_leB sz (i + 1)
      rw [hsz] at hsize
      simp only [List.length_append, List.length_singleton, q3]
      omega
  have HRUN : Hid (∀ ty, (Builtin.append_ #[45, 45] ty #[lv, .slice (some ⟨w.heap.size, 0, none⟩) 1 1]).run Tryz.prog (w.alloc (.cells #[.slice kad xs.length kcap] 23)) = .ok (.slice (some ⟨g, 0, none⟩) (vs.length + 1) cap) w') := hrun
  have c12 : w.cell? ⟨B, 12, none⟩ = some lv := by rw [cell_of hB.head]; rfl
  obtain ⟨lad, lc, rfl⟩ := own_formF hB.inn.list
  obtain ⟨n, hn⟩ : ∃ n, xs.length = n := ⟨_, rfl⟩
  have HN : Hid (xs.length = n ∧ t.kids.length = n) := ⟨hn, hxl.symm.trans hn⟩
  rw [hn] at HRUN HEND HCALL HST
  have hnk := hxl.symm.trans hn
  have hn8 : n ≤ 100000000 := by have := t.kids_size; omega
  rw [hn]
  rw [hnk] at HEND
  clear hrun hB1 hK1 hg1 hB hone hoffB hrow hown hflat hkids hty hlt hoff hb hnd hI ih hw1 hsz hszl hsize hn hnk hxl hLs hfew
  go_enter Tryz.func46, Tryz.ntmps46
  go_upto_region 1 with (at_builtin; refine Lib.wpList_append_run _ rfl _ _ _ _ rfl _ _ rfl rfl _ _ (HRUN.out _) ?_)
  rw [HW1.out]
  clear c12 hfz hc
  go_wp2_with fail
  go_loopw [4] (fun v wr => ∃ i : Nat, v = .int .i64 (i : Nat) ∧ i ≤ n ∧ Hid (ShAt w base base' B (.slice lad vs.length lc) vs xss (.slice kad n kcap) xs Ls sz i wr)) (fun v _ => n - (intOf v).toNat)
  case atStart => exact ⟨0, rfl, Nat.zero_le _, HST.out⟩
  case round =>
    obtain ⟨i, rfl, hi, HR⟩ := hrel
    by_cases hlt : i < n
    · have z0 : (i : Int) < (n : Int) := by omega
      have z00 : (0 : Int) ≤ (i : Int) := by omega
      have hik : i < t.kids.length := by rw [HN.out.2]; exact hlt
      obtain ⟨b, kvad, kvcap, rfl, c0, c1, c2, hcall⟩ := HCALL.out i hik wr HR.out
      have HCA : Hid _ := fun (_ : Unit) => hcall
      generalize t.kids[i].op = ko at *
      generalize t.kids[i].name = kn at *
      generalize t.kids[i].kids.length = kl at *
      clear hcall HCALL hik
      go_wp2_with (go_at_call 10; refine (HCA.out ()).mono ?_; rintro e W5 ⟨⟨v, rfl⟩, hS⟩; have HS : Hid (ShAt w base base' B (.slice lad vs.length lc) vs xss (.slice (some ⟨b, 0, none⟩) n kcap) xs Ls sz (i + 1) W5) := hS; clear hS)
      go_roundw
      case rel => exact ⟨i + 1, by go_num, by omega, HS.out⟩
      case measure => simp [intOf]; omega
    · obtain rfl : i = n := by omega
      have z0 : ¬ ((i : Int) < (i : Int)) := by omega
      go_wp2
      first | go_end0 | refine bodyPost_ret (results_none rfl _ _ _) rfl ?_
      exact ⟨⟨_, rfl⟩, HEND.out _ HR.out⟩
set_option maxHeartbeats 1000000 in
theorem bookFormula_any (t : Tr) : PutDoes t := by
  induction t using Tr.ind with
  | h t ih =>
    intro o nm kv L B base base' lv vs xss w hI hnd hb hB hoff hfew
    have kA : Kept [] w (w.alloc (.cells #[.int .u8 (o : Nat), .string nm, kv] 25)) := (Kept.refl [] w).alloc _
    have HS : Hid (Calls Tryz.prog 46 #[.pointer (some ⟨B, 0, none⟩), kv] (w.alloc (.cells #[.int .u8 (o : Nat), .string nm, kv] 25)) fun e w' => (∃ v, e = .returned v) ∧ Shelved w base base' B lv vs xss L t.size w') := (puts_any t ih kv L B base base' lv vs xss _ (hI.keep (fun b hb => kA.block b (hI.lt b hb) (by simp))) hnd hb (hB.quiet kA) hoff hfew).mono (fun e w' q => by
      obtain ⟨q0, lv', vs', xss', q1, q2, q3, q4, q5⟩ := q
      have hs := kA.size
      exact ⟨q0, lv', vs', xss', q1, q2, q3, kA.trans q4 (by simp) (fun x hx => .inl hx), fun g hg => (q5 g hg).imp id (fun h => by omega)⟩)
    obtain ⟨kad, kcap, rfl⟩ := hI.slice
    clear hI hnd hb hB hoff hfew ih kA
    go_enter Tryz.func10, Tryz.ntmps10
    go_wp2_with (go_at_call 46; refine HS.out.mono ?_; rintro e W5 ⟨⟨v, rfl⟩, hS⟩; have HS5 : Hid (Shelved w base base' B lv vs xss L t.size W5) := hS; clear hS)
    first | go_end0 | refine bodyPost_ret (results_none rfl _ _ _) rfl ?_
    exact ⟨⟨_, rfl⟩, HS5.out⟩
end Go.Proofs.YtnjajafmmociiaaGreatDoor
