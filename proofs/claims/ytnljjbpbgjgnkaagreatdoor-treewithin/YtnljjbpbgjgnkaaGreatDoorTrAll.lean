/- tree.All: what stands in a tree, each with its path, by the iterator of parts. -/
import Derived.Test.YtnljjbpbgjgnkaaGreatDoorTrPath
import Derived.Test.YtnljjbpbgjgnkaaGreatDoorTrCopy
import Derived.Test.YtnljjbpbgjgnkaaGreatDoorTrBox
import Derived.Test.YtnljjbpbgjgnkaaGreatDoorRgAtX
import Derived.RangeFuncBox
import Derived.Stop.RegionWithIn
import Derived.Sort.CutIn
namespace Go.Proofs.YtnljjbpbgjgnkaaGreatDoor
open Go.RowKit Go.Shelf
attribute [local go_sem] Oper.semAt_some

theorem keptT {A B C : World} (h : Kept [] A B) (k : Kept [] B C) : Kept [] A C := Kept.trans (F := []) (G := []) (H := []) h k (by simp) (by simp)
theorem IsT.off {X Y : Nat → Prop} {w : World} (hX : ∀ b o v, X b → w.cell? ⟨b, o, none⟩ = some v → Y b) {t : Tr} : ∀ {kv : Value}, IsT X w t kv → IsT Y w t kv := by
  induction t using Tr.ind with
  | h t ih =>
    intro kv h
    obtain ⟨ad, cap, e, h⟩ := (isT_eq t kv).1 h
    refine (isT_eq t kv).2 ⟨ad, cap, e, ?_⟩
    rcases Nat.eq_zero_or_pos t.kids.length with h0 | h0
    · exact .inl h0
    · rcases h with h | ⟨b, off, e1, e2, hk⟩
      · exact .inl h
      · refine .inr ⟨b, off, e1, ?_, fun i hi => ?_⟩
        · obtain ⟨kv', c1, _⟩ := hk 0 h0
          exact hX b _ _ e2 c1
        · obtain ⟨kv', c1, c2, c3, c4⟩ := hk i hi
          exact ⟨kv', c1, c2, c3, ih _ (List.getElem_mem hi) c4⟩
theorem rowsFrom_at {β : Type} {p : List Nat} {x : β} : ∀ {rs : List (List Nat → List β)} {i : Nat}, x ∈ rowsFrom p i rs → ∃ (k : Nat) (h : k < rs.length), x ∈ rs[k] (p ++ [i + k])
  | [], _, h => by simp [rowsFrom] at h
  | r :: rs, i, h => by
    rw [rowsFrom] at h
    rcases List.mem_append.1 h with h | h
    · exact ⟨0, by simp, h⟩
    · obtain ⟨k, hk, hx⟩ := rowsFrom_at h
      exact ⟨k + 1, by simp; omega, by rw [show i + (k + 1) = i + 1 + k by omega]; exact hx⟩
theorem parts_path (t : Tr) : ∀ p x, x ∈ t.parts p → ∀ i ∈ x.1, i ∈ p ∨ i < t.size := by
  induction t using Tr.ind with
  | h t ih =>
    intro p x hx i hi
    rw [Tr.parts_eq] at hx
    rcases List.mem_cons.1 hx with rfl | hx
    · exact .inl hi
    · obtain ⟨k, hk, hq⟩ := rowsFrom_at hx
      have hk' : k < t.kids.length := by simpa using hk
      rw [List.getElem_map] at hq
      rcases ih _ (List.getElem_mem hk') _ x hq i hi with h | h
      · rcases List.mem_append.1 h with h | h
        · exact .inl h
        · right
          have e : i = 0 + k := by simpa using h
          have := t.kids_size
          omega
      · right
        have := Tr.kid_size (List.getElem_mem hk')
        omega
theorem part_all {q : Tr → Prop} (t : Tr) : ∀ p x, t.All q → x ∈ t.parts p → x.2.All q ∧ x.2.size ≤ t.size := by
  induction t using Tr.ind with
  | h t ih =>
    intro p x ht hx
    rw [Tr.parts_eq] at hx
    rcases List.mem_cons.1 hx with rfl | hx
    · exact ⟨ht, Nat.le_refl _⟩
    · obtain ⟨r, hr, q', hq⟩ := rowsFrom_mem hx
      obtain ⟨k, hk, rfl⟩ := List.mem_map.1 hr
      obtain ⟨h1, h2⟩ := ih k hk q' x (((Tr.all_eq t).1 ht).2 k hk) hq
      have := Tr.kid_size hk
      exact ⟨h1, by omega⟩
/-- What comes: a path, and a copy of what stands there. -/
structure Al where
  path : List Nat
  t : Tr
  kad : Option Addr
  kcap : Nat
def Al.key (x : Al) : List Nat × Tr := (x.path, x.t)
def alC (x : Al) : Array Value := #[.int .u8 (x.t.op : Nat), .string x.t.name, .slice x.kad x.t.kids.length x.kcap]
def alV (x : Al) : Array Value := #[.string ⟨(pathB x.path).toArray⟩, .agg #[.int .u8 (x.t.op : Nat), .string x.t.name, .slice x.kad x.t.kids.length x.kcap]]
structure AlAt (t₀ : Tr) (X : Nat → Prop) (x : Al) (W : World) : Prop where
  tree : IsT (fun k => ¬ X k) W x.t (.slice x.kad x.t.kids.length x.kcap)
  mem : x.key ∈ t₀.parts []
theorem no_cell {W : World} {l o : Nat} {ob : Obj} {v : Value} (hl : W.heap[l]? = some ob) (hc : ob.isCells = false) (h : W.cell? ⟨l, o, none⟩ = some v) : False := by
  simp only [World.cell?, hl] at h
  cases ob <;> first | (simp at h; done) | (cases hc; done)
theorem alAt_kept (t₀ : Tr) : AtKeptX (AlAt t₀) :=
  ⟨fun k h => ⟨h.tree.cells (fun _ h => h) (fun _ _ _ _ c => cell_kept0 k c), h.mem⟩,
   fun hl hc h => ⟨h.tree.cells (fun _ h => h) (fun _ _ _ _ c => cell_turn hl hc c), h.mem⟩,
   fun hl hc h => ⟨h.tree.off (fun _ _ _ hb hv hx => hx.elim hb (fun e => no_cell hl hc (e ▸ hv))), h.mem⟩,
   fun hX h => ⟨h.tree.mono (fun k hk hx => hk (hX k hx)), h.mem⟩⟩
theorem PowTab.own {Y : Nat → Prop} {w w' : World} (h : PowTab w) (k : KpX Y w w') (hg : Y 6) : PowTab w' := by
  unfold PowTab Lib.TabIs World.var? at h ⊢
  rw [Tryz.globPow'] at h ⊢
  simp only [Option.bind_some] at h ⊢
  cases ho : w.heap[6]? with
  | none => rw [ho] at h; cases h
  | some o => rw [k.own _ o hg ho]; rw [ho] at h; exact h
theorem PowTab.lt {w : World} (h : PowTab w) : 6 < w.heap.size := by
  unfold PowTab Lib.TabIs World.var? at h
  rw [Tryz.globPow'] at h
  simp only [Option.bind_some] at h
  cases ho : w.heap[6]? with
  | none => rw [ho] at h; cases h
  | some o => exact lt_of ho
theorem PowTab.grown {W W' : World} {row : Option Nat} (h : PowTab W) (hg : W.grownBy W' row) (hr : row ≠ some 6) : PowTab W' := by
  have hlt := h.lt
  unfold PowTab Lib.TabIs World.var? at h ⊢
  rw [Tryz.globPow'] at h ⊢
  simp only [Option.bind_some] at h ⊢
  rw [hg.block _ hlt (fun e => hr e.symm)]
  exact h
/-- What it leans on besides the tree: the table of numerals. -/
def orP (T : Nat → Prop) (k : Nat) : Prop := T k ∨ k = 6
set_option maxHeartbeats 2000000 in
set_option maxRecDepth 20000 in
theorem treeAll_goes9 (Bk : Nat) (T : Nat → Prop) (t : Tr) (kad : Option Addr) (kcap : Nat) (w : World) (hP : PartsAt Bk T t kad kcap w) (hs : t.size ≤ 1000000) (hd : t.depth ≤ 1000000) (hF : t.Fine) (hN : PowTab w) :
    GoesAtX Fence.wide 9 Tryz.prog 24 #[.pointer (some ⟨Bk, 0, none⟩)] alV (AlAt t) (orP T) (fun _ => False) (fun ys => ys.map Al.key = t.parts []) (fun pre => pre.map Al.key <+: t.parts []) t.size w := by
  intro l J Jx X W hW hJ hJx hY h0 hX0 hX
  have hbx : W.heap[Bk]? = _ := (hW.block _ (lt_of hP.box)).trans hP.box
  have hTw : ∀ k, T k → k < W.heap.size := fun k hk => Nat.lt_of_lt_of_le (hP.low k hk) hW.size
  have hI : IsT T W t (.slice kad t.kids.length kcap) := hP.tree.keep (fun _ h => h) (fun k o hk ho => (hW.block k (hP.low k hk)).trans ho)
  have hNW : PowTab W := Go.Joins.tab_stays Tryz.globPow' hN hW (Nat.le_refl _)
  have b0 : W.cell? ⟨Bk, 0, none⟩ = some (.int .u8 (t.op : Nat)) := (cell_of hbx 0).trans rfl
  have b1 : W.cell? ⟨Bk, 1, none⟩ = some (.string t.name) := (cell_of hbx 1).trans rfl
  have b2 : W.cell? ⟨Bk, 2, none⟩ = some (.slice kad t.kids.length kcap) := (cell_of hbx 2).trans rfl
  have lb := lt_of hbx
  have HY : Hid _ := hY
  have HJ : Hid (Abide J) := hJ
  have HJx : Hid (Abide Jx) := hJx
  have HI : Hid (IsT T W t (.slice kad t.kids.length kcap)) := hI
  have HT : Hid (∀ k, T k → k < W.heap.size) := hTw
  have HNW : Hid (PowTab W) := hNW
  have HX : Hid (∀ k, X k → k < W.heap.size) := hX
  have HF : Hid t.Fine := hF
  clear hY hJ hJx hI hW hP hTw hX hbx hX0 hNW hN hF
  refine callsIn_of_wp_marks Tryz.func24 rfl trivial ?_ rfl
  simp only [Tryz.ntmps24, List.size_toArray, List.length_cons, List.length_nil, Nat.reduceAdd, Nat.reduceSub, Array.replicate_succ, Array.replicate_zero, List.push_toArray, List.append_toArray, List.nil_append, List.cons_append]
  have e0 := fun A => cell_kept0 ((Kept.refl [] W).alloc A) b0
  have e1 := fun A => cell_kept0 ((Kept.refl [] W).alloc A) b1
  have e2 := fun A => cell_kept0 ((Kept.refl [] W).alloc A) b2
  gi_wp2_with (refine ⟨trivial, ?_⟩; gi_at_call 22; refine (callsIn_wide.2 (parts_any t _ _)).mono ?_; rintro e V ⟨rfl, rfl⟩)
  obtain ⟨V, hV⟩ : ∃ V, (W.alloc (.cells #[.func (.yield l) #[] #[]] 51)).alloc (.cells #[.int .u8 (t.op : Nat), .string t.name, .slice kad t.kids.length kcap] 25) = V := ⟨_, rfl⟩
  have kV : Kept [] W V := by rw [← hV]; exact ((Kept.refl [] W).alloc _).alloc _
  have zV : V.heap.size = W.heap.size + 2 := by rw [← hV]; simp
  have v1 : Boxed V W.heap.size 51 (.func (.yield l) #[] #[]) := by rw [← hV]; exact alUp (al0 _ _) _
  have v2 : V.heap[W.heap.size + 1]? = some (.cells #[.int .u8 (t.op : Nat), .string t.name, .slice kad t.kids.length kcap] 25 (0, 0)) := by rw [← hV]; exact al1 _ _ _
  rw [hV]
  clear hV e0 e1 e2
  have hj0 : J (fun k => X k ∨ Between W V k) [] V := HJ.out.lay h0 kV
  have hpl := HNW.out.lt
  obtain ⟨By, hBy⟩ : ∃ By, W.heap.size = By := ⟨_, rfl⟩
  rw [hBy] at v1 v2 ⊢
  refine rangePart rfl (by omega) (gf := 50) (lb := #[.pointer (some ⟨By + 1, 0, none⟩)]) rfl trivial (enters_of Tryz.func50 (by kernel_rfl) rfl)
    (parts_goes (9 - 1) (By + 1) T t kad kcap V ⟨v2, HI.out.cells (fun _ h => h) (fun _ _ _ _ c => cell_kept0 kV c), fun k h => by have := HT.out k h; omega⟩ (by omega)) (partAt_kept _ _) (fun k h => by have := HT.out k h; omega) (fun k h => by omega) (fun _ => rfl)
    (fun Y pre W' => Bx1 By 51 (.func (.yield l) #[] #[]) Y W' ∧ PowTab W' ∧ ¬ Y 6 ∧ ∃ Xo ys, J Xo ys W' ∧ ys.map Al.key = pre.map Part.key ∧ Xo By ∧ ∀ k, Y k → Xo k)
    (fun c Y pre W' => c = .ret ∧ ∃ Xo ys, Jx Xo ys W' ∧ ys.map Al.key = pre.map Part.key ∧ ∀ k, Y k → Xo k)
    ?abI ?abX ⟨⟨v1, by omega⟩, HNW.out.kept kV, by omega, _, [], hj0, rfl, .inr ⟨by omega, by omega⟩, fun k h => .inr ⟨by omega, by omega⟩⟩ ?a1 ?assign ?body ?done ?stop
  case abI =>
    refine ⟨?_, ?_⟩
    · rintro Y Y' pre W' ⟨q1, q2, q3, Xo, ys, q4, q5, q6, q7⟩ hY'
      have := q2.lt
      exact ⟨q1.more hY', q2, fun h => (hY' _ h).elim q3 (by omega), fun k => Xo k ∨ W'.heap.size ≤ k, ys, HJ.out.more q4 (fun _ h => h), q5, .inl q6, fun k hk => (hY' k hk).imp (q7 k) id⟩
    · rintro Y pre W' W'' row ⟨q1, q2, q3, Xo, ys, q4, q5, q6, q7⟩ hg hr
      exact ⟨q1.turn hg hr, q2.grown hg (fun e => q3 (hr _ e)), q3, Xo, ys, HJ.out.turn q4 hg (fun r e => q7 r (hr r e)), q5, q6, q7⟩
  case abX =>
    refine fun c => ⟨?_, ?_⟩
    · rintro Y Y' pre W' ⟨q0, Xo, ys, q4, q5, q7⟩ hY'
      exact ⟨q0, fun k => Xo k ∨ W'.heap.size ≤ k, ys, HJx.out.more q4 (fun _ h => h), q5, fun k hk => (hY' k hk).imp (q7 k) id⟩
    · rintro Y pre W' W'' row ⟨q0, Xo, ys, q4, q5, q7⟩ hg hr
      exact ⟨q0, Xo, ys, HJx.out.turn q4 hg (fun r e => q7 r (hr r e)), q5, q7⟩
  case assign =>
    intro l x W Bx K hBx hK
    dsimp only [partV]
    dsimp only [partC] at hK
    gi_wp2
    exact hK
  case body =>
    rintro l' Y pre x Bx W1 _ _ hYb ⟨q1, q2, q3, Xo, ys, q4, q5, q6, q7⟩ hBx hrow hat hlen
    dsimp only [partC] at hrow
    have hmem := hat.mem
    have hfx := HF.out.part hmem
    have hpl1 : x.path.length + 1 ≤ t.depth := by
      have := dmax_mem hat.mem 0
      rw [Tr.parts_depth] at this
      simpa [Part.key] using this
    have hpi : ∀ i ∈ x.path, i ≤ 9223372036854775807 := fun i hi => by
      rcases parts_path t [] x.key hmem i hi with h | h
      · cases h
      · omega
    obtain ⟨hfine, hsz⟩ := part_all t [] x.key HF.out hmem
    have hj : J (fun k => Y k ∨ k = By) ys W1 := HJ.out.more q4 (fun k hk => .inl (hk.elim (q7 k) (fun e => e ▸ q6)))
    have hys : ys.length = pre.length := by have := congrArg List.length q5; simpa using this
    have hbl := q1.1.lt
    have HPO : Hid (∀ W2, Kept [] W1 W2 → Calls Tryz.prog 25 #[.slice x.ad x.path.length x.cap] W2 fun e w' => e = .returned (.string ⟨(pathB x.path).toArray⟩) ∧ Hid (Kept [] W2 w')) := fun W2 k2 => pathOf_any x.ad x.cap x.path W2 (fun i h => by obtain ⟨b, e, c⟩ := hat.row i h; exact ⟨b, e, cell_kept0 k2 c⟩) hpi (by omega) (q2.kept k2)
    have HCO : Hid (∀ W2, Kept [] W1 W2 → Calls Tryz.prog 23 #[.agg #[.int .u8 (x.t.op : Nat), .string x.t.name, .slice x.kad x.t.kids.length x.kcap]] W2 fun e w' => ∃ kad kcap, e = .returned (.agg #[.int .u8 (x.t.op : Nat), .string x.t.name, .slice kad x.t.kids.length kcap]) ∧ Hid (IsT (fun k => W2.heap.size ≤ k) w' x.t (.slice kad x.t.kids.length kcap)) ∧ Hid (Kept [] W2 w')) := fun W2 k2 => copy_any x.t _ W2 (IsF.kept hat.tree.isF k2) (by have : x.t.size ≤ t.size := hsz; omega) hfine
    have HYY : Hid (∀ kad kcap W2 W3, Kept [] W1 W2 → Kept [] W2 W3 → IsT (fun k => W2.heap.size ≤ k) W3 x.t (.slice kad x.t.kids.length kcap) →
        YieldAt (Fence.wide.inRound l') (9 - 1 - 1 - 1) Tryz.prog l #[.string ⟨(pathB x.path).toArray⟩, .agg #[.int .u8 (x.t.op : Nat), .string x.t.name, .slice kad x.t.kids.length kcap]] W3 fun e W6 => ∃ b : Bool, e = .returned (.bool b) ∧ Hid ((b = true ∧ J (fun k => Y k ∨ k = By) (ys ++ [⟨x.path, x.t, kad, kcap⟩]) W6 ∧ KpX (orT (orP T) (fun k => Y k ∨ k = By)) W3 W6) ∨ (b = false ∧ Jx (fun k => Y k ∨ k = By) (ys ++ [⟨x.path, x.t, kad, kcap⟩]) W6 ∧ KpX (orT (orP T) (fun k => Y k ∨ k = By)) W3 W6))) := fun kad kcap W2 W3 k2 k3 hT3 => by
      have z2 := k2.size
      have z3 := k3.size
      have := HY.out (fun k => Y k ∨ k = By) ys ⟨x.path, x.t, kad, kcap⟩ W3 (HJ.out.kept hj (keptT k2 k3)) ⟨hT3.mono (fun k hk hx => by
        rcases hx with hx | hx
        · have := hYb k hx; omega
        · omega), hmem⟩ (fun k hk => by
        rcases hk with hk | hk
        · have := hYb k hk; omega
        · omega) (by omega)
      refine yield_in _ (this.mono fun e W6 h => ?_)
      rcases h with ⟨rfl, h1, h2⟩ | ⟨rfl, h1, h2⟩
      · exact ⟨true, rfl, .inl ⟨rfl, h1, h2⟩⟩
      · exact ⟨false, rfl, .inr ⟨rfl, h1, h2⟩⟩
    have HQ1 : Hid (Bx1 By 51 (.func (.yield l) #[] #[]) Y W1) := q1
    have HQ2 : Hid (PowTab W1) := q2
    have HQ3 : Hid (¬ Y 6) := q3
    have HQ5 : Hid (ys.map Al.key = pre.map Part.key) := q5
    have HRX : Hid (W1.heap[Bx]? = some (.cells #[.int .u8 (x.t.op : Nat), .string x.t.name, .slice x.kad x.t.kids.length x.kcap] 25 (0, 0))) := hrow
    have HCE : Hid (∀ W2, Kept [] W1 W2 → W2.cell? ⟨Bx, 0, none⟩ = some (.int .u8 (x.t.op : Nat)) ∧ W2.cell? ⟨Bx, 1, none⟩ = some (.string x.t.name) ∧ W2.cell? ⟨Bx, 2, none⟩ = some (.slice x.kad x.t.kids.length x.kcap) ∧ W2.cell? ⟨By, 0, none⟩ = some (.func (.yield l) #[] #[])) := fun W2 k2 => ⟨(cell_of (k2.at hrow (by simp)) 0).trans rfl, (cell_of (k2.at hrow (by simp)) 1).trans rfl, (cell_of (k2.at hrow (by simp)) 2).trans rfl, cell_kept0 k2 q1.1.cell⟩
    obtain ⟨c0, c1, c2, cy⟩ := HCE.out W1 (Kept.refl [] W1)
    clear hat hmem hfx hpi hfine hsz hj q1 q2 q3 q4 q5 q6 q7 hrow hys hbl
    gi_wp2_with fail
    gi_region_with (first
      | (refine ⟨trivial, ?_⟩; gi_at_call 25; refine (CallsIn.inRound l' (callsIn_wide.2 (HPO.out _ (Kept.refl [] W1).drew))).mono ?_; rintro e W2 ⟨rfl, hk2⟩; have HK2 : Hid (Kept [] W1 W2) := keptT (Kept.refl [] W1).drew hk2.out; obtain ⟨d0, d1, d2, dy⟩ := HCE.out W2 HK2.out; clear hk2)
      | (refine ⟨trivial, ?_⟩; gi_at_call 23; refine (CallsIn.inRound l' (callsIn_wide.2 (HCO.out W2 HK2.out))).mono ?_; rintro e W3 ⟨kad3, kcap3, rfl, HT3, HK3⟩; obtain ⟨g0, g1, g2, gy⟩ := HCE.out W3 (keptT HK2.out HK3.out); obtain ⟨fn, tmps, assign, body, hy, hR⟩ := HYY.out kad3 kcap3 W2 W3 HK2.out HK3.out HT3.out)
      | (refine ⟨trivial, ?_⟩; refine ⟨fun _ => by omega, hR.mono ?_⟩; rintro e W6 ⟨b, rfl, HR6⟩)
      | (refine ⟨fun _ => by omega, hR.mono ?_⟩; rintro e W6 ⟨b, rfl, HR6⟩)
      | (refine ⟨rfl, hR.mono ?_⟩; rintro e W6 ⟨b, rfl, HR6⟩)
      | (refine hR.mono ?_; rintro e W6 ⟨b, rfl, HR6⟩))
    all_goals (rcases HR6.out with ⟨rfl, hJ6, hk6⟩ | ⟨rfl, hJ6, hk6⟩)
    all_goals (have HJ6 : Hid _ := hJ6; have HK6 : Hid (KpX (orT (orP T) (fun k => Y k ∨ k = By)) W3 W6) := hk6; clear hJ6 hk6 HR6; gi_wp2_with fail)
    all_goals first
      | exact ⟨(KpX.of_kept (keptT HK2.out HK3.out)).trans (HK6.out.mono (fun _ h => h.elim (fun h => .inl (.inl h)) (fun h => .inr (.inl h)))), ⟨HK6.out.own _ _ (.inl (.inr rfl)) ((keptT HK2.out HK3.out).at HQ1.out.1 (by simp)), HQ1.out.2⟩, (HQ2.out.kept (keptT HK2.out HK3.out)).own HK6.out (.inr (.inr rfl)), HQ3.out, _, _, HJ6.out, by rw [List.map_append, List.map_append, HQ5.out]; rfl, .inr rfl, fun _ h => .inl h⟩
      | exact ⟨(KpX.of_kept (keptT HK2.out HK3.out)).trans (HK6.out.mono (fun _ h => h.elim (fun h => .inl (.inl h)) (fun h => .inr (.inl h)))), rfl, _, _, HJ6.out, by rw [List.map_append, List.map_append, HQ5.out]; rfl, fun _ h => .inl h⟩
  case done =>
    rintro D Y xs W1 hD hYD hS ⟨q1, q2, q3, Xo, ys, q4, q5, q6, q7⟩ hK
    gi_wp2
    refine ⟨by simp, .inl ⟨_, _, rfl, run_takeDeferred hK, ?_⟩⟩
    refine ⟨_, results_none rfl _ _ _, ⟨_, rfl⟩, .inl ⟨ys, Xo, q5.trans hS, HJ.out.turn q4 (grownBy_putObj' _ _ _) (fun r e => by cases e; exact q7 _ hYD)⟩⟩
  case stop =>
    rintro D Y c pre W1 hD hYD hpre ⟨rfl, Xo, ys, q4, q5, q7⟩ hK
    gi_wp2
    refine ⟨by simp, .inl ⟨_, _, rfl, run_takeDeferred hK, ?_⟩⟩
    exact ⟨_, results_none rfl _ _ _, ⟨_, rfl⟩, .inr ⟨ys, Xo, by rw [show ys.map Al.key = pre.map Part.key from q5]; exact hpre, HJx.out.turn q4 (grownBy_putObj' _ _ _) (fun r e => by cases e; exact q7 _ hYD)⟩⟩
theorem GoesAtX.anyDepth {α : Type} {P : Program} {g : Nat} {lb : Array Value} {encs : α → Array Value} {At : (Nat → Prop) → α → World → Prop} {T X₀ : Nat → Prop} {S Sp : List α → Prop} {N : Nat} {w : World} {n : Nat} (m : Nat) (h : GoesAtX Fence.wide n P g lb encs At T X₀ S Sp N w) : GoesAtX Fence.wide m P g lb encs At T X₀ S Sp N w := by
  intro l J Jx X W hW hJ hJx hY h0 hX0 hX
  exact callsIn_wide.2 (callsIn_wide.1 (h l J Jx X W hW hJ hJx (fun X pre x W1 a b c d => YieldAt.anyDepth rfl _ (hY X pre x W1 a b c d)) h0 hX0 hX))
theorem treeAll_goes (m : Nat) (Bk : Nat) (T : Nat → Prop) (t : Tr) (kad : Option Addr) (kcap : Nat) (w : World) (hP : PartsAt Bk T t kad kcap w) (hs : t.size ≤ 1000000) (hd : t.depth ≤ 1000000) (hF : t.Fine) (hN : PowTab w) :
    GoesAtX Fence.wide m Tryz.prog 24 #[.pointer (some ⟨Bk, 0, none⟩)] alV (AlAt t) (orP T) (fun _ => False) (fun ys => ys.map Al.key = t.parts []) (fun pre => pre.map Al.key <+: t.parts []) t.size w :=
  (treeAll_goes9 Bk T t kad kcap w hP hs hd hF hN).anyDepth m
set_option maxHeartbeats 1000000 in
theorem treeAll_any (t : Tr) (kv : Value) (w : World) (hI : IsF w t kv) (hs : t.size ≤ 1099511627776) (hF : t.Fine) :
    Calls Tryz.prog 8 #[.agg #[.int .u8 (t.op : Nat), .string t.name, kv]] w fun e w' => ∃ Bk kad kcap, e = .returned (.func (.func 24) #[] #[.pointer (some ⟨Bk, 0, none⟩)]) ∧ Hid (PartsAt Bk (fun k => w.heap.size ≤ k ∧ k < w'.heap.size) t kad kcap w') ∧ Hid (w.heap.size ≤ Bk) ∧ Hid (Kept [] w w') := by
  obtain ⟨kad, kcap, rfl⟩ := hI.slice
  have HC : Hid (∀ W, Kept [] w W → Calls Tryz.prog 23 #[.agg #[.int .u8 (t.op : Nat), .string t.name, .slice kad t.kids.length kcap]] W fun e w' => ∃ kad kcap, e = .returned (.agg #[.int .u8 (t.op : Nat), .string t.name, .slice kad t.kids.length kcap]) ∧ Hid (IsT (fun k => W.heap.size ≤ k) w' t (.slice kad t.kids.length kcap)) ∧ Hid (Kept [] W w')) := fun W k => copy_any t _ W (hI.kept k) hs hF
  clear hI hF
  go_enter Tryz.func8, Tryz.ntmps8
  go_wp2_with (go_at_call 23; refine (HC.out _ ((Kept.refl [] w).alloc _)).mono ?_; rintro e W2 ⟨kad2, kcap2, rfl, HT2, HK2⟩)
  go_ret
  have k2 : Kept [] w W2 := keptT ((Kept.refl [] w).alloc _) HK2.out
  have z2 := k2.size
  have hIF := HT2.out.isF
  refine ⟨W2.heap.size, kad2, kcap2, rfl, ⟨heap_alloc_new W2 _, ?_, fun k h => h.2⟩, k2.size, k2.alloc _⟩
  refine IsT.cells (fun _ h => h) (fun _ _ _ _ c => cell_kept0 ((Kept.refl [] W2).alloc _) c) (HT2.out.off (fun b o v hb hv => ⟨?_, ?_⟩))
  · have : (w.alloc (.cells #[.int .u8 (t.op : Nat), .string t.name, .slice kad t.kids.length kcap] 25)).heap.size ≤ b := hb
    rw [World.size_alloc] at this
    omega
  · have := World.block_lt_of_cell? W2 _ hv
    rw [World.size_alloc]
    simp only at this
    omega
end Go.Proofs.YtnljjbpbgjgnkaaGreatDoor
