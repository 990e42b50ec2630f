/- tree.rebuilt: a tree in new memory. -/
import Derived.Test.YtnjajafmmociiaaGreatDoorTrRight
import Derived.Laws.OwnMore
import Derived.Laws.ResultCell
namespace Go.Proofs.YtnjajafmmociiaaGreatDoor
open Go.RowKit Go.Shelf

/-- A tree, with what leaf makes of each tree that has no kids. -/
def Tr.reb (leaf : Tr → Tr) : Tr → Tr := Tr.para (fun t rs => if t.kids.length = 0 then leaf ⟨t.op, t.name, []⟩ else ⟨t.op, t.name, rs⟩)
theorem Tr.reb_leaf (leaf : Tr → Tr) (t : Tr) (h : t.kids.length = 0) : t.reb leaf = leaf ⟨t.op, t.name, []⟩ := by
  unfold Tr.reb; rw [Tr.para_eq, if_pos h]
theorem Tr.reb_node (leaf : Tr → Tr) (t : Tr) (h : ¬ t.kids.length = 0) : t.reb leaf = ⟨t.op, t.name, t.kids.map (Tr.reb leaf)⟩ := by
  unfold Tr.reb; rw [Tr.para_eq, if_neg h]

/-- What a leaf function does, in each world that has come of w0. -/
def LeafDoes (g : Nat) (lb : Array Value) (leaf : Tr → Tr) (w0 : World) : Prop :=
  ∀ (o : Nat) (nm : ByteArray) (W : World), Kept [] w0 W → o < 256 → nm.size ≤ maxLen → Calls Tryz.prog g (#[.agg #[.int .u8 (o : Nat), .string nm, .slice none 0 0]] ++ lb) W fun e W' =>
    ∃ kad kcap, e = .returned (.agg #[.int .u8 ((leaf ⟨o, nm, []⟩).op : Nat), .string (leaf ⟨o, nm, []⟩).name, .slice kad (leaf ⟨o, nm, []⟩).kids.length kcap]) ∧ IsT (fun k => W.heap.size ≤ k) W' (leaf ⟨o, nm, []⟩) (.slice kad (leaf ⟨o, nm, []⟩).kids.length kcap) ∧ Kept [] W W'

theorem Tryz.infoFor : (Tryz.prog.info? 25).map (fun i => (i.zero, i.size, i.bytes)) = some (some (.agg #[.int .u8 0, .string ⟨#[]⟩, .slice none 0 0]), 3, 48) := by kernel_rfl

def zeros3 (k : Nat) : Array Value := madeCells (Value.cells (.agg #[.int .u8 0, .string ⟨#[]⟩, .slice none 0 0])) (k * 3)
theorem zeros3_size (k : Nat) : (zeros3 k).size = k * 3 := size_madeCells _ _
theorem make_for (w : World) (k : Nat) (hk : k ≤ 1099511627776) : Sem.run Tryz.prog (Instr.makeSlice 23 (.int .i64 k) (.int .i64 k)) w = .ok (.slice (some ⟨w.heap.size, 0, none⟩) k k) (w.alloc (.cells (zeros3 k) 25)) := by
  obtain ⟨i, hi, hz, hs, hb⟩ := info_parts Tryz.infoFor
  have h := run_make (P := Tryz.prog) w 23 25 i _ Tryz.underlying23 hi hz .i64 .i64 k k (by omega) (Int.le_refl _) (by rw [hb]; omega) (by omega)
  rw [h, hs, Int.toNat_natCast]
  rfl
/-- A formula in a block of its own. -/
def For3 (W : World) (B : Nat) (a b c : Value) : Prop := W.heap[B]? = some (.cells #[a, b, c] 25 (0, 0))
theorem For3.cells {W : World} {B : Nat} {a b c : Value} (h : For3 W B a b c) : W.cell? ⟨B, 0, none⟩ = some a ∧ W.cell? ⟨B, 1, none⟩ = some b ∧ W.cell? ⟨B, 2, none⟩ = some c ∧ ∀ i, W.frozen? ⟨B, i, none⟩ = false :=
  ⟨(cell_of h 0).trans rfl, (cell_of h 1).trans rfl, (cell_of h 2).trans rfl, fun i => free_of h i⟩
theorem For3.kept {W W' : World} {B : Nat} {a b c : Value} (h : For3 W B a b c) (k : Kept [] W W') : For3 W' B a b c := k.at h (by simp)
theorem For3.set {W : World} {B : Nat} {a b c : Value} (h : For3 W B a b c) (a' b' c' : Value) : For3 (((W.setCell ⟨B, 0, none⟩ a').setCell ⟨B, 1, none⟩ b').setCell ⟨B, 2, none⟩ c') B a' b' c' := by
  unfold For3; rw [row_set (row_set (row_set h a') b') c']; rfl
theorem ret_row {fn : Func} {p : Tmp} {a : Act} {w : World} {g : Nat} {cs : Array Value} {R : Ending → World → Prop} (h : fn.results = #[.cell p 25]) (hp : a.tmps.getD p undef = .pointer (some ⟨g, 0, none⟩)) (hd : a.defers = []) (hg : w.heap[g]? = some (.cells cs 25 (0, 0))) (hsz : cs.size = 3) (hR : R (.returned (.agg cs)) w) : bodyPost Tryz.prog fn R .ret a w :=
  bodyPost_ret (results_cell_row h _ w g 25 cs _ _ hp hg Tryz.underlying25 rfl (by rw [hsz]; kernel_rfl)) hd hR
theorem ret_for {fn : Func} {p : Tmp} {a : Act} {w : World} {g : Nat} {x y z : Value} {R : Ending → World → Prop} (h : fn.results = #[.cell p 25]) (hp : a.tmps.getD p undef = .pointer (some ⟨g, 0, none⟩)) (hd : a.defers = []) (hg : For3 w g x y z) (hR : R (.returned (.agg #[x, y, z])) w) : bodyPost Tryz.prog fn R .ret a w :=
  ret_row h hp hd hg rfl hR
theorem kept_set3 {w W : World} {B : Nat} (k : Kept [] w W) (hB : w.heap.size ≤ B) (a b c : Value) : Kept [] w (((W.setCell ⟨B, 0, none⟩ a).setCell ⟨B, 1, none⟩ b).setCell ⟨B, 2, none⟩ c) :=
  ((k.setCell (p := ⟨B, 0, none⟩) (.inr hB) a).setCell (p := ⟨B, 1, none⟩) (.inr hB) b).setCell (p := ⟨B, 2, none⟩) (.inr hB) c
/-- A store into another block leaves a tree. -/
theorem IsT.other {X : Nat → Prop} {W : World} {t : Tr} {kv : Value} (h : IsT X W t kv) {B : Nat} (hB : ¬ X B) (o : Nat) (v : Value) : IsT X (W.setCell ⟨B, o, none⟩ v) t kv :=
  h.keep (fun _ h => h) (fun k _ hk ho => (Below.heap_setCell _ _ _ _ (fun e => hB (by have e' : k = B := e; rw [← e']; exact hk))).trans ho)

/-- What stands between two rounds: the new list G has its first i kids. -/
structure RebAt (w : World) (G n : Nat) (us : List Tr) (a b c : Value) (i : Nat) (wr : World) : Prop where
  kept : Kept [] w wr
  src : For3 wr w.heap.size a b c
  res : For3 wr (w.heap.size + 1) (.int .u8 0) (.string ⟨#[]⟩) (.slice none 0 0)
  row : ∃ arr, wr.heap[G]? = some (.cells arr 25 (0, 0)) ∧ arr.size = n * 3 ∧ ∀ j (hj : j < us.length), j < i → ∃ ad cap, arr[j * 3]? = some (.int .u8 (us[j].op : Nat)) ∧ arr[j * 3 + 1]? = some (.string us[j].name) ∧ arr[j * 3 + 2]? = some (.slice ad us[j].kids.length cap) ∧ IsT (fun k => G < k) wr us[j] (.slice ad us[j].kids.length cap)
/-- One kid more: a call that makes it, and its store. -/
theorem RebAt.next {w wr W5 : World} {G n : Nat} {us : List Tr} {a b c : Value} {i : Nat} (h : RebAt w G n us a b c i wr) (hG : G = w.heap.size + 2) (hk : Kept [] wr W5) (hi : i < us.length) (hn : us.length = n) {ad : Option Addr} {cap : Nat} (hI : IsT (fun k => wr.heap.size ≤ k) W5 us[i] (.slice ad us[i].kids.length cap)) :
    (∃ v0 v1 v2, W5.cell? ⟨G, i * 3, none⟩ = some v0 ∧ W5.cell? ⟨G, i * 3 + 1, none⟩ = some v1 ∧ W5.cell? ⟨G, i * 3 + 2, none⟩ = some v2 ∧ ∀ k, W5.frozen? ⟨G, k, none⟩ = false) ∧
    RebAt w G n us a b c (i + 1) (((W5.setCell ⟨G, i * 3, none⟩ (.int .u8 (us[i].op : Nat))).setCell ⟨G, i * 3 + 1, none⟩ (.string us[i].name)).setCell ⟨G, i * 3 + 2, none⟩ (.slice ad us[i].kids.length cap)) := by
  obtain ⟨arr, hg, hsz, hr⟩ := h.row
  have hg5 : W5.heap[G]? = some (.cells arr 25 (0, 0)) := hk.at hg (by simp)
  have lg := lt_of hg
  refine ⟨⟨arr[i * 3]'(by omega), arr[i * 3 + 1]'(by omega), arr[i * 3 + 2]'(by omega), ?_, ?_, ?_, fun k => free_of hg5 k⟩, ?_, ?_, ?_, ?_⟩
  · rw [cell_of hg5]; exact Array.getElem?_eq_getElem _
  · rw [cell_of hg5]; exact Array.getElem?_eq_getElem _
  · rw [cell_of hg5]; exact Array.getElem?_eq_getElem _
  · have k5 := h.kept.trans hk (H := []) (by simp) (by simp)
    exact ((k5.setCell (p := ⟨G, i * 3, none⟩) (.inr (by show w.heap.size ≤ G; omega)) _).setCell (p := ⟨G, i * 3 + 1, none⟩) (.inr (by show w.heap.size ≤ G; omega)) _).setCell (p := ⟨G, i * 3 + 2, none⟩) (.inr (by show w.heap.size ≤ G; omega)) _
  · have := h.src.kept hk
    exact (Below.heap_setCell _ _ _ _ (by show w.heap.size ≠ G; omega)).trans ((Below.heap_setCell _ _ _ _ (by show w.heap.size ≠ G; omega)).trans ((Below.heap_setCell _ _ _ _ (by show w.heap.size ≠ G; omega)).trans this))
  · have := h.res.kept hk
    exact (Below.heap_setCell _ _ _ _ (by show w.heap.size + 1 ≠ G; omega)).trans ((Below.heap_setCell _ _ _ _ (by show w.heap.size + 1 ≠ G; omega)).trans ((Below.heap_setCell _ _ _ _ (by show w.heap.size + 1 ≠ G; omega)).trans this))
  · refine ⟨_, row_set (row_set (row_set hg5 _) _) _, by simp [hsz], fun j hj hji => ?_⟩
    have hnG : ¬ (G < G) := by omega
    rcases Nat.lt_or_ge j i with h' | h'
    · obtain ⟨ad', cap', a0, a1, a2, hIj⟩ := hr j hj h'
      refine ⟨ad', cap', ?_, ?_, ?_, ?_⟩
      · rw [Array.getElem?_setIfInBounds_ne (by omega), Array.getElem?_setIfInBounds_ne (by omega), Array.getElem?_setIfInBounds_ne (by omega)]; exact a0
      · rw [Array.getElem?_setIfInBounds_ne (by omega), Array.getElem?_setIfInBounds_ne (by omega), Array.getElem?_setIfInBounds_ne (by omega)]; exact a1
      · rw [Array.getElem?_setIfInBounds_ne (by omega), Array.getElem?_setIfInBounds_ne (by omega), Array.getElem?_setIfInBounds_ne (by omega)]; exact a2
      · exact ((((hIj.cells (fun _ h => h) (fun _ _ _ _ cc => cell_kept0 hk cc)).other hnG _ _).other hnG _ _).other hnG _ _)
    · obtain rfl : j = i := by omega
      refine ⟨ad, cap, ?_, ?_, ?_, ?_⟩
      · rw [Array.getElem?_setIfInBounds_ne (by omega), Array.getElem?_setIfInBounds_ne (by omega), Array.getElem?_setIfInBounds_self_of_lt (by omega)]
      · rw [Array.getElem?_setIfInBounds_ne (by omega), Array.getElem?_setIfInBounds_self_of_lt (by simp; omega)]
      · rw [Array.getElem?_setIfInBounds_self_of_lt (by simp; omega)]
      · exact (((hI.mono (fun k hk => by omega)).other hnG _ _).other hnG _ _).other hnG _ _

set_option maxHeartbeats 1000000 in
set_option maxRecDepth 20000 in
theorem rebuilt_any (g : Nat) (lb : Array Value) (leaf : Tr → Tr) (w0 : World) (hen : ∀ args w, (callFunc g args).run Tryz.prog w = .ok (.enter g args) w) (hL : LeafDoes g lb leaf w0) (t : Tr) :
    ∀ (kv : Value) (w : World), IsF w t kv → Kept [] w0 w → t.size ≤ 1099511627776 → t.Fine →
    Calls Tryz.prog 42 #[.agg #[.int .u8 (t.op : Nat), .string t.name, kv], .func (.func g) #[] lb] w fun e w' =>
      ∃ kad kcap, e = .returned (.agg #[.int .u8 ((t.reb leaf).op : Nat), .string (t.reb leaf).name, .slice kad (t.reb leaf).kids.length kcap]) ∧ IsT (fun k => w.heap.size ≤ k) w' (t.reb leaf) (.slice kad (t.reb leaf).kids.length kcap) ∧ Kept [] w w' := by
  have HL : Hid _ := hL
  clear hL
  induction t using Tr.ind with
  | h t ih =>
    intro kv w hI hk0 hs hF
    have HIH : Hid _ := ih
    have HK0 : Hid _ := hk0
    obtain ⟨hF1, hF2⟩ := (Tr.all_eq t).1 hF
    obtain ⟨kad, kcap, rfl⟩ := hI.slice
    have HI : Hid (IsF w t (.slice kad t.kids.length kcap)) := hI
    have HF2 : Hid _ := hF2
    clear ih hk0 hI hF hF2
    by_cases h0 : t.kids.length = 0
    · have HLE : Hid _ := HL.out t.op t.name
      rw [Tr.reb_leaf leaf t h0]
      have h0i : ((t.kids.length : Int) == 0) = true := by rw [beq_iff_eq]; omega
      clear h0
      obtain ⟨u, hu⟩ : ∃ u, leaf ⟨t.op, t.name, []⟩ = u := ⟨_, rfl⟩
      rw [hu] at HLE ⊢
      clear hu
      go_enter Tryz.func42, Tryz.ntmps42
      go_wp2_with (go_at_fn g; refine (HLE.out _ ((HK0.out.alloc _).alloc _) hF1.1 hF1.2).mono ?_; rintro e W2 ⟨lad, lcap, rfl, hI2, hk2⟩; have hz2 : For3 W2 (w.heap.size + 1) (.int .u8 0) (.string ⟨#[]⟩) (.slice none 0 0) := For3.kept (show For3 _ (w.heap.size + 1) (.int .u8 0) (.string ⟨#[]⟩) (.slice none 0 0) from al1 w _ _) hk2; obtain ⟨d0, d1, d2, df⟩ := hz2.cells; have HZ2 : Hid (For3 W2 (w.heap.size + 1) (.int .u8 0) (.string ⟨#[]⟩) (.slice none 0 0)) := hz2; have HI2 : Hid _ := hI2; have HK2 : Hid _ := hk2; clear hz2 hI2 hk2)
      have hk3 : Kept [] w W2 := (((Kept.refl [] w).alloc _).alloc _).trans HK2.out (by simp) (by simp)
      refine ret_for rfl rfl rfl (HZ2.out.set _ _ _) ⟨lad, lcap, rfl, ?_, kept_set3 hk3 (by omega) _ _ _⟩
      have hn : ¬ (w.heap.size + 2 ≤ w.heap.size + 1) := by omega
      have hI3 : IsT (fun k => w.heap.size + 2 ≤ k) W2 u (.slice lad u.kids.length lcap) := IsT.mono HI2.out (fun k h => by simpa using h)
      exact (((hI3.other hn _ _).other hn _ _).other hn _ _).mono (fun k h => by omega)
    · have hmk := fun W => make_for W t.kids.length (by have := t.kids_size; omega)
      have h0i : ((t.kids.length : Int) == 0) = false := by rw [beq_eq_false_iff_ne]; omega
      rw [Tr.reb_node leaf t h0]
      have hpos : 0 < t.kids.length := by omega
      obtain ⟨kb, koff, rfl, hTb, hkid⟩ := IsT.kid HI.out hpos
      have HKID : Hid _ := hkid
      have hlen : t.kids.length ≤ 1099511627776 := by have := t.kids_size; omega
      clear h0 hkid
      obtain ⟨us, hus⟩ : ∃ us, t.kids.map (Tr.reb leaf) = us := ⟨_, rfl⟩
      have hul : us.length = t.kids.length := by rw [← hus, List.length_map]
      have hui : ∀ i (h : i < t.kids.length) (h' : i < us.length), us[i] = t.kids[i].reb leaf := fun i h h' => by subst hus; simp
      rw [hus]
      have HUL : Hid _ := hul
      have HUI : Hid _ := hui
      clear hus hul hui
      go_enter Tryz.func42, Tryz.ntmps42
      go_wp2
      go_loopw [26] (fun v wr => ∃ i : Nat, v = .int .i64 (i : Nat) ∧ i ≤ t.kids.length ∧ Hid (RebAt w (w.heap.size + 1 + 1) t.kids.length us (.int .u8 (t.op : Nat)) (.string t.name) (.slice (some ⟨kb, koff, none⟩) t.kids.length kcap) i wr)) (fun v _ => t.kids.length - (intOf v).toNat)
      case atStart =>
        exact ⟨0, rfl, Nat.zero_le _, ⟨(((Kept.refl [] w).alloc _).alloc _).alloc _, alUp (alUp (al0 w _) _) _, alUp (al1 w _ _) _, _, al2 w _ _ _, zeros3_size _, fun j _ h => by omega⟩⟩
      case round =>
        obtain ⟨i, rfl, hi, HR⟩ := hrel
        by_cases hlt : i < t.kids.length
        · obtain ⟨kv, c0, c1, c2, hIk⟩ := HKID.out i hlt
          obtain ⟨ckad, ckcap, rfl⟩ := hIk.slice
          obtain ⟨k, hk⟩ : ∃ k, t.kids[i] = k := ⟨_, rfl⟩
          obtain ⟨u, hu⟩ : ∃ u, us[i]'(by rw [HUL.out]; exact hlt) = u := ⟨_, rfl⟩
          have huk : u = k.reb leaf := by rw [← hu, HUI.out i hlt _, hk]
          have hkm : k ∈ t.kids := by rw [← hk]; exact List.getElem_mem _
          rw [hk] at c0 c1 c2 hIk
          have hrec := fun o => HIH.out k hkm (.slice ckad k.kids.length ckcap) (wr.alloc o) ((IsF.kept hIk HR.out.kept).kept ((Kept.refl [] wr).alloc o)) ((HK0.out.trans HR.out.kept (by simp) (by simp)).alloc o) (by have := Tr.kid_size hkm; omega) (HF2.out k hkm)
          rw [← huk] at hrec
          have HREC : Hid _ := hrec
          have e0 := cell_kept0 HR.out.kept c0
          have e1 := cell_kept0 HR.out.kept c1
          have e2 := cell_kept0 HR.out.kept c2
          have lk : kb < wr.heap.size := World.block_lt_of_cell? wr _ e0
          have nk1 : ¬ kb = wr.heap.size := by omega
          have nk2 : ¬ wr.heap.size = kb := by omega
          have hii : (i : Int) < (t.kids.length : Int) := by omega
          have HHU : Hid _ := hu
          have hnx : ∀ W5, Kept [] wr W5 → ∀ ad cap, IsT (fun k => wr.heap.size ≤ k) W5 u (.slice ad u.kids.length cap) → _ := fun W5 k5 ad cap hI5 => HR.out.next rfl k5 (by rw [HUL.out]; exact hlt) HUL.out (ad := ad) (cap := cap) (by rw [HHU.out]; exact hI5)
          rw [hu] at hnx
          have HNX : Hid _ := hnx
          clear hIk c0 c1 c2 hrec hu huk hk hnx hpos
          go_wp2_with (go_at_call 42; refine (HREC.out _).mono ?_; rintro e W5 ⟨ad5, cap5, rfl, hI5, hk5⟩; have hk5' : Kept [] wr W5 := ((Kept.refl [] wr).alloc _).trans hk5 (by simp) (by simp); have hn5 := HNX.out W5 hk5' ad5 cap5 (IsT.mono hI5 (fun k h => by simp at h; omega)); obtain ⟨⟨v0, v1, v2, d0, d1, d2, df⟩, hR5⟩ := hn5; have HR5 : Hid _ := hR5; clear hR5 hI5 hk5 hk5')
          go_roundw
          case rel => exact ⟨i + 1, by go_num, by omega, HR5.out⟩
          case measure => simp [intOf]; omega
        · obtain rfl : i = t.kids.length := by omega
          have hsr := HR.out.src.cells
          obtain ⟨s0, s1, s2, sf⟩ := hsr
          obtain ⟨d0, d1, d2, df⟩ := HR.out.res.cells
          clear hlt
          go_wp2
          have hrow := HR.out.row
          obtain ⟨arr, hg, hsz, hr⟩ := hrow
          have lg := lt_of hg
          refine ret_for rfl rfl rfl (HR.out.res.set _ _ _) ⟨some ⟨w.heap.size + 1 + 1, 0, none⟩, t.kids.length, by rw [show (Tr.mk t.op t.name us).kids.length = t.kids.length from HUL.out], ?_, kept_set3 HR.out.kept (by omega) _ _ _⟩
          have hn : ¬ (w.heap.size + 1 + 1 < w.heap.size + 1) := by omega
          refine (isT_eq _ _).2 ⟨some ⟨w.heap.size + 1 + 1, 0, none⟩, t.kids.length, rfl, .inr ⟨w.heap.size + 1 + 1, 0, rfl, by omega, fun j hj => ?_⟩⟩
          have hj' : j < us.length := hj
          obtain ⟨ad, cap, a0, a1, a2, hIj⟩ := hr j hj' (by rw [← HUL.out]; exact hj')
          have hc : ∀ o v, arr[o]? = some v → (((wr.setCell ⟨w.heap.size + 1, 0, none⟩ (.int .u8 (t.op : Nat))).setCell ⟨w.heap.size + 1, 1, none⟩ (.string t.name)).setCell ⟨w.heap.size + 1, 2, none⟩ (.slice (some ⟨w.heap.size + 1 + 1, 0, none⟩) t.kids.length t.kids.length)).cell? ⟨w.heap.size + 1 + 1, o, none⟩ = some v := fun o v h => by
            rw [cell_of (arr := arr) (T := 25) (fz := (0, 0)) ((Below.heap_setCell _ _ _ _ (by show w.heap.size + 1 + 1 ≠ w.heap.size + 1; omega)).trans ((Below.heap_setCell _ _ _ _ (by show w.heap.size + 1 + 1 ≠ w.heap.size + 1; omega)).trans ((Below.heap_setCell _ _ _ _ (by show w.heap.size + 1 + 1 ≠ w.heap.size + 1; omega)).trans hg)))]
            exact h
          refine ⟨.slice ad us[j].kids.length cap, hc _ _ (by rw [Nat.zero_add]; exact a0), hc _ _ (by rw [Nat.zero_add]; exact a1), hc _ _ (by rw [Nat.zero_add]; exact a2), ?_⟩
          exact (((hIj.other hn _ _).other hn _ _).other hn _ _).mono (fun k h => by omega)
end Go.Proofs.YtnjajafmmociiaaGreatDoor
