/- tree.rebuilt: a tree in new memory, each list of kids in a block of its own. -/
import Derived.Test.YtnjajafmmociiaaGreatDoorTrReb
namespace Go.Proofs.YtnjajafmmociiaaGreatDoor
open Go.RowKit Go.Shelf

/-- The tree's kids lie in lists of their own: kv is the list, L the lists' blocks. -/
def IsO (w : World) : Tr → Value → List Nat → Prop :=
  Tr.para (fun t rs kv L => (t.kids.length = 0 ∧ kv = .slice none 0 0 ∧ L = []) ∨
    (t.kids.length ≠ 0 ∧ ∃ (b : Nat) (arr : Array Value) (Ls : List (List Nat)), kv = .slice (some ⟨b, 0, none⟩) t.kids.length t.kids.length ∧ w.heap[b]? = some (.cells arr 25 (0, 0)) ∧ arr.size = t.kids.length * 3 ∧ Ls.length = rs.length ∧ L = b :: Ls.flatten ∧
      ∀ i (h : i < rs.length) (h' : i < Ls.length), ∃ kv, arr[i * 3]? = some (.int .u8 ((t.kids[i]?.map Tr.op).getD 0 : Nat)) ∧ arr[i * 3 + 1]? = some (.string ((t.kids[i]?.map Tr.name).getD ⟨#[]⟩)) ∧ arr[i * 3 + 2]? = some kv ∧ rs[i] kv Ls[i]))
theorem isO_eq {w : World} (t : Tr) (kv : Value) (L : List Nat) : IsO w t kv L ↔ (t.kids.length = 0 ∧ kv = .slice none 0 0 ∧ L = []) ∨
    (t.kids.length ≠ 0 ∧ ∃ (b : Nat) (arr : Array Value) (Ls : List (List Nat)), kv = .slice (some ⟨b, 0, none⟩) t.kids.length t.kids.length ∧ w.heap[b]? = some (.cells arr 25 (0, 0)) ∧ arr.size = t.kids.length * 3 ∧ Ls.length = t.kids.length ∧ L = b :: Ls.flatten ∧
      ∀ i (h : i < t.kids.length) (h' : i < Ls.length), ∃ kv, arr[i * 3]? = some (.int .u8 (t.kids[i].op : Nat)) ∧ arr[i * 3 + 1]? = some (.string t.kids[i].name) ∧ arr[i * 3 + 2]? = some kv ∧ IsO w t.kids[i] kv Ls[i]) := by
  unfold IsO
  rw [Tr.para_eq]
  simp only [List.length_map, List.getElem_map]
  refine or_congr_right (and_congr_right fun _ => ?_)
  refine exists_congr fun b => exists_congr fun arr => exists_congr fun Ls => and_congr_right fun _ => and_congr_right fun _ => and_congr_right fun _ => and_congr_right fun _ => and_congr_right fun _ => ?_
  refine forall_congr' fun i => forall_congr' fun h => ?_
  simp [List.getElem?_eq_getElem h]
theorem mem_flat {Ls : List (List Nat)} {i : Nat} (h : i < Ls.length) {x : Nat} (hx : x ∈ Ls[i]) : x ∈ Ls.flatten := List.mem_flatten.2 ⟨Ls[i], List.getElem_mem h, hx⟩
/-- What keeps these blocks keeps the tree. -/
theorem IsO.keep {w w' : World} {t : Tr} : ∀ {kv : Value} {L : List Nat}, IsO w t kv L → (∀ b ∈ L, w'.heap[b]? = w.heap[b]?) → IsO w' t kv L := by
  induction t using Tr.ind with
  | h t ih =>
    intro kv L h hb
    rcases (isO_eq t kv L).1 h with h | ⟨h0, b, arr, Ls, e1, e2, e3, e4, e5, e6⟩
    · exact (isO_eq t kv L).2 (.inl h)
    · subst e5
      refine (isO_eq t kv _).2 (.inr ⟨h0, b, arr, Ls, e1, (hb b (by simp)).trans e2, e3, e4, rfl, fun i hi hl => ?_⟩)
      obtain ⟨kv', c0, c1, c2, hr⟩ := e6 i hi hl
      exact ⟨kv', c0, c1, c2, ih _ (List.getElem_mem _) hr (fun x hx => hb x (List.mem_cons_of_mem _ (mem_flat hl hx)))⟩
theorem IsO.lt {w : World} {t : Tr} : ∀ {kv : Value} {L : List Nat}, IsO w t kv L → ∀ b ∈ L, b < w.heap.size := by
  induction t using Tr.ind with
  | h t ih =>
    intro kv L h b hb
    rcases (isO_eq t kv L).1 h with ⟨_, _, rfl⟩ | ⟨h0, g, arr, Ls, e1, e2, e3, e4, rfl, e6⟩
    · cases hb
    · rcases List.mem_cons.1 hb with rfl | hb
      · exact lt_of e2
      · obtain ⟨l, hl, hx⟩ := List.mem_flatten.1 hb
        obtain ⟨i, hi, rfl⟩ := List.getElem_of_mem hl
        obtain ⟨kv', _, _, _, hr⟩ := e6 i (by omega) hi
        exact ih _ (List.getElem_mem _) hr b hx
theorem IsO.isT {w : World} {t : Tr} : ∀ {kv : Value} {L : List Nat}, IsO w t kv L → IsT (fun k => k ∈ L) w t kv := by
  induction t using Tr.ind with
  | h t ih =>
    intro kv L h
    rcases (isO_eq t kv L).1 h with ⟨h0, rfl, _⟩ | ⟨h0, g, arr, Ls, e1, e2, e3, e4, rfl, e6⟩
    · refine (isT_eq t _).2 ⟨none, 0, by rw [h0], .inl h0⟩
    · refine (isT_eq t _).2 ⟨_, _, e1, .inr ⟨g, 0, rfl, by simp, fun i hi => ?_⟩⟩
      obtain ⟨kv', c0, c1, c2, hr⟩ := e6 i hi (by omega)
      refine ⟨kv', ?_, ?_, ?_, (ih _ (List.getElem_mem _) hr).mono (fun k hk => List.mem_cons_of_mem _ (mem_flat (by omega) hk))⟩
      · rw [Nat.zero_add]; exact (cell_of e2 _).trans c0
      · rw [Nat.zero_add]; exact (cell_of e2 _).trans c1
      · rw [Nat.zero_add]; exact (cell_of e2 _).trans c2
theorem IsO.slice {w : World} {t : Tr} {kv : Value} {L : List Nat} (h : IsO w t kv L) : ∃ ad cap, kv = .slice ad t.kids.length cap := h.isT.slice
/-- The tree is new: its lists lie in unlike blocks, none of them ahead of lo. -/
def IsNw (lo : Nat) (w : World) (t : Tr) (kv : Value) : Prop := ∃ L, IsO w t kv L ∧ L.Nodup ∧ ∀ b ∈ L, lo ≤ b
theorem IsNw.mono {lo lo' : Nat} {w : World} {t : Tr} {kv : Value} (h : IsNw lo w t kv) (hl : lo' ≤ lo) : IsNw lo' w t kv := by
  obtain ⟨L, h1, h2, h3⟩ := h
  exact ⟨L, h1, h2, fun b hb => Nat.le_trans hl (h3 b hb)⟩
theorem IsNw.other {lo : Nat} {w : World} {t : Tr} {kv : Value} (h : IsNw lo w t kv) {B : Nat} (hB : B < lo) (o : Nat) (v : Value) : IsNw lo (w.setCell ⟨B, o, none⟩ v) t kv := by
  obtain ⟨L, h1, h2, h3⟩ := h
  exact ⟨L, h1.keep (fun b hb => Below.heap_setCell _ _ _ _ (fun e => by have e' : b = B := e; have := h3 b hb; omega)), h2, h3⟩
theorem IsNw.keptF {F : List Nat} {lo : Nat} {w w' : World} {t : Tr} {kv : Value} (h : IsNw lo w t kv) (k : Kept F w w') (hF : ∀ x ∈ F, x < lo) : IsNw lo w' t kv := by
  obtain ⟨L, h1, h2, h3⟩ := h
  exact ⟨L, h1.keep (fun b hb => k.block b (h1.lt b hb) (fun hx => by have := hF b hx; have := h3 b hb; omega)), h2, h3⟩
theorem IsNw.kept {lo : Nat} {w w' : World} {t : Tr} {kv : Value} (h : IsNw lo w t kv) (k : Kept [] w w') : IsNw lo w' t kv := h.keptF k (by simp)
theorem IsNw.isT {lo : Nat} {w : World} {t : Tr} {kv : Value} (h : IsNw lo w t kv) : IsT (fun k => lo ≤ k) w t kv := by
  obtain ⟨L, h1, _, h3⟩ := h
  exact h1.isT.mono h3
theorem IsNw.leaf (lo : Nat) (w : World) (t : Tr) (h : t.kids.length = 0) : IsNw lo w t (.slice none 0 0) := ⟨[], (isO_eq t _ _).2 (.inl ⟨h, rfl, rfl⟩), by simp, by simp⟩

/-- What a leaf function does, in each world that has come of w0. -/
def LeafNew (g : Nat) (lb : Array Value) (leaf : Tr → Tr) (w0 : World) : Prop :=
  ∀ (o : Nat) (nm : ByteArray) (W : World), Kept [] w0 W → o < 256 → nm.size ≤ maxLen → Calls Tryz.prog g (#[.agg #[.int .u8 (o : Nat), .string nm, .slice none 0 0]] ++ lb) W fun e W' =>
    ∃ kad kcap, e = .returned (.agg #[.int .u8 ((leaf ⟨o, nm, []⟩).op : Nat), .string (leaf ⟨o, nm, []⟩).name, .slice kad (leaf ⟨o, nm, []⟩).kids.length kcap]) ∧ IsNw W.heap.size W' (leaf ⟨o, nm, []⟩) (.slice kad (leaf ⟨o, nm, []⟩).kids.length kcap) ∧ Kept [] W W'
/-- What stands between two rounds: the new list G has its first i kids. -/
structure RebNew (w : World) (G n : Nat) (us : List Tr) (a b c : Value) (i : Nat) (wr : World) : Prop where
  kept : Kept [] w wr
  src : For3 wr w.heap.size a b c
  res : For3 wr (w.heap.size + 1) (.int .u8 0) (.string ⟨#[]⟩) (.slice none 0 0)
  row : ∃ (arr : Array Value) (Ls : List (List Nat)), wr.heap[G]? = some (.cells arr 25 (0, 0)) ∧ arr.size = n * 3 ∧ Ls.length = i ∧ Ls.flatten.Nodup ∧ (∀ x ∈ Ls.flatten, G < x ∧ x < wr.heap.size) ∧ ∀ j (hj : j < us.length) (hi : j < Ls.length), ∃ ad cap, arr[j * 3]? = some (.int .u8 (us[j].op : Nat)) ∧ arr[j * 3 + 1]? = some (.string us[j].name) ∧ arr[j * 3 + 2]? = some (.slice ad us[j].kids.length cap) ∧ IsO wr us[j] (.slice ad us[j].kids.length cap) Ls[j]
/-- One kid more: a call that makes it, and its store. -/
theorem RebNew.next {w wr W5 : World} {G n : Nat} {us : List Tr} {a b c : Value} {i : Nat} (h : RebNew w G n us a b c i wr) (hG : G = w.heap.size + 2) (hk : Kept [] wr W5) (hi : i < us.length) (hn : us.length = n) {ad : Option Addr} {cap : Nat} (hI : IsNw wr.heap.size W5 us[i] (.slice ad us[i].kids.length cap)) :
    (∃ v0 v1 v2, W5.cell? ⟨G, i * 3, none⟩ = some v0 ∧ W5.cell? ⟨G, i * 3 + 1, none⟩ = some v1 ∧ W5.cell? ⟨G, i * 3 + 2, none⟩ = some v2 ∧ ∀ k, W5.frozen? ⟨G, k, none⟩ = false) ∧
    RebNew w G n us a b c (i + 1) (((W5.setCell ⟨G, i * 3, none⟩ (.int .u8 (us[i].op : Nat))).setCell ⟨G, i * 3 + 1, none⟩ (.string us[i].name)).setCell ⟨G, i * 3 + 2, none⟩ (.slice ad us[i].kids.length cap)) := by
  obtain ⟨arr, Ls, hg, hsz, hll, hnd, hlh, hr⟩ := h.row
  obtain ⟨L, hL1, hL2, hL3⟩ := hI
  have hg5 : W5.heap[G]? = some (.cells arr 25 (0, 0)) := hk.at hg (by simp)
  have lg := lt_of hg
  have hsz5 := hk.size
  have off : ∀ b, b ≠ G → (((W5.setCell ⟨G, i * 3, none⟩ (.int .u8 (us[i].op : Nat))).setCell ⟨G, i * 3 + 1, none⟩ (.string us[i].name)).setCell ⟨G, i * 3 + 2, none⟩ (.slice ad us[i].kids.length cap)).heap[b]? = W5.heap[b]? := fun b hb =>
    (Below.heap_setCell _ _ _ _ (by show b ≠ G; exact hb)).trans ((Below.heap_setCell _ _ _ _ (by show b ≠ G; exact hb)).trans (Below.heap_setCell _ _ _ _ (by show b ≠ G; exact hb)))
  have hsw : W5.heap.size ≤ (((W5.setCell ⟨G, i * 3, none⟩ (.int .u8 (us[i].op : Nat))).setCell ⟨G, i * 3 + 1, none⟩ (.string us[i].name)).setCell ⟨G, i * 3 + 2, none⟩ (.slice ad us[i].kids.length cap)).heap.size := by
    simp only [World.size_setCell]
    exact Nat.le_refl _
  refine ⟨⟨arr[i * 3]'(by omega), arr[i * 3 + 1]'(by omega), arr[i * 3 + 2]'(by omega), ?_, ?_, ?_, fun k => free_of hg5 k⟩, ?_, ?_, ?_, ?_⟩
  · rw [cell_of hg5]; exact Array.getElem?_eq_getElem _
  · rw [cell_of hg5]; exact Array.getElem?_eq_getElem _
  · rw [cell_of hg5]; exact Array.getElem?_eq_getElem _
  · have k5 := h.kept.trans hk (H := []) (by simp) (by simp)
    exact ((k5.setCell (p := ⟨G, i * 3, none⟩) (.inr (by show w.heap.size ≤ G; omega)) _).setCell (p := ⟨G, i * 3 + 1, none⟩) (.inr (by show w.heap.size ≤ G; omega)) _).setCell (p := ⟨G, i * 3 + 2, none⟩) (.inr (by show w.heap.size ≤ G; omega)) _
  · exact (off w.heap.size (by omega)).trans (h.src.kept hk)
  · exact (off (w.heap.size + 1) (by omega)).trans (h.res.kept hk)
  · refine ⟨_, Ls ++ [L], row_set (row_set (row_set hg5 _) _) _, by simp [hsz], by simp [hll], ?_, ?_, fun j hj hji => ?_⟩
    · rw [List.flatten_append, List.nodup_append]
      refine ⟨hnd, by simpa using hL2, fun x hx y hy => ?_⟩
      have h1 := (hlh x hx).2
      have h2 := hL3 y (by simpa using hy)
      omega
    · intro x hx
      rw [List.flatten_append, List.mem_append] at hx
      rcases hx with hx | hx
      · have h1 := hlh x hx
        exact ⟨h1.1, by omega⟩
      · have hx' : x ∈ L := by simpa using hx
        have h1 := hL3 x hx'
        have h2 := hL1.lt x hx'
        exact ⟨by omega, by omega⟩
    · rcases Nat.lt_or_ge j i with h' | h'
      · obtain ⟨ad', cap', a0, a1, a2, hIj⟩ := hr j hj (by omega)
        refine ⟨ad', cap', ?_, ?_, ?_, ?_⟩
        · rw [Array.getElem?_setIfInBounds_ne (by omega), Array.getElem?_setIfInBounds_ne (by omega), Array.getElem?_setIfInBounds_ne (by omega)]; exact a0
        · rw [Array.getElem?_setIfInBounds_ne (by omega), Array.getElem?_setIfInBounds_ne (by omega), Array.getElem?_setIfInBounds_ne (by omega)]; exact a1
        · rw [Array.getElem?_setIfInBounds_ne (by omega), Array.getElem?_setIfInBounds_ne (by omega), Array.getElem?_setIfInBounds_ne (by omega)]; exact a2
        · rw [List.getElem_append_left (by omega)]
          exact hIj.keep (fun b hb => by
            have h1 := hlh b (mem_flat (by omega) hb)
            exact (off b (by omega)).trans (hk.block b h1.2 (by simp)))
      · obtain rfl : j = i := by
          rw [List.length_append, List.length_singleton] at hji
          omega
        refine ⟨ad, cap, ?_, ?_, ?_, ?_⟩
        · rw [Array.getElem?_setIfInBounds_ne (by omega), Array.getElem?_setIfInBounds_ne (by omega), Array.getElem?_setIfInBounds_self_of_lt (by omega)]
        · rw [Array.getElem?_setIfInBounds_ne (by omega), Array.getElem?_setIfInBounds_self_of_lt (by simp; omega)]
        · rw [Array.getElem?_setIfInBounds_self_of_lt (by simp; omega)]
        · rw [List.getElem_append_right (by omega)]
          simp only [hll, Nat.sub_self, List.getElem_singleton]
          exact hL1.keep (fun b hb => off b (by have := hL3 b hb; omega))
set_option maxHeartbeats 1000000 in
set_option maxRecDepth 20000 in
theorem rebuiltN_any (g : Nat) (lb : Array Value) (leaf : Tr → Tr) (w0 : World) (hen : ∀ args w, (callFunc g args).run Tryz.prog w = .ok (.enter g args) w) (hL : LeafNew g lb leaf w0) (t : Tr) :
    ∀ (kv : Value) (w : World), IsF w t kv → Kept [] w0 w → t.size ≤ 1099511627776 → t.Fine →
    Calls Tryz.prog 42 #[.agg #[.int .u8 (t.op : Nat), .string t.name, kv], .func (.func g) #[] lb] w fun e w' =>
      ∃ kad kcap, e = .returned (.agg #[.int .u8 ((t.reb leaf).op : Nat), .string (t.reb leaf).name, .slice kad (t.reb leaf).kids.length kcap]) ∧ IsNw w.heap.size w' (t.reb leaf) (.slice kad (t.reb leaf).kids.length kcap) ∧ Kept [] w w' := by
  have HL : Hid _ := hL
  clear hL
  induction t using Tr.ind with
  | h t ih =>
    intro kv w hI hk0 hs hF
    have HIH : Hid _ := ih
    have HK0 : Hid _ := hk0
    obtain ⟨hF1, hF2⟩ := (Tr.all_eq t).1 hF
    obtain ⟨kad, kcap, rfl⟩ := hI.slice
    have HI : Hid (IsF w t (.slice kad t.kids.length kcap)) := hI
    have HF2 : Hid _ := hF2
    clear ih hk0 hI hF hF2
    by_cases h0 : t.kids.length = 0
    · have HLE : Hid _ := HL.out t.op t.name
      rw [Tr.reb_leaf leaf t h0]
      have h0i : ((t.kids.length : Int) == 0) = true := by rw [beq_iff_eq]; omega
      clear h0
      obtain ⟨u, hu⟩ : ∃ u, leaf ⟨t.op, t.name, []⟩ = u := ⟨_, rfl⟩
      rw [hu] at HLE ⊢
      clear hu
      go_enter Tryz.func42, Tryz.ntmps42
      go_wp2_with (go_at_fn g; refine (HLE.out _ ((HK0.out.alloc _).alloc _) hF1.1 hF1.2).mono ?_; rintro e W2 ⟨lad, lcap, rfl, hI2, hk2⟩; have hz2 : For3 W2 (w.heap.size + 1) (.int .u8 0) (.string ⟨#[]⟩) (.slice none 0 0) := For3.kept (show For3 _ (w.heap.size + 1) (.int .u8 0) (.string ⟨#[]⟩) (.slice none 0 0) from al1 w _ _) hk2; obtain ⟨d0, d1, d2, df⟩ := hz2.cells; have HZ2 : Hid (For3 W2 (w.heap.size + 1) (.int .u8 0) (.string ⟨#[]⟩) (.slice none 0 0)) := hz2; have HI2 : Hid _ := hI2; have HK2 : Hid _ := hk2; clear hz2 hI2 hk2)
      have hk3 : Kept [] w W2 := (((Kept.refl [] w).alloc _).alloc _).trans HK2.out (by simp) (by simp)
      refine ret_for rfl rfl rfl (HZ2.out.set _ _ _) ⟨lad, lcap, rfl, ?_, kept_set3 hk3 (by omega) _ _ _⟩
      have hn : w.heap.size + 1 < w.heap.size + 2 := by omega
      have hI3 : IsNw (w.heap.size + 2) W2 u (.slice lad u.kids.length lcap) := IsNw.mono HI2.out (by simp)
      exact (((hI3.other hn _ _).other hn _ _).other hn _ _).mono (by omega)
    · have hmk := fun W => make_for W t.kids.length (by have := t.kids_size; omega)
      have h0i : ((t.kids.length : Int) == 0) = false := by rw [beq_eq_false_iff_ne]; omega
      rw [Tr.reb_node leaf t h0]
      have hpos : 0 < t.kids.length := by omega
      obtain ⟨kb, koff, rfl, hTb, hkid⟩ := IsT.kid HI.out hpos
      have HKID : Hid _ := hkid
      have hlen : t.kids.length ≤ 1099511627776 := by have := t.kids_size; omega
      clear h0 hkid
      obtain ⟨us, hus⟩ : ∃ us, t.kids.map (Tr.reb leaf) = us := ⟨_, rfl⟩
      have hul : us.length = t.kids.length := by rw [← hus, List.length_map]
      have hui : ∀ i (h : i < t.kids.length) (h' : i < us.length), us[i] = t.kids[i].reb leaf := fun i h h' => by subst hus; simp
      rw [hus]
      have HUL : Hid _ := hul
      have HUI : Hid _ := hui
      clear hus hul hui
      go_enter Tryz.func42, Tryz.ntmps42
      go_wp2
      go_loopw [26] (fun v wr => ∃ i : Nat, v = .int .i64 (i : Nat) ∧ i ≤ t.kids.length ∧ Hid (RebNew w (w.heap.size + 1 + 1) t.kids.length us (.int .u8 (t.op : Nat)) (.string t.name) (.slice (some ⟨kb, koff, none⟩) t.kids.length kcap) i wr)) (fun v _ => t.kids.length - (intOf v).toNat)
      case atStart =>
        exact ⟨0, rfl, Nat.zero_le _, ⟨(((Kept.refl [] w).alloc _).alloc _).alloc _, alUp (alUp (al0 w _) _) _, alUp (al1 w _ _) _, _, [], al2 w _ _ _, zeros3_size _, rfl, by simp, by simp, fun j _ h => by simp at h⟩⟩
      case round =>
        obtain ⟨i, rfl, hi, HR⟩ := hrel
        by_cases hlt : i < t.kids.length
        · obtain ⟨kv, c0, c1, c2, hIk⟩ := HKID.out i hlt
          obtain ⟨ckad, ckcap, rfl⟩ := hIk.slice
          obtain ⟨k, hk⟩ : ∃ k, t.kids[i] = k := ⟨_, rfl⟩
          obtain ⟨u, hu⟩ : ∃ u, us[i]'(by rw [HUL.out]; exact hlt) = u := ⟨_, rfl⟩
          have huk : u = k.reb leaf := by rw [← hu, HUI.out i hlt _, hk]
          have hkm : k ∈ t.kids := by rw [← hk]; exact List.getElem_mem _
          rw [hk] at c0 c1 c2 hIk
          have hrec := fun o => HIH.out k hkm (.slice ckad k.kids.length ckcap) (wr.alloc o) ((IsF.kept hIk HR.out.kept).kept ((Kept.refl [] wr).alloc o)) ((HK0.out.trans HR.out.kept (by simp) (by simp)).alloc o) (by have := Tr.kid_size hkm; omega) (HF2.out k hkm)
          rw [← huk] at hrec
          have HREC : Hid _ := hrec
          have e0 := cell_kept0 HR.out.kept c0
          have e1 := cell_kept0 HR.out.kept c1
          have e2 := cell_kept0 HR.out.kept c2
          have lk : kb < wr.heap.size := World.block_lt_of_cell? wr _ e0
          have nk1 : ¬ kb = wr.heap.size := by omega
          have nk2 : ¬ wr.heap.size = kb := by omega
          have hii : (i : Int) < (t.kids.length : Int) := by omega
          have HHU : Hid _ := hu
          have hnx : ∀ W5, Kept [] wr W5 → ∀ ad cap, IsNw wr.heap.size W5 u (.slice ad u.kids.length cap) → _ := fun W5 k5 ad cap hI5 => HR.out.next rfl k5 (by rw [HUL.out]; exact hlt) HUL.out (ad := ad) (cap := cap) (by rw [HHU.out]; exact hI5)
          rw [hu] at hnx
          have HNX : Hid _ := hnx
          clear hIk c0 c1 c2 hrec hu huk hk hnx hpos
          go_wp2_with (go_at_call 42; refine (HREC.out _).mono ?_; rintro e W5 ⟨ad5, cap5, rfl, hI5, hk5⟩; have hk5' : Kept [] wr W5 := ((Kept.refl [] wr).alloc _).trans hk5 (by simp) (by simp); have hn5 := HNX.out W5 hk5' ad5 cap5 (IsNw.mono hI5 (by simp)); obtain ⟨⟨v0, v1, v2, d0, d1, d2, df⟩, hR5⟩ := hn5; have HR5 : Hid _ := hR5; clear hR5 hI5 hk5 hk5')
          go_roundw
          case rel => exact ⟨i + 1, by go_num, by omega, HR5.out⟩
          case measure => simp [intOf]; omega
        · obtain rfl : i = t.kids.length := by omega
          have hsr := HR.out.src.cells
          obtain ⟨s0, s1, s2, sf⟩ := hsr
          obtain ⟨d0, d1, d2, df⟩ := HR.out.res.cells
          clear hlt
          go_wp2
          have hrow := HR.out.row
          obtain ⟨arr, Ls, hg, hsz, hll, hnd, hlh, hr⟩ := hrow
          have lg := lt_of hg
          refine ret_for rfl rfl rfl (HR.out.res.set _ _ _) ⟨some ⟨w.heap.size + 1 + 1, 0, none⟩, t.kids.length, by rw [show (Tr.mk t.op t.name us).kids.length = t.kids.length from HUL.out], ?_, kept_set3 HR.out.kept (by omega) _ _ _⟩
          have off : ∀ b, b ≠ w.heap.size + 1 → (((wr.setCell ⟨w.heap.size + 1, 0, none⟩ (.int .u8 (t.op : Nat))).setCell ⟨w.heap.size + 1, 1, none⟩ (.string t.name)).setCell ⟨w.heap.size + 1, 2, none⟩ (.slice (some ⟨w.heap.size + 1 + 1, 0, none⟩) t.kids.length t.kids.length)).heap[b]? = wr.heap[b]? := fun b hb =>
            (Below.heap_setCell _ _ _ _ (by show b ≠ w.heap.size + 1; exact hb)).trans ((Below.heap_setCell _ _ _ _ (by show b ≠ w.heap.size + 1; exact hb)).trans (Below.heap_setCell _ _ _ _ (by show b ≠ w.heap.size + 1; exact hb)))
          have hul : us.length = t.kids.length := HUL.out
          refine ⟨(w.heap.size + 1 + 1) :: Ls.flatten, (isO_eq _ _ _).2 (.inr ⟨by show us.length ≠ 0; omega, w.heap.size + 1 + 1, arr, Ls, by show _ = Value.slice _ us.length us.length; rw [hul], (off _ (by omega)).trans hg, by show arr.size = us.length * 3; rw [hul]; exact hsz, by show Ls.length = us.length; omega, rfl, fun j hj hj2 => ?_⟩), ?_, ?_⟩
          · have hj' : j < us.length := hj
            obtain ⟨ad, cap, a0, a1, a2, hIj⟩ := hr j hj' hj2
            exact ⟨_, a0, a1, a2, hIj.keep (fun b hb => off b (by have := hlh b (mem_flat hj2 hb); omega))⟩
          · rw [List.nodup_cons]
            exact ⟨fun hx => by have := hlh _ hx; omega, hnd⟩
          · intro b hb
            rcases List.mem_cons.1 hb with rfl | hb
            · omega
            · have := hlh b hb; omega
end Go.Proofs.YtnjajafmmociiaaGreatDoor
