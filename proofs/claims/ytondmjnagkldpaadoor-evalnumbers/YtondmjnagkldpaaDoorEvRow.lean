/- Table.row. -/
import Derived.Test.YtondmjnagkldpaaDoorEvLoop
namespace Go.Proofs.YtondmjnagkldpaaDoor
open Go.RowKit Go.Shelf Go.Maps
attribute [local go_sem] Oper.semAt_some

/-- What a call of row leaves. -/
def RowPost (w₁ w : World) (p m : Nat) (nv sv lv rv : Value) (q : Wd) (names : List ByteArray) (known : List Tr) (t : Tr) (e : Ending) (w' : World) : Prop :=
  ∃ b rv' known', e = .returned (.slice (some ⟨b, 0, none⟩) q.len q.len) ∧ RowB w' b q.len (rowT q names t) ∧ TabIs w₁ w' p m nv sv lv rv' q names known' ∧ Kept (FR p m rv) w w' ∧ (∀ g, rv'.ownBlock = some g → rv.ownBlock = some g ∨ w.heap.size ≤ g) ∧ known'.length ≤ known.length + t.size ∧ ∀ s ∈ known', s ∈ known ∨ s.size ≤ t.size
def RowDoes (q : Wd) (names : List ByteArray) (t : Tr) : Prop :=
  ∀ (X : Nat → Prop) (kv : Value) (w₁ w : World) (p m : Nat) (nv sv lv rv : Value) (known : List Tr), t.Good → t.Named names → t.Fine → IsT X w t kv → (∀ k, X k → k < w.heap.size ∧ k ∉ FR p m rv) → TabIs w₁ w p m nv sv lv rv q names known → known.length + t.size ≤ 1099511627776 → t.text.length ≤ 1099511627776 →
    Calls Tryd.prog 28 #[.pointer (some ⟨p, 0, none⟩), .agg #[.int .u8 (t.op : Nat), .string t.name, kv]] w (RowPost w₁ w p m nv sv lv rv q names known t)
theorem text_pos (t : Tr) : 0 < t.text.length := by rw [Tr.text_eq]; simp
/-- The text, as a row of bytes and as a string. -/
theorem text_form {B : Nat} {W0 w : World} {v : Value} {n : Nat} {l : List UInt8} (h : TextAt B W0 v n (bytesV l) w) (hn : n = l.length) (h0 : 0 < l.length) : ∃ g cap, v = .slice (some ⟨g, 0, none⟩) l.length cap ∧ (convert 80 9 (.slice (some ⟨g, 0, none⟩) l.length cap)).run Tryd.prog w = .ok (.string ⟨l.toArray⟩) w := by
  subst hn
  rcases h.own.2 with ⟨rfl, e⟩ | ⟨g, cap, cur, rfl, _⟩
  · omega
  · refine ⟨g, cap, rfl, run_convert_bytes_back (P := Tryd.prog) w 80 9 5 ⟨g, 0, none⟩ cap l Tryd.underlying80 Tryd.underlying5 Tryd.underlying9 (fun j hj => ?_)⟩
    exact h.own.cells (g := g) rfl j _ (by simp [bytesV, hj])
theorem Tryd.infoBools : (Tryd.prog.info? 36).map (fun i => (i.zero, i.size, i.bytes)) = some (some (.slice none 0 0), 1, 24) := by kernel_rfl
theorem zeroInt0 (w : World) : (zeroValue 3).run Tryd.prog w = .ok (.int .i64 0) w := by kernel_rfl

theorem text_call' (t : Tr) (kad : Option Addr) (kcap : Nat) (w : World) (hI : IsF w t (.slice kad t.kids.length kcap)) (hF : t.Fine) (hs : t.size ≤ 1099511627776) (hx : t.text.length ≤ 1099511627776) :
    Calls Tryd.prog 49 #[.slice none 0 0, .agg #[.int .u8 (t.op : Nat), .string t.name, .slice kad t.kids.length kcap]] (w.alloc (.cells #[.int .u8 (t.op : Nat), .string t.name, .slice kad t.kids.length kcap] 26)) fun e w' =>
      ∃ g cap, e = .returned (.slice (some ⟨g, 0, none⟩) t.text.length cap) ∧ (convert 80 9 (.slice (some ⟨g, 0, none⟩) t.text.length cap)).run Tryd.prog w' = .ok (.string ⟨t.text.toArray⟩) w' ∧ Kept [] (w.alloc (.cells #[.int .u8 (t.op : Nat), .string t.name, .slice kad t.kids.length kcap] 26)) w' := by
  obtain ⟨W0, hW0⟩ : ∃ W0, w.alloc (.cells #[.int .u8 (t.op : Nat), .string t.name, .slice kad t.kids.length kcap] 26) = W0 := ⟨_, rfl⟩
  have kW0 : Kept [] w W0 := by rw [← hW0]; exact (Kept.refl [] w).alloc _
  rw [hW0]
  refine (text_any W0.heap.size W0 t _ _ 0 [] W0 (hI.kept kW0) hF ⟨World.ownsRow_nil _ _ _ _, Below.refl _ _, Nat.le_refl _⟩ (by omega) hs).mono ?_
  rintro e w' ⟨v', rfl, h⟩
  rw [Nat.zero_add, List.nil_append] at h
  obtain ⟨g, cap, rfl, hc⟩ := text_form h rfl (text_pos t)
  exact ⟨g, cap, rfl, hc, kept_of_below h.below⟩
theorem text_call (t : Tr) (kad : Option Addr) (kcap : Nat) (w : World) (hI : IsF w t (.slice kad t.kids.length kcap)) (hF : t.Fine) (hs : t.size ≤ 1099511627776) (hx : t.text.length ≤ 1099511627776) :
    Calls Tryd.prog 49 #[.slice none 0 0, .agg #[.int .u8 (t.op : Nat), .string t.name, .slice kad t.kids.length kcap]] (w.alloc (.cells #[.int .u8 (t.op : Nat), .string t.name, .slice kad t.kids.length kcap] 26)) fun e w' =>
      ∃ g cap, e = .returned (.slice (some ⟨g, 0, none⟩) t.text.length cap) ∧ (convert 80 9 (.slice (some ⟨g, 0, none⟩) t.text.length cap)).run Tryd.prog w' = .ok (.string ⟨t.text.toArray⟩) w' ∧ Kept [] w w' := by
  refine (text_call' t kad kcap w hI hF hs hx).mono ?_
  rintro e w' ⟨g, cap, rfl, hc, k⟩
  exact ⟨g, cap, rfl, hc, ((Kept.refl [] w).alloc _).trans k (by simp) (by simp)⟩

set_option maxHeartbeats 4000000 in
set_option maxRecDepth 20000 in
theorem row_known {q : Wd} {names : List ByteArray} (t : Tr) {i : Nat} (X : Nat → Prop) (kad : Option Addr) (kcap : Nat) (w₁ w : World) (p m : Nat) (nv sv lv rv : Value) (known : List Tr) (hG : t.Good) (hF : t.Fine) (hI : IsT X w t (.slice kad t.kids.length kcap)) (hT : TabIs w₁ w p m nv sv lv rv q names known) (hs : known.length + t.size ≤ 1099511627776) (hx : t.text.length ≤ 1099511627776) (hf : known.findIdx? (fun s => s.text == t.text) = some i) :
    Calls Tryd.prog 28 #[.pointer (some ⟨p, 0, none⟩), .agg #[.int .u8 (t.op : Nat), .string t.name, .slice kad t.kids.length kcap]] w (RowPost w₁ w p m nv sv lv rv q names known t) := by
  obtain ⟨D, hm, hD⟩ := hT.map
  obtain ⟨hil, hie⟩ := hD.found hG hf
  obtain ⟨vs, hrow, hbs⟩ := hT.rows
  obtain ⟨b, hvb, hrb⟩ := hbs i hil
  rw [hie] at hrb
  obtain ⟨g, cap, rfl⟩ : ∃ g cap, rv = .slice (some ⟨g, 0, none⟩) known.length cap := by
    rcases hrow.2 with ⟨rfl, h0⟩ | ⟨g, cap, cur, rfl, _⟩
    · omega
    · exact ⟨g, cap, rfl⟩
  have hgc : w.cell? ⟨g, i, none⟩ = some (.slice (some ⟨b, 0, none⟩) q.len q.len) := by rw [hrow.cellAt i (by omega)]; exact hvb
  have HTX : Hid (Calls Tryd.prog 49 #[.slice none 0 0, .agg #[.int .u8 (t.op : Nat), .string t.name, .slice kad t.kids.length kcap]] (w.alloc (.cells #[.int .u8 (t.op : Nat), .string t.name, .slice kad t.kids.length kcap] 26)) fun e w' =>
      ∃ g cap, e = .returned (.slice (some ⟨g, 0, none⟩) t.text.length cap) ∧ (convert 80 9 (.slice (some ⟨g, 0, none⟩) t.text.length cap)).run Tryd.prog w' = .ok (.string ⟨t.text.toArray⟩) w' ∧ Kept [] w w') := text_call t kad kcap w (IsT.isF hI) hF (by omega) hx
  have HTT : Hid (TabIs w₁ w p m nv sv lv (.slice (some ⟨g, 0, none⟩) known.length cap) q names known) := hT
  have hq : Maps.has D (.string t.text) = true := by
    rw [hD.has, List.any_eq_true]
    obtain ⟨h1, h2, _⟩ := List.findIdx?_eq_some_iff_getElem.1 hf
    exact ⟨_, List.getElem_mem h1, h2⟩
  have HAT : Hid (D.atKey (.string t.text) (.lit (.int .i64 0)) = .lit (.int .i64 (i : Nat))) := hD.at' _ i hf
  have HKEY : Hid (keyOf Tryd.prog 9 (.string ⟨t.text.toArray⟩) = some (.string t.text)) := WideMaps.keyOf_string_mk Tryd.underlying9 (s := ⟨t.text.toArray⟩) (by show t.text.toArray.size ≤ maxLen; unfold maxLen; simp; omega)
  have HM : Hid (∀ W, Kept [] w W → W.ownsMap Tryd.prog 9 (plainElem Tryd.prog 3) m known.length D) := fun W k => hm.kept (grownBy_of_kept k) (by simp)
  have HRB : Hid (RowB w b q.len (rowT q names t)) := hrb
  have HGC : Hid _ := hgc
  have hii : (i : Int) < (known.length : Int) := by omega
  have hi0 : (0 : Int) ≤ (i : Int) := by omega
  obtain ⟨tx, htx⟩ : ∃ tx, t.text = tx := ⟨_, rfl⟩
  rw [htx] at HTX hq HAT HKEY
  clear hT hm hD hf hie hrow hbs hvb hrb hgc hI hF hG hil htx
  go_enter Tryd.func28, Tryd.ntmps28
  go_wp2_with (first
    | (go_at_call 49; refine HTX.out.mono ?_; rintro e w2 ⟨g2, cap2, rfl, hcv, k2⟩; have HK2 : Hid (Kept [] w w2) := k2; obtain ⟨_, _, _, c3, c4, _⟩ := (HTT.out.tab.kept k2).cells; have d0 := cell_kept0 k2 HGC.out; clear k2)
    | (at_lookup; refine wpList_lookup_own_ok_int _ rfl _ _ 67 rfl 9 3 .i64 lawStr Tryd.underlying67 Tryd.underlying3 (zeroInt0 _) m known.length D rfl (HM.out _ HK2.out) _ _ rfl HKEY.out ?_; intro c hat hwc; rw [hq]; obtain rfl : c = ((i : Nat) : Int) := (by rw [HAT.out] at hat; cases hat; rfl); clear hat hwc))
  go_ret
  exact ⟨b, _, known, rfl, HRB.out.kept HK2.out, HTT.out.keep0 HK2.out, HK2.out.mono (by simp), fun g e => .inl e, by omega, fun s hs => .inl hs⟩
end Go.Proofs.YtondmjnagkldpaaDoor
