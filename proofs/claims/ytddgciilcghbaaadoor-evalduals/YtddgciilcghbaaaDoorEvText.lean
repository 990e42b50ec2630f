/- The text that a table makes of a formula: no two formulas have the same; and the walk that writes it. -/
import Derived.Test.YtddgciilcghbaaaDoorEvSat
import Derived.Test.YtddgciilcghbaaaDoorTrReb
import Derived.Lib.AppendStr
namespace Go.Proofs.YtddgciilcghbaaaDoor
open Go.RowKit Go.Shelf

def Tr.text : Tr → List UInt8 := Tr.para (fun t rs => UInt8.ofNat t.op :: (t.name.data.toList ++ rs.flatten))
theorem Tr.text_eq (t : Tr) : t.text = UInt8.ofNat t.op :: (t.name.data.toList ++ (t.kids.map Tr.text).flatten) := Tr.para_eq _ t
/-- What follows a name. -/
def Opled (l : List UInt8) : Prop := ∀ b, l.head? = some b → b.toNat < 32
theorem opled_nil : Opled [] := fun _ h => by cases h
theorem ofNat_small {n : Nat} (h : n < 256) : (UInt8.ofNat n).toNat = n := by simp [Nat.mod_eq_of_lt h]
theorem name_cut : ∀ {a b r s : List UInt8}, (∀ x ∈ a, 32 ≤ x.toNat) → (∀ x ∈ b, 32 ≤ x.toNat) → Opled r → Opled s → a ++ r = b ++ s → a = b ∧ r = s
  | [], [], _, _, _, _, _, _, h => ⟨rfl, h⟩
  | [], y :: b, r, s, _, hb, hr, _, h => by
    have h' : r = y :: (b ++ s) := h
    have := hr y (by rw [h']; rfl)
    have := hb y (by simp)
    omega
  | x :: a, [], r, s, ha, _, _, hs, h => by
    have h' : s = x :: (a ++ r) := h.symm
    have := hs x (by rw [h']; rfl)
    have := ha x (by simp)
    omega
  | x :: a, y :: b, r, s, ha, hb, hr, hs, h => by
    simp only [List.cons_append, List.cons.injEq] at h
    obtain ⟨h1, h2⟩ := name_cut (fun z hz => ha z (by simp [hz])) (fun z hz => hb z (by simp [hz])) hr hs h.2
    exact ⟨by rw [h.1, h1], h2⟩
theorem empty_of {s : ByteArray} (h : s.toList.isEmpty = true) : s = ByteArray.empty :=
  WideShapes.bytes_inj (by rw [← ByteArray.toList_eq, List.isEmpty_iff.1 h]; rfl)
theorem good_name {t : Tr} (h : formedB t = true) : ∀ x ∈ t.name.data.toList, 32 ≤ x.toNat := by
  simp only [formedB, Bool.and_eq_true] at h
  have h2 := h.2
  intro x hx
  split at h2
  · simp only [nameB, Bool.and_eq_true, List.all_eq_true] at h2
    have := h2.2 x hx
    simp only [okB, Bool.and_eq_true, decide_eq_true_eq] at this
    omega
  · have e : t.name = ByteArray.empty := empty_of h2
    rw [e] at hx
    cases hx
theorem opled_kids {ks : List Tr} {r : List UInt8} (hk : ∀ k ∈ ks, k.op ≤ 15) (hr : Opled r) : Opled ((ks.map Tr.text).flatten ++ r) := by
  cases ks with
  | nil => simpa using hr
  | cons k ks =>
    intro b hb
    rw [List.map_cons, List.flatten_cons, Tr.text_eq] at hb
    have := hk k (by simp)
    have e : UInt8.ofNat k.op = b := by simpa using hb
    rw [← e, ofNat_small (by omega)]
    omega
theorem good_op {t : Tr} (h : t.Good) : t.op ≤ 15 := ((Tr.all_eq t).1 h).1.2
theorem good_kid {t k : Tr} (h : t.Good) (hk : k ∈ t.kids) : k.Good := ((Tr.all_eq t).1 h).2 k hk
/-- NO TWO FORMULAS HAVE THE SAME TEXT. -/
theorem text_inj' (t : Tr) : t.Good → ∀ (u : Tr) (r s : List UInt8), u.Good → Opled r → Opled s → t.text ++ r = u.text ++ s → t = u ∧ r = s := by
  induction t using Tr.ind with
  | h t ih =>
    intro hG u r s hU hr hs h
    obtain ⟨⟨hf, ho⟩, hk⟩ := (Tr.all_eq t).1 hG
    obtain ⟨⟨hf', ho'⟩, hk'⟩ := (Tr.all_eq u).1 hU
    rw [Tr.text_eq, Tr.text_eq, List.cons_append, List.cons_append, List.append_assoc, List.append_assoc, List.cons.injEq] at h
    have e1 : t.op = u.op := by
      have := congrArg UInt8.toNat h.1
      rwa [ofNat_small (by omega), ofNat_small (by omega)] at this
    obtain ⟨e2, h2⟩ := name_cut (good_name hf) (good_name hf') (opled_kids (fun k q => good_op (hk k q)) hr) (opled_kids (fun k q => good_op (hk' k q)) hs) h.2
    have el : t.kids.length = u.kids.length := by rw [(formed_kids hf).1, (formed_kids hf').1, e1]
    have key : ∀ (ks ls : List Tr), (∀ k ∈ ks, k ∈ t.kids) → (∀ l ∈ ls, l ∈ u.kids) → ks.length = ls.length → (ks.map Tr.text).flatten ++ r = (ls.map Tr.text).flatten ++ s → ks = ls ∧ r = s := by
      intro ks
      induction ks with
      | nil =>
        intro ls _ _ hl h
        cases ls with
        | nil => exact ⟨rfl, h⟩
        | cons l ls => cases hl
      | cons k ks ih2 =>
        intro ls hks hls hl h
        cases ls with
        | nil => cases hl
        | cons l ls =>
          rw [List.map_cons, List.map_cons, List.flatten_cons, List.flatten_cons, List.append_assoc, List.append_assoc] at h
          obtain ⟨e, h'⟩ := ih k (hks k (by simp)) (hk k (hks k (by simp))) l _ _ (hk' l (hls l (by simp))) (opled_kids (fun k' q => good_op (hk k' (hks k' (by simp [q])))) hr) (opled_kids (fun k' q => good_op (hk' k' (hls k' (by simp [q])))) hs) h
          obtain ⟨e', h''⟩ := ih2 ls (fun k' q => hks k' (by simp [q])) (fun k' q => hls k' (by simp [q])) (by simpa using hl) h'
          exact ⟨by rw [e, e'], h''⟩
    obtain ⟨e3, e4⟩ := key t.kids u.kids (fun _ q => q) (fun _ q => q) el h2
    refine ⟨?_, e4⟩
    have e5 : t.name = u.name := WideShapes.bytes_inj e2
    cases t; cases u
    simp only at e1 e3 e5
    subst e1 e3 e5
    rfl
theorem text_inj {t u : Tr} (ht : t.Good) (hu : u.Good) (h : t.text = u.text) : t = u :=
  (text_inj' t ht u [] [] hu opled_nil opled_nil (by rw [h])).1

/-- Bytes in memory. -/
def bytesV (l : List UInt8) : List Value := l.map fun b => Value.int .u8 b.toNat
theorem bytesV_app (a b : List UInt8) : bytesV (a ++ b) = bytesV a ++ bytesV b := by simp [bytesV]
def textTo (t : Tr) (i : Nat) : List UInt8 := UInt8.ofNat t.op :: (t.name.data.toList ++ ((t.kids.take i).map Tr.text).flatten)
theorem textTo_succ (t : Tr) {i : Nat} (h : i < t.kids.length) : textTo t (i + 1) = textTo t i ++ (t.kids[i]).text := by
  unfold textTo
  rw [List.take_succ_eq_append_getElem h, List.map_append, List.flatten_append, List.map_singleton, List.flatten_singleton, List.cons_append, List.append_assoc]
theorem textTo_all (t : Tr) : textTo t t.kids.length = t.text := by unfold textTo; rw [Tr.text_eq, List.take_length]
theorem textTo_zero (t : Tr) : textTo t 0 = [UInt8.ofNat t.op] ++ t.name.data.toList := by unfold textTo; simp
theorem textTo_le (t : Tr) (i : Nat) : (textTo t i).length ≤ t.text.length := by
  have h : ((t.kids.take i).map Tr.text).flatten <+: (t.kids.map Tr.text).flatten := by
    rw [List.map_take]
    have := List.take_append_drop i (t.kids.map Tr.text)
    refine ⟨((t.kids.map Tr.text).drop i).flatten, ?_⟩
    rw [← List.flatten_append, this]
  have := h.length_le
  rw [Tr.text_eq]
  unfold textTo
  simp only [List.length_cons, List.length_append]
  omega
theorem Tryd.infoU8 : (Tryd.prog.info? 5).map (fun i => (i.zero, i.size, i.bytes)) = some (some (.int .u8 0), 1, 1) := by kernel_rfl

/-- A text that grows: a row of bytes of one's own, all below B as in W0. -/
structure TextAt (B : Nat) (W0 : World) (v : Value) (n : Nat) (xs : List Value) (w : World) : Prop where
  own : w.ownsRow B 5 1 v n xs
  below : Below B W0 w
  size : B ≤ w.heap.size
theorem TextAt.alloc {B : Nat} {W0 w : World} {v : Value} {n : Nat} {xs : List Value} (h : TextAt B W0 v n xs w) (o : Obj) : TextAt B W0 v n xs (w.alloc o) :=
  ⟨h.own.alloc o, h.below.alloc h.size o, by have := h.size; simp; omega⟩
theorem TextAt.grown {B : Nat} {W0 w w' : World} {v v' : Value} {n n' : Nat} {xs xs' : List Value} (h : TextAt B W0 v n xs w) (ho : w'.ownsRow B 5 1 v' n' xs') (hg : w.grownBy w' v.ownBlock) : TextAt B W0 v' n' xs' w' :=
  ⟨ho, h.below.grown hg h.size (fun k hk => (h.own.lt k hk).1), Nat.le_trans h.size hg.size⟩
/-- A box that was laid behind the text's row is kept by an append. -/
theorem TextAt.box {B : Nat} {W0 w w' : World} {v : Value} {n : Nat} {xs : List Value} (h : TextAt B W0 v n xs w) {b : Nat} {o : Obj} (hb : w'.heap[b]? = some o) (hle : w.heap.size ≤ b) {w2 : World} (hg : w'.grownBy w2 v.ownBlock) : w2.heap[b]? = some o :=
  (hg.block b (lt_of hb) (fun e => by have := (h.own.lt b e.symm).2; omega)).trans hb
theorem one_cell {w : World} {u : Value} {e : TypeId} : ∀ j x, [u][j]? = some x → (w.alloc (.cells #[u] e)).cell? ((⟨w.heap.size, 0, none⟩ : Addr).add j) = some x := by
  intro j x hj
  match j, hj with
  | 0, hj => simp at hj; subst hj; simp [Addr.add]
  | (j + 1), hj => simp at hj

set_option maxHeartbeats 1000000 in
set_option maxRecDepth 20000 in
theorem text_any (B : Nat) (W0 : World) (t : Tr) : ∀ (kv v : Value) (n : Nat) (xs : List Value) (w : World), IsT (fun k => k < B) W0 t kv → t.Fine → TextAt B W0 v n xs w → n + t.text.length ≤ 1099511627776 → t.size ≤ 1099511627776 →
    Calls Tryd.prog 73 #[v, .agg #[.int .u8 (t.op : Nat), .string t.name, kv]] w fun e w' => ∃ v', e = .returned v' ∧ TextAt B W0 v' (n + t.text.length) (xs ++ bytesV t.text) w' := by
  induction t using Tr.ind with
  | h t ih =>
    intro kv v n xs w hI hF hO hn hs
    have HIH : Hid _ := ih
    obtain ⟨hF1, hF2⟩ := (Tr.all_eq t).1 hF
    obtain ⟨kad, kcap, rfl⟩ := hI.slice
    have HI : Hid (IsT (fun k => k < B) W0 t (.slice kad t.kids.length kcap)) := hI
    have HF2 : Hid _ := hF2
    have HO : Hid (TextAt B W0 v n xs w) := hO
    have hks := t.kids_size
    have hl0 : (textTo t 0).length ≤ t.text.length := textTo_le t 0
    have hn0 : n + (1 + t.name.size) ≤ 1099511627776 := by
      rw [textTo_zero] at hl0
      have e : t.name.data.toList.length = t.name.size := rfl
      simp only [List.length_append, List.length_singleton] at hl0
      omega
    have HBX : Hid (For3 (w.alloc (.cells #[.int .u8 (t.op : Nat), .string t.name, .slice kad t.kids.length kcap] 25)) w.heap.size (.int .u8 (t.op : Nat)) (.string t.name) (.slice kad t.kids.length kcap)) := al0 w _
    have hBs := hO.size
    obtain ⟨i0, hi0, hz0, hz1, hz2⟩ := info_parts Tryd.infoU8
    have HI0 : Hid _ := hi0
    have HZ0 : Hid _ := hz0
    have HZ1 : Hid _ := hz1
    have HZ2 : Hid _ := hz2
    have HFO : Hid _ := hF1
    clear ih hI hF hF2 hO hl0 hi0 hz0 hz1 hz2 hF1
    go_enter Tryd.func73, Tryd.ntmps73
    go_wp2_with (first
      | (at_builtin; refine wpList_append_own _ rfl _ _ 111 rfl B 5 i0 _ 1 1 Tryd.underlying111 HI0.out HZ0.out HZ1.out HZ2.out rfl (by decide) _ n xs rfl ((HO.out.own.alloc _).alloc _) ⟨w.heap.size + 1, 0, none⟩ 1 1 [.int .u8 (t.op : Nat)] rfl rfl (by have := @one_cell (w.alloc (.cells #[.int .u8 (t.op : Nat), .string t.name, .slice kad t.kids.length kcap] 25)) (.int .u8 (t.op : Nat)) 5; rwa [World.size_alloc] at this) (fun u hu => by simp at hu; subst hu; rfl) (by unfold maxLen; omega) (by omega) (by simp; omega) ?_; intro v1 w1 hown1 hg1 _; have hO1 : TextAt B W0 v1 (n + 1) (xs ++ [.int .u8 (t.op : Nat)]) w1 := TextAt.grown ((HO.out.alloc _).alloc _) hown1 hg1; have HB1 : Hid (For3 w1 w.heap.size (.int .u8 (t.op : Nat)) (.string t.name) (.slice kad t.kids.length kcap)) := HO.out.box (alUp HBX.out _) (Nat.le_refl _) hg1; obtain ⟨c0, c1, c2, _⟩ := HB1.out.cells; have HO1 : Hid (TextAt B W0 v1 (n + 1) (xs ++ [.int .u8 (t.op : Nat)]) w1) := hO1; have HV1 : Hid (v1.ownBlock ≠ some w.heap.size) := (fun e => by obtain ⟨g, cap, cur, rfl, _, hgb, _⟩ := hown1.2.resolve_left (by rintro ⟨rfl, _⟩; cases e); have e' : g = w.heap.size := (by simpa [Value.ownBlock] using e); rw [e'] at hgb; have := HB1.out; rw [show w1.heap[w.heap.size]? = _ from this] at hgb; cases hgb); clear hO1 hown1 hg1 HO)
      | (at_builtin; refine Lib.wpList_append_own_string _ rfl _ _ 111 9 rfl B 5 i0 Tryd.underlying111 Tryd.underlying9 HI0.out HZ0.out HZ1.out HZ2.out _ _ _ rfl HO1.out.own t.name rfl (by unfold maxLen; omega) (by omega) HO1.out.size ?_; intro v2 w2 hown2 hg2 _; have hB2 : For3 w2 w.heap.size (.int .u8 (t.op : Nat)) (.string t.name) (.slice kad t.kids.length kcap) := (hg2.block _ (lt_of HB1.out) (fun e => HV1.out e.symm)).trans HB1.out; obtain ⟨e0, e1, e2, _⟩ := hB2.cells; have HO2 : Hid (TextAt B W0 v2 (n + 1 + t.name.size) (xs ++ [.int .u8 (t.op : Nat)] ++ Lib.strCells t.name) w2) := HO1.out.grown hown2 hg2; clear hown2 hg2 hB2))
    go_loopw [0, 19] (fun tv iv wr => ∃ i : Nat, iv = .int .i64 (i : Nat) ∧ i ≤ t.kids.length ∧ Hid (TextAt B W0 tv (n + (textTo t i).length) (xs ++ bytesV (textTo t i)) wr)) (fun _ iv _ => t.kids.length - (intOf iv).toNat)
    case atStart =>
      refine ⟨0, rfl, Nat.zero_le _, ?_⟩
      have := HO2.out
      show TextAt B W0 v2 (n + (textTo t 0).length) (xs ++ bytesV (textTo t 0)) w2
      rw [textTo_zero, bytesV_app, List.length_append, List.length_singleton, show t.name.data.toList.length = t.name.size from rfl, ← Nat.add_assoc, ← List.append_assoc, show bytesV [UInt8.ofNat t.op] = [.int .u8 (t.op : Nat)] from by simp [bytesV, Nat.mod_eq_of_lt HFO.out.1]]
      exact this
    case round =>
      obtain ⟨i, rfl, hi, HR⟩ := hrel
      by_cases hlt : i < t.kids.length
      · obtain ⟨kb, koff, rfl, hkb, hkid⟩ := IsT.kid HI.out (by omega)
        obtain ⟨kv, c0, c1, c2, hIk⟩ := hkid i hlt
        obtain ⟨ckad, ckcap, rfl⟩ := hIk.slice
        have HSU : Hid _ := textTo_succ t hlt
        have HLE : Hid _ := textTo_le t (i + 1)
        obtain ⟨k, hk⟩ : ∃ k, t.kids[i] = k := ⟨_, rfl⟩
        have hkm : k ∈ t.kids := by rw [← hk]; exact List.getElem_mem _
        rw [hk] at c0 c1 c2 hIk HSU
        have hb : ∀ o v, W0.cell? ⟨kb, o, none⟩ = some v → wr.cell? ⟨kb, o, none⟩ = some v := fun o v h => (World.cell?_of_block (w := W0) (a := ⟨kb, o, none⟩) (HR.out.below.block kb hkb)).trans h
        have c0 := hb _ _ c0
        have c1 := hb _ _ c1
        have c2 := hb _ _ c2
        have hlen : (textTo t (i + 1)).length = (textTo t i).length + k.text.length := by rw [HSU.out, List.length_append]
        have hrec := fun (o : Obj) => HIH.out k hkm (.slice ckad k.kids.length ckcap) u0 (n + (textTo t i).length) (xs ++ bytesV (textTo t i)) (wr.alloc o) hIk (HF2.out k hkm) (HR.out.alloc o) (by have := HLE.out; omega) (by have := Tr.kid_size hkm; omega)
        have HREC : Hid _ := hrec
        have hii : (i : Int) < (t.kids.length : Int) := by omega
        have lk : kb < wr.heap.size := World.block_lt_of_cell? wr _ c0
        have nk1 : ¬ kb = wr.heap.size := by omega
        have nk2 : ¬ wr.heap.size = kb := by omega
        have HLEN : Hid _ := hlen
        clear hkid hIk hrec hb hk hlen
        go_wp2_with (go_at_call 73; refine (HREC.out _).mono ?_; rintro e W5 ⟨v5, rfl, hO5⟩; have HO5 : Hid _ := hO5; clear hO5)
        go_roundw
        case rel =>
          refine ⟨i + 1, by go_num, by omega, ?_⟩
          show TextAt B W0 v5 (n + (textTo t (i + 1)).length) (xs ++ bytesV (textTo t (i + 1))) W5
          rw [HLEN.out, HSU.out, bytesV_app, ← Nat.add_assoc, ← List.append_assoc]
          exact HO5.out
        case measure => simp [intOf]; omega
      · obtain rfl : i = t.kids.length := by omega
        have hlt' : ¬ ((t.kids.length : Int) < (t.kids.length : Int)) := by omega
        go_wp2
        go_ret
        have := HR.out
        rw [textTo_all] at this
        exact ⟨_, rfl, this⟩
end Go.Proofs.YtddgciilcghbaaaDoor
