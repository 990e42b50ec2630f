/- A runner in memory: Letter, Event, State, Goto, New. -/
import Derived.Test.YtbbfajbnklgncaaHK
namespace Go.Proofs.Ytbbfajbnklgncaa
open Go.RowKit Go.Shelf Go.Maps

/-- The letter of names. -/
def letterN (ps us : List ByteArray) : Nat := us.foldl (fun a s => a ||| bitK ps ps.length s) 0
theorem letterN_take {ps us : List ByteArray} {k : Nat} {x : ByteArray} (h : us[k]? = some x) : letterN ps (us.take (k + 1)) = letterN ps (us.take k) ||| bitK ps ps.length x := by
  unfold letterN
  rw [List.take_add_one, h]
  simp
theorem letterN_lt {ps : List ByteArray} (h8 : ps.length ≤ 8) (us : List ByteArray) : letterN ps us < 256 := by
  unfold letterN
  have : ∀ (l : List ByteArray) (a : Nat), a < 256 → l.foldl (fun a s => a ||| bitK ps ps.length s) a < 256 := by
    intro l
    induction l with
    | nil => intro a ha; exact ha
    | cons x l ih => intro a ha; exact ih _ (Nat.or_lt_two_pow (n := 8) ha (bitK_lt h8))
  exact this us 0 (by omega)
set_option maxHeartbeats 2000000 in
set_option maxRecDepth 10000 in
theorem letter_any (lo N R : Nat) (ps : List ByteArray) (next : List (List Int)) (out : List Nat) (fin : List Bool) (s : Nat) (uv : Value) (us : List ByteArray) (w : World) (h : RunS w lo N R ps next out fin s) (h8 : ps.length ≤ 8) (hu : Strs w uv us) :
    Calls Try.prog 39 #[.pointer (some ⟨R, 0, none⟩), uv] w fun e w' => e = .returned (.int .u16 (letterN ps us : Nat)) ∧ w' = w := by
  obtain ⟨T, MB, FR, nxv, outv, D, fl, h1, h2, _⟩ := h.ex
  have c0 : w.cell? ⟨R, 0, none⟩ = some (.pointer (some ⟨T, 0, none⟩)) := (cell_of h1 0).trans rfl
  have c2 : w.cell? ⟨T, 0, none⟩ = some (.map (some MB)) := (cell_of h2.box 0).trans rfl
  have HM : Hid (w.ownsMap Try.prog 9 (plainElem Try.prog 55) MB ps.length D) := h2.map
  have HBT : Hid (∀ s : ByteArray, D.atKey (.string s.data.toList) (.lit (.int .u16 0)) = .lit (.int .u16 (bitK ps ps.length s : Nat))) := h2.bits.2
  have HLT : Hid (∀ us, letterN ps us < 256) := letterN_lt h8
  have HBL : Hid (∀ s, bitK ps ps.length s < 256) := fun s => bitK_lt h8
  have HSM : Hid (∀ x ∈ us, x.size ≤ maxLen) := hu.small
  have hfew := hu.few
  rcases hu.lie with ⟨rfl, rfl⟩ | ⟨b, o, c, rfl, _, _, hcell⟩
  · clear h h1 h2 hu h8 hfew
    go_enter Try.func39, Try.ntmps39
    go_wp2_with fail
    refine wp_loop_rounds 1 ?_
    rw [rounds_succ]
    go_wp2
    go_ret
    exact ⟨rfl, rfl⟩
  · have HCE : Hid (∀ i (h : i < us.length), w.cell? ⟨b, o + i, none⟩ = some (.string us[i])) := hcell
    clear h h1 h2 hu h8 hcell
    go_enter Try.func39, Try.ntmps39
    go_wp2_with fail
    go_loopw [5, 10] (fun a v wr => ∃ k : Nat, v = .int .i64 (k : Nat) ∧ k ≤ us.length ∧ ∃ y : Nat, a = .int .u16 (y : Nat) ∧ Hid (letterN ps (us.take k) = y) ∧ wr = w) (fun _ v _ => us.length - (intOf v).toNat)
    case atStart => exact ⟨0, rfl, Nat.zero_le _, 0, rfl, rfl, rfl⟩
    case round =>
      obtain ⟨k, rfl, hk, y, rfl, HY, rfl⟩ := hrel
      by_cases hlt : k < us.length
      · have q0 : (k : Int) < (us.length : Int) := by omega
        have q1 : (0 : Int) ≤ (k : Int) := by omega
        have d0 := HCE.out k hlt
        have hx? : us[k]? = some us[k] := List.getElem?_eq_getElem hlt
        obtain ⟨x, hx⟩ : ∃ x, us[k] = x := ⟨_, rfl⟩
        rw [hx] at d0 hx?
        have HKEY : Hid (keyOf Try.prog 9 (.string x) = some (.string x.data.toList)) := WideMaps.keyOf_string_mk Try.underlying9 (by rw [← hx]; exact HSM.out _ (List.getElem_mem _))
        obtain ⟨z, hz⟩ : ∃ z, bitK ps ps.length x = z := ⟨_, rfl⟩
        have HAT : Hid (D.atKey (.string x.data.toList) (.lit (.int .u16 0)) = .lit (.int .u16 (z : Nat))) := by rw [← hz]; exact HBT.out x
        have hy : y < 256 := by rw [← HY.out]; exact HLT.out _
        have hzl : z < 256 := by rw [← hz]; exact HBL.out x
        obtain ⟨yz, hyz⟩ : ∃ yz, y ||| z = yz := ⟨_, rfl⟩
        have HNX : Hid (letterN ps (us.take (k + 1)) = yz) := by show _ = yz; rw [letterN_take hx?, HY.out, hz, hyz]
        have hor : bits .or .u16 (y : Int) (z : Int) = (yz : Int) := by rw [u16_or_nat y z (by omega) (by omega), hyz]
        clear hx hx? hz hyz
        go_wp2_with (at_lookup; refine wpList_lookup_own_int _ rfl _ _ 89 rfl 9 55 .u16 lawStrR Try.underlying89 Try.underlying55 (zeroU16R _) MB ps.length D rfl HM.out _ _ rfl HKEY.out ?_; intro c hat hwc; obtain rfl : c = ((z : Nat) : Int) := (by rw [HAT.out] at hat; cases hat; rfl); clear hat hwc)
        go_roundw
        case rel => exact ⟨k + 1, by go_num, by omega, yz, rfl, HNX, trivial⟩
        case measure => simp [intOf]; omega
      · obtain rfl : k = us.length := by omega
        have q0 : ¬ ((us.length : Int) < (us.length : Int)) := by omega
        have HD : Hid (letterN ps us = y) := by have := HY.out; rwa [List.take_of_length_le (Nat.le_refl _)] at this
        go_wp2
        rw [HD.out]
        go_ret
        exact ⟨rfl, rfl⟩
set_option maxHeartbeats 2000000 in
set_option maxRecDepth 10000 in
theorem event_any (lo N R : Nat) (ps : List ByteArray) (next : List (List Int)) (out : List Nat) (fin : List Bool) (s : Nat) (uv : Value) (us : List ByteArray) (w : World) (h : RunS w lo N R ps next out fin s) (hm : MachR ps next out) (hu : Strs w uv us) :
    Calls Try.prog 22 #[.pointer (some ⟨R, 0, none⟩), uv] w fun e w' => e = .returned (.int .u8 (out.getD (stepN ps next s (letterN ps us)) 0 : Nat)) ∧ Hid (RunS w' lo N R ps next out fin (stepN ps next s (letterN ps us))) ∧ Hid (Kept [R] w w') := by
  obtain ⟨y, hy⟩ : ∃ y, letterN ps us = y := ⟨_, rfl⟩
  have HL : Hid (Calls Try.prog 39 #[.pointer (some ⟨R, 0, none⟩), uv] w fun e w' => e = .returned (.int .u16 (y : Nat)) ∧ w' = w) := by rw [← hy]; exact letter_any lo N R ps next out fin s uv us w h hm.few hu
  have HS : Hid (Calls Try.prog 37 #[.pointer (some ⟨R, 0, none⟩), .int .u16 (y : Nat)] w fun e w' => e = .returned (.int .u8 (out.getD (stepN ps next s y) 0 : Nat)) ∧ Hid (RunS w' lo N R ps next out fin (stepN ps next s y)) ∧ Hid (Kept [R] w w')) := step_any lo N R ps next out fin s y w h hm (by have := letterN_lt hm.few us; omega)
  obtain ⟨ad, c, rfl, _, _⟩ := hu.form
  rw [hy]
  obtain ⟨s', hs'⟩ : ∃ s', stepN ps next s y = s' := ⟨_, rfl⟩
  rw [hs'] at HS ⊢
  clear h hm hu hy hs'
  go_enter Try.func22, Try.ntmps22
  go_wp2_with (first
    | (go_at_call 39; refine HL.out.mono ?_; rintro e w1 ⟨rfl, hw1⟩; rw [hw1]; clear hw1)
    | (go_at_call 37; refine HS.out.mono ?_; rintro e w2 ⟨rfl, HR2, HK2⟩))
  go_ret
  exact ⟨rfl, HR2, HK2⟩
theorem state_any (lo N R : Nat) (ps : List ByteArray) (next : List (List Int)) (out : List Nat) (fin : List Bool) (s : Nat) (w : World) (h : RunS w lo N R ps next out fin s) :
    Calls Try.prog 14 #[.pointer (some ⟨R, 0, none⟩)] w fun e w' => e = .returned (.int .i64 (s : Nat)) ∧ w' = w := by
  obtain ⟨T, MB, FR, nxv, outv, D, fl, h1, _, _⟩ := h.ex
  have c1 : w.cell? ⟨R, 1, none⟩ = some (.int .i64 (s : Nat)) := (cell_of h1 1).trans rfl
  clear h h1
  go_enter Try.func14, Try.ntmps14
  go_wp2
  go_ret
  exact ⟨rfl, rfl⟩
set_option maxHeartbeats 2000000 in
set_option maxRecDepth 10000 in
theorem goto_any (lo N R : Nat) (ps : List ByteArray) (next : List (List Int)) (out : List Nat) (fin : List Bool) (s k : Nat) (w : World) (h : RunS w lo N R ps next out fin s) (hm : MachR ps next out) (hk : k < next.length) :
    Calls Try.prog 24 #[.pointer (some ⟨R, 0, none⟩), .int .i64 (k : Nat)] w fun e w' => e = .returned (.int .i64 0) ∧ Hid (RunS w' lo N R ps next out fin k) ∧ Hid (Kept [R] w w') := by
  obtain ⟨T, MB, FR, nxv, outv, D, fl, h1, h2, h3⟩ := h.ex
  obtain ⟨ad, c, rfl⟩ := own_formR h2.outs
  have c0 : w.cell? ⟨R, 0, none⟩ = some (.pointer (some ⟨T, 0, none⟩)) := (cell_of h1 0).trans rfl
  have c1 : w.cell? ⟨R, 1, none⟩ = some (.int .i64 (s : Nat)) := (cell_of h1 1).trans rfl
  have f1 : w.frozen? ⟨R, 1, none⟩ = false := free_of h1 1
  have c2 : w.cell? ⟨T, 3, none⟩ = some (.slice ad out.length c) := (cell_of h2.box 3).trans rfl
  have HK2 : Hid (Kept [R] w (w.setCell ⟨R, 1, none⟩ (.int .i64 (k : Nat)))) := (Kept.refl [R] w).setCell (.inl (by simp)) _
  have HR2 : Hid (RunS (w.setCell ⟨R, 1, none⟩ (.int .i64 (k : Nat))) lo N R ps next out fin k) := ⟨⟨T, MB, FR, nxv, _, D, fl, (bx_set h1 _).trans rfl, h2.keptF HK2.out (fun x hx => by have := h.high; simp at hx; omega), h3⟩, h.fin, h.high, hk⟩
  have z0 : ¬ ((k : Int) < 0) := by omega
  have z1 : ¬ ((out.length : Int) ≤ (k : Int)) := by rw [hm.len]; omega
  have z2 : decide ((k : Int) < 0) = false := decide_eq_false z0
  clear h h1 h2 h3 hm hk
  go_enter Try.func24, Try.ntmps24
  go_wp2
  go_ret
  exact ⟨rfl, HR2, HK2⟩
/-- What New leaves. -/
def NewEnd (ps : List ByteArray) (next : List (List Int)) (out : List Nat) (b : Bool) (w : World) (e : Ending) (w' : World) : Prop :=
  Hid (Kept [] w w') ∧ (b = true → ∃ R lo N fin, e = .returned (.tuple #[.pointer (some ⟨R, 0, none⟩), .int .i64 0]) ∧ Hid (RunS w' lo N R ps next out fin 0) ∧ Hid (w.heap.size ≤ lo ∧ R < w'.heap.size ∧ w.heap.size ≤ R)) ∧ (b = false → e = .returned (.tuple #[.pointer none, .int .i64 170]))
set_option maxHeartbeats 2000000 in
set_option maxRecDepth 10000 in
theorem new_any (pv nv ov : Value) (ps : List ByteArray) (next : List (List Int)) (out : List Nat) (w : World) (hp : Strs w pv ps) (hn : Rowss w nv next) (ho : Vds w ov out) (hf : out.length ≤ 1000000) (b : Bool) (hb : rightM ps next out = b) :
    Calls Try.prog 9 #[.agg #[pv, nv, ov]] w (NewEnd ps next out b w) := by
  unfold NewEnd
  obtain ⟨pa, pc, rfl, _, _⟩ := hp.form
  obtain ⟨na, nc, rfl, _, _⟩ := hn.form13
  obtain ⟨oa, oc, rfl⟩ := ho.form
  obtain ⟨V, hV⟩ : ∃ V, w.alloc (.cells #[.slice pa ps.length pc, .slice na next.length nc, .slice oa out.length oc] 26) = V := ⟨_, rfl⟩
  have kV : Kept [] w V := by rw [← hV]; exact (Kept.refl [] w).alloc _
  have hB : Thr 26 V w.heap.size (.slice pa ps.length pc) (.slice na next.length nc) (.slice oa out.length oc) := by rw [← hV]; exact al0 _ _
  have HV : Hid (_ = V) := hV
  have HKV : Hid (Kept [] w V) := kV
  have HC : Hid (∀ W, Kept [] V W → W.cell? ⟨w.heap.size, 0, none⟩ = some (.slice pa ps.length pc) ∧ W.cell? ⟨w.heap.size, 1, none⟩ = some (.slice na next.length nc) ∧ W.cell? ⟨w.heap.size, 2, none⟩ = some (.slice oa out.length oc)) := fun W k => (hB.keptF k (by simp)).cells
  have HCM : Hid (Calls Try.prog 28 #[.agg #[.slice pa ps.length pc, .slice na next.length nc, .slice oa out.length oc]] V fun e w' => e = .returned (.int .i64 ((if b then 0 else 140 : Nat) : Int)) ∧ Kept [] V w') := by rw [← hb]; exact mCheck_any _ _ _ ps next out V (hp.kept kV) (hn.kept kV) (ho.kept kV) hf
  obtain ⟨c0, c1, c2⟩ := HC.out V (Kept.refl [] V)
  cases b with
  | false =>
    clear hp hn ho hV kV hB hb hf
    go_enter Try.func9, Try.ntmps9
    go_upto_region 1 with fail
    rw [HV.out]
    clear HV
    go_wp2_with (go_at_call 28; refine HCM.out.mono ?_; rintro e W1 ⟨rfl, k1⟩; have HK1 : Hid (Kept [] V W1) := k1; clear k1 c0 c1 c2)
    go_ret2
    exact ⟨keptB HKV.out HK1.out, (fun h => by cases h), fun _ => rfl⟩
  | true =>
    have hm := machR_of hb hf
    have HTB : Hid (∀ W, Kept [] V W → Calls Try.prog 29 #[.agg #[.slice pa ps.length pc, .slice na next.length nc, .slice oa out.length oc]] W (TabEnd ps next next.flatten out W)) := fun W k => tableOf_any _ _ _ ps next _ out W (hp.kept (keptB kV k)) (hn.kept (keptB kV k)) (ho.kept (keptB kV k)) hm.rows hm.len hm.few rfl
    have HPOS : Hid (0 < next.length) := hm.rows.pos
    clear hp hn ho hV kV hB hb hf hm
    go_enter Try.func9, Try.ntmps9
    go_upto_region 1 with fail
    rw [HV.out]
    clear HV
    go_wp2_with (first
      | (go_at_call 28; refine HCM.out.mono ?_; rintro e W1 ⟨rfl, k1⟩; have HK1 : Hid (Kept [] V W1) := k1; clear k1 c0 c1 c2; obtain ⟨c0, c1, c2⟩ := HC.out W1 HK1.out)
      | (go_at_call 29; refine Calls.mono (HTB.out W1 HK1.out) ?_; rintro e W2 ⟨T, N, MB, FR, nxv, outv, D, fin, rfl, HT, HF, HN, HK2⟩))
    go_ret2
    have ka : Kept [] W2 (W2.alloc (.cells #[.pointer (some ⟨T, 0, none⟩), .int .i64 0] 76)) := (Kept.refl [] W2).alloc _
    have k1 := keptB HKV.out HK1.out
    have k2 := keptB k1 HK2.out
    exact ⟨keptB k2 ka, fun _ => ⟨W2.heap.size, W1.heap.size, N, fin, rfl, ⟨⟨T, MB, FR, nxv, outv, D, _, al0 W2 _, HT.out.kept ka, rfl⟩, HF.out, HN.out, HPOS.out⟩, k1.size, by rw [World.size_alloc]; omega, k2.size⟩, (fun h => by cases h)⟩
end Go.Proofs.Ytbbfajbnklgncaa
