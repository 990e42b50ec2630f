/- LexPlaces: the walk. -/
import Derived.Test.YtilgfnafkcjdgaaDoorLxWritten
import Derived.Test.YtilgfnafkcjdgaaDoorLxQuoted
namespace Go.Proofs.YtilgfnafkcjdgaaDoor
open Go.RowKit

theorem err_pos : ∀ (f p : Nat) (l : List UInt8) (x : Item), x ∈ items f p l → x.err ≠ 0 → x.pos < p + l.length
  | 0, _, _, _, h, _ => by cases h
  | f + 1, p, l, x, h, hx => by
    have hbl := blanksN_le l
    cases hd : l.drop (blanksN l) with
    | nil => rw [items_end _ _ _ hd, List.mem_singleton] at h; subst h; exact absurd rfl hx
    | cons b r =>
      have hlen : (b :: r).length = l.length - blanksN l := by rw [← hd, List.length_drop]
      have hb : (b :: r).length = r.length + 1 := rfl
      by_cases he : (pieceOf (b :: r)).err = 0
      · obtain ⟨w1, w2⟩ := piece_width b r he
        rw [items_go _ _ _ _ _ hd he] at h
        rcases List.mem_cons.1 h with h | h
        · subst h; exact absurd rfl hx
        · have := err_pos f _ _ x h hx
          rw [List.length_drop] at this
          omega
      · rw [items_err _ _ _ _ _ hd he, List.mem_singleton] at h
        subst h
        show p + blanksN l < _
        omega
/-- Tokens, where one is none. -/
theorem tokens_bad (s : ByteArray) (w : World) (hs : s.size ≤ 1099511627776) (x : Item) (hx : (itemsOf s.data.toList).find? (fun x => x.err != 0) = some x) :
    Calls Tryd.prog 12 #[.string s] w fun e w' => ∃ ad cap, e = .returned (.tuple #[.slice ad 0 cap, .int .i64 (x.err : Nat), .int .i64 (x.pos : Nat)]) ∧ Hid (Kept [] w w') := by
  refine (tokens_walk s w hs).mono ?_
  rintro e w' ⟨v, rfl, hown, hb⟩
  have hte : tokensE (itemsOf s.data.toList) = ([], x.err, x.pos) := by unfold tokensE; rw [hx]
  rw [hte] at hown ⊢
  have hk : Hid (Kept [] w w') := ⟨hb.os, hb.tape, hb.output, hb.size, fun k hk _ => hb.block k hk⟩
  rcases hown.2 with ⟨rfl, _⟩ | ⟨g, cap, cur, rfl, _⟩
  · exact ⟨none, 0, rfl, hk⟩
  · exact ⟨_, cap, rfl, hk⟩
/-- Where the walk through the tokens stands. -/
def St (L : List UInt8) (xs : List Item) (i p : Nat) : Prop := i ≤ xs.length ∧ p ≤ L.length ∧ ((xs.drop i = from_ L p) ∨ (i = xs.length ∧ p = L.length))
theorem St.next {L : List UInt8} {xs : List Item} {i p : Nat} (hg : ∀ x ∈ xs, x.err = 0) (h : St L xs i p) (hi : i < xs.length) :
    ∃ x q, xs[i]? = some x ∧ p ≤ x.pos ∧ x.pos ≤ q ∧ q ≤ L.length ∧ (∀ k, p ≤ k → k < x.pos → ∃ c, L[k]? = some c ∧ isBlankB c = true) ∧ writtenL L x = (L.drop x.pos).take (q - x.pos) ∧ (writtenL L x).length = q - x.pos ∧ (x.kind.val = 1 ↔ i + 1 = xs.length) ∧ St L xs (i + 1) q := by
  obtain ⟨h1, h2, h3 | h3⟩ := h
  · have hx : ∀ y, y ∈ from_ L p → y.err = 0 := fun y hy => hg y (List.mem_of_mem_drop (by rw [h3]; exact hy))
    obtain ⟨hle, hc⟩ := from_cases L p h2 hx
    have at0 : ∀ y r, from_ L p = y :: r → xs[i]? = some y := fun y r e => by
      have : (xs.drop i)[0]? = some y := by rw [h3, e]; rfl
      rwa [List.getElem?_drop, Nat.add_zero] at this
    have tl : ∀ y r, from_ L p = y :: r → xs.drop (i + 1) = r := fun y r e => by
      have : (xs.drop i).drop 1 = r := by rw [h3, e]; rfl
      rwa [List.drop_drop] at this
    rcases hc with ⟨e1, e2⟩ | ⟨x, q, e1, e2, e3, e4, e5, e6, e7⟩
    · have hlast : xs.drop (i + 1) = [] := tl _ _ e2
      have hlen : i + 1 = xs.length := by have := List.drop_eq_nil_iff.1 hlast; omega
      refine ⟨_, L.length, at0 _ _ e2, by show p ≤ p + _; omega, by show p + _ ≤ _; omega, Nat.le_refl _, fun k hk1 hk2 => blank_at L p k hk1 hk2, ?_, ?_, ⟨fun _ => hlen, fun _ => rfl⟩, by omega, Nat.le_refl _, .inr ⟨hlen, rfl⟩⟩
      · unfold writtenL
        rw [if_neg (fun q => absurd q.1 (show (1 : Fin 5) ≠ 2 by decide))]
        show [] = (L.drop (p + blanksN (L.drop p))).take (L.length - (p + blanksN (L.drop p)))
        rw [e1, Nat.sub_self]
        rfl
      · unfold writtenL
        rw [if_neg (fun q => absurd q.1 (show (1 : Fin 5) ≠ 2 by decide))]
        show 0 = L.length - (p + blanksN (L.drop p))
        omega
    · have hrest := tl _ _ e1
      have hpos := from_ne L q
      have hlen : ¬ i + 1 = xs.length := fun e => by
        rw [← hrest, List.length_drop] at hpos
        omega
      have hle2 : i + 1 ≤ xs.length := by omega
      refine ⟨x, q, at0 _ _ e1, by omega, by omega, e5, fun k hk1 hk2 => blank_at L p k hk1 (by omega), e6, e7, ⟨fun h => absurd (Fin.ext h) e3, fun h => absurd h hlen⟩, hle2, e5, .inl hrest⟩
  · omega

theorem isBlank_cases (c : UInt8) (h : isBlankB c = true) : c.toNat = 32 ∨ c.toNat = 9 ∨ c.toNat = 10 ∨ c.toNat = 13 := by
  have key : ∀ n, n < 256 → isBlankB (UInt8.ofNat n) = true → n = 32 ∨ n = 9 ∨ n = 10 ∨ n = 13 := by decide +kernel
  have := key c.toNat (UInt8.toNat_lt c)
  rw [UInt8.ofNat_toNat] at this
  exact this h

set_option maxHeartbeats 2000000 in
set_option maxRecDepth 20000 in
theorem places_good (s : ByteArray) (w : World) (hs : s.size ≤ 16777216) (xs : List Item) (hx : itemsOf s.data.toList = xs) (hg : ∀ x ∈ xs, x.err = 0) :
    Calls Tryd.prog 7 #[.string s] w fun e w' => e = .returned (.bool true) ∧ Kept [] w w' := by
  have hbi : ¬ (16777216 : Int) < (s.size : Int) := by omega
  have hpos : 0 < xs.length := by rw [← hx, ← from_zero]; exact from_ne _ _
  have hN : xs.length ≤ s.size + 1 := by rw [← hx, Lib.size_eq]; exact items_le _ _ _
  have hT := fun w => tokens_good s w (by omega) xs (by rw [hx]; exact tokensE_good hg) hpos
  have HT : Hid _ := hT
  have HG : Hid _ := hg
  have HX : Hid _ := hx
  clear hT hg hx
  go_enter Tryd.func7, Tryd.ntmps7
  go_wp2_with (first
    | (go_at_call 9; refine (works_any _).mono ?_; rintro e w1 ⟨rfl, k1⟩)
    | (go_at_call 12; refine (HT.out _).mono ?_; rintro e w2 ⟨g, cap, cur, rfl, hg2, hrow, hcap, hcur, k2⟩))
  have HK : Hid (Kept [] w w2) := k1.trans k2 (by simp) (by simp)
  clear k1 k2 HT hg2
  go_loopw [7, 8] (fun ve vi wr => ∃ i p : Nat, vi = .int .i64 (i : Nat) ∧ ve = .int .i64 (p : Nat) ∧ Hid (St s.data.toList xs i p) ∧ Hid (Kept [] w2 wr)) (fun _ vi _ => xs.length - (intOf vi).toNat)
  case atStart => exact ⟨0, 0, rfl, rfl, ⟨Nat.zero_le _, Nat.zero_le _, .inl (by rw [List.drop_zero, ← HX.out, from_zero])⟩, Kept.refl _ _⟩
  case round =>
    obtain ⟨i, p, rfl, rfl, HS, HR⟩ := hrel
    by_cases hi : i < xs.length
    · obtain ⟨x, q, x1, x2, x3, x4, x5, x6, x7, x8, x9⟩ := HS.out.next HG.out hi
      have hii : (i : Int) < (xs.length : Int) := by omega
      obtain ⟨f1, f2, f3⟩ := flatI_at xs i x x1
      have hrw := HR.out.at hrow.out (by simp)
      have F0 : Hid (cur[i * 3]? = some (.int .u8 (x.kind.val : Nat))) := (hcur.out _ (by omega)).trans f1
      have F2 : Hid (cur[i * 3 + 2]? = some (.int .i64 (x.pos : Nat))) := (hcur.out _ (by omega)).trans f3
      have r0 : wr.cell? ⟨g, i * 3, none⟩ = some (.int .u8 (x.kind.val : Nat)) := (cell_of hrw _).trans ((hcur.out _ (by omega)).trans f1)
      have r1 : wr.cell? ⟨g, i * 3 + 1, none⟩ = some (.string ⟨x.text.toArray⟩) := (cell_of hrw _).trans ((hcur.out _ (by omega)).trans f2)
      have r2 : wr.cell? ⟨g, i * 3 + 2, none⟩ = some (.int .i64 (x.pos : Nat)) := (cell_of hrw _).trans ((hcur.out _ (by omega)).trans f3)
      rw [← Lib.size_eq] at x4
      have y1 : ¬ ((x.pos : Nat) : Int) < (p : Int) := by omega
      have y2 : ¬ (s.size : Int) < ((x.pos : Nat) : Int) := by omega
      have X1 : Hid _ := x1
      have X5 : Hid _ := x5
      have X6 : Hid _ := x6
      have X7 : Hid _ := x7
      have X8 : Hid _ := x8
      have X9 : Hid _ := x9
      have HRW : Hid _ := hrw
      clear x1 x5 x6 x7 x8 x9 f1 f2 f3 hrw
      go_wp2
      go_loop [9] (fun v => ∃ k : Nat, p ≤ k ∧ k ≤ x.pos ∧ v = .int .i64 (k : Nat)) (fun v => x.pos - (intOf v).toNat)
      case atStart => exact ⟨p, Nat.le_refl _, x2, rfl⟩
      case round =>
        obtain ⟨k, k1, k2, rfl⟩ := hrel
        by_cases hk : k < x.pos
        · obtain ⟨c, c1, c2⟩ := X5.out k k1 hk
          have hks : k < s.size := by omega
          have hki : (k : Int) < ((x.pos : Nat) : Int) := by omega
          have hksi : (k : Int) < (s.size : Int) := by omega
          have hcs : s[k]'hks = c := by
            have := Lib.data_getElem? s k hks
            rw [c1] at this
            exact (Option.some.inj this).symm
          obtain ⟨n, hn⟩ : ∃ n, c.toNat = n := ⟨_, rfl⟩
          have hn2 : s[k].toNat = n := by rw [hcs]; exact hn
          have hbl := isBlank_cases c c2
          rw [hn] at hbl
          have HBL : Hid _ := hbl
          clear c1 c2 hbl hcs hn
          go_wp2
          all_goals first
            | (go_round
               case rel => exact ⟨k + 1, by omega, by omega, by go_num⟩
               case measure => simp [intOf]; omega)
            | (exfalso
               rcases HBL.out with h | h | h | h <;> subst h <;> simp_all)
        · have hke : k = x.pos := by omega
          have hki : ¬ (k : Int) < ((x.pos : Nat) : Int) := by omega
          have ht : x.text.length ≤ 1099511627776 := by
            have h1 := X7.out
            unfold writtenL at h1
            split at h1
            · simp at h1; omega
            · omega
          obtain ⟨wv, hwv⟩ : ∃ wv : ByteArray, (⟨(writtenL s.data.toList x).toArray⟩ : ByteArray) = wv := ⟨_, rfl⟩
          have hW := fun w => written_any s x w ht
          rw [hwv] at hW
          have HW : Hid _ := hW
          have hws : wv.size = q - x.pos := by rw [← hwv, Lib.size_eq]; exact X7.out
          have hex : s.extract x.pos q = wv := by
            rw [← hwv, Lib.extract_eq, X6.out]
          have hwe : (wv.toList != wv.toList) = false := by simp
          have hai : ((x.pos : Nat) : Int) + (wv.size : Int) = (q : Int) := by omega
          have hq1 : ¬ (s.size : Int) < (q : Int) := by omega
          have hq2 : (q : Int) ≤ (s.size : Int) := by omega
          have hq3 : ((x.pos : Nat) : Int) ≤ (q : Int) := by omega
          obtain ⟨bb, hb1⟩ : ∃ bb, (((x.kind.val : Nat) : Int) == 1) = bb := ⟨_, rfl⟩
          have hb2 : ((i : Int) == (xs.length : Int) - 1) = bb := by
            rw [← hb1, Bool.eq_iff_iff]
            simp only [beq_iff_eq]
            have := X8.out
            omega
          have hb3 : (bb != bb) = false := by simp
          clear hW hwv
          go_wp2_with (go_at_call 23; refine (HW.out _).mono ?_; rintro e w3 ⟨rfl, k3⟩; have z0 : w3.cell? ⟨g, i * 3, none⟩ = _ := (cell_of (k3.at HRW.out (by simp)) (i * 3)).trans F0.out; have z2 : w3.cell? ⟨g, i * 3 + 2, none⟩ = _ := (cell_of (k3.at HRW.out (by simp)) (i * 3 + 2)).trans F2.out; have HK3 : Hid _ := k3; clear k3)
          go_roundw
          case rel => exact ⟨i + 1, q, by go_num, by congr 1; omega, X9.out, HR.out.trans HK3.out (by simp) (by simp)⟩
          case measure => simp [intOf]; omega
    · have hii : ¬ (i : Int) < (xs.length : Int) := by omega
      have hpe : p = s.size := by
        rcases HS.out.2.2 with h | h
        · exfalso
          have h1 := from_ne s.data.toList p
          rw [← h, List.length_drop] at h1
          omega
        · rw [h.2, Lib.size_eq]
      subst hpe
      go_wp2
      go_ret
      exact ⟨rfl, HK.out.trans HR.out (by simp) (by simp)⟩

set_option maxHeartbeats 1000000 in
set_option maxRecDepth 20000 in
theorem lexPlaces_any (s : ByteArray) (w : World) (hs : s.size ≤ 9223372036854775807) :
    Calls Tryd.prog 7 #[.string s] w fun e w' => e = .returned (.bool true) ∧ Kept [] w w' := by
  by_cases hb : 16777216 < s.size
  · have hbi : (16777216 : Int) < (s.size : Int) := by omega
    go_enter Tryd.func7, Tryd.ntmps7
    go_wp2_with (go_at_call 9; refine (works_any _).mono ?_; rintro e w' ⟨rfl, hk⟩)
    go_ret
    exact ⟨rfl, hk⟩
  have hbi : ¬ (16777216 : Int) < (s.size : Int) := by omega
  cases hf : (itemsOf s.data.toList).find? (fun x => x.err != 0) with
  | none => exact places_good s w (by omega) _ rfl (fun x hx => by simpa using List.find?_eq_none.1 hf x hx)
  | some x =>
    have hT := fun w => tokens_bad s w (by omega) x hf
    have hx : x.err ≠ 0 := by simpa using List.find?_some hf
    have hp : x.pos < s.size := by
      have := err_pos _ _ _ x (List.mem_of_find?_eq_some hf) hx
      rw [Lib.size_eq]; omega
    have hxi : ¬ ((x.err : Nat) : Int) = 0 := by omega
    have hpi : ((x.pos : Nat) : Int) < (s.size : Int) := by omega
    have hp0 : (0 : Int) ≤ ((x.pos : Nat) : Int) := by omega
    have HT : Hid _ := hT
    clear hT hf
    go_enter Tryd.func7, Tryd.ntmps7
    go_wp2_with (first
      | (go_at_call 9; refine (works_any _).mono ?_; rintro e w1 ⟨rfl, k1⟩)
      | (go_at_call 12; refine (HT.out _).mono ?_; rintro e w2 ⟨ad, cap, rfl, k2⟩))
    go_ret
    exact ⟨rfl, k1.trans k2.out (by simp) (by simp)⟩
end Go.Proofs.YtilgfnafkcjdgaaDoor
