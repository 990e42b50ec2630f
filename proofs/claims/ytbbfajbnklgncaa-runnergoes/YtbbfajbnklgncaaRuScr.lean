/- The law's script, in memory; pick, much. -/
import Derived.Test.YtbbfajbnklgncaaRuPlayS
import Derived.Test.YtbbfajbnklgncaaHO
namespace Go.Proofs.Ytbbfajbnklgncaa
open Go.RowKit Go.Shelf Go.Maps

structure OpV where
  kind : Int
  who : Int
  n : Int
  names : List ByteArray
def OpV.ok (o : OpV) : Prop := (-9223372036854775808 ≤ o.kind ∧ o.kind ≤ 9223372036854775807) ∧ (-9223372036854775808 ≤ o.who ∧ o.who ≤ 9223372036854775807) ∧ (-9223372036854775808 ≤ o.n ∧ o.n ≤ 9223372036854775807)
structure Scr (W : World) (v : Value) (l : List OpV) : Prop where
  few : l.length ≤ 8796093022208
  lie : (v = .slice none 0 0 ∧ l = []) ∨ ∃ b o c, v = .slice (some ⟨b, o, none⟩) l.length c ∧ l.length ≤ c ∧ c ≤ maxLen ∧ ∀ i (h : i < l.length), ∃ u, W.cell? ⟨b, o + i * 4, none⟩ = some (.int .i64 (l[i]).kind) ∧ W.cell? ⟨b, o + i * 4 + 1, none⟩ = some (.int .i64 (l[i]).who) ∧ W.cell? ⟨b, o + i * 4 + 2, none⟩ = some (.int .i64 (l[i]).n) ∧ W.cell? ⟨b, o + i * 4 + 3, none⟩ = some u ∧ StrsE W u (l[i]).names ∧ (∀ x ∈ (l[i]).names, x.size ≤ 140737488351232) ∧ (l[i]).ok
theorem Scr.kept {W W' : World} {v : Value} {l : List OpV} (h : Scr W v l) (k : Kept [] W W') : Scr W' v l := by
  refine ⟨h.few, ?_⟩
  rcases h.lie with h1 | ⟨b, o, c, h1, h2, h3, h4⟩
  · exact .inl h1
  · refine .inr ⟨b, o, c, h1, h2, h3, fun i hi => ?_⟩
    obtain ⟨u, q0, q1, q2, q3, q4, q5, q6⟩ := h4 i hi
    exact ⟨u, cell_kept0 k q0, cell_kept0 k q1, cell_kept0 k q2, cell_kept0 k q3, q4.kept k, q5, q6⟩
theorem Scr.form {W : World} {v : Value} {l : List OpV} (h : Scr W v l) : ∃ ad c, v = .slice ad l.length c := by
  rcases h.lie with ⟨rfl, rfl⟩ | ⟨b, o, c, rfl, _⟩
  · exact ⟨none, 0, rfl⟩
  · exact ⟨_, c, rfl⟩
def pickN (c : Int) (n : Nat) : Nat := ((if c < 0 then -(c + 1) else c).tmod (n : Int)).toNat
theorem pickN_lt {c : Int} {n : Nat} (h : 0 < n) (hc : -9223372036854775808 ≤ c) : pickN c n < n ∧ (if c < 0 then -(c + 1) else c).tmod (n : Int) = ((pickN c n : Nat) : Int) := by
  unfold pickN
  have h0 : 0 ≤ (if c < 0 then -(c + 1) else c) := by split <;> omega
  have h1 := Int.tmod_nonneg (n : Int) h0
  have h2 := Int.tmod_lt_of_pos (if c < 0 then -(c + 1) else c) (show (0 : Int) < (n : Int) by omega)
  omega
set_option maxHeartbeats 2000000 in
set_option maxRecDepth 10000 in
theorem pick_any (c : Int) (n : Nat) (w : World) (hn : 0 < n) (hn2 : n ≤ 1000000) (hc : -9223372036854775808 ≤ c ∧ c ≤ 9223372036854775807) :
    Calls Try.prog 18 #[.int .i64 c, .int .i64 (n : Nat)] w fun e w' => e = .returned (.int .i64 (pickN c n : Nat)) ∧ w' = w := by
  obtain ⟨h1, h2⟩ := pickN_lt (c := c) hn hc.1
  obtain ⟨r, hr⟩ : ∃ r, pickN c n = r := ⟨_, rfl⟩
  rw [hr] at h1 h2 ⊢
  have hnz : (n : Int) ≠ 0 := by omega
  by_cases h0 : c < 0
  · rw [if_pos h0] at h2
    have w1 : IntKind.i64.wrap (c + 1) = c + 1 := by rw [IntKind.wrap_i64]; omega
    have w2 : IntKind.i64.wrap (-(c + 1)) = -(c + 1) := by rw [IntKind.wrap_i64]; omega
    have w3 : IntKind.i64.wrap (r : Int) = (r : Int) := by rw [IntKind.wrap_i64]; omega
    have w4 : wrap64 (c + 1) = c + 1 := by unfold wrap64; omega
    have w5 : wrap64 (-(c + 1)) = -(c + 1) := by unfold wrap64; omega
    have w6 : wrap64 (r : Int) = (r : Int) := by unfold wrap64; omega
    clear hr
    go_enter Try.func18, Try.ntmps18
    go_wp2
    go_ret
    exact ⟨rfl, rfl⟩
  · rw [if_neg h0] at h2
    have w3 : IntKind.i64.wrap (r : Int) = (r : Int) := by rw [IntKind.wrap_i64]; omega
    have w6 : wrap64 (r : Int) = (r : Int) := by unfold wrap64; omega
    clear hr
    go_enter Try.func18, Try.ntmps18
    go_wp2
    go_ret
    exact ⟨rfl, rfl⟩
def muN (l : List OpV) : Nat → Nat
  | 0 => 0
  | k + 1 => if muN l k ≤ 100000 then muN l k + 16 + (match l[k]? with | some o => ot 0 o.names | none => 0) else muN l k
theorem muN_more {l : List OpV} {k : Nat} (h : ¬ muN l k ≤ 100000) : ∀ j, muN l (k + j) = muN l k
  | 0 => rfl
  | j + 1 => by
    have e := muN_more h j
    show (if muN l (k + j) ≤ 100000 then _ else muN l (k + j)) = _
    rw [e, if_neg h]
set_option maxHeartbeats 8000000 in
set_option maxRecDepth 10000 in
theorem much_any (v : Value) (l : List OpV) (w : World) (h : Scr w v l) :
    Calls Try.prog 6 #[v] w fun e w' => e = .returned (.int .i64 (muN l l.length : Nat)) ∧ w' = w := by
  obtain ⟨ad, c, rfl⟩ := h.form
  have H : Hid (Scr w (.slice ad l.length c) l) := h
  have hf := h.few
  clear h
  go_enter Try.func6, Try.ntmps6
  go_wp2_with fail
  go_loopw [3, 4] (fun a v wr => ∃ n k : Nat, a = .int .i64 (n : Nat) ∧ v = .int .i64 (k : Nat) ∧ k ≤ l.length ∧ n ≤ 400000000000000 ∧ Hid (n = muN l k) ∧ wr = w) (fun _ v _ => l.length - (intOf v).toNat)
  case atStart => exact ⟨0, 0, rfl, rfl, Nat.zero_le _, by omega, rfl, rfl⟩
  case round =>
    obtain ⟨n, k, rfl, rfl, hk, hn2, HN, rfl⟩ := hrel
    by_cases hlt : k < l.length
    · have q0 : (k : Int) < (l.length : Int) := by omega
      have q1 : (0 : Int) ≤ (k : Int) := by omega
      have q3 : decide ((k : Int) < (l.length : Int)) = true := decide_eq_true q0
      by_cases hnb : n ≤ 100000
      · have q2 : (n : Int) ≤ 100000 := by omega
        rcases H.out.lie with ⟨_, he⟩ | ⟨b, o, c', hpe, _, _, hcell⟩
        · rw [he] at hlt; simp at hlt
        · cases hpe
          obtain ⟨u, _, _, _, hu, hS, hss, _⟩ := hcell k hlt
          obtain ⟨x, hx⟩ : ∃ x, (l[k]).names = x := ⟨_, rfl⟩
          have HN2 : Hid (n + 16 + ot 0 x = muN l (k + 1)) := by
            show _ = (if muN l k ≤ 100000 then muN l k + 16 + _ else _)
            rw [← HN.out, if_pos hnb, List.getElem?_eq_getElem hlt, ← hx]
          rw [hx] at hS hss
          have HOT : Hid (Calls Try.prog 19 #[u] wr fun e w' => e = .returned (.int .i64 (ot 0 x : Nat)) ∧ w' = wr) := ofTextsE_any u x wr hS hss
          have hot := ot_le 0 x (by have := hS.few; omega) hss
          obtain ⟨y, hy⟩ : ∃ y, ot 0 x = y := ⟨_, rfl⟩
          rw [hy] at HOT hot HN2
          clear hcell hS hss hx hy
          go_wp2_with (go_at_call 19; refine HOT.out.mono ?_; rintro e w1 ⟨rfl, hw1⟩; rw [hw1]; clear hw1)
          go_roundw
          case rel => exact ⟨n + 16 + y, k + 1, by go_num, by go_num, by omega, by omega, HN2, trivial⟩
          case measure => simp [intOf]; omega
      · have q2 : ¬ ((n : Int) ≤ 100000) := by omega
        have e1 : muN l l.length = n := by
          have e2 := muN_more (l := l) (k := k) (by rw [← HN.out]; exact hnb) (l.length - k)
          rw [show k + (l.length - k) = l.length by omega] at e2
          rw [e2, HN.out]
        have HE1 : Hid (muN l l.length = n) := e1
        clear e1
        go_wp2
        go_ret
        exact ⟨by rw [HE1.out]; rfl, rfl⟩
    · obtain rfl : k = l.length := by omega
      have q0 : ¬ ((l.length : Int) < (l.length : Int)) := by omega
      have q3 : decide ((l.length : Int) < (l.length : Int)) = false := decide_eq_false q0
      go_wp2
      go_ret
      exact ⟨by rw [← HN.out]; rfl, rfl⟩
end Go.Proofs.Ytbbfajbnklgncaa
