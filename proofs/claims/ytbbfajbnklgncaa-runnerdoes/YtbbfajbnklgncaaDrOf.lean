/- The law's own: how much is handed in (augurref00.OfRows). -/
import Derived.Test.YtbbfajbnklgncaaBuOft
namespace Go.Proofs.Ytbbfajbnklgncaa
open Go.RowKit Go.Shelf

def orw (n : Nat) : List (List Int) → Nat
  | [] => n
  | x :: r => if n ≤ 2147483647 then orw (n + (1 + x.length)) r else n
theorem orw_stop {n : Nat} (h : ¬ n ≤ 2147483647) : ∀ l, orw n l = n
  | [] => rfl
  | _ :: _ => by rw [orw, if_neg h]
theorem orw_few : ∀ (l : List (List Int)) (n : Nat), orw n l ≤ 100000 → n + l.length ≤ orw n l ∧ n ≤ 100000 ∧ ∀ xs ∈ l, xs.length ≤ 100000
  | [], n, h => ⟨Nat.le_refl _, h, by simp⟩
  | x :: r, n, h => by
    rw [orw] at h ⊢
    by_cases hn : n ≤ 2147483647
    · rw [if_pos hn] at h ⊢
      obtain ⟨h1, h2, h3⟩ := orw_few r _ h
      simp only [List.length_cons]
      refine ⟨by omega, by omega, fun xs hx => ?_⟩
      rcases List.mem_cons.1 hx with rfl | hx
      · omega
      · exact h3 xs hx
    · rw [if_neg hn] at h
      omega
theorem ot_few2 : ∀ (l : List ByteArray) (n : Nat), ot n l ≤ 10000 → n + l.length ≤ ot n l ∧ n ≤ 10000
  | [], n, h => ⟨Nat.le_refl _, h⟩
  | x :: r, n, h => by
    rw [ot] at h ⊢
    by_cases hn : n ≤ 2147483647
    · rw [if_pos hn] at h ⊢
      have := ot_few2 r _ h
      simp only [List.length_cons]
      omega
    · rw [if_neg hn] at h
      omega
theorem lenI_few {W : World} {v : Value} {xs : List Int} (h : Ints W v xs) : xs.length ≤ 17592186044416 := h.few
set_option maxHeartbeats 1000000 in
theorem ofRows_any (v : Value) (xs : List (List Int)) (w : World) (hx : Rowss w v xs) :
    Calls Try.prog 20 #[v] w fun e w' => e = .returned (.int .i64 (orw 0 xs : Nat)) ∧ w' = w := by
  have fx := hx.few
  obtain ⟨r, hr⟩ : ∃ r, orw 0 xs = r := ⟨_, rfl⟩
  rw [hr]
  have HR : Hid (orw 0 xs = r) := hr
  clear hr
  rcases hx.lie with ⟨rfl, rfl⟩ | ⟨b, o, c, rfl, _, _, hc⟩
  · have HE : Hid (0 = r) := HR.out
    clear hx fx
    go_enter Try.func20, Try.ntmps20
    go_wp2_with fail
    go_loop [3, 4] (fun a i => i = .int .i64 0 ∧ a = .int .i64 0) (fun _ _ => 0)
    case atStart => exact ⟨rfl, rfl⟩
    case round =>
      obtain ⟨rfl, rfl⟩ := hrel
      go_wp2
      go_ret
      exact ⟨ret_int (by rw [← HE.out]; rfl), rfl⟩
  · have HC : Hid (∀ i (h : i < xs.length), ∃ u, w.cell? ⟨b, o + i, none⟩ = some u ∧ Ints w u xs[i]) := hc
    clear hx hc
    go_enter Try.func20, Try.ntmps20
    go_wp2_with fail
    go_loop [3, 4] (fun a i => ∃ n k : Nat, k ≤ xs.length ∧ i = .int .i64 (k : Nat) ∧ a = .int .i64 (n : Nat) ∧ n ≤ 17594333528064 ∧ Hid (orw n (xs.drop k) = r)) (fun _ i => xs.length - (intOf i).toNat)
    case atStart => exact ⟨0, 0, Nat.zero_le _, rfl, rfl, by omega, HR.out⟩
    case round =>
      obtain ⟨n, k, hk, rfl, rfl, hn, HF⟩ := hrel
      by_cases hlt : k < xs.length
      · have hlt' : (k : Int) < (xs.length : Int) := by omega
        have b0 : (0 : Int) ≤ (k : Int) := by omega
        by_cases hnb : n ≤ 2147483647
        · have hnbi : (n : Int) ≤ 2147483647 := by omega
          obtain ⟨u, d1, hu⟩ := HC.out k hlt
          have hxm := lenI_few hu
          obtain ⟨uad, uc, rfl, _, _⟩ := hu.form
          have HF2 : Hid (orw (n + (1 + xs[k].length)) (xs.drop (k + 1)) = r) := by
            show orw _ _ = r
            have := HF.out
            rw [drop_consL hlt, orw, if_pos hnb] at this
            exact this
          clear hu
          obtain ⟨x, hxk⟩ : ∃ x, xs[k].length = x := ⟨_, rfl⟩
          rw [hxk] at d1 HF2 hxm
          clear hxk
          go_wp2
          go_round
          case rel => exact ⟨n + (1 + x), k + 1, by omega, by go_num, by go_num, by omega, HF2.out⟩
          case measure => simp [intOf]; omega
        · have hnbi : ¬ ((n : Int) ≤ 2147483647) := by omega
          have HE : Hid (n = r) := by have := HF.out; rw [orw_stop hnb] at this; exact this
          clear hnb
          go_wp2
          go_ret
          exact ⟨ret_int (by rw [HE.out]), rfl⟩
      · have hlt' : ¬ (k : Int) < (xs.length : Int) := by omega
        have HE : Hid (n = r) := by have := HF.out; rw [List.drop_eq_nil_of_le (by omega), orw] at this; exact this
        go_wp2
        go_ret
        exact ⟨ret_int (by rw [HE.out]), rfl⟩
end Go.Proofs.Ytbbfajbnklgncaa
