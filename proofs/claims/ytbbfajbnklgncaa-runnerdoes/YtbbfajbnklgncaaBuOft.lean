/- The law's own: how much is handed in (augurref00.OfTexts; the maths of small). -/
import Derived.Test.YtbbfajbnklgncaaHD
namespace Go.Proofs.Ytbbfajbnklgncaa
open Go.RowKit Go.Shelf

def ot (n : Nat) : List ByteArray → Nat
  | [] => n
  | x :: r => if n ≤ 2147483647 then ot (n + (1 + x.size)) r else n
theorem ot_stop {n : Nat} (h : ¬ n ≤ 2147483647) : ∀ l, ot n l = n
  | [] => rfl
  | _ :: _ => by rw [ot, if_neg h]
theorem drop_cons {xs : List ByteArray} {k : Nat} (h : k < xs.length) : xs.drop k = xs[k] :: xs.drop (k + 1) := (List.getElem_cons_drop h).symm
set_option maxHeartbeats 1000000 in
theorem ofTexts_any (v : Value) (xs : List ByteArray) (w : World) (hx : Strs w v xs) (hm : ∀ x ∈ xs, x.size ≤ 140737488351232) :
    Calls Try.prog 19 #[v] w fun e w' => e = .returned (.int .i64 (ot 0 xs : Nat)) ∧ w' = w := by
  have fx := hx.few
  obtain ⟨r, hr⟩ : ∃ r, ot 0 xs = r := ⟨_, rfl⟩
  rw [hr]
  have HR : Hid (ot 0 xs = r) := hr
  have HM : Hid _ := hm
  clear hr hm
  by_cases h0 : 0 < xs.length
  · obtain ⟨b, o, c, rfl, _, _, hc⟩ := hx.there h0
    have HC : Hid (∀ i (h : i < xs.length), w.cell? ⟨b, o + i, none⟩ = some (.string xs[i])) := hc
    clear hx hc
    go_enter Try.func19, Try.ntmps19
    go_wp2_with fail
    go_loop [3, 4] (fun a i => ∃ n k : Nat, k ≤ xs.length ∧ i = .int .i64 (k : Nat) ∧ a = .int .i64 (n : Nat) ∧ n ≤ 140739635834880 ∧ Hid (ot n (xs.drop k) = r)) (fun _ i => xs.length - (intOf i).toNat)
    case atStart => exact ⟨0, 0, Nat.zero_le _, rfl, rfl, by omega, HR.out⟩
    case round =>
      obtain ⟨n, k, hk, rfl, rfl, hn, HF⟩ := hrel
      by_cases hlt : k < xs.length
      · have hlt' : (k : Int) < (xs.length : Int) := by omega
        have b0 : (0 : Int) ≤ (k : Int) := by omega
        by_cases hnb : n ≤ 2147483647
        · have hnbi : (n : Int) ≤ 2147483647 := by omega
          have d1 := HC.out k hlt
          have hxm := HM.out xs[k] (List.getElem_mem _)
          have HF2 : Hid (ot (n + (1 + xs[k].size)) (xs.drop (k + 1)) = r) := by
            show ot _ _ = r
            have := HF.out
            rw [drop_cons hlt, ot, if_pos hnb] at this
            exact this
          obtain ⟨x, hxk⟩ : ∃ x, xs[k] = x := ⟨_, rfl⟩
          rw [hxk] at d1 HF2 hxm
          clear hxk
          go_wp2
          go_round
          case rel => exact ⟨n + (1 + x.size), k + 1, by omega, by go_num, by go_num, by omega, HF2.out⟩
          case measure => simp [intOf]; omega
        · have hnbi : ¬ ((n : Int) ≤ 2147483647) := by omega
          have HE : Hid (n = r) := by have := HF.out; rw [ot_stop hnb] at this; exact this
          clear hnb
          go_wp2
          go_ret
          exact ⟨ret_int (by rw [HE.out]), rfl⟩
      · have hlt' : ¬ (k : Int) < (xs.length : Int) := by omega
        have HE : Hid (n = r) := by have := HF.out; rw [List.drop_eq_nil_of_le (by omega), ot] at this; exact this
        go_wp2
        go_ret
        exact ⟨ret_int (by rw [HE.out]), rfl⟩
  · obtain rfl : xs = [] := List.length_eq_zero_iff.1 (by omega)
    obtain ⟨ad, c, rfl, _⟩ := hx.form
    have HE : Hid (0 = r) := HR.out
    clear hx
    simp only [List.length_nil]
    go_enter Try.func19, Try.ntmps19
    go_wp2_with fail
    go_loop [3, 4] (fun a i => i = .int .i64 0 ∧ a = .int .i64 0) (fun _ _ => 0)
    case atStart => exact ⟨rfl, rfl⟩
    case round =>
      obtain ⟨rfl, rfl⟩ := hrel
      go_wp2
      go_ret
      exact ⟨ret_int (by rw [← HE.out]; rfl), rfl⟩
theorem ot_le (n : Nat) : ∀ (l : List ByteArray), n ≤ 140739635834880 → (∀ x ∈ l, x.size ≤ 140737488351232) → ot n l ≤ 140739635834880
  | [], h, _ => h
  | x :: r, h, hx => by
    rw [ot]
    split
    · exact ot_le _ r (by have := hx x (by simp); omega) (fun y hy => hx y (by simp [hy]))
    · exact h
theorem ot_few : ∀ (l : List ByteArray) (n : Nat), ot n l < 100000 → n + l.length ≤ ot n l ∧ n < 100000
  | [], n, h => ⟨Nat.le_refl _, h⟩
  | x :: r, n, h => by
    rw [ot] at h ⊢
    by_cases hn : n ≤ 2147483647
    · rw [if_pos hn] at h ⊢
      have := ot_few r _ h
      simp only [List.length_cons]
      omega
    · rw [if_neg hn] at h
      omega
/-- The sum of the sets' sizes, as far as the law counts. -/
def os (n : Nat) : List (List Int) → Nat
  | [] => n
  | x :: r => if n < 100000 then os (n + 1 + x.length) r else n
theorem os_stop {n : Nat} (h : ¬ n < 100000) : ∀ l, os n l = n
  | [] => rfl
  | _ :: _ => by rw [os, if_neg h]
theorem os_few : ∀ (l : List (List Int)) (n : Nat), os n l < 100000 → n + l.length ≤ os n l ∧ n < 100000 ∧ ∀ xs ∈ l, xs.length < 100000
  | [], n, h => ⟨Nat.le_refl _, h, by simp⟩
  | x :: r, n, h => by
    rw [os] at h ⊢
    by_cases hn : n < 100000
    · rw [if_pos hn] at h ⊢
      obtain ⟨h1, h2, h3⟩ := os_few r _ h
      simp only [List.length_cons]
      refine ⟨by omega, hn, fun xs hx => ?_⟩
      rcases List.mem_cons.1 hx with rfl | hx
      · omega
      · exact h3 xs hx
    · rw [if_neg hn] at h
      omega
theorem drop_consL {xs : List (List Int)} {k : Nat} (h : k < xs.length) : xs.drop k = xs[k] :: xs.drop (k + 1) := (List.getElem_cons_drop h).symm
/-- What the law's small tells: how much is handed in. -/
def smallN (g : Gen) : Nat := os (ot 0 g.ps + g.ini.length + g.es.length) g.sets
theorem smallN_few {g : Gen} (h : smallN g < 100000) : g.ps.length ≤ 100000 ∧ g.ini.length ≤ 100000 ∧ g.es.length ≤ 100000 ∧ g.sets.length ≤ 100000 ∧ ∀ xs ∈ g.sets, xs.length ≤ 100000 := by
  obtain ⟨h1, h2, h3⟩ := os_few _ _ h
  obtain ⟨h4, h5⟩ := ot_few g.ps 0 (by omega)
  exact ⟨by omega, by omega, by omega, by unfold smallN at h; omega, fun xs hx => Nat.le_of_lt (h3 xs hx)⟩
end Go.Proofs.Ytbbfajbnklgncaa
