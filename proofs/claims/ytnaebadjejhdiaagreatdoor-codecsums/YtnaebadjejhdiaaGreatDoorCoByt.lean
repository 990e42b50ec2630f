/- Rows of bytes in memory, and the sum of 64 bits over them (codec.Digest). -/
import Derived.Test.YtnaebadjejhdiaaGreatDoorKeeps
import Derived.Deep.QuietTactic
import Derived.Below
import Derived.Laws.AppendOwnNone
namespace Go.Proofs.YtnaebadjejhdiaaGreatDoor
open Go.RowKit


theorem cell_keptC {W W' : World} (k : Kept [] W W') {b o : Nat} {v : Value} (h : W.cell? ⟨b, o, none⟩ = some v) : W'.cell? ⟨b, o, none⟩ = some v := by
  have hl : b < W.heap.size := World.block_lt_of_cell? W _ h
  simp only [World.cell?, k.block b hl (by simp)] at h ⊢
  exact h
/-- The bytes xs are what v tells. -/
structure Byts (W : World) (v : Value) (xs : List Nat) : Prop where
  few : xs.length ≤ 140737488351232
  wf : ∀ x ∈ xs, x < 256
  lie : ((∃ ad c, v = .slice ad 0 c ∧ c ≤ maxLen ∧ (ad = none → c = 0)) ∧ xs = []) ∨ ∃ b o c, v = .slice (some ⟨b, o, none⟩) xs.length c ∧ xs.length ≤ c ∧ c ≤ maxLen ∧ ∀ i (h : i < xs.length), W.cell? ⟨b, o + i, none⟩ = some (.int .u8 (xs[i] : Nat))

def fnvS (s x : Nat) : Nat := ((s ^^^ x) * 1099511628211) % 18446744073709551616
def fnv (xs : List Nat) : Nat := xs.foldl fnvS 14695981039346656037
theorem fnv_snoc (xs : List Nat) (x : Nat) : fnv (xs ++ [x]) = fnvS (fnv xs) x := by unfold fnv; rw [List.foldl_append, List.foldl_cons, List.foldl_nil]
theorem fnvS_lt (s x : Nat) : fnvS s x < 18446744073709551616 := Nat.mod_lt _ (by omega)
theorem fold_lt (xs : List Nat) : ∀ s, s < 18446744073709551616 → xs.foldl fnvS s < 18446744073709551616 := by
  induction xs with
  | nil => exact fun s h => h
  | cons x l ih => exact fun s _ => ih _ (fnvS_lt s x)
theorem fnv_lt (xs : List Nat) : fnv xs < 18446744073709551616 := fold_lt xs _ (by decide)

/-! ### One byte other, another sum -/
theorem back_any {m p q c : Nat} (h : p * q = 1 + m * c) {a : Nat} (ha : a < m) : ((a * p) % m * q) % m = a := by
  rw [Nat.mod_mul_mod, Nat.mul_assoc, h, Nat.mul_add, Nat.mul_one, Nat.mul_left_comm, Nat.add_mul_mod_self_left, Nat.mod_eq_of_lt ha]
theorem mul_back {a : Nat} (ha : a < 18446744073709551616) : ((a * 1099511628211) % 18446744073709551616 * 14886173955864302971) % 18446744073709551616 = a :=
  back_any (c := 887285111055) (by rfl) ha
theorem mul_inj {a b : Nat} (ha : a < 18446744073709551616) (hb : b < 18446744073709551616) (h : (a * 1099511628211) % 18446744073709551616 = (b * 1099511628211) % 18446744073709551616) : a = b := by
  rw [← mul_back ha, ← mul_back hb, h]
theorem xor_lt {s x : Nat} (hs : s < 18446744073709551616) (hx : x < 18446744073709551616) : s ^^^ x < 18446744073709551616 := Nat.xor_lt_two_pow (n := 64) hs hx
theorem xor_back (s x : Nat) : s ^^^ x ^^^ x = s := by rw [Nat.xor_assoc, Nat.xor_self, Nat.xor_zero]
theorem fnvS_left {s t x : Nat} (hs : s < 18446744073709551616) (ht : t < 18446744073709551616) (hx : x < 256) (h : fnvS s x = fnvS t x) : s = t := by
  have := mul_inj (xor_lt hs (by omega)) (xor_lt ht (by omega)) h
  rw [← xor_back s x, ← xor_back t x, this]
theorem fnvS_right {s x y : Nat} (hs : s < 18446744073709551616) (hx : x < 256) (hy : y < 256) (h : fnvS s x = fnvS s y) : x = y := by
  have := mul_inj (xor_lt hs (by omega)) (xor_lt hs (by omega)) h
  rw [Nat.xor_comm s x, Nat.xor_comm s y] at this
  rw [← xor_back x s, ← xor_back y s, this]
theorem fold_inj : ∀ (xs : List Nat) {s t : Nat}, s < 18446744073709551616 → t < 18446744073709551616 → (∀ x ∈ xs, x < 256) → xs.foldl fnvS s = xs.foldl fnvS t → s = t
  | [], _, _, _, _, _, h => h
  | x :: l, s, t, hs, ht, hx, h => fnvS_left hs ht (hx x (by simp)) (fold_inj l (fnvS_lt s x) (fnvS_lt t x) (fun y hy => hx y (by simp [hy])) h)
/-- The chapter's remark: rows that differ in one byte alone never have one sum. -/
theorem fnv_set (xs : List Nat) (k y : Nat) (hk : k < xs.length) (hx : ∀ x ∈ xs, x < 256) (hy : y < 256) : fnv (xs.set k y) = fnv xs ↔ xs[k] = y := by
  constructor
  · intro h
    have e : xs = xs.take k ++ xs[k] :: xs.drop (k + 1) := by simp
    rw [List.set_eq_take_append_cons_drop, if_pos hk] at h
    have h2 : fnv (xs.take k ++ y :: xs.drop (k + 1)) = fnv (xs.take k ++ xs[k] :: xs.drop (k + 1)) := by rw [← e]; exact h
    unfold fnv at h2
    rw [List.foldl_append, List.foldl_append, List.foldl_cons, List.foldl_cons] at h2
    have hs := fold_lt (xs.take k) 14695981039346656037 (by decide)
    have h3 := fold_inj _ (fnvS_lt _ _) (fnvS_lt _ _) (fun z hz => hx z (List.mem_of_mem_drop hz)) h2
    exact (fnvS_right hs hy (hx _ (List.getElem_mem hk)) h3).symm
  · intro h
    subst h
    rw [List.set_getElem_self]

theorem Byts.kept {W W' : World} {v : Value} {xs : List Nat} (h : Byts W v xs) (k : Kept [] W W') : Byts W' v xs := by
  refine ⟨h.few, h.wf, ?_⟩
  rcases h.lie with h1 | ⟨b, o, c, h1, h2, h3, h4⟩
  · exact .inl h1
  · exact .inr ⟨b, o, c, h1, h2, h3, fun i hi => cell_keptC k (h4 i hi)⟩
theorem Byts.form {W : World} {v : Value} {xs : List Nat} (h : Byts W v xs) : ∃ ad c, v = .slice ad xs.length c ∧ xs.length ≤ c ∧ c ≤ maxLen := by
  rcases h.lie with ⟨⟨ad, c, rfl, hc, _⟩, rfl⟩ | ⟨b, o, c, rfl, h2, h3, _⟩
  · exact ⟨ad, c, rfl, Nat.zero_le _, hc⟩
  · exact ⟨_, c, rfl, h2, h3⟩

theorem fnv_step (m x : Nat) (hm : m < 18446744073709551616) (hx : x < 256) : Value.int IntKind.u64 (IntKind.u64.wrap (bits BinOp.xor IntKind.u64 (m : Int) (x : Int) * 1099511628211)) = .int .u64 ((fnvS m x : Nat) : Int) := by
  have h1 : bits BinOp.xor IntKind.u64 (m : Int) (x : Int) = ((m ^^^ x : Nat) : Int) := bits_xor_u64_nat m x hm (by omega)
  rw [h1]
  unfold fnvS
  generalize m ^^^ x = n
  congr 1
theorem Byts.at {W : World} {v : Value} {xs : List Nat} (h : Byts W v xs) : ∃ ad c, v = .slice ad xs.length c ∧ ∀ i (h : i < xs.length), ∃ b o, ad = some ⟨b, o, none⟩ ∧ W.cell? ⟨b, o + i, none⟩ = some (.int .u8 (xs[i] : Nat)) := by
  rcases h.lie with ⟨⟨ad, c, rfl, hc, _⟩, rfl⟩ | ⟨b, o, c, rfl, h2, h3, h4⟩
  · exact ⟨ad, c, rfl, fun i h => by simp at h⟩
  · exact ⟨_, c, rfl, fun i h => ⟨b, o, rfl, h4 i h⟩⟩

set_option maxHeartbeats 800000 in
theorem digest_any (v : Value) (xs : List Nat) (w : World) (hB : Byts w v xs) :
    Calls Tryz.prog 5 #[v] w fun e w' => e = .returned (.int .u64 (fnv xs : Nat)) ∧ w' = w := by
  have hf := hB.few
  obtain ⟨ad, c, rfl, h4⟩ := hB.at
  have HC : Hid (∀ i (h : i < xs.length), ∃ b o, ad = some ⟨b, o, none⟩ ∧ w.cell? ⟨b, o + i, none⟩ = some (.int .u8 (xs[i] : Nat))) := h4
  have HS : Hid (∀ i (h : i < xs.length), xs[i] < 256) := fun i h => hB.wf _ (List.getElem_mem h)
  clear hB h4
  go_enter Tryz.func5, Tryz.ntmps5
  go_wp2
  go_loop [3, 8] (fun s i => ∃ k : Nat, k ≤ xs.length ∧ i = .int .i64 k ∧ s = .int .u64 (fnv (xs.take k) : Nat)) (fun _ i => xs.length - (intOf i).toNat)
  case atStart => exact ⟨0, Nat.zero_le _, rfl, rfl⟩
  case round =>
    obtain ⟨k, hk, rfl, rfl⟩ := hrel
    by_cases hlt : k < xs.length
    · obtain ⟨b, o, rfl, hc⟩ := HC.out k hlt
      have hsx := HS.out k hlt
      have HE : Hid (fnv (xs.take (k + 1)) = fnvS (fnv (xs.take k)) xs[k]) := by rw [List.take_succ_eq_append_getElem hlt]; exact fnv_snoc _ _
      have hm := fnv_lt (xs.take k)
      have hlt' : (k : Int) < (xs.length : Int) := by omega
      generalize xs[k] = x at hc hsx HE
      generalize fnv (xs.take k) = m at HE hm
      go_wp2_with fail
      go_round
      case rel =>
        refine ⟨k + 1, by omega, by go_num, ?_⟩
        rw [HE.out, fnv_step m x hm hsx]
      case measure => simp [intOf]; omega
    · have hlt' : ¬ (k : Int) < (xs.length : Int) := by omega
      have e : xs.take k = xs := List.take_of_length_le (by omega)
      rw [e]
      clear e
      go_wp2
      go_ret
      exact ⟨rfl, rfl⟩
end Go.Proofs.YtnaebadjejhdiaaGreatDoor
