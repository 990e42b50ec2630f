/- How many ones a word has: that the library's folding counts them. No walk here. -/
import Derived.Test.YtjfhfdpbdjeedaaOnes
namespace Go.Proofs.Ytjfhfdpbdjeedaa

/-- The ones of x among its first k bits. -/
def popc (k x : Nat) : Nat := (List.range k).countP fun i => x.testBit i

theorem popc_zero (x : Nat) : popc 0 x = 0 := rfl
theorem popc_succ (k x : Nat) : popc (k + 1) x = popc k x + (x.testBit k).toNat := by
  unfold popc
  rw [List.range_succ, List.countP_append, List.countP_singleton]
  cases x.testBit k <;> rfl

theorem testBit_byte (p q i : Nat) (hp : p < 256) : (p + 256 * q).testBit i = if i < 8 then p.testBit i else q.testBit (i - 8) := by
  have := Nat.testBit_two_pow_mul_add q (b := p) (i := 8) (by omega) i
  rw [show p + 256 * q = 2 ^ 8 * q + p from by omega]
  exact this

/-- A byte ahead of the rest: 'and' with a mask goes byte by byte. -/
theorem and_byte (a c b d : Nat) (ha : a < 256) (hc : c < 256) : (a + 256 * b) &&& (c + 256 * d) = (a &&& c) + 256 * (b &&& d) := by
  apply Nat.eq_of_testBit_eq
  intro i
  have hac : a &&& c < 256 := Nat.lt_of_le_of_lt Nat.and_le_left ha
  rw [Nat.testBit_and, testBit_byte a b i ha, testBit_byte c d i hc, testBit_byte _ _ i hac]
  split <;> rw [Nat.testBit_and]

/-- The ones of a byte and the rest. -/
theorem popc_byte (k p q : Nat) (hp : p < 256) : popc (k + 8) (p + 256 * q) = popc 8 p + popc k q := by
  induction k with
  | zero =>
    rw [popc_zero, Nat.add_zero]
    unfold popc
    apply List.countP_congr
    intro i hi
    have : i < 8 := by simpa using hi
    rw [testBit_byte p q i hp, if_pos this]
  | succ k ih =>
    rw [show k + 1 + 8 = k + 8 + 1 from by omega, popc_succ (k + 8), ih, popc_succ k q, testBit_byte p q _ hp, if_neg (by omega)]
    rw [show k + 8 - 8 = k from by omega]
    omega

def stA (x m : Nat) : Nat := (x / 2 &&& m) + (x &&& m)
def stB (x m : Nat) : Nat := (x / 4 &&& m) + (x &&& m)
def stC (x m : Nat) : Nat := (x / 16 + x) &&& m
def byA (a : Nat) : Nat := (a / 2 &&& 85) + (a &&& 85)
def byB (a : Nat) : Nat := (a / 4 &&& 51) + (a &&& 51)
def byC (a : Nat) : Nat := (a / 16 + a) &&& 15

theorem tabA : ∀ a, a < 256 → ∀ h, h < 2 → (a / 2 + 128 * h) &&& 85 = a / 2 &&& 85 := by decide +kernel
theorem tabB : ∀ a, a < 256 → ∀ h, h < 4 → (a / 4 + 64 * h) &&& 51 = a / 4 &&& 51 := by decide +kernel
theorem tabC : ∀ a, a < 69 → ∀ h, h < 10 → (a / 16 + 16 * h + a) &&& 15 = (a / 16 + a) &&& 15 := by decide +kernel
theorem byA_le : ∀ a, a < 256 → byA a < 256 := by decide +kernel
theorem byB_le : ∀ a, a < 256 → byB (byA a) < 69 ∧ byB (byA a) % 16 ≤ 4 := by decide +kernel
theorem by_all : ∀ a, a < 256 → byC (byB (byA a)) = popc 8 a := by decide +kernel
theorem popc8_le : ∀ a, a < 256 → popc 8 a ≤ 8 := by decide +kernel

theorem stA_byte (a b m : Nat) (ha : a < 256) : stA (a + 256 * b) (85 + 256 * m) = byA a + 256 * stA b m := by
  unfold stA byA
  have e : (a + 256 * b) / 2 = (a / 2 + 128 * (b % 2)) + 256 * (b / 2) := by omega
  rw [e, and_byte _ _ _ _ (by omega) (by omega), and_byte _ _ _ _ ha (by omega), tabA a ha (b % 2) (by omega)]
  omega
theorem stB_byte (a b m : Nat) (ha : a < 256) : stB (a + 256 * b) (51 + 256 * m) = byB a + 256 * stB b m := by
  unfold stB byB
  have e : (a + 256 * b) / 4 = (a / 4 + 64 * (b % 4)) + 256 * (b / 4) := by omega
  rw [e, and_byte _ _ _ _ (by omega) (by omega), and_byte _ _ _ _ ha (by omega), tabB a ha (b % 4) (by omega)]
  omega
theorem stC_byte (a b m : Nat) (ha : a < 69) (hb : b % 16 ≤ 4) : stC (a + 256 * b) (15 + 256 * m) = byC a + 256 * stC b m := by
  unfold stC byC
  have e : (a + 256 * b) / 16 + (a + 256 * b) = (a / 16 + 16 * (b % 16) + a) + 256 * (b / 16 + b) := by omega
  rw [e, and_byte _ _ _ _ (by omega) (by omega), tabC a ha (b % 16) (by omega)]

/-- The three folds, byte by byte: k bytes. -/
def mask (c : Nat) : Nat → Nat
  | 0 => 0
  | k + 1 => c + 256 * mask c k
def bytesPop : Nat → Nat → Nat
  | 0, _ => 0
  | k + 1, x => popc 8 (x % 256) + 256 * bytesPop k (x / 256)
theorem fold_low (k x : Nat) : stB (stA x (mask 85 k)) (mask 51 k) % 16 ≤ 4 := by
  cases k with
  | zero => simp [mask, stA, stB]
  | succ k =>
    have h := byB_le (x % 256) (by omega)
    have hx : x = x % 256 + 256 * (x / 256) := by omega
    rw [hx]
    simp only [mask]
    rw [stA_byte _ _ _ (by omega), stB_byte _ _ _ (byA_le _ (by omega))]
    omega
theorem folds (k : Nat) : ∀ x, stC (stB (stA x (mask 85 k)) (mask 51 k)) (mask 15 k) = bytesPop k x := by
  induction k with
  | zero => intro x; simp [mask, stA, stB, stC, bytesPop]
  | succ k ih =>
    intro x
    have h := byB_le (x % 256) (by omega)
    have hx : x = x % 256 + 256 * (x / 256) := by omega
    have e : stC (stB (stA (x % 256 + 256 * (x / 256)) (mask 85 (k + 1))) (mask 51 (k + 1))) (mask 15 (k + 1)) = popc 8 (x % 256) + 256 * bytesPop k (x / 256) := by
      simp only [mask]
      rw [stA_byte _ _ _ (by omega), stB_byte _ _ _ (byA_le _ (by omega)), stC_byte _ _ _ h.1 (fold_low k _), by_all _ (by omega), ih]
    rw [← hx] at e
    rw [e]; rfl

theorem div_out (a d T : Nat) (h : a < d) : (a + d * T) / d = T := by
  rw [Nat.add_mul_div_left _ _ (by omega), Nat.div_eq_of_lt h, Nat.zero_add]
theorem mod_out (a d T : Nat) (h : a < d) : (a + d * T) % d = a := by
  rw [Nat.add_mul_mod_self_left, Nat.mod_eq_of_lt h]

theorem fold_sum (a0 a1 a2 a3 a4 a5 a6 a7 : Nat) (p0 : a0 ≤ 8) (p1 : a1 ≤ 8) (p2 : a2 ≤ 8) (p3 : a3 ≤ 8) (p4 : a4 ≤ 8) (p5 : a5 ≤ 8) (p6 : a6 ≤ 8) (p7 : a7 ≤ 8) :
    ((a0 + 256 * (a1 + 256 * (a2 + 256 * (a3 + 256 * (a4 + 256 * (a5 + 256 * (a6 + 256 * a7))))))) + (a0 + 256 * (a1 + 256 * (a2 + 256 * (a3 + 256 * (a4 + 256 * (a5 + 256 * (a6 + 256 * a7))))))) / 256 +
      ((a0 + 256 * (a1 + 256 * (a2 + 256 * (a3 + 256 * (a4 + 256 * (a5 + 256 * (a6 + 256 * a7))))))) + (a0 + 256 * (a1 + 256 * (a2 + 256 * (a3 + 256 * (a4 + 256 * (a5 + 256 * (a6 + 256 * a7))))))) / 256) / 65536 +
      ((a0 + 256 * (a1 + 256 * (a2 + 256 * (a3 + 256 * (a4 + 256 * (a5 + 256 * (a6 + 256 * a7))))))) + (a0 + 256 * (a1 + 256 * (a2 + 256 * (a3 + 256 * (a4 + 256 * (a5 + 256 * (a6 + 256 * a7))))))) / 256 +
        ((a0 + 256 * (a1 + 256 * (a2 + 256 * (a3 + 256 * (a4 + 256 * (a5 + 256 * (a6 + 256 * a7))))))) + (a0 + 256 * (a1 + 256 * (a2 + 256 * (a3 + 256 * (a4 + 256 * (a5 + 256 * (a6 + 256 * a7))))))) / 256) / 65536) / 4294967296) % 128 =
    a0 + (a1 + (a2 + (a3 + (a4 + (a5 + (a6 + a7)))))) := by
  rw [div_out a0 256 _ (by omega)]
  have e1 : a0 + 256 * (a1 + 256 * (a2 + 256 * (a3 + 256 * (a4 + 256 * (a5 + 256 * (a6 + 256 * a7)))))) + (a1 + 256 * (a2 + 256 * (a3 + 256 * (a4 + 256 * (a5 + 256 * (a6 + 256 * a7)))))) =
      ((a0 + a1) + 256 * (a1 + a2)) + 65536 * ((a2 + a3) + 256 * ((a3 + a4) + 256 * ((a4 + a5) + 256 * ((a5 + a6) + 256 * ((a6 + a7) + 256 * a7))))) := by omega
  rw [e1, div_out _ 65536 _ (by omega)]
  have e2 : ((a0 + a1) + 256 * (a1 + a2)) + 65536 * ((a2 + a3) + 256 * ((a3 + a4) + 256 * ((a4 + a5) + 256 * ((a5 + a6) + 256 * ((a6 + a7) + 256 * a7))))) + ((a2 + a3) + 256 * ((a3 + a4) + 256 * ((a4 + a5) + 256 * ((a5 + a6) + 256 * ((a6 + a7) + 256 * a7))))) =
      ((a0 + a1 + a2 + a3) + 256 * (a1 + a2 + a3 + a4) + 65536 * (a2 + a3 + a4 + a5) + 16777216 * (a3 + a4 + a5 + a6)) + 4294967296 * ((a4 + a5 + a6 + a7) + 256 * ((a5 + a6 + a7) + 256 * ((a6 + a7) + 256 * a7))) := by omega
  rw [e2, div_out _ 4294967296 _ (by omega)]
  have e3 : ((a0 + a1 + a2 + a3) + 256 * (a1 + a2 + a3 + a4) + 65536 * (a2 + a3 + a4 + a5) + 16777216 * (a3 + a4 + a5 + a6)) + 4294967296 * ((a4 + a5 + a6 + a7) + 256 * ((a5 + a6 + a7) + 256 * ((a6 + a7) + 256 * a7))) + ((a4 + a5 + a6 + a7) + 256 * ((a5 + a6 + a7) + 256 * ((a6 + a7) + 256 * a7))) =
      (a0 + (a1 + (a2 + (a3 + (a4 + (a5 + (a6 + a7))))))) + 128 * (2 * (a1 + a2 + a3 + a4) + 512 * (a2 + a3 + a4 + a5) + 131072 * (a3 + a4 + a5 + a6) + 33554432 * ((a4 + a5 + a6 + a7) + 256 * ((a5 + a6 + a7) + 256 * ((a6 + a7) + 256 * a7))) + 2 * ((a5 + a6 + a7) + 256 * ((a6 + a7) + 256 * a7))) := by omega
  rw [e3, mod_out _ 128 _ (by omega)]

/-- The library's count of a word's ones is their number. -/
theorem ones_popc (x : Nat) (hx : x < 18446744073709551616) : ones x = popc 64 x := by
  have hf : onesC (onesB (onesA x)) = bytesPop 8 x := by
    have := folds 8 x
    simpa [mask, stA, stB, stC, onesA, onesB, onesC] using this
  unfold ones
  simp only [hf]
  have p0 := popc8_le (x % 256) (by omega)
  have p1 := popc8_le (x / 256 % 256) (by omega)
  have p2 := popc8_le (x / 256 / 256 % 256) (by omega)
  have p3 := popc8_le (x / 256 / 256 / 256 % 256) (by omega)
  have p4 := popc8_le (x / 256 / 256 / 256 / 256 % 256) (by omega)
  have p5 := popc8_le (x / 256 / 256 / 256 / 256 / 256 % 256) (by omega)
  have p6 := popc8_le (x / 256 / 256 / 256 / 256 / 256 / 256 % 256) (by omega)
  have p7 := popc8_le (x / 256 / 256 / 256 / 256 / 256 / 256 / 256 % 256) (by omega)
  have hs : popc 64 x = popc 8 (x % 256) + (popc 8 (x / 256 % 256) + (popc 8 (x / 256 / 256 % 256) + (popc 8 (x / 256 / 256 / 256 % 256) + (popc 8 (x / 256 / 256 / 256 / 256 % 256) + (popc 8 (x / 256 / 256 / 256 / 256 / 256 % 256) + (popc 8 (x / 256 / 256 / 256 / 256 / 256 / 256 % 256) + popc 8 (x / 256 / 256 / 256 / 256 / 256 / 256 / 256 % 256))))))) := by
    have st : ∀ k y, popc (k + 8) y = popc 8 (y % 256) + popc k (y / 256) := fun k y => by
      have := popc_byte k (y % 256) (y / 256) (by omega)
      rwa [show y % 256 + 256 * (y / 256) = y from by omega] at this
    have z : x / 256 / 256 / 256 / 256 / 256 / 256 / 256 < 256 := by omega
    have s0 : popc 64 x = popc 8 (x % 256) + popc 56 (x / 256) := st 56 x
    have s1 : popc 56 (x / 256) = popc 8 (x / 256 % 256) + popc 48 (x / 256 / 256) := st 48 _
    have s2 : popc 48 (x / 256 / 256) = popc 8 (x / 256 / 256 % 256) + popc 40 (x / 256 / 256 / 256) := st 40 _
    have s3 : popc 40 (x / 256 / 256 / 256) = popc 8 (x / 256 / 256 / 256 % 256) + popc 32 (x / 256 / 256 / 256 / 256) := st 32 _
    have s4 : popc 32 (x / 256 / 256 / 256 / 256) = popc 8 (x / 256 / 256 / 256 / 256 % 256) + popc 24 (x / 256 / 256 / 256 / 256 / 256) := st 24 _
    have s5 : popc 24 (x / 256 / 256 / 256 / 256 / 256) = popc 8 (x / 256 / 256 / 256 / 256 / 256 % 256) + popc 16 (x / 256 / 256 / 256 / 256 / 256 / 256) := st 16 _
    have s6 : popc 16 (x / 256 / 256 / 256 / 256 / 256 / 256) = popc 8 (x / 256 / 256 / 256 / 256 / 256 / 256 % 256) + popc 8 (x / 256 / 256 / 256 / 256 / 256 / 256 / 256) := st 8 _
    rw [s0, s1, s2, s3, s4, s5, s6, Nat.mod_eq_of_lt z]
  rw [hs]
  have hb : bytesPop 8 x = popc 8 (x % 256) + 256 * (popc 8 (x / 256 % 256) + 256 * (popc 8 (x / 256 / 256 % 256) + 256 * (popc 8 (x / 256 / 256 / 256 % 256) + 256 * (popc 8 (x / 256 / 256 / 256 / 256 % 256) + 256 * (popc 8 (x / 256 / 256 / 256 / 256 / 256 % 256) + 256 * (popc 8 (x / 256 / 256 / 256 / 256 / 256 / 256 % 256) + 256 * (popc 8 (x / 256 / 256 / 256 / 256 / 256 / 256 / 256 % 256)))))))) := by
    simp [bytesPop]
  rw [hb]
  generalize popc 8 (x % 256) = a0 at *
  generalize popc 8 (x / 256 % 256) = a1 at *
  generalize popc 8 (x / 256 / 256 % 256) = a2 at *
  generalize popc 8 (x / 256 / 256 / 256 % 256) = a3 at *
  generalize popc 8 (x / 256 / 256 / 256 / 256 % 256) = a4 at *
  generalize popc 8 (x / 256 / 256 / 256 / 256 / 256 % 256) = a5 at *
  generalize popc 8 (x / 256 / 256 / 256 / 256 / 256 / 256 % 256) = a6 at *
  generalize popc 8 (x / 256 / 256 / 256 / 256 / 256 / 256 / 256 % 256) = a7 at *
  have e127 : ∀ y : Nat, y &&& 127 = y % 128 := fun y => Nat.and_two_pow_sub_one_eq_mod y 7
  rw [e127]
  clear hf hs hb hx
  exact fold_sum a0 a1 a2 a3 a4 a5 a6 a7 p0 p1 p2 p3 p4 p5 p6 p7
end Go.Proofs.Ytjfhfdpbdjeedaa
