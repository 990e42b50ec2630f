/- math/bits.OnesCount64, by its own text. -/
import Derived.Test.YtkkhilgcjaigcaaDoorBaseK
import Derived.WalkLawsBesides
import Derived.Laws.BitsAllLaws
namespace Go.Proofs.YtkkhilgcjaigcaaDoor
open Go.RowKit

def onesA (x : Nat) : Nat := (x / 2 &&& 6148914691236517205) + (x &&& 6148914691236517205)
def onesB (x : Nat) : Nat := (x / 4 &&& 3689348814741910323) + (x &&& 3689348814741910323)
def onesC (x : Nat) : Nat := (x / 16 + x) &&& 1085102592571150095
def ones (x : Nat) : Nat :=
  let c := onesC (onesB (onesA x))
  let d := c + c / 256
  let e := d + d / 65536
  let f := e + e / 4294967296
  f &&& 127

theorem wrapu (a : Nat) (h : a < 18446744073709551616) : IntKind.u64.wrap (a : Int) = (a : Int) := by rw [IntKind.wrap_u64]; omega
theorem onesA_le (x : Nat) : onesA x ≤ 12297829382473034410 := by
  unfold onesA
  have h1 := @Nat.and_le_right (x / 2) 6148914691236517205
  have h2 := @Nat.and_le_right x 6148914691236517205
  omega
theorem onesB_le (x : Nat) : onesB x ≤ 7378697629483820646 := by
  unfold onesB
  have h1 := @Nat.and_le_right (x / 4) 3689348814741910323
  have h2 := @Nat.and_le_right x 3689348814741910323
  omega
theorem onesC_le (x : Nat) : onesC x ≤ 1085102592571150095 := by unfold onesC; exact Nat.and_le_right

theorem stepA (x : Nat) (hx : x < 18446744073709551616) : IntKind.u64.wrap (bits BinOp.and IntKind.u64 ((x : Int) / 2) 6148914691236517205 + bits BinOp.and IntKind.u64 (x : Int) 6148914691236517205) = ((onesA x : Nat) : Int) := by
  have e1 : ((x : Int) / 2) = ((x / 2 : Nat) : Int) := by omega
  have h1 := bits_and_u64_nat (x / 2) 6148914691236517205 (by omega) (by omega)
  have h2 := bits_and_u64_nat x 6148914691236517205 hx (by omega)
  have hl := onesA_le x
  rw [e1]
  rw [show ((6148914691236517205 : Nat) : Int) = (6148914691236517205 : Int) from rfl] at h1 h2
  rw [h1, h2, ← Int.natCast_add]
  exact wrapu _ (by unfold onesA at hl; omega)
theorem stepB (x : Nat) (hx : x < 18446744073709551616) : IntKind.u64.wrap (bits BinOp.and IntKind.u64 ((x : Int) / 4) 3689348814741910323 + bits BinOp.and IntKind.u64 (x : Int) 3689348814741910323) = ((onesB x : Nat) : Int) := by
  have e1 : ((x : Int) / 4) = ((x / 4 : Nat) : Int) := by omega
  have h1 := bits_and_u64_nat (x / 4) 3689348814741910323 (by omega) (by omega)
  have h2 := bits_and_u64_nat x 3689348814741910323 hx (by omega)
  have hl := onesB_le x
  rw [e1]
  rw [show ((3689348814741910323 : Nat) : Int) = (3689348814741910323 : Int) from rfl] at h1 h2
  rw [h1, h2, ← Int.natCast_add]
  exact wrapu _ (by unfold onesB at hl; omega)
theorem stepC (x : Nat) (hx : x ≤ 7378697629483820646) : bits BinOp.and IntKind.u64 (IntKind.u64.wrap ((x : Int) / 16 + (x : Int))) 1085102592571150095 = ((onesC x : Nat) : Int) := by
  have e1 : ((x : Int) / 16 + (x : Int)) = ((x / 16 + x : Nat) : Int) := by omega
  have h1 := bits_and_u64_nat (x / 16 + x) 1085102592571150095 (by omega) (by omega)
  rw [show ((1085102592571150095 : Nat) : Int) = (1085102592571150095 : Int) from rfl] at h1
  rw [e1, wrapu _ (by omega), h1]; rfl
theorem stepD (x d : Nat) (D : Int) (hD : D = (d : Int)) (hx : x ≤ 4611686018427387904) : IntKind.u64.wrap ((x : Int) + (x : Int) / D) = ((x + x / d : Nat) : Int) := by
  subst hD
  have e1 : ((x : Int) + (x : Int) / (d : Int)) = ((x + x / d : Nat) : Int) := by rw [Int.natCast_add, Int.natCast_ediv]
  have := Nat.div_le_self x d
  rw [e1]; exact wrapu _ (by omega)
theorem stepF (x : Nat) (hx : x < 9223372036854775808) : bits BinOp.and IntKind.i64 (wrap64 (x : Int)) 127 = ((x &&& 127 : Nat) : Int) := by
  have e1 : wrap64 (x : Int) = (x : Int) := by unfold wrap64; omega
  rw [e1]
  have hl := @Nat.and_le_right x 127
  have h1 : (BitVec.ofInt 64 (x : Int)).toNat = x := by rw [BitVec.ofInt_natCast, BitVec.toNat_ofNat]; exact Nat.mod_eq_of_lt (by omega)
  have h2 : (BitVec.ofInt 64 (127 : Int)).toNat = 127 := by decide
  show IntKind.i64.wrap ((BitVec.ofInt 64 (x : Int) &&& BitVec.ofInt 64 127).toNat : Int) = _
  rw [BitVec.toNat_and, h1, h2]
  simp only [IntKind.wrap, IntKind.bits, IntKind.signed]; simp; omega

set_option maxHeartbeats 400000 in
theorem ones_any (x : Nat) (w : World) (hx : x < 18446744073709551616) :
    Calls Tryd.prog 35 #[.int .u64 x] w fun e w' => e = .returned (.int .i64 (ones x : Nat)) ∧ w' = w := by
  have sA := stepA x hx
  have lA := onesA_le x
  have sB := stepB (onesA x) (by omega)
  have lB := onesB_le (onesA x)
  have sC := stepC (onesB (onesA x)) lB
  have lC := onesC_le (onesB (onesA x))
  generalize hc : onesC (onesB (onesA x)) = c at sC lC
  have sD := stepD c 256 256 rfl (by omega)
  generalize hd : c + c / 256 = d at sD
  have sE := stepD d 65536 65536 rfl (by omega)
  generalize he : d + d / 65536 = e at sE
  have sF := stepD e 4294967296 4294967296 rfl (by omega)
  generalize hf : e + e / 4294967296 = f at sF
  have sG := stepF f (by omega)
  have HG : Hid _ := sG
  clear sG
  have HE : Hid (ones x = f &&& 127) := by show ones x = f &&& 127; unfold ones; simp only [hc, hd, he, hf]
  rw [HE.out]
  clear lA lB lC hc hd he hf hx
  generalize onesB (onesA x) = b at sB sC
  generalize onesA x = a at sA sB
  go_enter Tryd.func35, Tryd.ntmps35
  go_wp2
  go_ret
  exact ⟨ret_int HG.out, rfl⟩
end Go.Proofs.YtkkhilgcjaigcaaDoor
