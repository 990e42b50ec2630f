/- written: how a token stands in a text that was cut. -/
import Derived.Test.YtilgfnafkcjdgaaDoorLxPlace
namespace Go.Proofs.YtilgfnafkcjdgaaDoor
open Go.RowKit

set_option maxHeartbeats 1000000 in
theorem written_any (s : ByteArray) (x : Item) (w : World) (ht : x.text.length ≤ 1099511627776) :
    Calls Tryd.prog 23 #[.string s, .agg #[.int .u8 (x.kind.val : Nat), .string ⟨x.text.toArray⟩, .int .i64 (x.pos : Nat)]] w fun e w' => e = .returned (.string ⟨(writtenL s.data.toList x).toArray⟩) ∧ Kept [] w w' := by
  obtain ⟨t, htt⟩ : ∃ t : ByteArray, (⟨x.text.toArray⟩ : ByteArray) = t := ⟨_, rfl⟩
  have htd : t.data.toList = x.text := by rw [← htt]
  have hts : t.size = x.text.length := by rw [Lib.size_eq, htd]
  obtain ⟨k, hk⟩ : ∃ k, x.kind.val = k := ⟨_, rfl⟩
  obtain ⟨p, hp⟩ : ∃ p, x.pos = p := ⟨_, rfl⟩
  rw [htt, hk, hp]
  have plain : ¬ (x.kind = 2 ∧ s.data.toList[x.pos]? = some 34) → Hid ((⟨(writtenL s.data.toList x).toArray⟩ : ByteArray) = t) := fun h => by
    unfold Hid writtenL; rw [if_neg h, htt]
  by_cases hk2 : k = 2
  · have hki : (k : Int) = 2 := by omega
    have hkx : x.kind = 2 := Fin.ext (by rw [hk, hk2]; rfl)
    by_cases hps : p < s.size
    · have hpi : (p : Int) < (s.size : Int) := by omega
      obtain ⟨c, hc⟩ : ∃ c : UInt8, s[p]'hps = c := ⟨_, rfl⟩
      have hcl : s.data.toList[p]? = some c := by rw [← hc]; exact Lib.data_getElem? s p hps
      by_cases h34 : c = 34
      · have h34i : ((c.toNat : Nat) : Int) = 34 := by rw [h34]; rfl
        have HQ : Hid ((⟨(writtenL s.data.toList x).toArray⟩ : ByteArray) = ⟨#[34]⟩ ++ t ++ ⟨#[34]⟩) := by
          unfold Hid writtenL
          rw [if_pos ⟨hkx, by rw [hp, hcl, h34]⟩, quoteL_bytes, htd]
        have hq1 : ¬ 9223372036854775807 < 1 + t.size := by omega
        have hq2 : ¬ 9223372036854775807 < 1 + t.size + 1 := by omega
        clear plain htt htd hcl hkx
        subst hk2
        go_enter Tryd.func23, Tryd.ntmps23
        go_wp2
        go_ret
        rw [HQ.out]
        exact ⟨rfl, (Kept.refl [] w).alloc _⟩
      · have h34i : ¬ ((c.toNat : Nat) : Int) = 34 := fun e => h34 (UInt8.toNat_inj.1 (by show c.toNat = 34; omega))
        have HQ := plain (fun q => by rw [hp, hcl] at q; exact h34 (Option.some.inj q.2))
        clear plain htt htd hcl hkx
        subst hk2
        go_enter Tryd.func23, Tryd.ntmps23
        go_wp2
        go_ret
        rw [HQ.out]
        exact ⟨rfl, (Kept.refl [] w).alloc _⟩
    · have hpi : ¬ (p : Int) < (s.size : Int) := by omega
      have HQ := plain (fun q => by rw [hp, List.getElem?_eq_none (by rw [← Lib.size_eq]; omega)] at q; cases q.2)
      clear plain htt htd hkx
      subst hk2
      go_enter Tryd.func23, Tryd.ntmps23
      go_wp2
      go_ret
      rw [HQ.out]
      exact ⟨rfl, (Kept.refl [] w).alloc _⟩
  · have hki : ¬ (k : Int) = 2 := by omega
    have HQ := plain (fun q => hk2 (by rw [← hk, q.1]; rfl))
    clear plain htt htd
    go_enter Tryd.func23, Tryd.ntmps23
    go_wp2
    go_ret
    rw [HQ.out]
    exact ⟨rfl, (Kept.refl [] w).alloc _⟩
end Go.Proofs.YtilgfnafkcjdgaaDoor
