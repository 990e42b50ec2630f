/- The chapter's example: the walk. -/
import Derived.Test.YtnljjbpbgjgnkaaGreatDoorTrEx2
namespace Go.Proofs.YtnljjbpbgjgnkaaGreatDoor
open Go.RowKit Go.Shelf

set_option maxHeartbeats 1000000 in
theorem example_any (w : World) : Calls Tryz.prog 15 #[] w fun e w' => ∃ b, e = .returned (.agg #[.int .u8 12, .string ⟨#[]⟩, .slice (some ⟨b, 0, none⟩) 2 2]) ∧ AtB w.heap.size w' exT b 2 ∧ Kept [] w w' := by
  obtain ⟨V, hV⟩ : ∃ V, w.alloc (.cells #[.int .u8 0, .string ⟨#[]⟩, .slice none 0 0] 25) = V := ⟨_, rfl⟩
  have HV : Hid _ := hV
  have HKV : Hid (Kept [] w V) := by show Kept [] w V; rw [← hV]; exact (Kept.refl [] w).alloc _
  have HF : Hid (For3 V w.heap.size (.int .u8 0) (.string ⟨#[]⟩) (.slice none 0 0)) := by show For3 V _ _ _ _; rw [← hV]; exact al0 _ _
  have HP : Hid _ := fun s W k => exProp s V W k
  have HN : Hid _ := fun W k => exNext V W k
  have HA : Hid _ := fun W c h k => exAnd V W c h k
  have HU : Hid _ := fun W c h k => exUntil V W c h k
  have HK : Hid (Kept [] V V) := Kept.refl [] V
  clear hV
  go_enter Tryz.func15, Tryz.ntmps15
  go_wp2_with (first
    | (go_at_call 20; (first | rw [HV.out] | skip); refine (HP.out _ _ HK.out).mono ?_; clear HK; rintro e W ⟨rfl, hk⟩; have HK : Hid (Kept [] V W) := hk; clear hk)
    | (go_at_call 19; refine (HN.out _ HK.out).mono ?_; clear HK; rintro e W ⟨b4, rfl, ha4, hk⟩; have HK : Hid (Kept [] V W) := hk; have HA4 : Hid (AtB V.heap.size W nextT b4 1) := ha4; clear hk ha4)
    | (go_at_call 40; refine (HA.out _ _ HA4.out HK.out).mono ?_; clear HK HA4; rintro e W ⟨b5, rfl, ha5, hk⟩; have HK : Hid (Kept [] V W) := hk; have HA5 : Hid (AtB V.heap.size W andT b5 2) := ha5; clear hk ha5)
    | (go_at_call 40; refine (HU.out _ _ HA5.out HK.out).mono ?_; clear HK HA5; rintro e W ⟨b6, rfl, ha6, hk⟩; obtain ⟨d0, d1, d2, df⟩ := (HF.out.kept hk).cells; have HK : Hid (Kept [] V W) := hk; have HA6 : Hid (AtB V.heap.size W exT b6 2) := ha6; clear hk ha6))
  have hz : V.heap.size = w.heap.size + 1 := by rw [← HV.out]; simp
  have hn : ¬ (V.heap.size ≤ w.heap.size) := by omega
  have hI : IsT (fun k => V.heap.size ≤ k) W exT (.slice (some ⟨b6, 0, none⟩) 2 2) := HA6.out
  exact ret_for rfl rfl rfl ((HF.out.kept HK.out).set _ _ _) ⟨b6, rfl, (((hI.other hn _ _).other hn _ _).other hn _ _).mono (fun k h => by omega), kept_set3 (HKV.out.trans HK.out (by simp) (by simp)) (Nat.le_refl _) _ _ _⟩
end Go.Proofs.YtnljjbpbgjgnkaaGreatDoor
