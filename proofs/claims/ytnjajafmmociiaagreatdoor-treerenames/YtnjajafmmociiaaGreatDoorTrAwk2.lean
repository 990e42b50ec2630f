/- The calls at the chapter's example. -/
import Derived.Test.YtnjajafmmociiaaGreatDoorTrAwk
namespace Go.Proofs.YtnjajafmmociiaaGreatDoor
open Go.RowKit Go.Shelf

/-- Where the example lies, and what the calls lean on. -/
structure AwAt (b : Nat) (W : World) : Prop where
  at_ : IsF W exT (.slice (some ⟨b, 0, none⟩) 2 2)
  tab : KidsTab W
  num : NumAt W
theorem AwAt.kept {b : Nat} {W W' : World} (h : AwAt b W) (k : Kept [] W W') : AwAt b W' := ⟨h.at_.kept k, h.tab.kept k, h.num.kept k⟩
theorem ex_small : exT.size ≤ 1099511627776 := by rw [ex_size]; omega
theorem ex_low : exT.depth ≤ 1099511627776 := by rw [ex_depth]; omega

theorem awSubs (b : Nat) (W : World) (h : AwAt b W) : Calls Tryz.prog 22 #[.agg #[.int .u8 12, .string ⟨#[]⟩, .slice (some ⟨b, 0, none⟩) 2 2]] W fun e w' => ∃ G, e = .returned (.slice (some ⟨G, 0, none⟩) 5 5) ∧ Kept [] W w' :=
  (subs_any exT _ W h.at_ ex_small ex_fine).mono fun e w' ⟨G, us, he, _, _, hl, _, hk⟩ => ⟨G, by rw [he, hl, ex_subs], hk⟩
theorem awNames (b : Nat) (W : World) (h : AwAt b W) : Calls Tryz.prog 23 #[.agg #[.int .u8 12, .string ⟨#[]⟩, .slice (some ⟨b, 0, none⟩) 2 2]] W fun e w' => ∃ g cap, e = .returned (.slice (some ⟨g, 0, none⟩) 2 cap) ∧ w'.cell? ⟨g, 1, none⟩ = some (.string ⟨#[113]⟩) ∧ Kept [] W w' := by
  refine (names_any exT _ W h.at_ ex_small ex_fine).mono ?_
  rintro e w' ⟨v, rfl, hrow, hk⟩
  rw [ex_names] at hrow
  obtain ⟨ad, cap, rfl⟩ := own_slice hrow
  obtain ⟨g, rfl⟩ : ∃ g, ad = some ⟨g, 0, none⟩ := by
    rcases hrow.2 with ⟨e, e0⟩ | ⟨g', cap', cur, e, _⟩
    · simp at e0
    · cases e; exact ⟨g', rfl⟩
  exact ⟨g, cap, rfl, (hrow.cellAt 1 (by simp)).trans rfl, hk⟩
theorem awAt1 (b : Nat) (W : World) (h : AwAt b W) : Calls Tryz.prog 24 #[.agg #[.int .u8 12, .string ⟨#[]⟩, .slice (some ⟨b, 0, none⟩) 2 2], .string ⟨#[49, 46, 49]⟩] W fun e w' => ∃ kad kcap, e = .returned (.tuple #[.agg #[.int .u8 9, .string ⟨#[]⟩, .slice kad 1 kcap], .int .i64 0]) ∧ Kept [] W w' := by
  have := at_any exT _ ⟨#[49, 46, 49]⟩ W h.at_ ex_small ex_fine (by decide) h.num
  rw [show atT exT (⟨#[49, 46, 49]⟩ : ByteArray).data.toList = some nextT from ex_at1] at this
  refine Calls.mono this ?_
  rintro e w' ⟨kad, kcap, rfl, _, hk⟩
  exact ⟨kad, kcap, rfl, hk⟩
theorem awAt2 (b : Nat) (W : World) (h : AwAt b W) : Calls Tryz.prog 24 #[.agg #[.int .u8 12, .string ⟨#[]⟩, .slice (some ⟨b, 0, none⟩) 2 2], .string ⟨#[49, 46]⟩] W fun e w' => e = .returned (.tuple #[.agg #[.int .u8 0, .string ⟨#[]⟩, .slice none 0 0], .int .i64 32]) ∧ Kept [] W w' := by
  have := at_any exT _ ⟨#[49, 46]⟩ W h.at_ ex_small ex_fine (by decide) h.num
  rw [show atT exT (⟨#[49, 46]⟩ : ByteArray).data.toList = none from ex_at2] at this
  exact this
theorem strs2 {W : World} {g : Nat} {x y : ByteArray} {t : TypeId} (h : W.heap[g]? = some (.cells #[.string x, .string y] t (0, 0))) : StrsAt W [x, y] (.slice (some ⟨g, 0, none⟩) 2 2) := by
  refine ⟨_, _, rfl, .inr ⟨g, 0, rfl, fun i hi => ?_⟩⟩
  have hi' : i < 2 := hi
  match i, hi' with
  | 0, _ => exact (cell_of h 0).trans rfl
  | 1, _ => exact (cell_of h 1).trans rfl
theorem pq_short : ∀ x ∈ [bP, bQ], x.size ≤ maxLen := fun x hx => by
  rcases List.mem_cons.1 hx with rfl | hx
  · decide
  · obtain rfl := List.mem_singleton.1 hx; decide
theorem qp_short : ∀ x ∈ [bQ, bP], x.size ≤ maxLen := fun x hx => by
  rcases List.mem_cons.1 hx with rfl | hx
  · decide
  · obtain rfl := List.mem_singleton.1 hx; decide
theorem awRen (b : Nat) (W : World) (h : AwAt b W) (f g : Nat) (t : TypeId) (hf : W.heap[f]? = some (.cells #[.string ⟨#[112]⟩, .string ⟨#[113]⟩] t (0, 0))) (hg : W.heap[g]? = some (.cells #[.string ⟨#[113]⟩, .string ⟨#[112]⟩] t (0, 0))) :
    Calls Tryz.prog 18 #[.agg #[.int .u8 12, .string ⟨#[]⟩, .slice (some ⟨b, 0, none⟩) 2 2], .slice (some ⟨f, 0, none⟩) 2 2, .slice (some ⟨g, 0, none⟩) 2 2] W fun e w' => ∃ kb off kcap, e = .returned (.tuple #[.agg #[.int .u8 12, .string ⟨#[]⟩, .slice (some ⟨kb, off, none⟩) 2 kcap], .int .i64 0]) ∧ w'.cell? ⟨kb, off + 1, none⟩ = some (.string ⟨#[113]⟩) ∧ Kept [] W w' := by
  refine (rename_any exT _ [bP, bQ] [bQ, bP] _ _ W h.at_ ex_small ex_fine h.tab (strs2 hf) (strs2 hg) (by simp) pq_short qp_short).mono ?_
  rintro e w' ⟨kad, kcap, rfl, hI, hk⟩
  rw [ex_renT] at hI
  rw [ex_renE, ex_renT]
  obtain ⟨kb, off, rfl, _, hkid⟩ := hI.kid (show 0 < renX.kids.length by decide)
  obtain ⟨_, _, c1, _⟩ := hkid 0 (by decide)
  exact ⟨kb, off, kcap, rfl, c1, hk⟩
theorem exNot (w W : World) (k : Kept [] w W) : Calls Tryz.prog 25 #[.int .u8 4, .agg #[.int .u8 3, .string ⟨#[113]⟩, .slice none 0 0]] W fun e w' => ∃ b, e = .returned (.agg #[.int .u8 4, .string ⟨#[]⟩, .slice (some ⟨b, 0, none⟩) 1 1]) ∧ IsF w' notT (.slice (some ⟨b, 0, none⟩) 1 1) ∧ Kept [] w w' :=
  (lawOne_any 0 4 (leafT bQ) _ W (leaf_at _ W bQ) (Nat.zero_le _)).mono fun _ _ ⟨b, h1, h2, h3⟩ => ⟨b, h1, h2.isF, k.trans h3 (by simp) (by simp)⟩
theorem exYest (w W : World) (k : Kept [] w W) : Calls Tryz.prog 25 #[.int .u8 16, .agg #[.int .u8 3, .string ⟨#[112]⟩, .slice none 0 0]] W fun e w' => ∃ b, e = .returned (.agg #[.int .u8 16, .string ⟨#[]⟩, .slice (some ⟨b, 0, none⟩) 1 1]) ∧ IsF w' yestT (.slice (some ⟨b, 0, none⟩) 1 1) ∧ Kept [] w w' :=
  (lawOne_any 0 16 (leafT bP) _ W (leaf_at _ W bP) (Nat.zero_le _)).mono fun _ _ ⟨b, h1, h2, h3⟩ => ⟨b, h1, h2.isF, k.trans h3 (by simp) (by simp)⟩
theorem awPut (b : Nat) (W : World) (h : AwAt b W) (c : Nat) (hc : IsF W notT (.slice (some ⟨c, 0, none⟩) 1 1)) :
    Calls Tryz.prog 9 #[.agg #[.int .u8 12, .string ⟨#[]⟩, .slice (some ⟨b, 0, none⟩) 2 2], .string ⟨#[112]⟩, .agg #[.int .u8 4, .string ⟨#[]⟩, .slice (some ⟨c, 0, none⟩) 1 1]] W fun e w' => ∃ kad kcap, e = .returned (.tuple #[.agg #[.int .u8 12, .string ⟨#[]⟩, .slice kad 2 kcap], .int .i64 0]) ∧ IsT (fun k => W.heap.size ≤ k) w' putX (.slice kad 2 kcap) ∧ Kept [] W w' := by
  refine (put_any exT _ bP notT _ W h.at_ hc ex_small (by rw [not_size]; omega) (by rw [not_depth]; omega) ex_low ex_fine not_fine (by decide) h.tab).mono ?_
  rintro e w' ⟨kad, kcap, rfl, hI, hk⟩
  rw [ex_putT] at hI
  rw [ex_putE, ex_putT]
  exact ⟨kad, kcap, rfl, hI, hk⟩
theorem awRight (W : World) (hT : KidsTab W) (c : Nat) (hc : IsF W yestT (.slice (some ⟨c, 0, none⟩) 1 1)) :
    Calls Tryz.prog 27 #[.agg #[.int .u8 16, .string ⟨#[]⟩, .slice (some ⟨c, 0, none⟩) 1 1]] W fun e w' => e = .returned (.int .i64 30) ∧ Kept [] W w' :=
  (right_any yestT _ W hc (by rw [yest_size]; omega) (by rw [yest_depth]; omega) yest_fine hT).mono fun e w' ⟨he, hk⟩ => ⟨by rw [he, yest_right]; rfl, hk⟩
theorem awPast (W : World) (hT : KidsTab W) (c : Nat) (hc : IsF W yestT (.slice (some ⟨c, 0, none⟩) 1 1)) :
    Calls Tryz.prog 28 #[.agg #[.int .u8 16, .string ⟨#[]⟩, .slice (some ⟨c, 0, none⟩) 1 1]] W fun e w' => e = .returned (.int .i64 0) ∧ Kept [] W w' :=
  (rightPast_any yestT _ W hc (by rw [yest_size]; omega) (by rw [yest_depth]; omega) yest_fine hT).mono fun e w' ⟨he, hk⟩ => ⟨by rw [he, yest_past]; rfl, hk⟩
theorem awSize (b : Nat) (W : World) (h : AwAt b W) : Calls Tryz.prog 29 #[.agg #[.int .u8 12, .string ⟨#[]⟩, .slice (some ⟨b, 0, none⟩) 2 2]] W fun e w' => e = .returned (.int .i64 6) ∧ Kept [] W w' :=
  (size_any exT _ W h.at_ ex_small).mono fun e w' ⟨he, hk⟩ => ⟨by rw [he, ex_size]; rfl, hk⟩
theorem awDepth (b : Nat) (W : World) (h : AwAt b W) : Calls Tryz.prog 30 #[.agg #[.int .u8 12, .string ⟨#[]⟩, .slice (some ⟨b, 0, none⟩) 2 2]] W fun e w' => e = .returned (.int .i64 4) ∧ Kept [] W w' :=
  (depth_any exT _ W h.at_ ex_small ex_low).mono fun e w' ⟨he, hk⟩ => ⟨by rw [he, ex_depth]; rfl, hk⟩
theorem awSize8 (W : World) (kad : Option Addr) (kcap : Nat) (h : IsF W putX (.slice kad 2 kcap)) : Calls Tryz.prog 29 #[.agg #[.int .u8 12, .string ⟨#[]⟩, .slice kad 2 kcap]] W fun e w' => e = .returned (.int .i64 8) ∧ Kept [] W w' :=
  (size_any putX _ W h (by rw [put_size]; omega)).mono fun e w' ⟨he, hk⟩ => ⟨by rw [he, put_size]; rfl, hk⟩
end Go.Proofs.YtnjajafmmociiaaGreatDoor
