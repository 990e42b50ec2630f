/- The chapter's example, as the laws begin with it: awake. -/
import Derived.Test.YtondmjnagkldpaaDoorEvAwk0
import Derived.Deep.CutRange
namespace Go.Proofs.YtondmjnagkldpaaDoor
open Go.RowKit Go.Shelf Go.Maps

/-- What stands behind the first lines. -/
structure AwkAt (w V : World) (fb b : Nat) : Prop where
  kept : Kept [] w V
  names : Strs V (.slice (some ⟨w.heap.size + 1 + 1 + 1, 0, none⟩) 2 2) exNames
  word : IsW V (.slice (some ⟨w.heap.size, 0, none⟩) 2 2) (.slice (some ⟨w.heap.size + 1, 0, none⟩) 2 2) exWord
  wb : Wd2 V (w.heap.size + 1 + 1) (.slice (some ⟨w.heap.size, 0, none⟩) 2 2) (.slice (some ⟨w.heap.size + 1, 0, none⟩) 2 2)
  fb : For3 V fb (.int .u8 12) (.string ⟨#[]⟩) (.slice (some ⟨b, 0, none⟩) 2 2)
  f : IsF V tF (.slice (some ⟨b, 0, none⟩) 2 2)
theorem AwkAt.keep {w V W : World} {fb b : Nat} (h : AwkAt w V fb b) (k : Kept [] V W) : AwkAt w W fb b := ⟨h.kept.trans k (by simp) (by simp), h.names.kept k, h.word.kept k, h.wb.kept k, h.fb.kept k, h.f.kept k⟩
theorem awk_base (w : World) : Strs ((((w.alloc (.cells #[.int .u16 1, .int .u16 1] 45)).alloc (.cells #[.int .u16 2, .int .u16 0] 45)).alloc (.cells #[.slice (some ⟨w.heap.size, 0, none⟩) 2 2, .slice (some ⟨w.heap.size + 1, 0, none⟩) 2 2] 30)).alloc (.cells #[.string ⟨#[112]⟩, .string ⟨#[113]⟩] 9)) (.slice (some ⟨w.heap.size + 1 + 1 + 1, 0, none⟩) 2 2) exNames
    ∧ IsW ((((w.alloc (.cells #[.int .u16 1, .int .u16 1] 45)).alloc (.cells #[.int .u16 2, .int .u16 0] 45)).alloc (.cells #[.slice (some ⟨w.heap.size, 0, none⟩) 2 2, .slice (some ⟨w.heap.size + 1, 0, none⟩) 2 2] 30)).alloc (.cells #[.string ⟨#[112]⟩, .string ⟨#[113]⟩] 9)) (.slice (some ⟨w.heap.size, 0, none⟩) 2 2) (.slice (some ⟨w.heap.size + 1, 0, none⟩) 2 2) exWord
    ∧ Wd2 ((((w.alloc (.cells #[.int .u16 1, .int .u16 1] 45)).alloc (.cells #[.int .u16 2, .int .u16 0] 45)).alloc (.cells #[.slice (some ⟨w.heap.size, 0, none⟩) 2 2, .slice (some ⟨w.heap.size + 1, 0, none⟩) 2 2] 30)).alloc (.cells #[.string ⟨#[112]⟩, .string ⟨#[113]⟩] 9)) (w.heap.size + 1 + 1) (.slice (some ⟨w.heap.size, 0, none⟩) 2 2) (.slice (some ⟨w.heap.size + 1, 0, none⟩) 2 2) := by
  refine ⟨⟨by decide, fun x hx => ?_, .inr ⟨_, 0, 2, rfl, by decide, by decide, fun i hi => ?_⟩⟩, ⟨⟨by decide, by decide, .inr ⟨_, 0, 2, rfl, by decide, by decide, fun i hi => ?_⟩⟩, ⟨by decide, by decide, .inr ⟨_, 0, 2, rfl, by decide, by decide, fun i hi => ?_⟩⟩, by decide⟩, alUp (al2 _ _ _ _) _⟩
  · rcases List.mem_cons.1 hx with e | hx
    · rw [e]; exact max_small (by decide)
    · rw [List.mem_singleton.1 hx]; exact max_small (by decide)
  · have hi' : i < 2 := hi
    match i, hi' with
    | 0, _ => exact (cell_of (al3 _ _ _ _ _) 0).trans rfl
    | 1, _ => exact (cell_of (al3 _ _ _ _ _) 1).trans rfl
  · have hi' : i < 2 := hi
    match i, hi' with
    | 0, _ => exact (cell_of (alUp (alUp (alUp (al0 _ _) _) _) _) 0).trans rfl
    | 1, _ => exact (cell_of (alUp (alUp (alUp (al0 _ _) _) _) _) 1).trans rfl
  · have hi' : i < 2 := hi
    match i, hi' with
    | 0, _ => exact (cell_of (alUp (alUp (al1 _ _ _) _) _) 0).trans rfl
    | 1, _ => exact (cell_of (alUp (alUp (al1 _ _ _) _) _) 1).trans rfl

set_option maxHeartbeats 4000000 in
set_option maxRecDepth 20000 in
theorem awake_any (w : World) (hT : KidsTab w) : Calls Tryd.prog 7 #[] w fun e w' => e = .returned (.bool true) ∧ Kept [] w w' := by
  have HT : Hid (KidsTab w) := hT
  have HP : Hid (∀ (s : ByteArray) (W : World), Calls Tryd.prog 17 #[.string s] W fun e w' => e = .returned (.agg #[.int .u8 3, .string s, .slice none 0 0]) ∧ Kept [] W w') := fun s W => lawProp_any s W
  have H2 : Hid (∀ W, Calls Tryd.prog 11 #[.int .u8 12, .agg #[.int .u8 3, .string ⟨#[112]⟩, .slice none 0 0], .agg #[.int .u8 3, .string ⟨#[113]⟩, .slice none 0 0]] W fun e w' => ∃ b, e = .returned (.agg #[.int .u8 12, .string ⟨#[]⟩, .slice (some ⟨b, 0, none⟩) 2 2]) ∧ IsF w' tF (.slice (some ⟨b, 0, none⟩) 2 2) ∧ Kept [] W w') := fun W =>
    (lawTwo_any 0 12 tP tQ (.slice none 0 0) (.slice none 0 0) W (IsT.leaf _ W rfl none 0) (IsT.leaf _ W rfl none 0) (Nat.zero_le _)).mono (fun e w' ⟨b, h1, h2, h3⟩ => ⟨b, h1, IsN.isF h2, h3⟩)
  have H10 : Hid (∀ W, Calls Tryd.prog 10 #[.int .u8 10, .agg #[.int .u8 3, .string ⟨#[113]⟩, .slice none 0 0]] W fun e w' => ∃ b, e = .returned (.agg #[.int .u8 10, .string ⟨#[]⟩, .slice (some ⟨b, 0, none⟩) 1 1]) ∧ IsN 0 w' tE (.slice (some ⟨b, 0, none⟩) 1 1) ∧ Kept [] W w') := fun W => lawOne_any 0 10 tQ (.slice none 0 0) W (IsT.leaf _ W rfl none 0) (Nat.zero_le _)
  have H11 : Hid (∀ W b, IsN 0 W tE (.slice (some ⟨b, 0, none⟩) 1 1) → Calls Tryd.prog 10 #[.int .u8 11, .agg #[.int .u8 10, .string ⟨#[]⟩, .slice (some ⟨b, 0, none⟩) 1 1]] W fun e w' => ∃ b, e = .returned (.agg #[.int .u8 11, .string ⟨#[]⟩, .slice (some ⟨b, 0, none⟩) 1 1]) ∧ IsN 0 w' tA (.slice (some ⟨b, 0, none⟩) 1 1) ∧ Kept [] W w') := fun W b h => lawOne_any 0 11 tE (.slice (some ⟨b, 0, none⟩) 1 1) W h (Nat.zero_le _)
  have H4 : Hid (∀ W n, n ≤ W.heap.size → Calls Tryd.prog 10 #[.int .u8 4, .agg #[.int .u8 3, .string ⟨#[112]⟩, .slice none 0 0]] W fun e w' => ∃ b, e = .returned (.agg #[.int .u8 4, .string ⟨#[]⟩, .slice (some ⟨b, 0, none⟩) 1 1]) ∧ IsN n w' tN (.slice (some ⟨b, 0, none⟩) 1 1) ∧ Kept [] W w') := fun W n h => lawOne_any n 4 tP (.slice none 0 0) W (IsT.leaf _ W rfl none 0) h
  have H13 : Hid (∀ W n b, n ≤ W.heap.size → IsN n W tN (.slice (some ⟨b, 0, none⟩) 1 1) → Calls Tryd.prog 11 #[.int .u8 13, .agg #[.int .u8 3, .string ⟨#[113]⟩, .slice none 0 0], .agg #[.int .u8 4, .string ⟨#[]⟩, .slice (some ⟨b, 0, none⟩) 1 1]] W fun e w' => ∃ b, e = .returned (.agg #[.int .u8 13, .string ⟨#[]⟩, .slice (some ⟨b, 0, none⟩) 2 2]) ∧ IsN n w' tM (.slice (some ⟨b, 0, none⟩) 2 2) ∧ Kept [] W w') := fun W n b h hI => lawTwo_any n 13 tQ tN (.slice none 0 0) (.slice (some ⟨b, 0, none⟩) 1 1) W (IsT.leaf _ W rfl none 0) hI h
  obtain ⟨VV, hVV⟩ : ∃ VV, (((w.alloc (.cells #[.int .u16 1, .int .u16 1] 45)).alloc (.cells #[.int .u16 2, .int .u16 0] 45)).alloc (.cells #[.slice (some ⟨w.heap.size, 0, none⟩) 2 2, .slice (some ⟨w.heap.size + 1, 0, none⟩) 2 2] 30)).alloc (.cells #[.string ⟨#[112]⟩, .string ⟨#[113]⟩] 9) = VV := ⟨_, rfl⟩
  have kVV : Kept [] w VV := by rw [← hVV]; exact ((((Kept.refl [] w).alloc _).alloc _).alloc _).alloc _
  have hbase := awk_base w
  rw [hVV] at hbase
  have HBA : Hid _ := hbase
  have HKV : Hid (Kept [] w VV) := kVV
  have HVV : Hid (_ = VV) := hVV
  clear hT hVV hbase kVV
  go_enter Tryd.func7, Tryd.ntmps7
  go_upto_region 4 with (first
    | (go_at_call 17; refine (HP.out _ _).mono ?_; rintro e W ⟨rfl, k⟩; (try rw [HVV.out] at k); have HKK : Hid (Kept [] VV W) := (by first | exact k | exact HKK.out.trans k (by simp) (by simp)); clear k)
    | (go_at_call 11; refine (H2.out _).mono ?_; rintro e W2 ⟨b, rfl, hI, k⟩; have HI2 : Hid (IsF W2 tF (.slice (some ⟨b, 0, none⟩) 2 2)) := hI; have HK2 : Hid (Kept [] VV W2) := HKK.out.trans k (by simp) (by simp); clear hI k))
  obtain ⟨V, hV⟩ : ∃ V, W2.alloc (.cells #[.int .u8 12, .string ⟨#[]⟩, .slice (some ⟨b, 0, none⟩) 2 2] 26) = V := ⟨_, rfl⟩
  have hA : AwkAt w V W2.heap.size b := by
    rw [← hV]
    have k := HK2.out.alloc (.cells #[.int .u8 12, .string ⟨#[]⟩, .slice (some ⟨b, 0, none⟩) 2 2] 26)
    exact ⟨HKV.out.trans k (by simp) (by simp), HBA.out.1.kept k, HBA.out.2.1.kept k, HBA.out.2.2.kept k, al0 _ _, HI2.out.kept ((Kept.refl [] W2).alloc _)⟩
  rw [hV]
  obtain ⟨fb, hfb⟩ : ∃ fb, W2.heap.size = fb := ⟨_, rfl⟩
  rw [hfb] at hA ⊢
  have HA : Hid (AwkAt w V fb b) := hA
  obtain ⟨f0, f1, f2, _⟩ := hA.fb.cells
  obtain ⟨d0, d1, _, _⟩ := hA.wb.cells
  have HAL : Hid (∀ W, Kept [] V W → Calls Tryd.prog 13 #[.agg #[.int .u8 12, .string ⟨#[]⟩, .slice (some ⟨b, 0, none⟩) 2 2], .slice (some ⟨w.heap.size + 1 + 1 + 1, 0, none⟩) 2 2, .agg #[.slice (some ⟨w.heap.size, 0, none⟩) 2 2, .slice (some ⟨w.heap.size + 1, 0, none⟩) 2 2]] W fun e w' => ∃ b, e = .returned (.tuple #[.slice (some ⟨b, 0, none⟩) 4 4, .int .i64 0]) ∧ (w'.cell? ⟨b, 0, none⟩ = some (.bool true) ∧ w'.cell? ⟨b, 1, none⟩ = some (.bool true) ∧ w'.cell? ⟨b, 2, none⟩ = some (.bool true) ∧ w'.cell? ⟨b, 3, none⟩ = some (.bool false)) ∧ Kept [] W w') := fun W k => awk_along W _ _ _ _ (hA.keep k).f (hA.keep k).names (hA.keep k).word (HT.out.kept (hA.keep k).kept)
  clear hA hV hfb HI2 HKK HK2 HBA HKV HVV H2
  go_upto_region 5 with (go_at_call 13; refine (HAL.out _ (Kept.refl [] V)).mono ?_; rintro e V4 ⟨b4, rfl, hr4, k4⟩; have HR4 : Hid _ := hr4; have HK4 : Hid (Kept [] V V4) := k4; clear hr4 k4)
  have HA4 : Hid (AwkAt w V4 fb b) := HA.out.keep HK4.out
  clear HAL f0 f1 f2 d0 d1
  go_cut [6, 7] from 30 to 38 (fun s6 s7 wc => s6 = .bool true ∧ s7 = .int .i64 0 ∧ Hid (Kept [] V4 wc))
  case first =>
    have hS : ∀ W, Kept [] V4 W → (W.cell? ⟨w.heap.size + 1 + 1, 0, none⟩ = some (.slice (some ⟨w.heap.size, 0, none⟩) 2 2) ∧ W.cell? ⟨w.heap.size + 1 + 1, 1, none⟩ = some (.slice (some ⟨w.heap.size + 1, 0, none⟩) 2 2)) := fun W k => ⟨(HA4.out.keep k).wb.cells.1, (HA4.out.keep k).wb.cells.2.1⟩
    have HS : Hid _ := hS
    obtain ⟨e0, e1⟩ := hS V4 (Kept.refl [] V4)
    have HHO : Hid (∀ W b', Kept [] V4 W → IsN 0 W tA (.slice (some ⟨b', 0, none⟩) 1 1) → Calls Tryd.prog 14 #[.agg #[.int .u8 11, .string ⟨#[]⟩, .slice (some ⟨b', 0, none⟩) 1 1], .slice (some ⟨w.heap.size + 1 + 1 + 1, 0, none⟩) 2 2, .agg #[.slice (some ⟨w.heap.size, 0, none⟩) 2 2, .slice (some ⟨w.heap.size + 1, 0, none⟩) 2 2]] W fun e w' => e = .returned (.tuple #[.bool true, .int .i64 0]) ∧ Kept [] W w') := fun W b' k hI => awk_holds W _ _ _ _ (IsN.isF hI) (HA4.out.keep k).names (HA4.out.keep k).word (HT.out.kept (HA4.out.keep k).kept)
    clear hS
    go_region_held3 (fun w' => w'.cell? ⟨w.heap.size + 1 + 1, 0, none⟩ = some (.slice (some ⟨w.heap.size, 0, none⟩) 2 2) ∧ w'.cell? ⟨w.heap.size + 1 + 1, 1, none⟩ = some (.slice (some ⟨w.heap.size + 1, 0, none⟩) 2 2))
      ((refine HS.out _ ?_; (first | exact Kept.refl [] _ | exact (Kept.refl [] _).drew | exact HKH.out | exact HKB.out | exact HKA.out | exact HKP.out)))
      (first
      | (go_at_call 17; refine (HP.out _ _).mono ?_; rintro e WP ⟨rfl, k⟩; have HKP : Hid (Kept [] V4 WP) := Kept.trans (F := []) (G := []) (H := []) (by first | exact Kept.refl [] _ | exact (Kept.refl [] _).drew) k (by simp) (by simp); clear k)
      | (go_at_call 10; (with_reducible show Calls _ _ #[.int .u8 10, _] _ _); refine (H10.out _).mono ?_; rintro e WA ⟨ba, rfl, hI, k⟩; have HKA : Hid (Kept [] V4 WA) := HKP.out.trans k (by simp) (by simp); have HIA : Hid (IsN 0 WA tE (.slice (some ⟨ba, 0, none⟩) 1 1)) := hI; clear hI k)
      | (go_at_call 10; (with_reducible show Calls _ _ #[.int .u8 11, _] _ _); refine (H11.out _ _ HIA.out).mono ?_; rintro e WB ⟨bb, rfl, hI, k⟩; have HKB : Hid (Kept [] V4 WB) := HKA.out.trans k (by simp) (by simp); have HIB : Hid (IsN 0 WB tA (.slice (some ⟨bb, 0, none⟩) 1 1)) := hI; clear hI k)
      | (go_at_call 14; refine (HHO.out _ _ HKB.out HIB.out).mono ?_; rintro e WH ⟨rfl, k⟩; have HKH : Hid (Kept [] V4 WH) := HKB.out.trans k (by simp) (by simp); clear k))
    all_goals (go_wp2_with fail; go_meet)
    all_goals exact ⟨rfl, rfl, HKH.out⟩
  case rest =>
    obtain ⟨rfl, rfl, HC5⟩ := hcut
    have HA5 : Hid (AwkAt w wc fb b) := HA4.out.keep HC5.out
    have HK5 : Hid (Kept [] V4 wc) := HC5.out
    clear HC5 H10 H11
    rename World => V5
    go_wp2
    go_cut [8, 9] from 39 to 45 (fun s8 s9 wd => s8 = .bool false ∧ s9 = .int .i64 60 ∧ Hid (Kept [] V5 wd))
    case first =>
      have hS : ∀ W, Kept [] V5 W → (W.cell? ⟨w.heap.size + 1 + 1, 0, none⟩ = some (.slice (some ⟨w.heap.size, 0, none⟩) 2 2) ∧ W.cell? ⟨w.heap.size + 1 + 1, 1, none⟩ = some (.slice (some ⟨w.heap.size + 1, 0, none⟩) 2 2)) := fun W k => ⟨(HA5.out.keep k).wb.cells.1, (HA5.out.keep k).wb.cells.2.1⟩
      have HS : Hid _ := hS
      obtain ⟨e0, e1⟩ := hS V5 (Kept.refl [] V5)
      have HHO : Hid (∀ W, Kept [] V5 W → Calls Tryd.prog 14 #[.agg #[.int .u8 3, .string ⟨#[114]⟩, .slice none 0 0], .slice (some ⟨w.heap.size + 1 + 1 + 1, 0, none⟩) 2 2, .agg #[.slice (some ⟨w.heap.size, 0, none⟩) 2 2, .slice (some ⟨w.heap.size + 1, 0, none⟩) 2 2]] W fun e w' => e = .returned (.tuple #[.bool false, .int .i64 60]) ∧ Kept [] W w') := fun W k => awk_lacks W _ _ _ (HA5.out.keep k).names (HA5.out.keep k).word (HT.out.kept (HA5.out.keep k).kept)
      clear hS
      go_region_held3 (fun w' => w'.cell? ⟨w.heap.size + 1 + 1, 0, none⟩ = some (.slice (some ⟨w.heap.size, 0, none⟩) 2 2) ∧ w'.cell? ⟨w.heap.size + 1 + 1, 1, none⟩ = some (.slice (some ⟨w.heap.size + 1, 0, none⟩) 2 2))
        ((refine HS.out _ ?_; (first | exact Kept.refl [] _ | exact (Kept.refl [] _).drew | exact HKH.out | exact HKP.out)))
        (first
        | (go_at_call 17; refine (HP.out _ _).mono ?_; rintro e WP ⟨rfl, k⟩; have HKP : Hid (Kept [] V5 WP) := Kept.trans (F := []) (G := []) (H := []) (by first | exact Kept.refl [] _ | exact (Kept.refl [] _).drew) k (by simp) (by simp); clear k)
        | (go_at_call 14; refine (HHO.out _ HKP.out).mono ?_; rintro e WH ⟨rfl, k⟩; have HKH : Hid (Kept [] V5 WH) := HKP.out.trans k (by simp) (by simp); clear k))
      all_goals (go_wp2_with fail; go_meet)
      all_goals exact ⟨rfl, rfl, HKH.out⟩
    case rest =>
      obtain ⟨rfl, rfl, HC6⟩ := hcut
      have HA6 : Hid (AwkAt w wc fb b) := HA5.out.keep HC6.out
      have HK6 : Hid (Kept [] V4 wc) := HK5.out.trans HC6.out (by simp) (by simp)
      rename World => V6
      obtain ⟨d0, d1, _, _⟩ := HA6.out.wb.cells
      have HNE : Hid (Calls Tryd.prog 18 #[.slice (some ⟨w.heap.size + 1 + 1 + 1, 0, none⟩) 2 2, .agg #[.slice (some ⟨w.heap.size, 0, none⟩) 2 2, .slice (some ⟨w.heap.size + 1, 0, none⟩) 2 2]] V6 (NewPost V6 exWord exNames)) := awk_new V6 _ _ _ HA6.out.names HA6.out.word (HT.out.kept HA6.out.kept)
      have HAT : Hid (∀ (W w₁ : World) (n p m : Nat) (kv nv sv lv : Value), Kept [] w W → IsN n W tM kv → p < n → m < n → TabIs w₁ W p m nv sv lv (.slice none 0 0) exWord exNames [] → Calls Tryd.prog 19 #[.pointer (some ⟨p, 0, none⟩), .agg #[.int .u8 13, .string ⟨#[]⟩, kv], .int .i64 2] W fun e w' => ∃ rv' known', e = .returned (.tuple #[.bool true, .int .i64 0]) ∧ TabIs w₁ w' p m nv sv lv rv' exWord exNames known' ∧ Kept [p, m] W w') := fun W w₁ n p m kv nv sv lv k h1 h2 h3 h4 => awk_at W w₁ n p m kv nv sv lv h1 h2 h3 h4 (HT.out.kept k)
      have HAG : Hid (∀ (W w₁ : World) (p m : Nat) (nv sv lv rv : Value) (known : List Tr), Kept [] V6 W → TabIs w₁ W p m nv sv lv rv exWord exNames known → Calls Tryd.prog 19 #[.pointer (some ⟨p, 0, none⟩), .agg #[.int .u8 12, .string ⟨#[]⟩, .slice (some ⟨b, 0, none⟩) 2 2], .int .i64 4] W fun e w' => e = .returned (.tuple #[.bool false, .int .i64 1]) ∧ Kept [] W w') := fun W w₁ p m nv sv lv rv known k h => awk_arg W w₁ p m _ nv sv lv rv known (HA6.out.keep k).f h (HT.out.kept (HA6.out.keep k).kept)
      have HW6 : Hid (Kept [] w V6) := HA6.out.kept
      have HR6 : Hid (V6.cell? ⟨b4, 0, none⟩ = some (.bool true) ∧ V6.cell? ⟨b4, 1, none⟩ = some (.bool true) ∧ V6.cell? ⟨b4, 2, none⟩ = some (.bool true) ∧ V6.cell? ⟨b4, 3, none⟩ = some (.bool false)) := ⟨cell_kept0 HK6.out HR4.out.1, cell_kept0 HK6.out HR4.out.2.1, cell_kept0 HK6.out HR4.out.2.2.1, cell_kept0 HK6.out HR4.out.2.2.2⟩
      clear HC6 HK5 HK6 HR4 HA5 HA4 HK4 HA
      go_wp2_with (first
        | (go_at_call 18; refine HNE.out.mono ?_; rintro e V7 ⟨p, m, nv, su, lu, w₁, rfl, hTb, k7, hm, h1⟩; have HTB : Hid (TabIs w₁ V7 p m nv su lu (.slice none 0 0) exWord exNames []) := hTb; have HK7 : Hid (Kept [] V6 V7) := k7; have HKC : Hid (Kept [] V7 V7) := Kept.refl [] V7; have HPP : Hid (V6.heap.size ≤ p ∧ V6.heap.size ≤ m) := ⟨Nat.le_trans h1 hTb.low, hm⟩; have HPL : Hid (p < V7.heap.size) := hTb.plt; have HML : Hid (m < V7.heap.size) := hTb.mlt; clear hTb k7 hm h1)
        | (go_at_call 17; refine (HP.out _ _).mono ?_; rintro e WP ⟨rfl, k⟩; have HKC : Hid (Kept [] V7 WP) := HKC.out.trans k (by simp) (by simp); clear k)
        | (go_at_call 10; refine (H4.out _ V7.heap.size HKC.out.size).mono ?_; rintro e WO ⟨bo, rfl, hI, k⟩; have HKC : Hid (Kept [] V7 WO) := HKC.out.trans k (by simp) (by simp); have HIO : Hid (IsN V7.heap.size WO tN (.slice (some ⟨bo, 0, none⟩) 1 1)) := hI; clear hI k)
        | (go_at_call 11; refine (H13.out _ V7.heap.size _ HKC.out.size HIO.out).mono ?_; rintro e WT ⟨bt, rfl, hI, k⟩; have HKC : Hid (Kept [] V7 WT) := HKC.out.trans k (by simp) (by simp); have HIT : Hid (IsN V7.heap.size WT tM (.slice (some ⟨bt, 0, none⟩) 2 2)) := hI; clear hI k)
        | (go_at_call 19; (with_reducible show Calls _ _ #[_, .agg #[.int .u8 13, _, _], _] _ _); refine (HAT.out _ w₁ V7.heap.size p m _ nv su lu ((HW6.out.trans HK7.out (H := []) (by simp) (by simp)).trans HKC.out (by simp) (by simp)) HIT.out HPL.out HML.out (HTB.out.keep0 HKC.out)).mono ?_; rintro e V8 ⟨rv8, kn8, rfl, ht8, k8⟩; have HT8 : Hid (TabIs w₁ V8 p m nv su lu rv8 exWord exNames kn8) := ht8; have HK8 : Hid (Kept [] V6 V8) := (HK7.out.trans HKC.out (H := []) (by simp) (by simp)).trans k8 (by simp) (fun x hx => .inr (by rcases List.mem_cons.1 hx with e | hx; exact (by rw [e]; exact HPP.out.1); rw [List.mem_singleton.1 hx]; exact HPP.out.2)); obtain ⟨g0, g1, g2, _⟩ := (HA6.out.keep HK8.out).fb.cells; clear ht8 k8)
        | (go_at_call 19; refine (HAG.out _ w₁ p m nv su lu rv8 kn8 HK8.out HT8.out).mono ?_; rintro e V9 ⟨rfl, k9⟩; have HT9 : Hid (TabIs w₁ V9 p m nv su lu rv8 exWord exNames kn8) := HT8.out.keep0 k9; have HK9 : Hid (Kept [] V6 V9) := HK8.out.trans k9 (by simp) (by simp); have r0 := cell_kept0 HK9.out HR6.out.1; have r1 := cell_kept0 HK9.out HR6.out.2.1; have r2 := cell_kept0 HK9.out HR6.out.2.2.1; have r3 := cell_kept0 HK9.out HR6.out.2.2.2; clear k9)
        | (go_at_call 20; refine (awk_places _ w₁ p m nv su lu rv8 kn8 HT9.out).mono ?_; rintro e V10 ⟨rfl, k10⟩; have HK10 : Hid (Kept [] V6 V10) := HK9.out.trans k10 (by simp) (by simp); clear k10))
      go_ret
      exact ⟨rfl, HW6.out.trans HK10.out (by simp) (by simp)⟩
end Go.Proofs.YtondmjnagkldpaaDoor
