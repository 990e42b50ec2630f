/- TreeOrders: the walk. -/
import Derived.Test.YtdkcakfofikldaaGreatDoorTrAwk3
import Derived.Test.YtdkcakfofikldaaGreatDoorTrMuch
import Derived.Test.YtdkcakfofikldaaGreatDoorTrAlike
import Derived.Test.YtdkcakfofikldaaGreatDoorTrWhole
import Derived.Test.YtdkcakfofikldaaGreatDoorTrRefCmp
namespace Go.Proofs.YtdkcakfofikldaaGreatDoor
open Go.RowKit Go.Shelf

theorem isF_pair {W : World} {b : Nat} {t u : Tr} {kv lv : Value} (hb : W.heap[b]? = some (.cells #[.int .u8 (t.op : Nat), .string t.name, kv, .int .u8 (u.op : Nat), .string u.name, lv] 27 (0, 0))) (h : IsF W t kv) (k : IsF W u lv) : IsF W ⟨0, ⟨#[]⟩, [t, u]⟩ (.slice (some ⟨b, 0, none⟩) 2 2) := by
  refine (isT_eq (X := fun k => k < W.heap.size) ⟨0, ⟨#[]⟩, [t, u]⟩ _).2 ⟨_, _, rfl, .inr ⟨b, 0, rfl, lt_of hb, fun i hi => ?_⟩⟩
  have hi' : i < 2 := by simpa using hi
  match i, hi' with
  | 0, _ => exact ⟨kv, (cell_of hb 0).trans rfl, (cell_of hb 1).trans rfl, (cell_of hb 2).trans rfl, h⟩
  | 1, _ => exact ⟨lv, (cell_of hb 3).trans rfl, (cell_of hb 4).trans rfl, (cell_of hb 5).trans rfl, k⟩
/-- Cmp tells -1, 0 or 1. -/
def Unit3 (x : Int) : Prop := x = -1 ∨ x = 0 ∨ x = 1
theorem unitN (a b : Nat) : Unit3 (cmpN a b) := by
  unfold cmpN Unit3
  split
  · exact .inl rfl
  · split
    · exact .inr (.inr rfl)
    · exact .inr (.inl rfl)
theorem unitS (a b : ByteArray) : Unit3 (cmpS a b) := by
  unfold cmpS Unit3
  split
  · exact .inl rfl
  · split
    · exact .inr (.inl rfl)
    · exact .inr (.inr rfl)
theorem unitO {x y z : Int} (hx : Unit3 x) (hy : Unit3 y) (hz : Unit3 z) : Unit3 (or3 x y z) := by
  unfold or3
  split
  · exact hx
  · split
    · exact hy
    · exact hz
theorem unitR : ∀ (rs : List (Tr → Int)) (us : List Tr), (∀ r ∈ rs, ∀ u, Unit3 (r u)) → Unit3 (rowCmp rs us)
  | [], _, _ => .inr (.inl (by unfold rowCmp; rfl))
  | _ :: _, [], _ => .inr (.inl (by unfold rowCmp; rfl))
  | r :: rs, u :: us, h => by
    rw [rowCmp]
    split
    · exact unitR rs us (fun r hr => h r (by simp [hr]))
    · exact h r (by simp) u
theorem unitT (t : Tr) : ∀ u, Unit3 (cmpT t u) := by
  induction t using Tr.ind with
  | h t ih =>
    intro u
    rw [cmpT_eq]
    split
    · refine unitR _ _ fun r hr u => ?_
      obtain ⟨k, hk, rfl⟩ := List.mem_map.1 hr
      exact ih k hk u
    · exact unitO (unitN _ _) (unitS _ _) (unitN _ _)
theorem cmpT_neg (t u : Tr) : cmpT u t = -cmpT t u := by
  have h1 := preT.flip t u
  have h2 := preT.flip u t
  rcases unitT t u with a | a | a <;> rcases unitT u t with b | b | b <;> rw [a, b] at h1 h2 ⊢ <;> simp at h1 h2 ⊢

set_option maxHeartbeats 2000000 in
set_option maxRecDepth 20000 in
theorem treeOrders_walk (f g : Tr) (fv gv : Value) (w : World) (hF : IsF w f fv) (hG : IsF w g gv) (fF : f.Fine) (fG : g.Fine) (mF : f.Modest) (mG : g.Modest) (hT : KidsTab w) (hN : NumAt w) :
    Calls Tryz.prog 5 #[.agg #[.int .u8 (f.op : Nat), .string f.name, fv], .agg #[.int .u8 (g.op : Nat), .string g.name, gv]] w fun e w' => e = .returned (.bool true) ∧ Kept [] w w' := by
  obtain ⟨fad, fcap, rfl⟩ := hF.slice
  obtain ⟨gad, gcap, rfl⟩ := hG.slice
  obtain ⟨V, hV⟩ : ∃ V, (w.alloc (.cells #[.int .u8 (f.op : Nat), .string f.name, .slice fad f.kids.length fcap] 27)).alloc (.cells #[.int .u8 (g.op : Nat), .string g.name, .slice gad g.kids.length gcap] 27) = V := ⟨_, rfl⟩
  have kV : Kept [] w V := by rw [← hV]; exact ((Kept.refl [] w).alloc _).alloc _
  have HB0 : Hid (For3 V w.heap.size (.int .u8 (f.op : Nat)) (.string f.name) (.slice fad f.kids.length fcap)) := by show For3 V _ _ _ _; rw [← hV]; exact alUp (al0 _ _) _
  have HB1 : Hid (For3 V (w.heap.size + 1) (.int .u8 (g.op : Nat)) (.string g.name) (.slice gad g.kids.length gcap)) := by show For3 V _ _ _ _; rw [← hV]; exact al1 _ _ _
  have HIF : Hid (∀ W, Kept [] V W → IsF W f (.slice fad f.kids.length fcap)) := fun W k => (hF.kept kV).kept k
  have HIG : Hid (∀ W, Kept [] V W → IsF W g (.slice gad g.kids.length gcap)) := fun W k => (hG.kept kV).kept k
  have HAW : Hid _ := fun (_ : Unit) => awake_any V (hT.kept kV) (hN.kept kV)
  have HMU : Hid (∀ t ∈ [f, g], t.Modest) := fun t ht => by
    rcases List.mem_cons.1 ht with rfl | ht
    · exact mF
    · obtain rfl := List.mem_singleton.1 ht; exact mG
  have HKV : Hid (Kept [] w V) := kV
  have HV : Hid _ := hV
  have HFF : Hid (f.Fine) := fF
  clear hV kV hF hG hT hN fF fG mF mG
  go_enter Tryz.func5, Tryz.ntmps5
  go_upto_region 3 with (first
    | (go_at_call 9; rw [HV.out]; refine (HAW.out ()).mono ?_; rintro e W1 ⟨rfl, hk⟩; obtain ⟨a0, a1, a2⟩ := box_cells HB0.out hk; obtain ⟨b0, b1, b2⟩ := box_cells HB1.out hk; have HK : Hid (Kept [] V W1) := hk; clear hk)
    | (go_at_call 10; refine (much_any [f, g] _ _ (isF_pair (al0 _ _) (HIF.out _ (HK.out.alloc _)) (HIG.out _ (HK.out.alloc _))) HMU.out (by simp)).mono ?_; rintro e W2 ⟨n, rfl, hn, hk⟩; have HK2 : Hid (Kept [] V W2) := (HK.out.alloc _).trans hk (by simp) (by simp); have HN : Hid _ := hn; clear hk hn HK a0 a1 a2 b0 b1 b2))
  rcases Nat.lt_or_ge 1048576 n with hb | hb
  · go_wp2
    go_ret
    exact ⟨rfl, HKV.out.trans HK2.out (by simp) (by simp)⟩
  · have hsz := HN.out hb
    have hsf : f.size ≤ 1048576 := Nat.le_trans f.size_wsum (hsz f (by simp))
    have hsg : g.size ≤ 1048576 := Nat.le_trans g.size_wsum (hsz g (by simp))
    have HLF : Hid _ := fun W (k : Kept [] V W) => lent_any f _ W (HIF.out W k) (by omega)
    have HLG : Hid _ := fun W (k : Kept [] V W) => lent_any g _ W (HIG.out W k) (by omega)
    obtain ⟨a0, a1, a2⟩ := box_cells HB0.out HK2.out
    clear hsz HN HMU HAW HV
    go_upto_region 7 with (first
      | (go_at_call 11; refine (HLF.out _ HK2.out).mono ?_; rintro e W3 ⟨fb, rfl, hL3, hk⟩; have HK3 : Hid (Kept [] V W3) := HK2.out.trans hk (by simp) (by simp); have HL3 : Hid _ := fun (_ : Unit) => hL3; clear hk hL3 HLF HK2 a0 a1 a2; obtain ⟨b0, b1, b2⟩ := (HB1.out.kept HK3.out).up)
      | (go_at_call 11; refine (HLG.out _ (HK3.out.alloc _)).mono ?_; rintro e W4 ⟨gb, rfl, hL4, hk⟩; have HB3 : Hid (For3 W4 W3.heap.size (.int .u8 (f.op : Nat)) (.string f.name) (.slice (some ⟨fb, 0, none⟩) f.kids.length (f.kids.length + 1))) := For3.kept (For3.new _ _ _ _) hk; have HK34 : Hid (Kept [] W3 W4) := (kA _ _).trans hk (by simp) (by simp); have HL4 : Hid _ := fun (_ : Unit) => hL4; clear hk hL4 HLG b0 b1 b2))
    obtain ⟨U, hU⟩ : ∃ U, W4.alloc (.cells #[.int .u8 (g.op : Nat), .string g.name, .slice (some ⟨gb, 0, none⟩) g.kids.length (g.kids.length + 1)] 27) = U := ⟨_, rfl⟩
    have k4 : Kept [] W4 U := by rw [← hU]; exact kA _ _
    have k3 : Kept [] W3 U := HK34.out.trans k4 (by simp) (by simp)
    have kv : Kept [] V U := HK3.out.trans k3 (by simp) (by simp)
    have HC0 : Hid (∀ W, Kept [] U W → W.cell? ⟨w.heap.size, 0, none⟩ = some (.int .u8 (f.op : Nat)) ∧ W.cell? ⟨w.heap.size, 1, none⟩ = some (.string f.name) ∧ W.cell? ⟨w.heap.size, 2, none⟩ = some (.slice fad f.kids.length fcap)) := fun W k => box_cells (HB0.out.kept kv) k
    have HC1 : Hid (∀ W, Kept [] U W → W.cell? ⟨w.heap.size + 1, 0, none⟩ = some (.int .u8 (g.op : Nat)) ∧ W.cell? ⟨w.heap.size + 1, 1, none⟩ = some (.string g.name) ∧ W.cell? ⟨w.heap.size + 1, 2, none⟩ = some (.slice gad g.kids.length gcap)) := fun W k => box_cells (HB1.out.kept kv) k
    have HC3 : Hid (∀ W, Kept [] U W → W.cell? ⟨W3.heap.size, 0, none⟩ = some (.int .u8 (f.op : Nat)) ∧ W.cell? ⟨W3.heap.size, 1, none⟩ = some (.string f.name) ∧ W.cell? ⟨W3.heap.size, 2, none⟩ = some (.slice (some ⟨fb, 0, none⟩) f.kids.length (f.kids.length + 1))) := fun W k => box_cells (HB3.out.kept k4) k
    have HC4 : Hid (∀ W, Kept [] U W → W.cell? ⟨W4.heap.size, 0, none⟩ = some (.int .u8 (g.op : Nat)) ∧ W.cell? ⟨W4.heap.size, 1, none⟩ = some (.string g.name) ∧ W.cell? ⟨W4.heap.size, 2, none⟩ = some (.slice (some ⟨gb, 0, none⟩) g.kids.length (g.kids.length + 1))) := fun W k => box_cells (V := U) (by rw [← hU]; exact For3.new _ _ _ _) k
    have HM1 : Hid _ := fun W (k : Kept [] U W) => cmp_any f g _ _ W (IsF.kept (IsT.isF ((HL3.out ()).kept k3).isT) k) (IsF.kept (IsT.isF ((HL4.out ()).kept k4).isT) k) (by omega) (by omega)
    have HM2 : Hid _ := fun W (k : Kept [] U W) => cmp_any g f _ _ W (IsF.kept (IsT.isF ((HL4.out ()).kept k4).isT) k) (IsF.kept (IsT.isF ((HL3.out ()).kept k3).isT) k) (by omega) (by omega)
    have HCP : Hid _ := fun W (k : Kept [] U W) => copy_any f _ W (IsF.kept (IsT.isF ((HL3.out ()).kept k3).isT) k) (by omega) HFF.out
    have HM3 : Hid _ := fun W (k : Kept [] U W) xv (hx : IsF W f xv) => cmp_any f f _ xv W (IsF.kept (IsT.isF ((HL3.out ()).kept k3).isT) k) hx (by omega) (by omega)
    have HRC : Hid _ := fun W (k : Kept [] U W) => refCmp_any f g _ _ W ((HIF.out U kv).kept k) ((HIG.out U kv).kept k) (by omega) (by omega)
    have HW1 : Hid _ := fun W (k : Kept [] U W) => whole_any f _ _ _ W (((HL3.out ()).kept k3).kept k) ((HIF.out U kv).kept k) (by omega)
    have HW2 : Hid _ := fun W (k : Kept [] U W) => whole_any g _ _ _ W (((HL4.out ()).kept k4).kept k) ((HIG.out U kv).kept k) (by omega)
    have hself : cmpT f f = 0 := preT.self f
    have hneg := cmpT_neg f g
    have hun := unitT f g
    obtain ⟨c, hc⟩ : ∃ c, cmpT f g = c := ⟨_, rfl⟩
    simp only [hc] at HM1 HRC
    rw [hc] at hneg hun
    simp only [hneg] at HM2
    simp only [hself] at HM3
    have HWU : Hid (Kept [] w U) := HKV.out.trans kv (by simp) (by simp)
    have HK : Hid (Kept [] U U) := Kept.refl [] U
    have HUN : Hid (Unit3 c) := hun
    rw [hU]
    obtain ⟨a0, a1, a2⟩ := HC3.out _ HK.out
    obtain ⟨b0, b1, b2⟩ := HC4.out _ HK.out
    clear hU k4 k3 kv hself hneg hun hc HL3 HL4 HIF HIG HFF HB0 HB1 HB3 HK3 HK34 HKV hsf hsg
    go_upto_region 9 with (first
      | (go_at_call 18; refine (HM1.out _ HK.out).mono ?_; rintro e W5 ⟨rfl, hk⟩; have HK5 : Hid (Kept [] U W5) := hk.kept; clear hk HM1 HK a0 a1 a2 b0 b1 b2; obtain ⟨a0, a1, a2⟩ := HC3.out _ HK5.out; obtain ⟨b0, b1, b2⟩ := HC4.out _ HK5.out)
      | (go_at_call 18; refine (HM2.out _ HK5.out).mono ?_; rintro e W6 ⟨rfl, hk⟩; have HK6 : Hid (Kept [] U W6) := HK5.out.trans hk.kept (by simp) (by simp); clear hk HM2 HK5 a0 a1 a2 b0 b1 b2))
    obtain ⟨a0, a1, a2⟩ := HC3.out _ HK6.out
    go_cut [11] from 29 to 32 (fun s wx => s = .int .i64 0 ∧ Hid (Kept [] U wx))
    case first =>
      go_region_held3 (fun w' => w'.cell? ⟨W3.heap.size, 0, none⟩ = some (.int .u8 (f.op : Nat)) ∧ w'.cell? ⟨W3.heap.size, 1, none⟩ = some (.string f.name) ∧ w'.cell? ⟨W3.heap.size, 2, none⟩ = some (.slice (some ⟨fb, 0, none⟩) f.kids.length (f.kids.length + 1)))
        ((refine HC3.out _ ?_; (repeat (first | with_reducible exact HK6.out | with_reducible refine Kept.drew ?_ | with_reducible refine Kept.trans (F := []) (G := []) (H := []) ?_ HKb.out (by simp) (by simp) | with_reducible refine Kept.trans (F := []) (G := []) (H := []) ?_ HKa.out (by simp) (by simp)))))
        (first
        | (go_at_call 19; refine (HCP.out _ (by (repeat (first | with_reducible exact HK6.out | with_reducible refine Kept.drew ?_)))).mono ?_; rintro e Wa ⟨cad, ccap, rfl, hIa, ka⟩; have HIa : Hid _ := fun (_ : Unit) => hIa; have HKa : Hid _ := ka; clear ka hIa)
        | (go_at_call 18; refine (HM3.out _ (by (repeat (first | with_reducible exact HK6.out | with_reducible refine Kept.drew ?_ | with_reducible refine Kept.trans (F := []) (G := []) (H := []) ?_ HKa.out (by simp) (by simp)))) _ (IsF.kept (IsT.isF (HIa.out ())) (by (repeat (first | with_reducible exact Kept.refl [] _ | with_reducible refine Kept.drew ?_))))).mono ?_; rintro e Wb ⟨rfl, kb⟩; have HKb : Hid _ := kb.kept; clear kb))
      all_goals (go_wp2_with fail; go_meet)
      all_goals refine ⟨rfl, ?_⟩
      all_goals (show Kept [] U _; (repeat (first | with_reducible exact HK6.out | with_reducible refine Kept.drew ?_ | with_reducible refine Kept.trans (F := []) (G := []) (H := []) ?_ HKb.out (by simp) (by simp) | with_reducible refine Kept.trans (F := []) (G := []) (H := []) ?_ HKa.out (by simp) (by simp))))
    case rest =>
      obtain ⟨rfl, HX⟩ := hcut
      clear HK6 HM3 HCP a0 a1 a2
      obtain ⟨a0, a1, a2⟩ := HC0.out _ HX.out
      obtain ⟨b0, b1, b2⟩ := HC1.out _ HX.out
      rcases HUN.out with rfl | rfl | rfl
      all_goals
        go_wp2_with (first
          | (go_at_call 20; refine (HRC.out _ HX.out).mono ?_; rintro e W7 ⟨rfl, hk⟩; have HK7 : Hid (Kept [] U W7) := HX.out.trans hk (by simp) (by simp); clear hk HRC a0 a1 a2 b0 b1 b2; obtain ⟨a0, a1, a2⟩ := HC0.out _ HK7.out; obtain ⟨c0, c1, c2⟩ := HC3.out _ HK7.out)
          | (go_at_call 17; refine (HW1.out _ HK7.out).mono ?_; rintro e W8 ⟨rfl, hk⟩; have HK8 : Hid (Kept [] U W8) := HK7.out.trans hk (by simp) (by simp); clear hk HW1 a0 a1 a2 c0 c1 c2; obtain ⟨a0, a1, a2⟩ := HC1.out _ HK8.out; obtain ⟨c0, c1, c2⟩ := HC4.out _ HK8.out)
          | (go_at_call 17; refine (HW2.out _ HK8.out).mono ?_; rintro e W9 ⟨rfl, hk⟩; have HK9 : Hid (Kept [] U W9) := HK8.out.trans hk (by simp) (by simp); clear hk HW2))
        go_ret
        exact ⟨rfl, HWU.out.trans HK9.out (by simp) (by simp)⟩
end Go.Proofs.YtdkcakfofikldaaGreatDoor
