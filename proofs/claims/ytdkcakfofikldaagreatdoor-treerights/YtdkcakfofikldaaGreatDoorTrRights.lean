/- TreeRights: the walk. -/
import Derived.Test.YtdkcakfofikldaaGreatDoorTrAwk3
import Derived.Test.YtdkcakfofikldaaGreatDoorTrMuch
import Derived.Test.YtdkcakfofikldaaGreatDoorTrWhole
import Derived.Test.YtdkcakfofikldaaGreatDoorTrRefRight
namespace Go.Proofs.YtdkcakfofikldaaGreatDoor
open Go.RowKit Go.Shelf

theorem isF_lone {W : World} {b : Nat} {t : Tr} {kv : Value} (hb : W.heap[b]? = some (.cells #[.int .u8 (t.op : Nat), .string t.name, kv] 27 (0, 0))) (h : IsF W t kv) : IsF W ⟨0, ⟨#[]⟩, [t]⟩ (.slice (some ⟨b, 0, none⟩) 1 1) := by
  refine (isT_eq (X := fun k => k < W.heap.size) ⟨0, ⟨#[]⟩, [t]⟩ _).2 ⟨_, _, rfl, .inr ⟨b, 0, rfl, lt_of hb, fun i hi => ?_⟩⟩
  obtain rfl : i = 0 := by simp at hi; omega
  exact ⟨kv, (cell_of hb 0).trans rfl, (cell_of hb 1).trans rfl, (cell_of hb 2).trans rfl, h⟩
theorem ex_right : rightN pastB exT = 0 := by
  unfold rightN
  rw [ex_size, ex_depth]
  simp only [Tr.every, Tr.parts, exT, andT, nextT, leafT, Tr.para, List.map_cons, List.map_nil]; kernel_rfl
theorem exRight (W : World) (hT : KidsTab W) (b : Nat) (h : IsF W exT (.slice (some ⟨b, 0, none⟩) 2 2)) : Calls Tryz.prog 12 #[.agg #[.int .u8 12, .string ⟨#[]⟩, .slice (some ⟨b, 0, none⟩) 2 2]] W fun e w' => e = .returned (.int .i64 0) ∧ Kept [] W w' :=
  (right_any exT _ W h ex_small ex_low ex_fine hT).mono fun e w' ⟨he, hk⟩ => ⟨by rw [he, ex_right]; rfl, hk⟩

set_option maxHeartbeats 2000000 in
set_option maxRecDepth 20000 in
theorem treeRights_walk (f : Tr) (fv : Value) (w : World) (hF : IsF w f fv) (fF : f.Fine) (mF : f.Modest) (hT : KidsTab w) (hN : NumAt w) :
    Calls Tryz.prog 4 #[.agg #[.int .u8 (f.op : Nat), .string f.name, fv]] w fun e w' => e = .returned (.bool true) ∧ Kept [] w w' := by
  obtain ⟨fad, fcap, rfl⟩ := hF.slice
  obtain ⟨V, hV⟩ : ∃ V, w.alloc (.cells #[.int .u8 (f.op : Nat), .string f.name, .slice fad f.kids.length fcap] 27) = V := ⟨_, rfl⟩
  have kV : Kept [] w V := by rw [← hV]; exact (Kept.refl [] w).alloc _
  have HB0 : Hid (For3 V w.heap.size (.int .u8 (f.op : Nat)) (.string f.name) (.slice fad f.kids.length fcap)) := by show For3 V _ _ _ _; rw [← hV]; exact al0 _ _
  have HIF : Hid (∀ W, Kept [] V W → IsF W f (.slice fad f.kids.length fcap)) := fun W k => (hF.kept kV).kept k
  have HAW : Hid _ := fun (_ : Unit) => awake_any V (hT.kept kV) (hN.kept kV)
  have HMU : Hid (∀ t ∈ [f], t.Modest) := fun t ht => by obtain rfl := List.mem_singleton.1 ht; exact mF
  have HKV : Hid (Kept [] w V) := kV
  have HV : Hid _ := hV
  have HFF : Hid (f.Fine) := fF
  have HT : Hid (∀ W, Kept [] V W → KidsTab W) := fun W k => (hT.kept kV).kept k
  clear hV kV hF hT hN fF mF
  go_enter Tryz.func4, Tryz.ntmps4
  go_upto_region 3 with (first
    | (go_at_call 9; rw [HV.out]; refine (HAW.out ()).mono ?_; rintro e W1 ⟨rfl, hk⟩; obtain ⟨a0, a1, a2⟩ := box_cells HB0.out hk; have HK : Hid (Kept [] V W1) := hk; clear hk)
    | (go_at_call 10; refine (much_any [f] _ _ (isF_lone (al0 _ _) (HIF.out _ (HK.out.alloc _))) HMU.out (by simp)).mono ?_; rintro e W2 ⟨n, rfl, hn, hk⟩; have HK2 : Hid (Kept [] V W2) := (HK.out.alloc _).trans hk (by simp) (by simp); have HN : Hid _ := hn; clear hk hn HK a0 a1 a2))
  rcases Nat.lt_or_ge 1048576 n with hb | hb
  · go_wp2
    go_ret
    exact ⟨rfl, HKV.out.trans HK2.out (by simp) (by simp)⟩
  · have hsz := HN.out hb
    have hsf : f.size ≤ 1048576 := Nat.le_trans f.size_wsum (hsz f (by simp))
    have hdf : f.depth ≤ 1048576 := Nat.le_trans f.depth_size hsf
    have HLF : Hid _ := fun W (k : Kept [] V W) => lent_any f _ W (HIF.out W k) (by omega)
    obtain ⟨a0, a1, a2⟩ := box_cells HB0.out HK2.out
    clear hsz HN HMU HAW HV
    go_wp2_with (go_at_call 11; refine (HLF.out _ HK2.out).mono ?_; rintro e W3 ⟨fb, rfl, hL3, hk⟩; have HK3 : Hid (Kept [] V W3) := HK2.out.trans hk (by simp) (by simp); have HL3 : Hid _ := fun (_ : Unit) => hL3; clear hk hL3 HLF HK2 a0 a1 a2)
    obtain ⟨U, hU⟩ : ∃ U, W3.alloc (.cells #[.int .u8 (f.op : Nat), .string f.name, .slice (some ⟨fb, 0, none⟩) f.kids.length (f.kids.length + 1)] 27) = U := ⟨_, rfl⟩
    have k3 : Kept [] W3 U := by rw [← hU]; exact kA _ _
    have kv : Kept [] V U := HK3.out.trans k3 (by simp) (by simp)
    have HC0 : Hid (∀ W, Kept [] U W → W.cell? ⟨w.heap.size, 0, none⟩ = some (.int .u8 (f.op : Nat)) ∧ W.cell? ⟨w.heap.size, 1, none⟩ = some (.string f.name) ∧ W.cell? ⟨w.heap.size, 2, none⟩ = some (.slice fad f.kids.length fcap)) := fun W k => box_cells (HB0.out.kept kv) k
    have HC3 : Hid (∀ W, Kept [] U W → W.cell? ⟨W3.heap.size, 0, none⟩ = some (.int .u8 (f.op : Nat)) ∧ W.cell? ⟨W3.heap.size, 1, none⟩ = some (.string f.name) ∧ W.cell? ⟨W3.heap.size, 2, none⟩ = some (.slice (some ⟨fb, 0, none⟩) f.kids.length (f.kids.length + 1))) := fun W k => box_cells (V := U) (by rw [← hU]; exact For3.new _ _ _ _) k
    have HR1 : Hid _ := fun W (k : Kept [] U W) => right_any f _ W (IsF.kept (IsT.isF ((HL3.out ()).kept k3).isT) k) (by omega) (by omega) HFF.out (HT.out _ (kv.trans k (by simp) (by simp)))
    have HR2 : Hid _ := fun W (k : Kept [] U W) => rightPast_any f _ W (IsF.kept (IsT.isF ((HL3.out ()).kept k3).isT) k) (by omega) (by omega) HFF.out (HT.out _ (kv.trans k (by simp) (by simp)))
    have HR3 : Hid _ := fun W (k : Kept [] U W) b (h : IsF W exT (.slice (some ⟨b, 0, none⟩) 2 2)) => exRight W (HT.out _ (kv.trans k (by simp) (by simp))) b h
    have HR4 : Hid _ := fun W (k : Kept [] U W) => refRight_any f _ W ((HIF.out U kv).kept k) (by omega) (by omega) HFF.out
    have HR5 : Hid _ := fun W (k : Kept [] U W) => refPast_any f _ W ((HIF.out U kv).kept k) (by omega) (by omega) HFF.out
    have HW1 : Hid _ := fun W (k : Kept [] U W) => whole_any f _ _ _ W (((HL3.out ()).kept k3).kept k) ((HIF.out U kv).kept k) (by omega)
    obtain ⟨x, hx⟩ : ∃ x, rightN pastB f = x := ⟨_, rfl⟩
    obtain ⟨y, hy⟩ : ∃ y, rightN futureB f = y := ⟨_, rfl⟩
    simp only [hx] at HR1 HR4
    simp only [hy] at HR2 HR5
    have HWU : Hid (Kept [] w U) := HKV.out.trans kv (by simp) (by simp)
    rw [hU]
    clear hU k3 kv hx hy HL3 HIF HFF HB0 HK3 HKV hsf hdf HT
    go_loopw [6, 7, 8, 9] (fun v6 _ _ _ wr => ∃ i : Nat, v6 = .int .i64 (i : Nat) ∧ i ≤ 2 ∧ Hid (Kept [] U wr)) (fun v6 _ _ _ _ => 2 - (intOf v6).toNat)
    case atStart => exact ⟨0, rfl, by omega, Kept.refl [] U⟩
    case round =>
      obtain ⟨i, rfl, hi, HW⟩ := hrel
      by_cases hlt : i < 2
      · have hli : (i : Int) < 2 := by omega
        obtain ⟨c0, c1, c2⟩ := HC3.out _ HW.out
        go_wp2_with (first
          | (go_at_call 12; have g := HEX; refine (HR3.out _ HK6.out _ (HEX.out ())).mono ?_; clear g; rintro e W7 ⟨rfl, hk⟩; have HK7 : Hid (Kept [] U W7) := HK6.out.trans hk (by simp) (by simp); clear hk HEX; obtain ⟨a0, a1, a2⟩ := HC0.out _ HK7.out)
          | (go_at_call 12; refine (HR1.out _ HW.out).mono ?_; rintro e W4 ⟨rfl, hk⟩; have HK4 : Hid (Kept [] U W4) := HW.out.trans hk (by simp) (by simp); clear hk c0 c1 c2; obtain ⟨c0, c1, c2⟩ := HC3.out _ HK4.out)
          | (go_at_call 13; refine (HR2.out _ HK4.out).mono ?_; rintro e W5 ⟨rfl, hk⟩; have HK5 : Hid (Kept [] U W5) := HK4.out.trans hk (by simp) (by simp); clear hk c0 c1 c2 HK4)
          | (go_at_call 14; refine (example_any _).mono ?_; rintro e W6 ⟨eb, rfl, hA, hk⟩; have HK6 : Hid (Kept [] U W6) := HK5.out.trans hk (by simp) (by simp); have HEX : Hid _ := fun (_ : Unit) => IsN.isF hA; clear hk hA)
          | (go_at_call 15; refine (HR4.out _ HK7.out).mono ?_; rintro e W8 ⟨rfl, hk⟩; have HK8 : Hid (Kept [] U W8) := HK7.out.trans hk (by simp) (by simp); clear hk a0 a1 a2; obtain ⟨a0, a1, a2⟩ := HC0.out _ HK8.out)
          | (go_at_call 16; refine (HR5.out _ HK8.out).mono ?_; rintro e W9 ⟨rfl, hk⟩; have HK9 : Hid (Kept [] U W9) := HK8.out.trans hk (by simp) (by simp); clear hk a0 a1 a2))
        go_roundw
        case rel => exact ⟨i + 1, by go_num, by omega, HK9.out⟩
        case measure => simp [intOf]; omega
      · obtain rfl : i = 2 := by omega
        obtain ⟨a0, a1, a2⟩ := HC0.out _ HW.out
        obtain ⟨c0, c1, c2⟩ := HC3.out _ HW.out
        go_wp2_with (go_at_call 17; refine (HW1.out _ HW.out).mono ?_; rintro e W8 ⟨rfl, hk⟩; have HK8 : Hid (Kept [] U W8) := HW.out.trans hk (by simp) (by simp); clear hk HW1)
        go_ret
        exact ⟨rfl, HWU.out.trans HK8.out (by simp) (by simp)⟩
end Go.Proofs.YtdkcakfofikldaaGreatDoor
