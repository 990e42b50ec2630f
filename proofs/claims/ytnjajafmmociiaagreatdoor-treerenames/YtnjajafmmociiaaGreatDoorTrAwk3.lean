/- awake: what the chapter's examples fix. -/
import Derived.Test.YtnjajafmmociiaaGreatDoorTrAwk2
import Derived.Deep.RegionHeld3
namespace Go.Proofs.YtnjajafmmociiaaGreatDoor
open Go.RowKit Go.Shelf

theorem For3.up {W : World} {B : Nat} {a b c : Value} (h : For3 W B a b c) : (∀ o, (W.alloc o).cell? ⟨B, 0, none⟩ = some a) ∧ (∀ o, (W.alloc o).cell? ⟨B, 1, none⟩ = some b) ∧ (∀ o, (W.alloc o).cell? ⟨B, 2, none⟩ = some c) :=
  ⟨fun o => (For3.cells (W := W.alloc o) (alUp h o)).1, fun o => (For3.cells (W := W.alloc o) (alUp h o)).2.1, fun o => (For3.cells (W := W.alloc o) (alUp h o)).2.2.1⟩
/-- What awake carries: the example's box, and what the calls lean on. -/
structure AwC (w : World) (b B : Nat) (W : World) : Prop where
  kept : Kept [] w W
  at_ : AwAt b W
  box : For3 W B (.int .u8 12) (.string ⟨#[]⟩) (.slice (some ⟨b, 0, none⟩) 2 2)
theorem AwC.go {w : World} {b B : Nat} {W W' : World} (h : AwC w b B W) (k : Kept [] W W') : AwC w b B W' := ⟨h.kept.trans k (by simp) (by simp), h.at_.kept k, h.box.kept k⟩
theorem box_cells {V W : World} {B : Nat} {a b c : Value} (h : For3 V B a b c) (k : Kept [] V W) : W.cell? ⟨B, 0, none⟩ = some a ∧ W.cell? ⟨B, 1, none⟩ = some b ∧ W.cell? ⟨B, 2, none⟩ = some c := ⟨(h.kept k).cells.1, (h.kept k).cells.2.1, (h.kept k).cells.2.2.1⟩
theorem For3.drew {W : World} {B : Nat} {a b c : Value} (h : For3 W B a b c) : For3 W.drew B a b c := h
theorem For3.up1 {W : World} {B : Nat} {a b c : Value} (h : For3 W B a b c) (o : Obj) : For3 (W.alloc o) B a b c := alUp h o
theorem For3.new (W : World) (a b c : Value) : For3 (W.alloc (.cells #[a, b, c] 25)) W.heap.size a b c := al0 _ _
theorem kA (W : World) (o : Obj) : Kept [] W (W.alloc o) := (Kept.refl [] W).alloc o

theorem awEnd1 (t : Tr) {V Wc : World} {n : Nat} {kad : Option Addr} {kcap : Nat} (k : Kept [] V Wc) (h : IsT (fun k => n ≤ k) Wc t (.slice kad 2 kcap)) :
    Kept [] V (Wc.alloc (.cells #[.int .u8 12, .string ⟨#[]⟩, .slice kad 2 kcap] 25)) ∧ For3 (Wc.alloc (.cells #[.int .u8 12, .string ⟨#[]⟩, .slice kad 2 kcap] 25)) Wc.heap.size (.int .u8 12) (.string ⟨#[]⟩) (.slice kad 2 kcap) ∧ IsF (Wc.alloc (.cells #[.int .u8 12, .string ⟨#[]⟩, .slice kad 2 kcap] 25)) t (.slice kad 2 kcap) :=
  ⟨k.alloc _, al0 _ _, IsF.kept (IsT.isF h) (kA _ _)⟩
theorem awEnd2 (t : Tr) {V Wc : World} {B n : Nat} {kad : Option Addr} {kcap : Nat} (k : Kept [] V Wc) (f : For3 Wc B (.int .u8 0) (.string ⟨#[]⟩) (.slice none 0 0)) (hV : V.heap.size ≤ B) (h : IsT (fun k => n ≤ k) Wc t (.slice kad 2 kcap)) (hn : ¬ n ≤ B) :
    Kept [] V (((Wc.setCell ⟨B, 0, none⟩ (.int .u8 12)).setCell ⟨B, 1, none⟩ (.string ⟨#[]⟩)).setCell ⟨B, 2, none⟩ (.slice kad 2 kcap)) ∧ For3 (((Wc.setCell ⟨B, 0, none⟩ (.int .u8 12)).setCell ⟨B, 1, none⟩ (.string ⟨#[]⟩)).setCell ⟨B, 2, none⟩ (.slice kad 2 kcap)) B (.int .u8 12) (.string ⟨#[]⟩) (.slice kad 2 kcap) ∧ IsF (((Wc.setCell ⟨B, 0, none⟩ (.int .u8 12)).setCell ⟨B, 1, none⟩ (.string ⟨#[]⟩)).setCell ⟨B, 2, none⟩ (.slice kad 2 kcap)) t (.slice kad 2 kcap) :=
  ⟨kept_set3 k hV _ _ _, f.set _ _ _, IsT.isF (((h.other hn _ _).other hn _ _).other hn _ _)⟩

set_option maxHeartbeats 1000000 in
set_option maxRecDepth 20000 in
theorem awake_any (w : World) (hT : KidsTab w) (hN : NumAt w) : Calls Tryz.prog 5 #[] w fun e w' => e = .returned (.bool true) ∧ Kept [] w w' := by
  have HT : Hid (KidsTab w) := hT
  have HN : Hid (NumAt w) := hN
  clear hT hN
  go_enter Tryz.func5, Tryz.ntmps5
  go_upto_region 7 with (first
    | (go_at_call 21; refine (example_any _).mono ?_; rintro e W1 ⟨b, rfl, hA, hk⟩; have HC1 : Hid (AwC w b W1.heap.size (W1.alloc (.cells #[.int .u8 12, .string ⟨#[]⟩, .slice (some ⟨b, 0, none⟩) 2 2] 25))) := ⟨hk.alloc _, (AwAt.kept ⟨IsN.isF hA, HT.out.kept hk, HN.out.kept hk⟩ (kA _ _)), al0 _ _⟩; clear hA hk)
    | (go_at_call 22; refine (awSubs b _ HC1.out.at_).mono ?_; rintro e W2 ⟨G, rfl, hk2⟩; have HC2 : Hid (AwC w b W1.heap.size W2) := HC1.out.go hk2; clear hk2 HC1; obtain ⟨b0, b1, b2, _⟩ := HC2.out.box.cells)
    | (go_at_call 23; refine (awNames b _ HC2.out.at_).mono ?_; rintro e W3 ⟨g, cap, rfl, hc, hk3⟩; have HC3 : Hid (AwC w b W1.heap.size W3) := HC2.out.go hk3; have HNC : Hid _ := hc; clear hk3 HC2 hc b0 b1 b2; obtain ⟨b0, b1, b2, _⟩ := HC3.out.box.cells)
    | (go_at_call 24; refine (awAt1 b _ HC3.out.at_).mono ?_; rintro e W4 ⟨kad4, kcap4, rfl, hk4⟩; have HC4 : Hid (AwC w b W1.heap.size W4) := HC3.out.go hk4; have HNC4 : Hid _ := cell_kept0 hk4 HNC.out; clear hk4 HC3 HNC b0 b1 b2; obtain ⟨b0, b1, b2⟩ := HC4.out.box.up)
    | (go_at_call 24; refine (awAt2 b _ (HC4.out.at_.kept (kA _ _))).mono ?_; rintro e W5 ⟨rfl, hk5⟩; have HB5 : Hid (For3 W5 W4.heap.size (.int .u8 9) (.string ⟨#[]⟩) (.slice kad4 1 kcap4)) := For3.kept (show For3 (W4.alloc _) W4.heap.size (.int .u8 9) (.string ⟨#[]⟩) (.slice kad4 1 kcap4) from al0 _ _) hk5; have HC5 : Hid (AwC w b W1.heap.size W5) := (HC4.out.go (kA _ _)).go hk5; have HNC5 : Hid _ := cell_kept0 ((kA _ _).trans hk5 (H := []) (by simp) (by simp)) HNC4.out; clear hk5 HC4 HNC4 b0 b1 b2; obtain ⟨b0, b1, b2⟩ := HC5.out.box.up)
    | (go_at_call 18; refine (awRen b _ (HC5.out.at_.kept ((((Kept.refl [] W5).alloc _).alloc _).alloc _)) _ _ _ (alUp (al1 _ _ _) _) (al2 _ _ _ _)).mono ?_; rintro e W6 ⟨kb, off, kcap6, rfl, hc6, hk6⟩; have k56 : Kept [] W5 W6 := ((((Kept.refl [] W5).alloc _).alloc _).alloc _).trans hk6 (by simp) (by simp); have HB6 : Hid (For3 W6 W4.heap.size (.int .u8 9) (.string ⟨#[]⟩) (.slice kad4 1 kcap4)) := HB5.out.kept k56; have HC6 : Hid (AwC w b W1.heap.size W6) := HC5.out.go k56; have HNC6 : Hid _ := cell_kept0 k56 HNC5.out; have HRC6 : Hid _ := hc6; clear hk6 HC5 HNC5 HB5 b0 b1 b2 hc6 k56))
  obtain ⟨V, hV⟩ : ∃ V, W6.alloc (.cells #[.int .u8 12, .string ⟨#[]⟩, .slice (some ⟨kb, off, none⟩) 2 kcap6] 25) = V := ⟨_, rfl⟩
  have k6 : Kept [] W6 V := by rw [← hV]; exact kA _ _
  have HC : Hid (AwC w b W1.heap.size V) := HC6.out.go k6
  have HB4 : Hid (For3 V W4.heap.size (.int .u8 9) (.string ⟨#[]⟩) (.slice kad4 1 kcap4)) := HB6.out.kept k6
  have HB8 : Hid (For3 V W6.heap.size (.int .u8 12) (.string ⟨#[]⟩) (.slice (some ⟨kb, off, none⟩) 2 kcap6)) := by show For3 V _ _ _ _; rw [← hV]; exact al0 _ _
  have HNC : Hid _ := cell_kept0 k6 HNC6.out
  have HRC : Hid _ := cell_kept0 k6 HRC6.out
  rw [hV]
  clear hV k6 HC6 HB6 HNC6 HRC6
  obtain ⟨t, ht⟩ : ∃ t, putX = t := ⟨_, rfl⟩
  have HPT : Hid _ := ht
  clear ht
  go_cut [10, 11] from 36 to 42 (fun s10 s11 wx => ∃ B kad kcap, s10 = .pointer (some ⟨B, 0, none⟩) ∧ s11 = .int .i64 0 ∧ Hid (Kept [] V wx ∧ For3 wx B (.int .u8 12) (.string ⟨#[]⟩) (.slice kad 2 kcap) ∧ IsF wx t (.slice kad 2 kcap)))
  case first =>
    obtain ⟨c0, c1, c2, _⟩ := HC.out.box.cells
    go_region_held3 (fun w' => w'.cell? ⟨W1.heap.size, 0, none⟩ = some (.int .u8 12) ∧ w'.cell? ⟨W1.heap.size, 1, none⟩ = some (.string ⟨#[]⟩) ∧ w'.cell? ⟨W1.heap.size, 2, none⟩ = some (.slice (some ⟨b, 0, none⟩) 2 2))
      ((refine box_cells HC.out.box ?_; (repeat (first | exact Kept.refl [] _ | refine Kept.drew ?_ | refine Kept.alloc ?_ _ | refine Kept.trans (F := []) (G := []) (H := []) ?_ HKc.out (by simp) (by simp) | refine Kept.trans (F := []) (G := []) (H := []) ?_ HKb.out (by simp) (by simp) | refine Kept.trans (F := []) (G := []) (H := []) ?_ HKa.out (by simp) (by simp) | refine Kept.setCell ?_ (Or.inr (by dsimp only; omega)) _))))
      (first
      | (go_at_call 26; refine (exProp _ _ _ (Kept.refl [] _)).mono ?_; rintro e Wa ⟨rfl, ka⟩; obtain ⟨hca, hfa⟩ := bcell ka.below; have hza := ka.size; (try simp only [drew_heap] at hza); (try simp only [World.size_alloc] at hza); (try have qa0 : V.heap.size < Wa.heap.size := (by omega));  have HKa : Hid _ := ka; clear ka)
      | (go_at_call 25; refine (exNot _ _ (Kept.refl [] _)).mono ?_; rintro e Wb ⟨c, rfl, hIc, kb⟩; obtain ⟨hcb, hfb⟩ := bcell kb.below; have hzb := kb.size; (try simp only [drew_heap] at hzb); (try simp only [World.size_alloc] at hzb); (try have qb0 : V.heap.size < Wb.heap.size := (by omega)); (try have qb1 : Wa.heap.size < Wb.heap.size := (by omega));  have HKb : Hid _ := kb; have HIc : Hid (IsF Wb notT (.slice (some ⟨c, 0, none⟩) 1 1)) := hIc; clear kb hIc)
      | (go_at_call 9; refine (awPut b _ (HC.out.at_.kept (by (repeat (first | exact Kept.refl [] _ | refine Kept.drew ?_ | refine Kept.alloc ?_ _ | refine Kept.trans (F := []) (G := []) (H := []) ?_ HKc.out (by simp) (by simp) | refine Kept.trans (F := []) (G := []) (H := []) ?_ HKb.out (by simp) (by simp) | refine Kept.trans (F := []) (G := []) (H := []) ?_ HKa.out (by simp) (by simp) | refine Kept.setCell ?_ (Or.inr (by dsimp only; omega)) _)))) c (HIc.out.kept (by (repeat (first | exact Kept.refl [] _ | refine Kept.drew ?_ | refine Kept.alloc ?_ _))))).mono ?_; rintro e Wc ⟨kad, kcap, rfl, hI, kc⟩; obtain ⟨hcc, hfc⟩ := bcell kc.below; have hzc := kc.size; (try simp only [drew_heap] at hzc); (try simp only [World.size_alloc] at hzc); (try have qc0 : V.heap.size < Wc.heap.size := (by omega)); (try have qc1 : Wa.heap.size < Wc.heap.size := (by omega)); (try have qc2 : Wb.heap.size < Wc.heap.size := (by omega));  have HKc : Hid _ := kc; rw [HPT.out] at hI; have HIp : Hid _ := fun (_ : Unit) => hI; clear kc hI))
    all_goals (go_wp2_with fail; go_meet)
    all_goals first
      | exact ⟨Wc.heap.size, kad, kcap, rfl, rfl, awEnd1 t (by (repeat (first | with_reducible exact Kept.refl [] _ | with_reducible refine Kept.drew ?_ | with_reducible refine Kept.alloc ?_ _ | with_reducible refine Kept.trans (F := []) (G := []) (H := []) ?_ HKc.out (by simp) (by simp) | with_reducible refine Kept.trans (F := []) (G := []) (H := []) ?_ HKb.out (by simp) (by simp) | with_reducible refine Kept.trans (F := []) (G := []) (H := []) ?_ HKa.out (by simp) (by simp)))) (HIp.out ())⟩
      | exact ⟨Wb.heap.size, kad, kcap, rfl, rfl, awEnd2 t (by (repeat (first | with_reducible exact Kept.refl [] _ | with_reducible refine Kept.drew ?_ | with_reducible refine Kept.alloc ?_ _ | with_reducible refine Kept.trans (F := []) (G := []) (H := []) ?_ HKc.out (by simp) (by simp) | with_reducible refine Kept.trans (F := []) (G := []) (H := []) ?_ HKb.out (by simp) (by simp) | with_reducible refine Kept.trans (F := []) (G := []) (H := []) ?_ HKa.out (by simp) (by simp)))) (by (repeat (first | with_reducible exact For3.new _ _ _ _ | with_reducible refine For3.drew ?_ | with_reducible refine For3.up1 ?_ _ | with_reducible refine For3.kept ?_ HKc.out | with_reducible refine For3.kept ?_ HKb.out | with_reducible refine For3.kept ?_ HKa.out))) (by omega) (HIp.out ()) (by first | omega | (simp only [drew_heap]; omega) | (simp only [World.size_alloc]; omega) | (simp only [drew_heap, World.size_alloc]; omega))⟩
      | exact ⟨Wa.heap.size, kad, kcap, rfl, rfl, awEnd2 t (by (repeat (first | with_reducible exact Kept.refl [] _ | with_reducible refine Kept.drew ?_ | with_reducible refine Kept.alloc ?_ _ | with_reducible refine Kept.trans (F := []) (G := []) (H := []) ?_ HKc.out (by simp) (by simp) | with_reducible refine Kept.trans (F := []) (G := []) (H := []) ?_ HKb.out (by simp) (by simp) | with_reducible refine Kept.trans (F := []) (G := []) (H := []) ?_ HKa.out (by simp) (by simp)))) (by (repeat (first | with_reducible exact For3.new _ _ _ _ | with_reducible refine For3.drew ?_ | with_reducible refine For3.up1 ?_ _ | with_reducible refine For3.kept ?_ HKc.out | with_reducible refine For3.kept ?_ HKb.out | with_reducible refine For3.kept ?_ HKa.out))) (by omega) (HIp.out ()) (by first | omega | (simp only [drew_heap]; omega) | (simp only [World.size_alloc]; omega) | (simp only [drew_heap, World.size_alloc]; omega))⟩
      | exact ⟨V.heap.size, kad, kcap, rfl, rfl, awEnd2 t (by (repeat (first | with_reducible exact Kept.refl [] _ | with_reducible refine Kept.drew ?_ | with_reducible refine Kept.alloc ?_ _ | with_reducible refine Kept.trans (F := []) (G := []) (H := []) ?_ HKc.out (by simp) (by simp) | with_reducible refine Kept.trans (F := []) (G := []) (H := []) ?_ HKb.out (by simp) (by simp) | with_reducible refine Kept.trans (F := []) (G := []) (H := []) ?_ HKa.out (by simp) (by simp)))) (by (repeat (first | with_reducible exact For3.new _ _ _ _ | with_reducible refine For3.drew ?_ | with_reducible refine For3.up1 ?_ _ | with_reducible refine For3.kept ?_ HKc.out | with_reducible refine For3.kept ?_ HKb.out | with_reducible refine For3.kept ?_ HKa.out))) (by omega) (HIp.out ()) (by first | omega | (simp only [drew_heap]; omega) | (simp only [World.size_alloc]; omega) | (simp only [drew_heap, World.size_alloc]; omega))⟩
  case rest =>
    obtain ⟨B10, kad, kcap, rfl, rfl, HX⟩ := hcut
    have HR1 : Hid (∀ W, Kept [] wc W → AwC w b W1.heap.size W) := fun W k => (HC.out.go HX.out.1).go k
    have HR2 : Hid (∀ W, Kept [] wc W → IsF W t (.slice kad 2 kcap)) := fun W k => HX.out.2.2.kept k
    have HR3 : Hid (∀ W, Kept [] wc W → W.cell? ⟨W1.heap.size, 0, none⟩ = some (.int .u8 12) ∧ W.cell? ⟨W1.heap.size, 1, none⟩ = some (.string ⟨#[]⟩) ∧ W.cell? ⟨W1.heap.size, 2, none⟩ = some (.slice (some ⟨b, 0, none⟩) 2 2)) := fun W k => box_cells (HC.out.go HX.out.1).box k
    have HR4 : Hid (∀ W, Kept [] wc W → W.cell? ⟨g, 1, none⟩ = some (.string ⟨#[113]⟩) ∧ W.cell? ⟨kb, off + 1, none⟩ = some (.string ⟨#[113]⟩)) := fun W k => ⟨cell_kept0 k (cell_kept0 HX.out.1 HNC.out), cell_kept0 k (cell_kept0 HX.out.1 HRC.out)⟩
    have HR5 : Hid (∀ W, Kept [] wc W → W.cell? ⟨W4.heap.size, 0, none⟩ = some (.int .u8 9)) := fun W k => (box_cells (HB4.out.kept HX.out.1) k).1
    have HR6 : Hid (∀ W, Kept [] wc W → W.cell? ⟨W6.heap.size, 2, none⟩ = some (.slice (some ⟨kb, off, none⟩) 2 kcap6)) := fun W k => (box_cells (HB8.out.kept HX.out.1) k).2.2
    have HR7 : Hid (∀ W, Kept [] wc W → W.cell? ⟨B10, 0, none⟩ = some (.int .u8 12) ∧ W.cell? ⟨B10, 1, none⟩ = some (.string ⟨#[]⟩) ∧ W.cell? ⟨B10, 2, none⟩ = some (.slice kad 2 kcap)) := fun W k => box_cells HX.out.2.1 k
    have HS8 : Hid _ := fun W (h : IsF W t (.slice kad 2 kcap)) => awSize8 W kad kcap (by rw [HPT.out]; exact h)
    have HKW : Hid (Kept [] w wc) := (HC.out.go HX.out.1).kept
    have HK : Hid (Kept [] wc wc) := Kept.refl [] wc
    clear HX HC HB4 HB8 HNC HRC HPT HT HN
    go_wp2_with (first
      | (go_at_call 26; refine (exProp _ wc _ HK.out).mono ?_; clear HK; rintro e W ⟨rfl, hk⟩; have HK : Hid (Kept [] wc W) := hk; clear hk)
      | (go_at_call 25; refine (exYest wc _ HK.out).mono ?_; clear HK; rintro e W ⟨c, rfl, hI, hk⟩; have HK : Hid (Kept [] wc W) := hk; have HIy : Hid _ := fun (_ : Unit) => hI; clear hk hI)
      | (go_at_call 27; refine (awRight _ (HR1.out _ HK.out).at_.tab c (HIy.out ())).mono ?_; rintro e W ⟨rfl, hk⟩; have HK2 : Hid (Kept [] wc W) := HK.out.trans hk (by simp) (by simp); clear hk HK HIy; have HK : Hid (Kept [] wc W) := HK2.out; clear HK2)
      | (go_at_call 28; refine (awPast _ (HR1.out _ HK.out).at_.tab c (HIy.out ())).mono ?_; rintro e W ⟨rfl, hk⟩; have HK2 : Hid (Kept [] wc W) := HK.out.trans hk (by simp) (by simp); clear hk HK HIy; have HK : Hid (Kept [] wc W) := HK2.out; clear HK2; obtain ⟨b0, b1, b2⟩ := HR3.out _ HK.out)
      | (go_at_call 29; have g6 := d6; refine (HS8.out _ (HR2.out _ HK.out)).mono ?_; clear g6; rintro e W ⟨rfl, hk⟩; have HK2 : Hid (Kept [] wc W) := HK.out.trans hk (by simp) (by simp); clear hk HK; have HK : Hid (Kept [] wc W) := HK2.out; clear HK2)
      | (go_at_call 29; refine (awSize b _ (HR1.out _ HK.out).at_).mono ?_; rintro e W ⟨rfl, hk⟩; have HK2 : Hid (Kept [] wc W) := HK.out.trans hk (by simp) (by simp); clear hk HK b0 b1 b2; have HK : Hid (Kept [] wc W) := HK2.out; clear HK2; obtain ⟨b0, b1, b2⟩ := HR3.out _ HK.out)
      | (go_at_call 30; refine (awDepth b _ (HR1.out _ HK.out).at_).mono ?_; rintro e W ⟨rfl, hk⟩; have HK2 : Hid (Kept [] wc W) := HK.out.trans hk (by simp) (by simp); clear hk HK b0 b1 b2; have HK : Hid (Kept [] wc W) := HK2.out; clear HK2; obtain ⟨d0, d1⟩ := HR4.out _ HK.out; have d2 := HR5.out _ HK.out; have d3 := HR6.out _ HK.out; obtain ⟨d4, d5, d6⟩ := HR7.out _ HK.out))
    go_ret
    exact ⟨rfl, HKW.out.trans HK.out (by simp) (by simp)⟩
end Go.Proofs.YtnjajafmmociiaaGreatDoor
