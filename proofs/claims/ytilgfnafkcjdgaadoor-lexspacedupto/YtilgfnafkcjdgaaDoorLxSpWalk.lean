/- LexSpaced: the walk. -/
import Derived.Deep.RegionWith
import Derived.Deep.CutRange
import Derived.BigQuiet
import Derived.WalkLawsBesides
import Derived.Test.YtilgfnafkcjdgaaDoorLxBlanks
import Derived.Test.YtilgfnafkcjdgaaDoorLxInts
import Derived.Test.YtilgfnafkcjdgaaDoorLxPlaces
namespace Go.Proofs.YtilgfnafkcjdgaaDoor
open Go.RowKit

set_option maxHeartbeats 4000000 in
set_option maxRecDepth 20000 in
theorem spaced_good (s : ByteArray) (ad : Option Addr) (cap0 : Nat) (zs : List Int) (w : World) (hv : IsSl w (.slice ad zs.length cap0) zs) (hz : ∀ n ∈ zs, -9223372036854775808 ≤ n ∧ n ≤ 9223372036854775807) (hs : s.size ≤ 20000)
    (xs : List Item) (hx : itemsOf s.data.toList = xs) (hg : ∀ x ∈ xs, x.err = 0) :
    Calls Tryd.prog 8 #[.string s, .slice ad zs.length cap0] w fun e w' => e = .returned (.bool true) ∧ Kept [] w w' := by
  have hbi : ¬ (20000 : Int) < (s.size : Int) := by omega
  have hpos : 0 < xs.length := by rw [← hx, ← from_zero]; exact from_ne _ _
  have hN : xs.length ≤ s.size + 1 := by rw [← hx, Lib.size_eq]; exact items_le _ _ _
  have hT := fun w => tokens_good s w (by omega) xs (by rw [hx]; exact tokensE_good hg) hpos
  obtain ⟨g1, g2, g3⟩ := spaced_again s.data.toList zs (by rw [hx]; exact hg)
  rw [hx] at g1 g2 g3
  rw [← Lib.size_eq] at g2 g3
  have hM : (spacedFrom s.data.toList (blOf zs) 0 xs).length ≤ 500000000 := by
    have := Nat.mul_le_mul (show xs.length ≤ 20001 by omega) (show s.size + 2 ≤ 20002 by omega)
    omega
  have HT : Hid _ := hT
  have HG : Hid _ := hg
  have HX : Hid _ := hx
  have G1 : Hid _ := g1
  have G2 : Hid _ := g2
  have HM : Hid _ := hM
  have HV : Hid _ := hv
  have HZ : Hid _ := hz
  clear hT hg hx g1 g2 g3 hM hv hz
  go_enter Tryd.func8, Tryd.ntmps8
  go_wp2_with (first
    | (go_at_call 9; refine (works_any _).mono ?_; rintro e w1 ⟨rfl, k1⟩)
    | (go_at_call 12; refine (HT.out _).mono ?_; rintro e w2 ⟨g, cap, cur, rfl, hg2, hrow, hcap, hcur, k2⟩))
  have HK : Hid (Kept [] w w2) := k1.trans k2 (by simp) (by simp)
  clear k1 k2 HT hg2
  go_loopw [10, 11] (fun vs vi wr => ∃ (i : Nat) (t : ByteArray), vs = .string t ∧ vi = .int .i64 (i : Nat) ∧ i ≤ xs.length ∧ Hid (t.data.toList ++ spacedFrom s.data.toList (blOf zs) i (xs.drop i) = spacedFrom s.data.toList (blOf zs) 0 xs) ∧ Hid (Kept [] (w2.alloc (.cells #[.string ⟨#[32]⟩, .string ⟨#[10]⟩, .string ⟨#[9, 32]⟩, .string ⟨#[13, 10]⟩, .string ⟨#[32, 32]⟩] 9 (0, 0))) wr)) (fun _ vi _ => xs.length - (intOf vi).toNat)
  case atStart => exact ⟨0, ⟨#[]⟩, rfl, rfl, Nat.zero_le _, by unfold Hid; simp, Kept.refl _ _⟩
  case round =>
    obtain ⟨i, t, rfl, rfl, hix, HC, HR⟩ := hrel
    by_cases hi : i < xs.length
    · have hii : (i : Int) < (xs.length : Int) := by omega
      obtain ⟨x, hx1⟩ : ∃ x, xs[i]? = some x := ⟨xs[i], List.getElem?_eq_getElem hi⟩
      obtain ⟨f1, f2, f3⟩ := flatI_at xs i x hx1
      have ka : Kept [] w2 wr := ((Kept.refl [] w2).alloc _).trans HR.out (by simp) (by simp)
      have hrw := ka.at hrow.out (by simp)
      have F0 : Hid (cur[i * 3]? = some (.int .u8 (x.kind.val : Nat))) := (hcur.out _ (by omega)).trans f1
      have F1 : Hid (cur[i * 3 + 1]? = some (.string ⟨x.text.toArray⟩)) := (hcur.out _ (by omega)).trans f2
      have F2 : Hid (cur[i * 3 + 2]? = some (.int .i64 (x.pos : Nat))) := (hcur.out _ (by omega)).trans f3
      have r0 : wr.cell? ⟨g, i * 3, none⟩ = some (.int .u8 (x.kind.val : Nat)) := (cell_of hrw _).trans F0.out
      have r1 : wr.cell? ⟨g, i * 3 + 1, none⟩ = some (.string ⟨x.text.toArray⟩) := (cell_of hrw _).trans F1.out
      have r2 : wr.cell? ⟨g, i * 3 + 2, none⟩ = some (.int .i64 (x.pos : Nat)) := (cell_of hrw _).trans F2.out
      have hnw : (w2.alloc (.cells #[.string ⟨#[32]⟩, .string ⟨#[10]⟩, .string ⟨#[9, 32]⟩, .string ⟨#[13, 10]⟩, .string ⟨#[32, 32]⟩] 9 (0, 0))).heap[w2.heap.size]? = some (.cells #[.string ⟨#[32]⟩, .string ⟨#[10]⟩, .string ⟨#[9, 32]⟩, .string ⟨#[13, 10]⟩, .string ⟨#[32, 32]⟩] 9 (0, 0)) := heap_alloc_new w2 _
      have HBB : Hid (wr.heap[w2.heap.size]? = some (.cells #[.string ⟨#[32]⟩, .string ⟨#[10]⟩, .string ⟨#[9, 32]⟩, .string ⟨#[13, 10]⟩, .string ⟨#[32, 32]⟩] 9 (0, 0))) := HR.out.at hnw (by simp)
      obtain ⟨kk, hkk⟩ : ∃ kk, kOf zs i = kk := ⟨_, rfl⟩
      have hk4 : kk ≤ 4 := by rw [← hkk]; exact kOf_le _ _
      obtain ⟨bs, hbs⟩ : ∃ bs : ByteArray, (⟨(blankL kk).toArray⟩ : ByteArray) = bs := ⟨_, rfl⟩
      have FB : Hid ((#[.string ⟨#[32]⟩, .string ⟨#[10]⟩, .string ⟨#[9, 32]⟩, .string ⟨#[13, 10]⟩, .string ⟨#[32, 32]⟩] : Array Value)[kk]? = some (.string bs)) := by unfold Hid; rw [← hbs]; exact blankL_cell kk hk4
      have rb : wr.cell? ⟨w2.heap.size, kk, none⟩ = some (.string bs) := (cell_of HBB.out kk).trans FB.out
      have hwl := G2.out x (List.mem_of_getElem? hx1)
      have ht : x.text.length ≤ 1099511627776 := by
        have h1 := hwl
        unfold writtenL at h1
        split at h1
        · simp at h1; omega
        · omega
      obtain ⟨wv, hwv⟩ : ∃ wv : ByteArray, (⟨(writtenL s.data.toList x).toArray⟩ : ByteArray) = wv := ⟨_, rfl⟩
      have hW := fun w => written_any s x w ht
      rw [hwv] at hW
      have HW : Hid _ := hW
      have hstep := spaced_step s.data.toList (blOf zs) xs i x hx1
      have hbd : bs.data.toList = blOf zs i := by rw [← hbs]; show blankL kk = blankL (kOf zs i); rw [hkk]
      have hwd : wv.data.toList = writtenL s.data.toList x := by rw [← hwv]
      obtain ⟨t2, ht2⟩ : ∃ t2 : ByteArray, t ++ bs ++ wv = t2 := ⟨_, rfl⟩
      have ht2d : t2.data.toList = t.data.toList ++ (blOf zs i ++ writtenL s.data.toList x) := by rw [← ht2, ← hbd, ← hwd]; simp
      have HT2 : Hid (t2.data.toList ++ spacedFrom s.data.toList (blOf zs) (i + 1) (xs.drop (i + 1)) = spacedFrom s.data.toList (blOf zs) 0 xs) := by
        unfold Hid
        rw [ht2d, ← HC.out, hstep]
        simp
      have hsz : t.size + bs.size + wv.size ≤ 500000000 := by
        have h1 := congrArg List.length HT2.out
        rw [List.length_append, ht2d, List.length_append, List.length_append, ← hbd, ← hwd, ← Lib.size_eq, ← Lib.size_eq, ← Lib.size_eq] at h1
        have h2 := HM.out
        omega
      have HT3 : Hid (t ++ bs ++ wv = t2) := ht2
      have q1 : ¬ 9223372036854775807 < t.size + bs.size := by omega
      have q2 : ¬ 9223372036854775807 < t.size + bs.size + wv.size := by omega
      have hk5 : (kk : Int) < 5 := by omega
      by_cases hz : i < zs.length
      · have hzi : (i : Int) < (zs.length : Int) := by omega
        obtain ⟨lb, lo, rfl, hrz⟩ : ∃ lb lo, ad = some ⟨lb, lo, none⟩ ∧ wr.cell? ⟨lb, lo + i, none⟩ = some (.int .i64 zs[i]) := by
          obtain ⟨a2, c2, e2, h2 | ⟨lb, lo, h2, h3, h4⟩⟩ := IsSl.kept (IsSl.kept HV.out HK.out) ka
          · subst h2; exact absurd hz (Nat.not_lt_zero _)
          · cases e2; exact ⟨lb, lo, h2, h4 i hz⟩
        obtain ⟨b1, b2⟩ := HZ.out zs[i] (List.getElem_mem hz)
        have hko := kOf_some hz
        rw [hkk] at hko
        obtain ⟨z, hzz⟩ : ∃ z, zs[i] = z := ⟨_, rfl⟩
        rw [hzz] at hrz hko b1 b2
        clear f1 f2 f3 ka hrw hnw hkk hbs hwl hwv hW hstep hbd hwd ht2 ht2d ht hzz hx1
        rcases hko with ⟨m1, m2⟩ | ⟨m1, m2⟩
        · have m3 : ¬ (kk : Int) < 0 := by omega
          clear m2
          go_wp2_with fail
          go_region_with (go_at_call 23; refine (HW.out _).mono ?_; rintro e w3 ⟨rfl, k3⟩; have zb : w3.cell? ⟨w2.heap.size, kk, none⟩ = some (.string bs) := (cell_of (k3.at HBB.out (by simp)) kk).trans FB.out; have HK3 : Hid _ := k3; clear k3)
          all_goals go_wp2
          all_goals go_roundw
          all_goals first
            | exact ⟨i + 1, t2, congrArg Value.string HT3.out, by go_num, by omega, HT2, HR.out.trans (((Kept.refl [] wr).drew).trans HK3.out (H := []) (by simp) (by simp)) (by simp) (by simp)⟩
            | exact ⟨i + 1, t2, congrArg Value.string HT3.out, by go_num, by omega, HT2, HR.out.trans HK3.out (by simp) (by simp)⟩
            | (simp [intOf]; omega)
        · have m3 : -(kk : Int) < 0 := by omega
          have m4 : - -(kk : Int) = (kk : Int) := by omega
          clear m2
          go_wp2_with fail
          go_region_with (go_at_call 23; refine (HW.out _).mono ?_; rintro e w3 ⟨rfl, k3⟩; have zb : w3.cell? ⟨w2.heap.size, kk, none⟩ = some (.string bs) := (cell_of (k3.at HBB.out (by simp)) kk).trans FB.out; have HK3 : Hid _ := k3; clear k3)
          all_goals go_wp2
          all_goals go_roundw
          all_goals first
            | exact ⟨i + 1, t2, congrArg Value.string HT3.out, by go_num, by omega, HT2, HR.out.trans (((Kept.refl [] wr).drew).trans HK3.out (H := []) (by simp) (by simp)) (by simp) (by simp)⟩
            | exact ⟨i + 1, t2, congrArg Value.string HT3.out, by go_num, by omega, HT2, HR.out.trans HK3.out (by simp) (by simp)⟩
            | (simp [intOf]; omega)
      · have hzi : ¬ (i : Int) < (zs.length : Int) := by omega
        have hk0 : kk = 0 := by rw [← hkk]; exact kOf_none hz
        subst hk0
        clear f1 f2 f3 ka hrw hnw hkk hbs hwl hwv hW hstep hbd hwd ht2 ht2d ht hx1
        · skip
          go_wp2_with fail
          go_region_with (go_at_call 23; refine (HW.out _).mono ?_; rintro e w3 ⟨rfl, k3⟩; have zb : w3.cell? ⟨w2.heap.size, 0, none⟩ = some (.string bs) := (cell_of (k3.at HBB.out (by simp)) 0).trans FB.out; have HK3 : Hid _ := k3; clear k3)
          all_goals go_wp2
          all_goals go_roundw
          all_goals first
            | exact ⟨i + 1, t2, congrArg Value.string HT3.out, by go_num, by omega, HT2, HR.out.trans (((Kept.refl [] wr).drew).trans HK3.out (H := []) (by simp) (by simp)) (by simp) (by simp)⟩
            | exact ⟨i + 1, t2, congrArg Value.string HT3.out, by go_num, by omega, HT2, HR.out.trans HK3.out (by simp) (by simp)⟩
            | (simp [intOf]; omega)
    · have hie : i = xs.length := by omega
      subst hie
      have hii : ¬ ((xs.length : Nat) : Int) < (xs.length : Int) := by omega
      have htd : t.data.toList = spacedFrom s.data.toList (blOf zs) 0 xs := by
        have h := HC.out
        rw [List.drop_length] at h
        have e : t.data.toList ++ spacedFrom s.data.toList (blOf zs) xs.length [] = t.data.toList := List.append_nil _
        rw [← h, e]
      have hts : t.size ≤ 500000000 := by rw [Lib.size_eq, htd]; exact HM.out
      obtain ⟨ys, hys⟩ : ∃ ys, itemsOf t.data.toList = ys := ⟨_, rfl⟩
      have hmk : ys.map kindTE = xs.map kindTE := by rw [← hys, htd]; exact G1.out
      obtain ⟨hyl, hya⟩ := map_kind_at hmk
      have hyg : ∀ y ∈ ys, y.err = 0 := fun y hy => by
        obtain ⟨j, hj, rfl⟩ := List.getElem_of_mem hy
        obtain ⟨y2, e1, _, _, e4⟩ := hya j xs[j] (List.getElem?_eq_getElem (by omega))
        rw [List.getElem?_eq_getElem hj] at e1
        rw [Option.some.inj e1, e4]
        exact HG.out _ (List.getElem_mem _)
      have hT2 := fun w => tokens_good t w (by omega) ys (by rw [hys]; exact tokensE_good hyg) (by omega)
      rw [hyl] at hT2
      have HT2 : Hid _ := hT2
      have HYA : Hid _ := hya
      have hll : ((xs.length : Int) != (xs.length : Int)) = false := by simp
      have ka : Kept [] w2 wr := ((Kept.refl [] w2).alloc _).trans HR.out (by simp) (by simp)
      have HKA : Hid (Kept [] w wr) := HK.out.trans ka (by simp) (by simp)
      have HRW : Hid _ := ka.at hrow.out (by simp)
      clear hT2 hya ka hmk hys htd hyg G1 G2 HM HV HZ HK HC HR hrow
      go_wp2_with (go_at_call 12; refine (HT2.out _).mono ?_; rintro e w5 ⟨g5, cap5, cur5, rfl, hg5, hrow5, hcap5, hcur5, k5⟩)
      have HK5 : Hid _ := k5
      clear k5 HT2 hg5
      have HR5 : Hid (w5.heap[g]? = some (.cells cur 50 (0, 0))) := HK5.out.at HRW.out (by simp)
      go_loopw [16] (fun vi wr2 => ∃ j : Nat, vi = .int .i64 (j : Nat) ∧ j ≤ xs.length ∧ Hid (Kept [] w5 wr2)) (fun vi _ => xs.length - (intOf vi).toNat)
      case atStart => exact ⟨0, rfl, Nat.zero_le _, Kept.refl _ _⟩
      case round =>
        obtain ⟨j, rfl, hjx, HJ⟩ := hrel
        by_cases hj : j < xs.length
        · have hji : (j : Int) < (xs.length : Int) := by omega
          obtain ⟨x, hx1⟩ : ∃ x, xs[j]? = some x := ⟨xs[j], List.getElem?_eq_getElem hj⟩
          obtain ⟨y, hy1, e1, e2, _⟩ := HYA.out j x hx1
          obtain ⟨f1, f2, f3⟩ := flatI_at xs j x hx1
          obtain ⟨y1, y2, y3⟩ := flatI_at ys j y hy1
          rw [e1] at y1
          rw [e2] at y2
          obtain ⟨tx, htx⟩ : ∃ tx : ByteArray, (⟨x.text.toArray⟩ : ByteArray) = tx := ⟨_, rfl⟩
          rw [htx] at f2 y2
          obtain ⟨kv, hkv⟩ : ∃ kv : Nat, x.kind.val = kv := ⟨_, rfl⟩
          rw [hkv] at f1 y1
          have r0 : wr.cell? ⟨g, j * 3, none⟩ = some (.int .u8 (kv : Nat)) := (cell_of (HJ.out.at HR5.out (by simp)) _).trans ((hcur.out _ (by omega)).trans f1)
          have r1 : wr.cell? ⟨g, j * 3 + 1, none⟩ = some (.string tx) := (cell_of (HJ.out.at HR5.out (by simp)) _).trans ((hcur.out _ (by omega)).trans f2)
          have u0 : wr.cell? ⟨g5, j * 3, none⟩ = some (.int .u8 (kv : Nat)) := (cell_of (HJ.out.at hrow5.out (by simp)) _).trans ((hcur5.out _ (by omega)).trans y1)
          have u1 : wr.cell? ⟨g5, j * 3 + 1, none⟩ = some (.string tx) := (cell_of (HJ.out.at hrow5.out (by simp)) _).trans ((hcur5.out _ (by omega)).trans y2)
          have v1 : (tx.toList != tx.toList) = false := by simp
          have v2 : ((kv : Int) != (kv : Int)) = false := by simp
          clear f1 f2 f3 y1 y2 y3 e1 e2 hy1 hx1 htx hkv
          go_wp2_with fail
          go_quiet (fail)
          go_wp2
          go_roundw
          case rel => exact ⟨j + 1, by go_num, by omega, by first | exact HJ | exact HJ.out.drewN _⟩
          case measure => simp [intOf]; omega
        · have hji : ¬ (j : Int) < (xs.length : Int) := by omega
          go_wp2
          go_ret
          exact ⟨rfl, (HKA.out.trans HK5.out (H := []) (by simp) (by simp)).trans HJ.out (by simp) (by simp)⟩
end Go.Proofs.YtilgfnafkcjdgaaDoor
