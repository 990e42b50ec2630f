/- WordsAll: the walk. -/
import Derived.Test.YtamfnefnaelgfaaDoorHH
import Derived.Test.YtamfnefnaelgfaaDoorWdWorksX
import Derived.Deep.CutRange
import Derived.Deep.RegionHeld3
import Derived.Sort.CutIn
namespace Go.Proofs.YtamfnefnaelgfaaDoor
open Go.RowKit Go.Shelf
attribute [local go_sem] Oper.semAt_some

theorem leaveA {n : Nat} {w W : World} {B D1 D2 : Nat} {tmps : Array Value} (p8 : tmps[8]?.getD undef = .pointer (some ⟨B, 0, none⟩)) (bb : Boxed W B 4 (.bool false)) (K1 : W.heap[D1]? = some (.deferred (some []))) (K2 : W.heap[D2]? = some (.deferred (some []))) (hne : D1 ≠ D2) (hlow : Below w.heap.size w W) (hB : w.heap.size ≤ B) (h1 : w.heap.size ≤ D1) (h2 : w.heap.size ≤ D2) :
    bodyPostM Fence.wide n Tryd.prog Tryd.f3 (fun e w' => e = .returned (.bool true) ∧ Below w.heap.size w w') .ret { tmps := tmps, defers := [{ target := .collected D2, args := #[] }, { target := .collected D1, args := #[] }] } (W.setCell ⟨B, 0, none⟩ (.bool true)) := by
  have off : ∀ D, W.heap[D]? = some (.deferred (some [])) → D ≠ B := fun D hD e => by subst e; rw [show W.heap[D]? = _ from bb] at hD; cases hD
  have k1 : (W.setCell ⟨B, 0, none⟩ (.bool true)).heap[D1]? = some (.deferred (some [])) := (Below.heap_setCell _ _ _ _ (off D1 K1)).trans K1
  have k2 : (W.setCell ⟨B, 0, none⟩ (.bool true)).heap[D2]? = some (.deferred (some [])) := (Below.heap_setCell _ _ _ _ (off D2 K2)).trans K2
  have k1' : ((W.setCell ⟨B, 0, none⟩ (.bool true)).putObj D2 (.deferred none)).heap[D1]? = some (.deferred (some [])) := (World.putObj_heap_other hne).trans k1
  have b1 : Boxed (((W.setCell ⟨B, 0, none⟩ (.bool true)).putObj D2 (.deferred none)).putObj D1 (.deferred none)) B 4 (.bool true) := (World.putObj_heap_other (off D1 K1).symm).trans ((World.putObj_heap_other (off D2 K2).symm).trans (Boxed.set _ bb))
  have c := b1.cell
  refine ⟨by simp, .inl ⟨_, _, rfl, run_takeDeferred k2, by simp, .inl ⟨_, _, rfl, run_takeDeferred k1', ⟨.bool true, ?_, rfl, ?_⟩⟩⟩⟩
  · simp [results, Tryd.f3, go_sem, p8, c]
  · exact ((hlow.setCell (p := ⟨B, 0, none⟩) hB _).trans (belowK_b (w := w) (Nat.le_refl _) _ D2 _ _ h2 k2 rfl rfl)).trans (belowK_b (w := w) (Nat.le_refl _) _ D1 _ _ h1 k1' rfl rfl)
set_option maxHeartbeats 8000000 in
set_option maxRecDepth 20000 in
theorem all_walk (props size many inner : Int) (w : World) (hz : -9223372036854775808 ≤ size ∧ size ≤ 9223372036854775807) (hm : -9223372036854775808 ≤ many ∧ many ≤ 9223372036854775807) (hi : -9223372036854775808 ≤ inner ∧ inner ≤ 9223372036854775807) (hT : PowTab w) :
    Calls Tryd.prog 3 #[.int .i64 props, .int .i64 size, .int .i64 many, .int .i64 inner] w fun e w' => e = .returned (.bool true) ∧ Below w.heap.size w w' := by
  obtain ⟨V, hV⟩ : ∃ V, (w.alloc (.cells #[.int .i64 inner] 3)).alloc (.cells #[.bool false] 4) = V := ⟨_, rfl⟩
  have HKV : Hid (Kept [] w V) := by show Kept [] w V; rw [← hV]; exact ((Kept.refl [] w).alloc _).alloc _
  have HIV : Hid (Boxed V w.heap.size 3 (.int .i64 inner)) := by show Boxed _ _ _ _; rw [← hV]; exact alUp (al0 _ _) _
  have HRV : Hid (Boxed V (w.heap.size + 1) 4 (.bool false)) := by show Boxed _ _ _ _; rw [← hV]; exact al1 _ _ _
  have HVV : Hid (_ = V) := hV
  have HWK : Hid (Calls Tryd.prog 4 #[] V fun e w' => e = .returned (.bool true) ∧ Hid (Kept [] V w')) := works_any V (hT.kept HKV.out)
  have HP1 : Hid (∀ W, Calls Tryd.prog 5 #[.int .i64 many, .int .i64 150] W fun e w' => ∃ k : Nat, e = .returned (.int .i64 (k : Nat)) ∧ (k : Int) < 150 ∧ w' = W) := fun W => pick_any many 150 W hm (by decide) (by decide)
  have HP2 : Hid (∀ (m : Nat) W, 0 < m → m ≤ 150 → Calls Tryd.prog 5 #[.int .i64 inner, .int .i64 (m : Nat)] W fun e w' => ∃ k : Nat, e = .returned (.int .i64 (k : Nat)) ∧ (k : Int) < m ∧ w' = W) := fun m W h h' => pick_any inner m W hi (by omega) (by omega)
  obtain ⟨sz, hsz⟩ : ∃ sz : Int, (if props = 0 then min size 200 else size) = sz := ⟨_, rfl⟩
  have hszb : sz ≤ 9223372036854775807 := by rw [← hsz]; split <;> omega
  have heq := eql_nil
  clear hT hV hm hi
  refine (callsIn_wide (n := 9)).1 ?_
  refine callsIn_of_wp_marks Tryd.func3 rfl trivial ?_ rfl
  simp only [Tryd.ntmps3, List.size_toArray, List.length_cons, List.length_nil, Nat.reduceSub, Nat.reduceAdd, Array.replicate_succ, Array.replicate_zero, List.push_toArray, List.append_toArray, List.nil_append, List.cons_append]
  refine wpIn_wide.2 ?_
  go_upto_region 2 with (go_at_call 4; rw [HVV.out]; refine HWK.out.mono ?_; rintro e W1 ⟨rfl, HK1⟩)
  clear HWK HVV
  go_upto_region 3 with (go_at_call 5; refine (HP1.out W1).mono ?_; rintro e W1b ⟨n, rfl, hn3, rfl⟩)
  obtain ⟨A, hA⟩ : ∃ A, W1b.alloc (.cells #[.int .i64 (n : Nat)] 3) = A := ⟨_, rfl⟩
  have HKA : Hid (Kept [] V A) := by show Kept [] V A; rw [← hA]; exact HK1.out.alloc _
  have HBN : Hid (Boxed A W1b.heap.size 3 (.int .i64 (n : Nat))) := by show Boxed _ _ _ _; rw [← hA]; exact al0 _ _
  have HZ1 : Hid (V.heap.size ≤ W1b.heap.size ∧ A.heap.size = W1b.heap.size + 1) := ⟨HK1.out.size, by rw [← hA, World.size_alloc]⟩
  rw [hA]
  obtain ⟨Bn, hBn⟩ : ∃ Bn, W1b.heap.size = Bn := ⟨_, rfl⟩
  rw [hBn] at HBN HZ1 ⊢
  clear hA hBn HK1 HP1
  go_upto_if 25 with fail
  go_cut [1] from 26 to 27 (fun s1 wx => s1 = .int .i64 sz ∧ wx = A)
  case first =>
    by_cases h0 : props = 0
    · subst h0
      rw [if_pos rfl] at hsz
      go_wp2_with fail
      go_meet
      exact ⟨by first | rfl | rw [hsz], rfl⟩
    · rw [if_neg h0] at hsz
      have z0 : (props == 0) = false := by rw [beq_eq_false_iff_ne]; exact h0
      go_wp2_with fail
      go_meet
      exact ⟨by first | rfl | rw [hsz], rfl⟩
  case rest =>
    obtain ⟨rfl, hwc⟩ := hcut
    have hwc2 := hwc.symm
    clear hwc
    subst hwc2
    clear hsz
    obtain ⟨m1, hm1⟩ : ∃ m1 : Nat, (n : Int) + 1 = m1 := ⟨n + 1, by omega⟩
    obtain ⟨L, hL⟩ : ∃ L, listW props sz = L := ⟨_, rfl⟩
    obtain ⟨wl, hwl⟩ : ∃ wl, L.take m1 = wl := ⟨_, rfl⟩
    have HRA : Hid (Calls Tryd.prog 6 #[.int .i64 props, .int .i64 (min sz 20), .int .i64 (m1 : Nat)] A fun e w' => ∃ wad wc, e = .returned (.slice wad wl.length wc) ∧ Hid (Wds A.heap.size w' (.slice wad wl.length wc) wl) ∧ Hid (Kept [] A w')) := by
      refine (refAll_want props sz m1 A (by omega)).mono ?_
      rintro e w' ⟨v, rfl, h1, h2⟩
      rw [hL, hwl] at h1
      obtain ⟨wad, wc, rfl⟩ := h1.out.form
      exact ⟨wad, wc, rfl, h1, h2⟩
    have HL : Hid (listW props sz = L) := hL
    have HWL : Hid (L.take m1 = wl) := hwl
    have HM1 : Hid ((n : Int) + 1 = m1) := hm1
    have cn := HBN.out.cell
    clear hL hwl
    go_upto_region 6 with (go_at_call 6; refine HRA.out.mono ?_; rintro e Wc ⟨wad, wc, rfl, HWD, HKc⟩)
    clear cn HRA hm1
    obtain ⟨C, hC⟩ : ∃ C, Wc.alloc (.cells #[.slice wad wl.length wc] 24) = C := ⟨_, rfl⟩
    have HKC : Hid (Kept [] A C) := by show Kept [] A C; rw [← hC]; exact HKc.out.alloc _
    have HBW : Hid (Boxed C Wc.heap.size 24 (.slice wad wl.length wc)) := by show Boxed _ _ _ _; rw [← hC]; exact al0 _ _
    have HWC : Hid (Wds A.heap.size C (.slice wad wl.length wc) wl) := HWD.out.kept (by rw [← hC]; exact (Kept.refl [] Wc).alloc _)
    have HZ2 : Hid (A.heap.size ≤ Wc.heap.size ∧ C.heap.size = Wc.heap.size + 1) := ⟨HKc.out.size, by rw [← hC, World.size_alloc]⟩
    rw [hC]
    obtain ⟨Bw', hBw⟩ : ∃ Bw, Wc.heap.size = Bw := ⟨_, rfl⟩
    rw [hBw] at HBW HZ2 ⊢
    clear hC hBw HKc HWD
    go_upto_region 7 with (go_at_call 7; refine (all_anyN props sz C).mono ?_; rintro e D ⟨rfl, HAL, HKD⟩)
    obtain ⟨E, hE⟩ : ∃ E, D.alloc (.cells #[.func (.func 24) #[] #[.pointer (some ⟨C.heap.size + 1, 0, none⟩), .pointer (some ⟨C.heap.size, 0, none⟩)]] 27) = E := ⟨_, rfl⟩
    have HKE : Hid (Kept [] D E) := by show Kept [] D E; rw [← hE]; exact (Kept.refl [] D).alloc _
    have HBI : Hid (Boxed E D.heap.size 27 (.func (.func 24) #[] #[.pointer (some ⟨C.heap.size + 1, 0, none⟩), .pointer (some ⟨C.heap.size, 0, none⟩)])) := by show Boxed _ _ _ _; rw [← hE]; exact al0 _ _
    have HZ3 : Hid (C.heap.size + 1 < D.heap.size ∧ E.heap.size = D.heap.size + 1) := ⟨HAL.out.1.lt, by rw [← hE, World.size_alloc]⟩
    rw [hE]
    obtain ⟨Bi, hBi⟩ : ∃ Bi, D.heap.size = Bi := ⟨_, rfl⟩
    rw [hBi] at HBI HZ3 ⊢
    clear hE hBi
    have ci := HBI.out.cell
    go_wp2_with fail
    clear ci heq
    obtain ⟨G, hG⟩ : ∃ G, (E.alloc (.cells #[.slice none 0 0, .slice none 0 0, .slice none 0 0, .slice none 0 0, .slice none 0 0, .slice none 0 0, .slice none 0 0, .slice none 0 0, .slice none 0 0, .slice none 0 0, .slice none 0 0, .slice none 0 0, .slice none 0 0] 44)).alloc (.cells #[.pointer (some ⟨E.heap.size, 0, none⟩)] 29) = G := ⟨_, rfl⟩
    have hGK : Kept [] E G := by rw [← hG]; exact ((Kept.refl [] E).alloc _).alloc _
    have hGB : G.heap[E.heap.size]? = some (.cells #[.slice none 0 0, .slice none 0 0, .slice none 0 0, .slice none 0 0, .slice none 0 0, .slice none 0 0, .slice none 0 0, .slice none 0 0, .slice none 0 0, .slice none 0 0, .slice none 0 0, .slice none 0 0, .slice none 0 0] 44 (0, 0)) := by rw [← hG]; exact alUp (al0 _ _) _
    have hGP : Boxed G (E.heap.size + 1) 29 (.pointer (some ⟨E.heap.size, 0, none⟩)) := by rw [← hG]; exact al1 _ _ _
    rw [hG]
    clear hG
    have kDG : Kept [] D G := kept_same HKE.out hGK
    have kCG : Kept [] C G := kept_same HKD.out kDG
    have kAG : Kept [] A G := kept_same HKC.out kCG
    have kVG : Kept [] V G := kept_same HKA.out kAG
    have kwG : Kept [] w G := kept_same HKV.out kVG
    have z1 : w.heap.size + 1 < V.heap.size := HRV.out.lt
    have z2 := HZ1.out
    have z3 := HZ2.out
    have z4 := HZ3.out
    have HR0 : Hid (AlR w [] w.heap.size E.heap.size (fxOf (w.heap.size + 1) w.heap.size Bn Bw' Bi (E.heap.size + 1) (C.heap.size + 1) C.heap.size n inner (sizeZ props sz) props (.slice wad wl.length wc) (.func (.func 24) #[] #[.pointer (some ⟨C.heap.size + 1, 0, none⟩), .pointer (some ⟨C.heap.size, 0, none⟩)]) (.pointer (some ⟨E.heap.size, 0, none⟩))) (.slice wad wl.length wc) wl [] [] G) := by
      refine ⟨fx_of (kVG.at HRV.out (by simp)) (kVG.at HIV.out (by simp)) (kAG.at HBN.out (by simp)) (kCG.at HBW.out (by simp)) (hGK.at HBI.out (by simp)) hGP (kDG.at HAL.out.1 (by simp)) (kDG.at HAL.out.2 (by simp)), (HWC.out.kept kCG).below (Nat.le_refl _), ⟨_, BookL.start hGB kwG.size kwG.size⟩, fun d hd => (by cases hd), kwG.below, kwG.size⟩
    have HBL : Hid (w.heap.size ≤ E.heap.size) := by show _ ≤ _; omega
    have HRW : Hid (w.heap.size ≤ w.heap.size + 1) := Nat.le_succ _
    clear hGK hGB hGP kDG kCG kAG kVG kwG z1 z2 z3 z4 HKE HKD HKC HKA HKV HRV HIV HBN HBW HBI HAL HWC HZ1 HZ2 HZ3
    obtain ⟨Br, hBr⟩ : ∃ Br, w.heap.size + 1 = Br := ⟨_, rfl⟩
    obtain ⟨Bo, hBo⟩ : ∃ Bo, w.heap.size = Bo := ⟨_, rfl⟩
    obtain ⟨Bb, hBb⟩ : ∃ Bb, E.heap.size + 1 = Bb := ⟨_, rfl⟩
    obtain ⟨B, hB⟩ : ∃ B, E.heap.size = B := ⟨_, rfl⟩
    obtain ⟨Bz, hBz⟩ : ∃ Bz, C.heap.size + 1 = Bz := ⟨_, rfl⟩
    obtain ⟨Bq, hBq⟩ : ∃ Bq, C.heap.size = Bq := ⟨_, rfl⟩
    rw [hBr, hBb, hB, hBz, hBq] at HR0
    rw [hBr, hBb, hB, hBz, hBq, hBo]
    rw [hB] at HBL
    rw [hBr] at HRW
    have HR1 : Hid (AlR w [] w.heap.size B (fxOf Br Bo Bn Bw' Bi Bb Bz Bq n inner (sizeZ props sz) props (.slice wad wl.length wc) (.func (.func 24) #[] #[.pointer (some ⟨Bz, 0, none⟩), .pointer (some ⟨Bq, 0, none⟩)]) (.pointer (some ⟨B, 0, none⟩))) (.slice wad wl.length wc) wl [] [] G) := by rw [← hBo]; exact HR0.out
    obtain ⟨Z, hZ⟩ : ∃ Z, w.heap.size = Z := ⟨_, rfl⟩
    have HZZ : Hid (w.heap.size ≤ Z) := by show _ ≤ _; omega
    rw [hZ] at HR1
    clear HR0 hBr hBb hB hBz hBq hBo hZ
    refine wp_loop (fun a wr => ∃ (r : Nat) (ds : List Nat) (vs : List Value) (xs : List (List Nat)) (u15 u41 u42 u43 u44 u45 u82 u83 u84 u85 u86 u87 u88 : Value), (r ≤ 2 ∧ ds.length = r ∧ ds.Nodup ∧ Hid (∀ d ∈ ds, w.heap.size ≤ d) ∧ vs.length ≤ 302 * r ∧ Hid (AlR w ds Z B (fxOf Br Bo Bn Bw' Bi Bb Bz Bq n inner (sizeZ props sz) props (.slice wad wl.length wc) (.func (.func 24) #[] #[.pointer (some ⟨Bz, 0, none⟩), .pointer (some ⟨Bq, 0, none⟩)]) (.pointer (some ⟨B, 0, none⟩))) (.slice wad wl.length wc) wl vs xs wr)) ∧ a = { tmps := #[.int .i64 props, .int .i64 sz, .int .i64 many, .int .i64 inner, undef, undef, undef, .pointer (some ⟨Bo, 0, none⟩), .pointer (some ⟨Br, 0, none⟩), .bool true, .pointer (some ⟨Bn, 0, none⟩), .pointer (some ⟨Bw', 0, none⟩), .pointer (some ⟨Bi, 0, none⟩), .pointer (some ⟨Bb, 0, none⟩), .int .i64 (r : Nat), u15, undef, undef, undef, undef, undef, .bool true, .int .i64 many, .int .i64 (n : Nat), .int .i64 props, .bool (props == 0), u26, u27, .int .i64 props, .int .i64 sz, .int .i64 (min sz 20), .int .i64 (n : Nat), .int .i64 (m1 : Nat), .slice wad wl.length wc, .int .i64 props, .int .i64 sz, .func (.func 24) #[] #[.pointer (some ⟨Bz, 0, none⟩), .pointer (some ⟨Bq, 0, none⟩)], .func (.func 24) #[] #[.pointer (some ⟨Bz, 0, none⟩), .pointer (some ⟨Bq, 0, none⟩)], .bool false, .agg #[.slice none 0 0, .slice none 0 0, .slice none 0 0, .slice none 0 0, .slice none 0 0, .slice none 0 0, .slice none 0 0, .slice none 0 0, .slice none 0 0, .slice none 0 0, .slice none 0 0, .slice none 0 0, .slice none 0 0], .pointer (some ⟨B, 0, none⟩), u41, u42, u43, u44, u45, undef, undef, undef, undef, undef, undef, undef, undef, undef, undef, undef, undef, undef, undef, undef, undef, undef, undef, undef, undef, undef, undef, undef, undef, undef, undef, undef, undef, undef, undef, undef, undef, undef, undef, undef, undef, u82, u83, u84, u85, u86, u87, u88, undef, undef, undef, undef, undef, undef], defers := ds.map fun D => { target := .collected D, args := #[] } }) (fun a _ => 2 - (intOf (a.tmps.getD 14 undef)).toNat) ⟨0, [], [], [], _, _, _, _, _, _, _, _, _, _, _, _, _, ⟨by omega, rfl, List.nodup_nil, (fun d hd => by cases hd), by simp, HR1.out⟩, rfl⟩ ?_
    rintro _ wr ⟨r, ds, vs, xs, u15, u41, u42, u43, u44, u45, u82, u83, u84, u85, u86, u87, u88, ⟨hr2, hds, hnd, HDW, hvs, HR⟩, rfl⟩
    clear HR1
    dsimp only
    by_cases hlt : r < 2
    · have z0 : (r : Int) < 2 := by omega
      go_upto_region 14 with fail
      obtain ⟨U, hU⟩ : ∃ U, wr.alloc (.cells #[.int .i64 0] 3) = U := ⟨_, rfl⟩
      have hS0 : AlS w ds Z U.heap.size B wr.heap.size n (fxOf Br Bo Bn Bw' Bi Bb Bz Bq n inner (sizeZ props sz) props (.slice wad wl.length wc) (.func (.func 24) #[] #[.pointer (some ⟨Bz, 0, none⟩), .pointer (some ⟨Bq, 0, none⟩)]) (.pointer (some ⟨B, 0, none⟩))) (.slice wad wl.length wc) wl vs xs (fun _ => False) [] U := HR.out.begin hU
      have HFO : Hid (FxOk w (fun k => k = Bz ∨ k = Bq) B wr.heap.size (fxOf Br Bo Bn Bw' Bi Bb Bz Bq n inner (sizeZ props sz) props (.slice wad wl.length wc) (.func (.func 24) #[] #[.pointer (some ⟨Bz, 0, none⟩), .pointer (some ⟨Bq, 0, none⟩)]) (.pointer (some ⟨B, 0, none⟩)))) := HR.out.fxok8 HBL.out
      rw [hU]
      obtain ⟨Bk, hBk⟩ : ∃ Bk, wr.heap.size = Bk := ⟨_, rfl⟩
      rw [hBk] at hS0 HFO ⊢
      obtain ⟨D0, hD0⟩ : ∃ D0, U.heap.size = D0 := ⟨_, rfl⟩
      rw [hD0] at hS0
      have ci := hS0.q.i.cell
      obtain ⟨f1, _, _, _, _, _, f7, f8⟩ := fx_all hS0.fix
      have hgo : GoesAtL Fence.wide (9 - 1) Tryd.prog 24 #[.pointer (some ⟨Bz, 0, none⟩), .pointer (some ⟨Bq, 0, none⟩)] nwV (NwAt L) FrNw (fun k => k = Bz ∨ k = Bq) (fun _ => False) (fun xs => xs.map Nw.q = L) (fun pre => pre.map Nw.q <+: L) L.length (fun pre => pre.length < 306) U := by
        have h := all_goesN (9 - 1) Bz Bq props sz U f7.1 f8.1 hszb
        rw [HL.out] at h
        exact h
      have hTU : ∀ k, (k = Bz ∨ k = Bq) → k < U.heap.size := fun k hk => hk.elim (fun e => by rw [e]; exact f7.1.lt) (fun e => by rw [e]; exact f8.1.lt)
      have HKU : Hid (Bk < U.heap.size) := hS0.bk.1.lt
      have hS1 : Hid (AlS w ds Z D0 B Bk n (fxOf Br Bo Bn Bw' Bi Bb Bz Bq n inner (sizeZ props sz) props (.slice wad wl.length wc) (.func (.func 24) #[] #[.pointer (some ⟨Bz, 0, none⟩), .pointer (some ⟨Bq, 0, none⟩)]) (.pointer (some ⟨B, 0, none⟩))) (.slice wad wl.length wc) wl vs xs (fun _ => False) [] U) := hS0
      clear hU hBk hD0 f1 f7 f8 hS0 HR
      go_wp2_with fail
      clear ci
      refine (wpIn_wide (n := 9)).1 ?_
      refine rangeWordL rfl (by omega) (gf := 24) (lb := #[.pointer (some ⟨Bz, 0, none⟩), .pointer (some ⟨Bq, 0, none⟩)]) rfl trivial (enters_of Tryd.func24 (by kernel_rfl) rfl)
        hgo (nwAt_kept _) hTU (fun k h => h.elim) (fun _ => rfl)
        (AlS w ds Z D0 B Bk n (fxOf Br Bo Bn Bw' Bi Bb Bz Bq n inner (sizeZ props sz) props (.slice wad wl.length wc) (.func (.func 24) #[] #[.pointer (some ⟨Bz, 0, none⟩), .pointer (some ⟨Bq, 0, none⟩)]) (.pointer (some ⟨B, 0, none⟩))) (.slice wad wl.length wc) wl vs xs)
        (AlX w ds Z D0 B Bk n (fxOf Br Bo Bn Bw' Bi Bb Bz Bq n inner (sizeZ props sz) props (.slice wad wl.length wc) (.func (.func 24) #[] #[.pointer (some ⟨Bz, 0, none⟩), .pointer (some ⟨Bq, 0, none⟩)]) (.pointer (some ⟨B, 0, none⟩))) (.slice wad wl.length wc) wl vs xs L)
        alS_abide alX_abide hS1.out (fun X pre W h => by have := h.short; omega) ?a1 ?assign ?body ?done ?stop
      case assign =>
        intro l x W Bx K hBx hK
        dsimp only [nwV]
        dsimp only [nwC] at hK
        gi_wp2
        exact hK
      case body =>
        rintro l X pre x Bx W ⟨lr, hlr⟩ hXl hXb hI hBx hrow hat hN hfr
        dsimp only [nwC] at hrow
        have hsh := hI.short
        have HM2 : Hid (n + 1 = m1) := by show _ = _; have := HM1.out; omega
        obtain ⟨q0, hq0⟩ : ∃ q0, L[pre.length]? = some q0 := ⟨_, List.getElem?_eq_getElem hN⟩
        have hq1 : wl[pre.length]? = some q0 := by rw [← HWL.out, List.getElem?_take_of_lt (by have := HM2.out; omega)]; exact hq0
        have hwlen : pre.length < wl.length := by
          rcases Nat.lt_or_ge pre.length wl.length with h | h
          · exact h
          · rw [List.getElem?_eq_none h] at hq1; cases hq1
        obtain ⟨b0, c0, v1, v2, hwv, hc1, hc2, hl1, hl2⟩ := hI.want.get hq1
        obtain ⟨sb, hsb⟩ : ∃ sb, eqW x.q q0 = sb := ⟨_, rfl⟩
        obtain ⟨n9, hnew⟩ := hat.new
        have HI : Hid (AlS w ds Z D0 B Bk n (fxOf Br Bo Bn Bw' Bi Bb Bz Bq n inner (sizeZ props sz) props (.slice wad wl.length wc) (.func (.func 24) #[] #[.pointer (some ⟨Bz, 0, none⟩), .pointer (some ⟨Bq, 0, none⟩)]) (.pointer (some ⟨B, 0, none⟩))) (.slice wad wl.length wc) wl vs xs X pre W) := hI
        have HX : Hid (Wd2 W Bx (.slice x.a1 x.q.stem.length x.c1) (.slice x.a2 x.q.loop.length x.c2)) := hrow
        have HSW : Hid (∀ W2, Kept [] W W2 → Calls Tryd.prog 8 #[.agg #[.slice x.a1 x.q.stem.length x.c1, .slice x.a2 x.q.loop.length x.c2], .agg #[v1, v2]] W2 fun e W' => e = .returned (.bool sb) ∧ Hid (Kept [] W2 W')) := fun W2 k2 => by
          have h := sameWord_any _ _ _ _ x.q q0 W2 (hnew.kept k2).lets1 (hnew.kept k2).lets2 (hl1.kept k2) (hl2.kept k2)
          rw [hsb] at h
          exact h
        have HCC : Hid (W.cell? ⟨b0, pre.length * 2, none⟩ = some v1 ∧ W.cell? ⟨b0, pre.length * 2 + 1, none⟩ = some v2) := ⟨hc1, hc2⟩
        have HBO : Hid (∀ W2, Kept [] W W2 → Calls Tryd.prog 9 #[.pointer (some ⟨B, 0, none⟩), .agg #[.slice x.a1 x.q.stem.length x.c1, .slice x.a2 x.q.loop.length x.c2]] W2 fun e w' => (∃ v, e = .returned v) ∧ Hid (AlM w ds Z D0 B Bk n (fxOf Br Bo Bn Bw' Bi Bb Bz Bq n inner (sizeZ props sz) props (.slice wad wl.length wc) (.func (.func 24) #[] #[.pointer (some ⟨Bz, 0, none⟩), .pointer (some ⟨Bq, 0, none⟩)]) (.pointer (some ⟨B, 0, none⟩))) (.slice wad wl.length wc) wl vs xs X pre x w') ∧ Hid (KpX (orT (fun k => k = Bz ∨ k = Bq) X) W2 w') ∧ Hid (∀ (b : Nat) (c : Array Value) (t : TypeId), W2.heap[b]? = some (.cells c t (0, 0)) → t ≠ 45 → t ≠ 44 → w'.heap[b]? = some (.cells c t (0, 0)))) := fun W2 k2 => alS_word hI HFO.out HZZ.out hat hfr (by omega) (by omega) hXb k2
        have HRS : Hid (sb = false → ¬ L[pre.length]? = some x.q) := fun e hq => by
          rw [hq0] at hq
          obtain rfl := Option.some.inj hq
          rw [e] at hsb
          rw [eqW_iff.2 rfl] at hsb
          cases hsb
        have y1 : ¬ ((wl.length : Int) ≤ (pre.length : Int)) := by omega
        have y2 : decide ((wl.length : Int) ≤ (pre.length : Int)) = false := decide_eq_false y1
        have y3 : ¬ (wl.length ≤ pre.length) := by omega
        have y4 : (pre.length : Int) < (wl.length : Int) := by omega
        cases hwv
        obtain ⟨cr, co, cn, cw, ci, cb, ck⟩ := hI.q.cells
        obtain ⟨cx1, cx2, _, _⟩ := HX.out.cells
        obtain ⟨cv1, cv2⟩ := HCC.out
        clear hI hat hfr hnew hq0 hq1 hl1 hl2 hc1 hc2 hrow hsb
        gi_wp2_with fail
        gi_cut [17] from 51 (fun s17 wx => s17 = .bool sb ∧ Hid (Kept [] W wx))
        case first =>
          gi_region_with (refine ⟨trivial, ?_⟩; gi_at_call 8; refine (CallsIn.inRound l (callsIn_wide.2 (HSW.out _ (Kept.refl [] W).drew))).mono ?_; rintro e W4 ⟨rfl, HK4⟩)
          all_goals (gi_wp2_with fail)
          all_goals gi_meet
          all_goals exact ⟨rfl, kept_same (Kept.refl [] W).drew HK4.out⟩
        case rest =>
          obtain ⟨rfl, HK4⟩ := hcut
          rename World => W4
          clear cr co cn cw ci cb ck cx1 cx2 cv1 cv2
          obtain ⟨cr, co, cn, cw, ci, cb, ck⟩ := (HI.out.q.kept HK4.out).cells
          obtain ⟨cx1, cx2, _, _⟩ := (HX.out.kept HK4.out).cells
          cases sb with
          | false =>
            have fr := (HI.out.q.kept HK4.out).r.frozen
            gi_wp2_with fail
            exact ⟨(KpX.of_kept HK4.out).trans (KpX.setCell (p := ⟨Br, 0, none⟩) (fx_offR HI.out.fix) _), .inr ⟨rfl, pre, x, rfl, HRS.out trivial⟩⟩
          | true =>
            gi_upto_region 22 with (refine ⟨trivial, ?_⟩; gi_at_call 9; refine (CallsIn.inRound l (callsIn_wide.2 (HBO.out W4 HK4.out))).mono ?_; rintro e W5 ⟨⟨v, rfl⟩, HM5, HP5, HT5⟩)
            have HK5 : Hid (KpX (orT (fun k => k = Bz ∨ k = Bq) X) W W5) := (KpX.of_kept HK4.out).trans HP5.out
            clear cr co cn cw ci cb ck cx1 cx2 HP5 HT5
            obtain ⟨cr, co, cn, cw, ci, cb, ck⟩ := HM5.out.q.cells
            have HP3 : Hid (∀ W, Calls Tryd.prog 5 #[.int .i64 inner, .int .i64 ((n : Int) + 1)] W fun e w' => ∃ k : Nat, e = .returned (.int .i64 (k : Nat)) ∧ w' = W) := fun W => by rw [HM1.out]; exact (HP2.out m1 W (by have := HM2.out; omega) (by have := HM2.out; omega)).mono fun e w' ⟨k, h1, _, h3⟩ => ⟨k, h1, h3⟩
            have w1 : IntKind.i64.wrap ((n : Int) + 1) = (n : Int) + 1 := by rw [IntKind.wrap_i64]; omega
            gi_cut [67] from 62 (fun s67 wx => ∃ eb : Bool, s67 = .bool eb ∧ Hid (Kept [] W5 wx))
            case first =>
              gi_region_with (refine ⟨trivial, ?_⟩; gi_at_call 5; (with_reducible show CallsIn _ _ _ _ #[.int .i64 inner, .int .i64 ((n : Int) + 1)] _ _); refine (CallsIn.inRound l (callsIn_wide.2 (HP3.out _))).mono ?_; rintro e W6 ⟨p, rfl, rfl⟩)
              all_goals (gi_wp2_with fail)
              all_goals gi_meet
              all_goals exact ⟨_, rfl, (Kept.refl [] W5).drew⟩
            case rest =>
              obtain ⟨eb, rfl, HK6⟩ := hcut
              rename World => W6
              have HM6 : Hid (AlM w ds Z D0 B Bk n (fxOf Br Bo Bn Bw' Bi Bb Bz Bq n inner (sizeZ props sz) props (.slice (some ⟨b0, 0, none⟩) wl.length wc) (.func (.func 24) #[] #[.pointer (some ⟨Bz, 0, none⟩), .pointer (some ⟨Bq, 0, none⟩)]) (.pointer (some ⟨B, 0, none⟩))) (.slice (some ⟨b0, 0, none⟩) wl.length wc) wl vs xs X pre x W6) := HM5.out.kept HK6.out
              have HKW6 : Hid (KpX (orT (fun k => k = Bz ∨ k = Bq) X) W W6) := HK5.out.trans (KpX.of_kept HK6.out)
              clear cr co cn cw ci cb ck w1 HP3 HM5 HK5 HK6
              cases eb with
              | false =>
                obtain ⟨cr, co, cn, cw, ci, cb, ck⟩ := HM6.out.q.cells
                have fk := HM6.out.bk.1.frozen
                obtain ⟨mm, hmm⟩ : ∃ mm : Nat, (pre.length : Int) + 1 = mm := ⟨pre.length + 1, by omega⟩
                have HMM : Hid (pre.length + 1 = mm) := by show _ = _; omega
                have hmb : mm ≤ 1000 := by omega
                obtain ⟨nb1, nb2⟩ := fx_nb HFO.out
                by_cases hgt : n < mm
                · have g1 : (n : Int) < (mm : Int) := by omega
                  gi_wp2_with fail
                  exact al_exit HM6.out HFO.out HKW6.out HMM.out hgt
                · have g1 : ¬ ((n : Int) < (mm : Int)) := by omega
                  gi_wp2_with fail
                  exact al_norm HM6.out HFO.out HKW6.out HMM.out (by omega)

              | true =>
                have ci := HM6.out.q.i.cell
                gi_wp2_with fail
                clear ci
                have hl6 : W6.heap[l]? = some (.loop lr) := HKW6.out.own l _ (.inl hXl) hlr
                obtain ⟨f1, f7, f8⟩ := fx_boxes HM6.out.fix
                have hgo6 : GoesAtL Fence.wide (9 - 1 - 1 - 1) Tryd.prog 24 #[.pointer (some ⟨Bz, 0, none⟩), .pointer (some ⟨Bq, 0, none⟩)] nwV (NwAt L) FrNw (fun k => k = Bz ∨ k = Bq) (fun _ => False) (fun xs => xs.map Nw.q = L) (fun pre => pre.map Nw.q <+: L) L.length (fun pre => pre.length < 306) W6 := by
                  have h := all_goesN (9 - 1 - 1 - 1) Bz Bq props sz W6 f7 f8 hszb
                  rw [HL.out] at h
                  exact h
                have hT6 : ∀ k, (k = Bz ∨ k = Bq) → k < W6.heap.size := fun k hk => hk.elim (fun e => by rw [e]; exact f7.lt) (fun e => by rw [e]; exact f8.lt)
                have hX6 : ∀ k, orT (fun k => k = Bz ∨ k = Bq) X k → k < W6.heap.size := fun k hk => hk.elim (fun h => Nat.lt_of_lt_of_le (hXb k h) HKW6.out.size) (hT6 k)
                clear f1 f7 f8
                refine rangeWordLi (l₀ := l) (r₀ := lr) rfl hl6 (by omega) (gf := 24) (lb := #[.pointer (some ⟨Bz, 0, none⟩), .pointer (some ⟨Bq, 0, none⟩)]) rfl trivial (enters_of Tryd.func24 (by kernel_rfl) rfl)
                  (hgo6.inRound l) (nwAt_kept _) hT6 (fun k h => h.elim) (fun _ => rfl)
                  (fun X' (pre' : List Nw) W' => pre' = [] ∧ AlI w ds (fun k => k = Bz ∨ k = Bq) X Z D0 B Bk n (fxOf Br Bo Bn Bw' Bi Bb Bz Bq n inner (sizeZ props sz) props (.slice (some ⟨b0, 0, none⟩) wl.length wc) (.func (.func 24) #[] #[.pointer (some ⟨Bz, 0, none⟩), .pointer (some ⟨Bq, 0, none⟩)]) (.pointer (some ⟨B, 0, none⟩))) (.slice (some ⟨b0, 0, none⟩) wl.length wc) wl vs xs pre x W6 X' W')
                  (AlIx w ds (fun k => k = Bz ∨ k = Bq) X Z D0 B Bk n (fxOf Br Bo Bn Bw' Bi Bb Bz Bq n inner (sizeZ props sz) props (.slice (some ⟨b0, 0, none⟩) wl.length wc) (.func (.func 24) #[] #[.pointer (some ⟨Bz, 0, none⟩), .pointer (some ⟨Bq, 0, none⟩)]) (.pointer (some ⟨B, 0, none⟩))) (.slice (some ⟨b0, 0, none⟩) wl.length wc) wl vs xs pre x W6 L)
                  (abide_and (abide_pure (fun p => p = [])) (alI_abide hX6)) (alIx_abide hX6) ⟨rfl, AlI.start HM6.out⟩ (fun _ pre' _ h => by rw [h.1]; simp) ?a2 ?assign2 ?body2 ?done2 ?stop2
                case assign2 =>
                  intro l2 v W7 Bv K hBv hK
                  dsimp only [nwV]
                  dsimp only [nwC] at hK
                  gi_wp2
                  exact hK
                case body2 =>
                  rintro l2 X2 pre2 v Bv W7 _ _ _ ⟨rfl, hI2⟩ _ hrow2 hat2 hN2 _
                  dsimp only [nwC] at hrow2
                  obtain ⟨q00, hq00⟩ : ∃ q00, L[0]? = some q00 := ⟨_, List.getElem?_eq_getElem hN2⟩
                  have hq01 : wl[0]? = some q00 := by rw [← HWL.out, List.getElem?_take_of_lt (by have := HM2.out; omega)]; exact hq00
                  obtain ⟨b9, c9, t1, t2, hwv9, hd1, hd2, hl1, hl2⟩ := hI2.st.want.get hq01
                  obtain ⟨sb, hsb⟩ : ∃ sb, eqW v.q q00 = sb := ⟨_, rfl⟩
                  obtain ⟨n9, hnew⟩ := hat2.new
                  have HI2 : Hid (AlI w ds (fun k => k = Bz ∨ k = Bq) X Z D0 B Bk n (fxOf Br Bo Bn Bw' Bi Bb Bz Bq n inner (sizeZ props sz) props (.slice (some ⟨b0, 0, none⟩) wl.length wc) (.func (.func 24) #[] #[.pointer (some ⟨Bz, 0, none⟩), .pointer (some ⟨Bq, 0, none⟩)]) (.pointer (some ⟨B, 0, none⟩))) (.slice (some ⟨b0, 0, none⟩) wl.length wc) wl vs xs pre x W6 X2 W7) := hI2
                  have HSW2 : Hid (∀ W2, Kept [] W7 W2 → Calls Tryd.prog 8 #[.agg #[.slice v.a1 v.q.stem.length v.c1, .slice v.a2 v.q.loop.length v.c2], .agg #[t1, t2]] W2 fun e W' => e = .returned (.bool sb) ∧ Hid (Kept [] W2 W')) := fun W2 k2 => by
                    have h := sameWord_any _ _ _ _ v.q q00 W2 (hnew.kept k2).lets1 (hnew.kept k2).lets2 (hl1.kept k2) (hl2.kept k2)
                    rw [hsb] at h
                    exact h
                  have HRS2 : Hid (sb = false → ¬ L[0]? = some v.q) := fun e hq => by
                    rw [hq00] at hq
                    obtain rfl := Option.some.inj hq
                    rw [e] at hsb
                    rw [eqW_iff.2 rfl] at hsb
                    cases hsb
                  have eb9 : b9 = b0 ∧ c9 = wc := by simpa [eq_comm] using hwv9
                  obtain ⟨rfl, rfl⟩ := eb9
                  have cv1 : W7.cell? ⟨b9, 0, none⟩ = some t1 := by simpa using hd1
                  have cv2 : W7.cell? ⟨b9, 1, none⟩ = some t2 := by simpa using hd2
                  have y5 : (0 : Int) < (wl.length : Int) := by omega
                  have y6 : 0 < wl.length := by omega
                  obtain ⟨cr, co, cn, cw, ci, cb, ck⟩ := hI2.st.q.cells
                  obtain ⟨cx1, cx2, _, _⟩ := (show Wd2 W7 Bv (.slice v.a1 v.q.stem.length v.c1) (.slice v.a2 v.q.loop.length v.c2) from hrow2).cells
                  clear hI2 hat2 hnew hq00 hq01 hl1 hl2 hd1 hd2 hrow2 hsb hwv9
                  gi_wp2_with fail
                  gi_cut [19] from 70 (fun s19 wx => s19 = .bool sb ∧ Hid (Kept [] W7 wx))
                  case first =>
                    gi_region_with (refine ⟨trivial, ?_⟩; gi_at_call 8; refine (CallsIn.inRound l2 (CallsIn.inRound l (callsIn_wide.2 (HSW2.out _ (Kept.refl [] W7).drew)))).mono ?_; rintro e W8 ⟨rfl, HK8⟩)
                    all_goals (gi_wp2_with fail)
                    all_goals gi_meet
                    all_goals exact ⟨rfl, kept_same (Kept.refl [] W7).drew HK8.out⟩
                  case rest =>
                    obtain ⟨rfl, HK8⟩ := hcut
                    rename World => W8
                    clear cr co cn cw ci cb ck cx1 cx2 cv1 cv2
                    have HI8 : Hid (AlI w ds (fun k => k = Bz ∨ k = Bq) X Z D0 B Bk n (fxOf Br Bo Bn Bw' Bi Bb Bz Bq n inner (sizeZ props sz) props (.slice (some ⟨b9, 0, none⟩) wl.length c9) (.func (.func 24) #[] #[.pointer (some ⟨Bz, 0, none⟩), .pointer (some ⟨Bq, 0, none⟩)]) (.pointer (some ⟨B, 0, none⟩))) (.slice (some ⟨b9, 0, none⟩) wl.length c9) wl vs xs pre x W6 X2 W8) := (alI_abide hX6).kept (pre := ([] : List Nw)) HI2.out HK8.out
                    have cr := HI8.out.st.q.r.cell
                    have fr := HI8.out.st.q.r.frozen
                    cases sb with
                    | false =>
                      gi_wp2_with fail
                      exact ⟨(KpX.of_kept HK8.out).trans (KpX.setCell (p := ⟨Br, 0, none⟩) (fun h => fx_offR HI8.out.st.fix (h.elim (fun q => .inl (.inr q)) .inr)) _), .inr ⟨rfl, v, rfl, HRS2.out trivial⟩⟩
                    | true =>
                      gi_wp2_with fail
                      exact ⟨KpX.of_kept HK8.out, .inl ⟨rfl, HI8.out⟩⟩
                case done2 =>
                  rintro X2 xs2 W8 hS ⟨rfl, _⟩
                  exfalso
                  have h : L = [] := hS.symm
                  rw [h] at hN
                  simp at hN
                case stop2 =>
                  rintro X2 c pre2 W8 hSp (⟨rfl, hI8⟩ | ⟨rfl, v, rfl, hno⟩)
                  · have HM8 : Hid (AlM w ds Z D0 B Bk n (fxOf Br Bo Bn Bw' Bi Bb Bz Bq n inner (sizeZ props sz) props (.slice (some ⟨b0, 0, none⟩) wl.length wc) (.func (.func 24) #[] #[.pointer (some ⟨Bz, 0, none⟩), .pointer (some ⟨Bq, 0, none⟩)]) (.pointer (some ⟨B, 0, none⟩))) (.slice (some ⟨b0, 0, none⟩) wl.length wc) wl vs xs X pre x W8) := hI8.back
                    have HKW8 : Hid (KpX (orT (fun k => k = Bz ∨ k = Bq) X) W W8) := HKW6.out.trans hI8.kp
                    clear hI8 hSp hl6 hgo6 HM6 HKW6
                    obtain ⟨cr, co, cn, cw, ci, cb, ck⟩ := HM8.out.q.cells
                    have fk := HM8.out.bk.1.frozen
                    obtain ⟨mm, hmm⟩ : ∃ mm : Nat, (pre.length : Int) + 1 = mm := ⟨pre.length + 1, by omega⟩
                    have HMM : Hid (pre.length + 1 = mm) := by show _ = _; omega
                    have hmb : mm ≤ 1000 := by omega
                    obtain ⟨nb1, nb2⟩ := fx_nb HFO.out
                    by_cases hgt : n < mm
                    · have g1 : (n : Int) < (mm : Int) := by omega
                      gi_wp2_with fail
                      exact al_exit HM8.out HFO.out HKW8.out HMM.out hgt
                    · have g1 : ¬ ((n : Int) < (mm : Int)) := by omega
                      gi_wp2_with fail
                      exact al_norm HM8.out HFO.out HKW8.out HMM.out (by omega)

                  · exact absurd (no_other (p := []) hSp) hno
      case done =>
        rintro D1 X xs' W1 hD hXD hS hI hK
        have hlen : xs'.length = L.length := by rw [← show xs'.map Nw.q = L from hS, List.length_map]
        have hsh := hI.short
        have hwlen : wl.length = xs'.length := by rw [← HWL.out, List.length_take, hlen]; have := HM1.out; omega
        have e30 : min (wl.length : Int) ((n : Int) + 1) = (xs'.length : Int) := by omega
        have HI : Hid (AlS w ds Z D0 B Bk n (fxOf Br Bo Bn Bw' Bi Bb Bz Bq n inner (sizeZ props sz) props (.slice wad wl.length wc) (.func (.func 24) #[] #[.pointer (some ⟨Bz, 0, none⟩), .pointer (some ⟨Bq, 0, none⟩)]) (.pointer (some ⟨B, 0, none⟩))) (.slice wad wl.length wc) wl vs xs X xs' W1) := hI
        have HKD : Hid (W1.heap[D1]? = some (.deferred (some []))) := hK
        have HXD : Hid (X D1) := hXD
        clear hI hK hXD hS hD hlen hwlen
        obtain ⟨cr, co, cn, cw, ci, cb, ck⟩ := HI.out.q.cells
        obtain ⟨r1, hr1⟩ : ∃ r1 : Nat, (r : Int) + 1 = r1 := ⟨r + 1, by omega⟩
        have HR1 : Hid (r + 1 = r1) := by show _ = _; omega
        have w1 : IntKind.i64.wrap ((n : Int) + 1) = (n : Int) + 1 := by rw [IntKind.wrap_i64]; omega
        have hr2b : r1 ≤ 2 := by omega
        have HNR : Hid (D1 ∉ ds) := fun hm => (HI.out.dfr D1 hm).2 HXD.out
        go_wp2_with fail
        have hlv := bkV_len xs'
        have hr1n := HR1.out
        exact ⟨⟨r1, D1 :: ds, vs ++ bkV xs', xs ++ bkL xs', _, _, _, _, _, _, _, _, _, _, _, _, _, ⟨hr2b, by simp; omega, List.nodup_cons.2 ⟨HNR.out, hnd⟩, (fun d hd => (List.mem_cons.1 hd).elim (fun e => by rw [e]; exact HI.out.low.2.2 D1 HXD.out) (HDW.out d)), by rw [List.length_append]; omega, HI.out.between HKD.out⟩, rfl⟩, by show 2 - (r1 : Int).toNat < 2 - (r : Int).toNat; omega⟩

      case stop =>
        rintro D1 X c pre W1 hD hXD hSp (⟨rfl, hI, hlen⟩ | ⟨rfl, p, x, rfl, hno⟩) hK
        · have hpl : pre.length ≤ L.length := by have h := List.IsPrefix.length_le (show pre.map Nw.q <+: L from hSp); rwa [List.length_map] at h
          have hwlen : wl.length = pre.length := by rw [← HWL.out, List.length_take]; have := HM1.out; omega
          have e30 : min (wl.length : Int) ((n : Int) + 1) = (pre.length : Int) := by omega
          have HI : Hid (AlS w ds Z D0 B Bk (n + 1) (fxOf Br Bo Bn Bw' Bi Bb Bz Bq n inner (sizeZ props sz) props (.slice wad wl.length wc) (.func (.func 24) #[] #[.pointer (some ⟨Bz, 0, none⟩), .pointer (some ⟨Bq, 0, none⟩)]) (.pointer (some ⟨B, 0, none⟩))) (.slice wad wl.length wc) wl vs xs X pre W1) := hI
          have HKD : Hid (W1.heap[D1]? = some (.deferred (some []))) := hK
          have HXD : Hid (X D1) := hXD
          have hsh : pre.length ≤ n + 1 := by omega
          clear hI hK hXD hSp hD hlen hwlen hpl
          refine wpIn_exit ?_
          obtain ⟨cr, co, cn, cw, ci, cb, ck⟩ := HI.out.q.cells
          obtain ⟨r1, hr1⟩ : ∃ r1 : Nat, (r : Int) + 1 = r1 := ⟨r + 1, by omega⟩
          have HR1 : Hid (r + 1 = r1) := by show _ = _; omega
          have w1 : IntKind.i64.wrap ((n : Int) + 1) = (n : Int) + 1 := by rw [IntKind.wrap_i64]; omega
          have hr2b : r1 ≤ 2 := by omega
          have HNR : Hid (D1 ∉ ds) := fun hm => (HI.out.dfr D1 hm).2 HXD.out
          go_wp2_with fail
          have hlv := bkV_len pre
          have hr1n := HR1.out
          exact ⟨⟨r1, D1 :: ds, vs ++ bkV pre, xs ++ bkL pre, _, _, _, _, _, _, _, _, _, _, _, _, _, ⟨hr2b, by simp; omega, List.nodup_cons.2 ⟨HNR.out, hnd⟩, (fun d hd => (List.mem_cons.1 hd).elim (fun e => by rw [e]; exact HI.out.low.2.2 D1 HXD.out) (HDW.out d)), by rw [List.length_append]; omega, HI.out.between HKD.out⟩, rfl⟩, by show 2 - (r1 : Int).toNat < 2 - (r : Int).toNat; omega⟩

        · exact absurd (no_other hSp) hno
    · obtain rfl : r = 2 := by omega
      clear hlt hr2
      obtain ⟨D2, D1, rfl⟩ : ∃ D2 D1, ds = [D2, D1] := by
        match ds, hds with
        | [a, b], _ => exact ⟨a, b, rfl⟩
      obtain ⟨f1, _, _, _, _, f6, _, _⟩ := fx_all HR.out.fix
      have cb := f6.cell
      have HF1 : Hid (Boxed wr Br 4 (.bool false)) := f1
      have hne : D1 ≠ D2 := fun e => by subst e; simp at hnd
      clear f1 f6 hvs hds hnd
      go_wp2_with (go_at_call 10; refine (HR.out.own HZZ.out).mono ?_; rintro e W9 ⟨rfl, HT9, HD9, HB9⟩; have HF9 : Hid (Boxed W9 Br 4 (.bool false)) := HT9.out _ _ _ HF1.out (by decide); have fz := HF9.out.frozen; have fc := HF9.out.cell)
      exact leaveA rfl HF9.out (HD9.out D1 (by simp)) (HD9.out D2 (by simp)) hne HB9.out HRW.out (HDW.out D1 (by simp)) (HDW.out D2 (by simp))
theorem wordsAll_walk (props size many inner : Int) (w : World) (_ : -9223372036854775808 ≤ props ∧ props ≤ 9223372036854775807) (hz : -9223372036854775808 ≤ size ∧ size ≤ 9223372036854775807) (hm : -9223372036854775808 ≤ many ∧ many ≤ 9223372036854775807) (hi : -9223372036854775808 ≤ inner ∧ inner ≤ 9223372036854775807) (hT : PowTab w) :
    Calls Tryd.prog 3 #[.int .i64 props, .int .i64 size, .int .i64 many, .int .i64 inner] w fun e w' => e = .returned (.bool true) ∧ Kept [] w w' := by
  refine (all_walk props size many inner w hz hm hi hT).mono ?_
  rintro e w' ⟨rfl, hb⟩
  exact ⟨rfl, hb.os, hb.tape, hb.output, hb.size, fun k hk _ => hb.block k hk⟩
end Go.Proofs.YtamfnefnaelgfaaDoor
