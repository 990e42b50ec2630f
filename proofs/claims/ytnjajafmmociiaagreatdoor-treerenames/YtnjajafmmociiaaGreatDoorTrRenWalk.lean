/- TreeRenames: the walk. -/
import Derived.Test.YtnjajafmmociiaaGreatDoorTrLst
import Derived.Test.YtnjajafmmociiaaGreatDoorRefRen
import Derived.Test.YtnjajafmmociiaaGreatDoorTrOwnR
import Derived.Test.YtnjajafmmociiaaGreatDoorGD
import Derived.Test.YtnjajafmmociiaaGreatDoorGD
import Derived.Test.YtnjajafmmociiaaGreatDoorGM
import Derived.Test.YtnjajafmmociiaaGreatDoorGD
import Derived.Test.YtnjajafmmociiaaGreatDoorTrSame
import Derived.Test.YtnjajafmmociiaaGreatDoorGE
import Derived.Test.YtnjajafmmociiaaGreatDoorGE
namespace Go.Proofs.YtnjajafmmociiaaGreatDoor
open Go.RowKit Go.Shelf

theorem isF_solo {W : World} {b : Nat} {t : Tr} {kv : Value} (hb : W.heap[b]? = some (.cells #[.int .u8 (t.op : Nat), .string t.name, kv] 25 (0, 0))) (h : IsF W t kv) : IsF W ⟨0, ⟨#[]⟩, [t]⟩ (.slice (some ⟨b, 0, none⟩) 1 1) := by
  refine (isT_eq (X := fun k => k < W.heap.size) ⟨0, ⟨#[]⟩, [t]⟩ _).2 ⟨_, _, rfl, .inr ⟨b, 0, rfl, lt_of hb, fun i hi => ?_⟩⟩
  obtain rfl : i = 0 := by simp at hi; omega
  exact ⟨kv, (cell_of hb 0).trans rfl, (cell_of hb 1).trans rfl, (cell_of hb 2).trans rfl, h⟩
theorem ot_few2 : ∀ (l : List ByteArray) (n : Nat), ot n l ≤ 1048576 → n + l.length ≤ ot n l
  | [], n, _ => Nat.le_refl _
  | x :: r, n, h => by
    rw [ot] at h ⊢
    by_cases hn : n ≤ 2147483647
    · rw [if_pos hn] at h ⊢
      have := ot_few2 r _ h
      simp only [List.length_cons]
      omega
    · rw [if_neg hn] at h
      omega
theorem Strs.at_ {W : World} {v : Value} {xs : List ByteArray} (h : Strs W v xs) : StrsAt W xs v ∧ ∃ ad cap, v = .slice ad xs.length cap ∧ xs.length ≤ cap := by
  rcases h.lie with ⟨rfl, rfl⟩ | ⟨b, o, c, rfl, h1, _, h3⟩
  · exact ⟨⟨none, 0, rfl, .inl rfl⟩, none, 0, rfl, Nat.le_refl _⟩
  · exact ⟨⟨_, c, rfl, .inr ⟨b, o, rfl, h3⟩⟩, _, c, rfl, h1⟩
theorem Strs.src_ {W : World} {v : Value} {xs : List ByteArray} (h : Strs W v xs) : Src 1 W v xs.length (cellsT xs) := by
  refine ⟨by simp [cellsT], cellsT_one xs, ?_⟩
  rcases h.lie with ⟨rfl, rfl⟩ | ⟨b, o, c, rfl, h1, h2, h3⟩
  · exact .inl ⟨rfl, rfl⟩
  · refine .inr ⟨⟨b, o, none⟩, c, rfl, h1, h2, fun _ => rfl, fun h0 => by rw [List.length_eq_zero_iff.1 h0]; rfl, fun j u hu => ?_⟩
    have hj : j < xs.length := by
      rcases Nat.lt_or_ge j xs.length with q | q
      · exact q
      · rw [List.getElem?_eq_none (by simpa [cellsT] using q)] at hu; cases hu
    rw [addr_add]
    rw [cellsT_at hj] at hu
    cases hu
    exact h3 j hj
theorem LentG.strsAt {W : World} {b : Nat} {xs : List ByteArray} (h : LentG 9 1 W b xs.length (cellsT xs) marksT) : StrsAt W xs (.slice (some ⟨b, 0, none⟩) xs.length (xs.length + 2)) := by
  refine ⟨_, _, rfl, .inr ⟨b, 0, rfl, fun i hi => ?_⟩⟩
  have := (h.src (cellsT_one xs)).cellsAt i _ (cellsT_at hi)
  rwa [addr_add] at this
theorem fill3 (W : World) (a b c : Value) : For3 (W.alloc (.cells #[a, b, c] 25)) W.heap.size a b c ∧ Kept [] W (W.alloc (.cells #[a, b, c] 25)) := ⟨al0 W _, (Kept.refl [] W).alloc _⟩
theorem ren_size (frs tos : List ByteArray) (t : Tr) : (t.reb (leafRen frs tos)).size = t.size := by
  induction t using Tr.ind with
  | h t ih =>
    by_cases h0 : t.kids.length = 0
    · rw [Tr.reb_leaf _ t h0, Tr.size_eq, Tr.size_eq t, List.eq_nil_of_length_eq_zero h0]
      unfold leafRen
      split <;> rfl
    · rw [Tr.reb_node _ t h0, Tr.size_eq, Tr.size_eq t, List.map_map]
      congr 2
      exact List.map_congr_left fun k hk => ih k hk
theorem renT_size (t : Tr) (frs tos : List ByteArray) : (renT t frs tos).size ≤ t.size := by
  unfold renT
  split
  · rw [ren_size]; exact Nat.le_refl _
  · rw [Tr.size_eq t, Tr.size_eq]
    show 1 + (([] : List Tr).map Tr.size).sum ≤ _
    simp
theorem BookF.high {W : World} {base B : Nat} {bl : Value} {vs : List Value} {xss : List (List T3)} (h : BookF W base base B bl vs xss) : ∀ g ∈ bookW B bl ++ blocksOfF vs, g = B ∨ base ≤ g := by
  intro g hg
  rcases List.mem_append.1 hg with q | q
  · rcases List.mem_cons.1 q with q | q
    · exact .inl q
    · exact .inr (own_baseF h.inn.list (show bl.ownBlock = some g by simpa using q))
  · obtain ⟨v, hv, hvg⟩ := mem_blocksO q
    obtain ⟨i, hi, rfl⟩ := List.getElem_of_mem hv
    have hix : i < xss.length := by rw [← h.inn.rows.len]; exact hi
    exact .inr (own_baseF (h.inn.rows.row i _ _ (List.getElem?_eq_getElem hi) (List.getElem?_eq_getElem hix)) hvg)
set_option maxHeartbeats 4000000 in
set_option maxRecDepth 20000 in
theorem treeRenames_some (f : Tr) (frs tos : List ByteArray) (fv xv yv : Value) (w : World) (HAW0 : ∀ W, Kept [] w W → Calls Tryz.prog 5 #[] W fun e w' => e = .returned (.bool true) ∧ Kept [] W w') (hF : IsF w f fv) (fF : f.Fine) (mF : f.Modest) (hx : Strs w xv frs) (hy : Strs w yv tos) (hxm : ∀ x ∈ frs, x.size ≤ 140737488351232) (hym : ∀ x ∈ tos, x.size ≤ 140737488351232) (hT : KidsTab w) :
    Calls Tryz.prog 4 #[.agg #[.int .u8 (f.op : Nat), .string f.name, fv], xv, yv] w fun e w' => e = .returned (.bool true) ∧ Kept [] w w' := by
  obtain ⟨fad, fcap, rfl⟩ := hF.slice
  obtain ⟨V, hV⟩ : ∃ V, w.alloc (.cells #[.int .u8 (f.op : Nat), .string f.name, .slice fad f.kids.length fcap] 25) = V := ⟨_, rfl⟩
  obtain ⟨A, hA⟩ : ∃ A, w.heap.size = A := ⟨_, rfl⟩
  have kV : Kept [] w V := by rw [← hV]; exact (Kept.refl [] w).alloc _
  have HB0 : Hid (For3 V A (.int .u8 (f.op : Nat)) (.string f.name) (.slice fad f.kids.length fcap)) := by show For3 V _ _ _ _; rw [← hV, ← hA]; exact al0 _ _
  have HIF : Hid (∀ W, Kept [] V W → IsF W f (.slice fad f.kids.length fcap)) := fun W k => (hF.kept kV).kept k
  have HXS : Hid (∀ W, Kept [] V W → Strs W xv frs) := fun W k => (hx.kept kV).kept k
  have HYS : Hid (∀ W, Kept [] V W → Strs W yv tos) := fun W k => (hy.kept kV).kept k
  have HSM : Hid ((∀ x ∈ frs, x.size ≤ 140737488351232) ∧ ∀ x ∈ tos, x.size ≤ 140737488351232) := ⟨hxm, hym⟩
  have HAW : Hid _ := HAW0 V kV
  have HMU : Hid (∀ t ∈ [f], t.Modest) := fun t ht => by obtain rfl := List.mem_singleton.1 ht; exact mF
  have HKV : Hid (Kept [] w V) := kV
  have HA : Hid (w.heap.size = A) := hA
  have HV : Hid _ := hV
  have HFF : Hid (f.Fine) := fF
  have HT : Hid (∀ W, Kept [] V W → KidsTab W) := fun W k => (hT.kept kV).kept k
  have HO1 : Hid (∀ W, Kept [] V W → Calls Tryz.prog 15 #[xv] W fun e w' => e = .returned (.int .i64 (ot 0 frs : Nat)) ∧ w' = W) := fun W k => ofTexts_any xv frs W ((hx.kept kV).kept k) hxm
  have HO2 : Hid (∀ W, Kept [] V W → Calls Tryz.prog 15 #[yv] W fun e w' => e = .returned (.int .i64 (ot 0 tos : Nat)) ∧ w' = W) := fun W k => ofTexts_any yv tos W ((hy.kept kV).kept k) hym
  have HOL : Hid (ot 0 frs ≤ 140739635834880 ∧ ot 0 tos ≤ 140739635834880) := ⟨ot_le 0 frs (by omega) hxm, ot_le 0 tos (by omega) hym⟩
  have HOF : Hid ((ot 0 frs ≤ 1048576 → frs.length ≤ 1048576) ∧ (ot 0 tos ≤ 1048576 → tos.length ≤ 1048576)) := ⟨fun h => by have := ot_few2 frs 0 h; omega, fun h => by have := ot_few2 tos 0 h; omega⟩
  obtain ⟨p, hp⟩ : ∃ p, ot 0 frs = p := ⟨_, rfl⟩
  obtain ⟨q, hq⟩ : ∃ q, ot 0 tos = q := ⟨_, rfl⟩
  rw [hp] at HO1 HOL HOF
  rw [hq] at HO2 HOL HOF
  clear hV hA kV hF fF mF hx hy hxm hym hT hp hq HAW0
  go_enter Tryz.func4, Tryz.ntmps4
  go_upto_region 1 with fail
  rw [HV.out, HA.out]
  go_upto_region 3 with (first
    | (go_at_call 5; refine Calls.mono HAW.out ?_; rintro e W1 ⟨rfl, hk⟩; obtain ⟨a0, a1, a2, _⟩ := (HB0.out.kept hk).cells; have HK : Hid (Kept [] V W1) := hk; clear hk)
    | (go_at_call 6; refine (much_any [f] _ _ (isF_solo (al0 _ _) (HIF.out _ (HK.out.alloc _))) HMU.out (by simp)).mono ?_; rintro e W2 ⟨n, rfl, hn, hk⟩; have HK2 : Hid (Kept [] V W2) := (HK.out.alloc _).trans hk (by simp) (by simp); have HN : Hid _ := hn; clear hk hn HK a0 a1 a2))
  rcases Nat.lt_or_ge 1048576 n with hb | hb
  · rw [show decide (1048576 < n) = true from decide_eq_true hb]
    go_wp2
    go_ret
    exact ⟨rfl, HKV.out.trans HK2.out (by simp) (by simp)⟩
  rw [show decide (1048576 < n) = false from decide_eq_false (by omega)]
  have hsz := HN.out hb
  have hsf : f.size ≤ 1048576 := Nat.le_trans f.size_wsum (hsz f (by simp))
  have hol := HOL.out
  by_cases hpq : p + q ≤ 1048576
  rotate_left
  · have hpi : (1048576 : Int) < (p : Int) + (q : Int) := by omega
    have hw : IntKind.i64.wrap ((p : Int) + (q : Int)) = (p : Int) + (q : Int) := by rw [IntKind.wrap_i64]; omega
    clear hsz hb
    go_wp2_with (first
      | (go_at_call 15; refine (HO1.out W2 HK2.out).mono ?_; rintro e w5 ⟨rfl, hw5⟩; rw [hw5]; clear hw5 HO1)
      | (go_at_call 15; refine (HO2.out W2 HK2.out).mono ?_; rintro e w5 ⟨rfl, hw5⟩; rw [hw5]; clear hw5))
    go_ret
    exact ⟨rfl, HKV.out.trans HK2.out (by simp) (by simp)⟩
  have hpi : ¬ (1048576 : Int) < (p : Int) + (q : Int) := by omega
  have hw : IntKind.i64.wrap ((p : Int) + (q : Int)) = (p : Int) + (q : Int) := by rw [IntKind.wrap_i64]; omega
  have hfl := HOF.out.1 (by omega)
  have htl := HOF.out.2 (by omega)
  clear hsz hb
  go_upto_region 5 with (first
      | (go_at_call 15; refine (HO1.out W2 HK2.out).mono ?_; rintro e w5 ⟨rfl, hw5⟩; rw [hw5]; clear hw5 HO1)
      | (go_at_call 15; refine (HO2.out W2 HK2.out).mono ?_; rintro e w5 ⟨rfl, hw5⟩; rw [hw5]; clear hw5))
  have HRN : Hid (∀ W, Kept [] V W → Calls Tryz.prog 16 #[.agg #[.int .u8 (f.op : Nat), .string f.name, .slice fad f.kids.length fcap], xv, yv] W fun e w' => ∃ kad kcap, e = .returned (.tuple #[.agg #[.int .u8 ((renT f frs tos).op : Nat), .string (renT f frs tos).name, .slice kad (renT f frs tos).kids.length kcap], .int .i64 (renE f frs tos : Nat)]) ∧ IsT (fun k => W.heap.size ≤ k) w' (renT f frs tos) (.slice kad (renT f frs tos).kids.length kcap) ∧ Kept [] W w') := fun W k => refRename_any f _ frs tos xv yv W (HIF.out W k) (by omega) HFF.out ((HXS.out W k).at_.1) ((HYS.out W k).at_.1) ((HXS.out W k).at_.2) (by omega) (HXS.out W k).small (HYS.out W k).small
  have hxs := (HXS.out V (Kept.refl [] V)).small
  have hys := (HYS.out V (Kept.refl [] V)).small
  have HRE : Hid (∀ W kv a b, IsF W f kv → KidsTab W → StrsAt W frs a → StrsAt W tos b → Calls Tryz.prog 18 #[.agg #[.int .u8 (f.op : Nat), .string f.name, kv], a, b] W fun e w' => ∃ kad kcap, e = .returned (.tuple #[.agg #[.int .u8 ((renT f frs tos).op : Nat), .string (renT f frs tos).name, .slice kad (renT f frs tos).kids.length kcap], .int .i64 (renE f frs tos : Nat)]) ∧ IsNw (W.heap.size) w' (renT f frs tos) (.slice kad (renT f frs tos).kids.length kcap) ∧ Kept [] W w') := fun W kv a b h1 h2 h3 h4 => renameN_any f kv frs tos a b W h1 (by omega) HFF.out h2 h3 h4 (by omega) hxs hys
  have hus := renT_size f frs tos
  obtain ⟨u, hu⟩ : ∃ u, renT f frs tos = u := ⟨_, rfl⟩
  obtain ⟨r, hr⟩ : ∃ r, renE f frs tos = r := ⟨_, rfl⟩
  rw [hu, hr] at HRN HRE
  rw [hu] at hus
  have HLF : Hid (∀ W, Kept [] V W → Calls Tryz.prog 8 #[.agg #[.int .u8 (f.op : Nat), .string f.name, .slice fad f.kids.length fcap]] W fun e w' => ∃ b, e = .returned (.agg #[.int .u8 (f.op : Nat), .string f.name, .slice (some ⟨b, 0, none⟩) f.kids.length (f.kids.length + 1)]) ∧ IsLN W.heap.size w' f (.slice (some ⟨b, 0, none⟩) f.kids.length (f.kids.length + 1)) ∧ Kept [] W w') := fun W k => lentN_any f _ W (HIF.out W k) (by omega)
  have HLX : Hid (∀ W, Kept [] V W → Calls Tryz.prog 17 #[xv] W fun e w' => ∃ b, e = .returned (.slice (some ⟨b, 0, none⟩) frs.length (frs.length + 2)) ∧ LentG 9 1 w' b frs.length (cellsT frs) marksT ∧ W.heap.size ≤ b ∧ Kept [] W w') := fun W k => lentTexts_any xv frs.length (cellsT frs) W (HXS.out W k).src_ (by omega)
  have HLY : Hid (∀ W, Kept [] V W → Calls Tryz.prog 17 #[yv] W fun e w' => ∃ b, e = .returned (.slice (some ⟨b, 0, none⟩) tos.length (tos.length + 2)) ∧ LentG 9 1 w' b tos.length (cellsT tos) marksT ∧ W.heap.size ≤ b ∧ Kept [] W w') := fun W k => lentTexts_any yv tos.length (cellsT tos) W (HYS.out W k).src_ (by omega)
  have HSZ : Hid (f.size ≤ 1048576 ∧ u.size ≤ 1048576) := ⟨hsf, by omega⟩
  obtain ⟨a0, a1, a2, _⟩ := (HB0.out.kept HK2.out).cells
  clear hxs hys hu hr hol hfl htl hpq hpi hw HO2 HOL HOF HN HMU HAW HSM
  go_upto_region 6 with (go_at_call 16; refine Calls.mono (HRN.out W2 HK2.out) ?_; rintro e W4 ⟨uad, ucap, rfl, hI4, hk4⟩; have HK4 : Hid (Kept [] V W4) := HK2.out.trans hk4 (by simp) (by simp); have HI4 : Hid (IsT (fun k => W2.heap.size ≤ k) W4 u (.slice uad u.kids.length ucap)) := hI4; clear hk4 hI4 a0 a1 a2)
  obtain ⟨W5, hW5⟩ : ∃ W5, W4.alloc (.cells #[.int .u8 (u.op : Nat), .string u.name, .slice uad u.kids.length ucap] 25) = W5 := ⟨_, rfl⟩
  have h5 := fill3 W4 (.int .u8 (u.op : Nat)) (.string u.name) (.slice uad u.kids.length ucap)
  rw [hW5] at h5 ⊢
  obtain ⟨B9, hB9⟩ : ∃ B9, W4.heap.size = B9 := ⟨_, rfl⟩
  rw [hB9] at h5 ⊢
  have HK5 : Hid (Kept [] V W5) := HK4.out.trans h5.2 (by simp) (by simp)
  have HB5 : Hid (For3 W5 B9 (.int .u8 (u.op : Nat)) (.string u.name) (.slice uad u.kids.length ucap)) := h5.1
  have HI5 : Hid (IsF W5 u (.slice uad u.kids.length ucap)) := IsF.kept (IsT.isF HI4.out) h5.2
  obtain ⟨a0, a1, a2, _⟩ := (HB0.out.kept HK5.out).cells
  clear h5 hW5 hB9 HRN HI4 HK4 HK2
  go_upto_region 7 with (go_at_call 8; refine Calls.mono (HLF.out W5 HK5.out) ?_; rintro e W6 ⟨fb, rfl, hL6, hk6⟩; have HK6 : Hid (Kept [] W5 W6) := hk6; have HL6 : Hid (IsLN W5.heap.size W6 f (.slice (some ⟨fb, 0, none⟩) f.kids.length (f.kids.length + 1))) := hL6; clear hk6 hL6 a0 a1 a2)
  obtain ⟨W7, hW7⟩ : ∃ W7, W6.alloc (.cells #[.int .u8 (f.op : Nat), .string f.name, .slice (some ⟨fb, 0, none⟩) f.kids.length (f.kids.length + 1)] 25) = W7 := ⟨_, rfl⟩
  have h7 := fill3 W6 (.int .u8 (f.op : Nat)) (.string f.name) (.slice (some ⟨fb, 0, none⟩) f.kids.length (f.kids.length + 1))
  rw [hW7] at h7 ⊢
  obtain ⟨B11, hB11⟩ : ∃ B11, W6.heap.size = B11 := ⟨_, rfl⟩
  rw [hB11] at h7 ⊢
  have HK7 : Hid (Kept [] W6 W7) := h7.2
  have HB7 : Hid (For3 W7 B11 (.int .u8 (f.op : Nat)) (.string f.name) (.slice (some ⟨fb, 0, none⟩) f.kids.length (f.kids.length + 1))) := h7.1
  have HZ6 : Hid (W6.heap.size = B11) := hB11
  have HV7 : Hid (Kept [] V W7) := (HK5.out.trans HK6.out (H := []) (by simp) (by simp)).trans h7.2 (by simp) (by simp)
  clear h7 hW7 hB11
  go_upto_region 8 with (go_at_call 17; refine Calls.mono (HLX.out W7 HV7.out) ?_; rintro e W8 ⟨bx, rfl, hL8, hb8, hk8⟩; have HK8 : Hid (Kept [] W7 W8) := hk8; have HV8 : Hid (Kept [] V W8) := HV7.out.trans hk8 (by simp) (by simp); have HL8 : Hid (LentG 9 1 W8 bx frs.length (cellsT frs) marksT ∧ W7.heap.size ≤ bx) := ⟨hL8, hb8⟩; clear hk8 hL8 hb8)
  go_upto_region 9 with (go_at_call 17; refine Calls.mono (HLY.out W8 HV8.out) ?_; rintro e W9 ⟨by_, rfl, hL9, hb9, hk9⟩; have HK9 : Hid (Kept [] W8 W9) := hk9; have HL9 : Hid (LentG 9 1 W9 by_ tos.length (cellsT tos) marksT ∧ W8.heap.size ≤ by_) := ⟨hL9, hb9⟩; clear hk9 hL9 hb9)
  obtain ⟨L, hLO, hnd, hlo⟩ := HL6.out
  have hLt := hLO.lt
  have k69 : Kept [] W6 W9 := (HK7.out.trans HK8.out (H := []) (by simp) (by simp)).trans HK9.out (by simp) (by simp)
  have k59 : Kept [] W5 W9 := HK6.out.trans k69 (by simp) (by simp)
  have k79 : Kept [] W7 W9 := HK8.out.trans HK9.out (by simp) (by simp)
  have HV9 : Hid (Kept [] V W9) := HV8.out.trans HK9.out (by simp) (by simp)
  obtain ⟨lo, hlo5⟩ : ∃ lo, W5.heap.size = lo := ⟨_, rfl⟩
  rw [hlo5] at hlo
  obtain ⟨Bk, hBk⟩ : ∃ Bk, W9.heap.size = Bk := ⟨_, rfl⟩
  have HFB : Hid (For3 W9 B11 (.int .u8 (f.op : Nat)) (.string f.name) (.slice (some ⟨fb, 0, none⟩) f.kids.length (f.kids.length + 1))) := HB7.out.kept k79
  have HWB : Hid (For3 W9 B9 (.int .u8 (u.op : Nat)) (.string u.name) (.slice uad u.kids.length ucap)) := HB5.out.kept k59
  have HLO : Hid (IsLO W9 f (.slice (some ⟨fb, 0, none⟩) f.kids.length (f.kids.length + 1)) L) := hLO.keep (fun b hb => k69.block b (hLt b hb) (by simp))
  have HWI : Hid (IsT (fun k => k < lo) W9 u (.slice uad u.kids.length ucap)) := IsT.cells (by intro k q; rw [← hlo5]; exact q) (fun b o v _ c => cell_kept0 k59 c) HI5.out
  have HXL : Hid (LentG 9 1 W9 bx frs.length (cellsT frs) marksT) := HL8.out.1.kept HK9.out
  have HYL : Hid (LentG 9 1 W9 by_ tos.length (cellsT tos) marksT) := HL9.out.1
  have HNUM : Hid (B9 < lo ∧ lo ≤ bx ∧ lo ≤ by_ ∧ bx < by_ ∧ by_ < Bk ∧ V.heap.size ≤ lo ∧ L.Nodup ∧ ∀ b ∈ L, lo ≤ b ∧ b < bx) := by
    have e1 := lt_of HB5.out
    have e2 := HK6.out.size
    have e3 := HK7.out.size
    have e4 := lt_of HL8.out.1.row
    have e5 := HL8.out.2
    have e6 := HL9.out.2
    have e7 := lt_of HL9.out.1.row
    have e8 := HK5.out.size
    refine ⟨by omega, by omega, by omega, by omega, by omega, by omega, hnd, fun b hb => ⟨hlo b hb, ?_⟩⟩
    have := hLt b hb
    omega
  have HBK : Hid (W9.heap.size = Bk) := hBk
  clear hLO hnd hlo hLt k69 k59 k79 hlo5 hBk HL6 HL8 HL9 HI5 HB5 HB7 HK5 HK6 HK7 HK8 HK9 HV7 HV8 HZ6 HLF HLX HLY
  go_wp2_with fail
  obtain ⟨U, hU⟩ : ∃ U, W9.alloc (.cells #[.slice none 0 0, .slice none 0 0, .slice none 0 0, .slice none 0 0, .slice none 0 0, .slice none 0 0, .slice none 0 0, .slice none 0 0, .slice none 0 0, .slice none 0 0, .slice none 0 0, .slice none 0 0, .slice none 0 0] 47) = U := ⟨_, rfl⟩
  rw [hU, HBK.out]
  have HU : Hid (RnAt W9 Bk u.size u 0 (.slice none 0 0) U) := by
    have hz : U.heap.size = Bk + 1 := by rw [← hU, World.size_alloc, HBK.out]
    refine ⟨by rw [← hU]; exact (Kept.refl [] W9).alloc _, HBK.out, by omega, LstAt.nil _ _ _, .slice none 0 0, [], [], BookF.start (by rw [← hU, ← HBK.out]; exact heap_alloc_new W9 _) (by omega) (by omega), Nat.zero_le _, fun g hg => by simp [blocksOfF] at hg⟩
  clear hU
  go_loopw [15, 16, 17, 18] (fun l v _ _ wr => ∃ i : Nat, v = .int .i64 (i : Nat) ∧ i ≤ 2 ∧ ∃ ad cap, l = .slice ad i cap ∧ Hid (RnAt W9 Bk u.size u i (.slice ad i cap) wr)) (fun _ v _ _ _ => 2 - (intOf v).toNat)
  case atStart => exact ⟨0, rfl, by omega, none, 0, rfl, HU.out⟩
  case round =>
    obtain ⟨i, rfl, hi, ad, cap, rfl, HR⟩ := hrel
    have k9 := HR.out.kept
    have HV : Hid (Kept [] V wr) := HV9.out.trans k9 (by simp) (by simp)
    by_cases hlt : i < 2
    · have z0 : (i : Int) < 2 := by omega
      have z00 : (0 : Int) ≤ (i : Int) := by omega
      obtain ⟨b0, b1, b2, _⟩ := (HFB.out.kept k9).cells
      have HRI : Hid (Calls Tryz.prog 18 #[.agg #[.int .u8 (f.op : Nat), .string f.name, .slice (some ⟨fb, 0, none⟩) f.kids.length (f.kids.length + 1)], .slice (some ⟨bx, 0, none⟩) frs.length (frs.length + 2), .slice (some ⟨by_, 0, none⟩) tos.length (tos.length + 2)] wr fun e w' => ∃ kad kcap, e = .returned (.tuple #[.agg #[.int .u8 (u.op : Nat), .string u.name, .slice kad u.kids.length kcap], .int .i64 (r : Nat)]) ∧ IsNw (wr.heap.size) w' u (.slice kad u.kids.length kcap) ∧ Kept [] wr w') := HRE.out wr _ _ _ (IsF.kept (IsT.isF HLO.out.isL.isT) k9) (HT.out wr HV.out) (HXL.out.kept k9).strsAt (HYL.out.kept k9).strsAt
      have hrr : ((r : Int) != (r : Int)) = false := by simp
      clear k9 hlt
      go_upto_region 15 with (go_at_call 18; refine Calls.mono HRI.out ?_; rintro e W1 ⟨kad, kcap, rfl, hN1, hk1⟩; have HN1 : Hid (IsNw (wr.heap.size) W1 u (.slice kad u.kids.length kcap)) := hN1; have HK1 : Hid (Kept [] wr W1) := hk1; clear hN1 hk1 b0 b1 b2)
      obtain ⟨W2', hW2⟩ : ∃ W2', W1.alloc (.cells #[.int .u8 (u.op : Nat), .string u.name, .slice kad u.kids.length kcap] 25) = W2' := ⟨_, rfl⟩
      have h2 := fill3 W1 (.int .u8 (u.op : Nat)) (.string u.name) (.slice kad u.kids.length kcap)
      have hz2 : W2'.heap.size = W1.heap.size + 1 := by rw [← hW2, World.size_alloc]
      rw [hW2] at h2 ⊢
      obtain ⟨B17, hB17⟩ : ∃ B17, W1.heap.size = B17 := ⟨_, rfl⟩
      rw [hB17] at h2 hz2 ⊢
      obtain ⟨g, cap', W4, L', bl, vs, xss, hrun, hmid, hsame⟩ := HR.out.app (W2 := W2') (ku := .slice kad u.kids.length kcap) (by omega) (HK1.out.trans h2.2 (by simp) (by simp)) (HN1.out.kept h2.2)
      have HRUN : Hid (∀ ty, (Builtin.append_ #[23, 23] ty #[.slice ad i cap, .slice (some ⟨W2'.heap.size, 0, none⟩) 1 1]).run Tryz.prog (W2'.alloc (.cells #[.int .u8 (u.op : Nat), .string u.name, .slice kad u.kids.length kcap] 25)) = .ok (.slice (some ⟨g, 0, none⟩) (i + 1) cap') W4) := hrun
      have HM : Hid (RnMid W9 Bk u.size u i (.slice (some ⟨g, 0, none⟩) (i + 1) cap') (.slice kad u.kids.length kcap) L' bl vs xss W4) := hmid
      have h4 : For3 W4 B17 (.int .u8 (u.op : Nat)) (.string u.name) (.slice kad u.kids.length kcap) := (hsame B17 (by have := HK1.out.size; omega) (by omega)).trans h2.1
      have HB4 : Hid (For3 W4 B17 (.int .u8 (u.op : Nat)) (.string u.name) (.slice kad u.kids.length kcap)) := h4
      obtain ⟨e0, e1, e2, _⟩ := For3.cells h2.1
      have HBF : Hid (Calls Tryz.prog 10 #[.pointer (some ⟨Bk, 0, none⟩), .agg #[.int .u8 (u.op : Nat), .string u.name, .slice kad u.kids.length kcap]] W4 fun e w' => (∃ v, e = .returned v) ∧ Shelved W4 (Bk + 1) (Bk + 1) Bk bl vs xss L' u.size w') := bookFormula_any u u.op u.name _ L' Bk (Bk + 1) (Bk + 1) bl vs xss W4 hmid.own hmid.nodup hmid.low hmid.book hmid.offL (by
        have := hmid.few
        have := Nat.mul_le_mul_right u.size (show i ≤ 1 by omega)
        have := HSZ.out.2
        omega)
      clear h2 hz2 hW2 hB17 hrun hmid hsame h4
      go_upto_region 18 with (at_builtin; refine Lib.wpList_append_run _ rfl _ _ _ _ rfl _ _ rfl rfl _ _ (HRUN.out _) ?_)
      clear e0 e1 e2
      obtain ⟨e0, e1, e2, _⟩ := HB4.out.cells
      go_wp2_with (go_at_call 10; refine Calls.mono HBF.out ?_; rintro e W5' ⟨⟨v5, rfl⟩, hsh⟩; have HN5 : Hid (RnAt W9 Bk u.size u (i + 1) (.slice (some ⟨g, 0, none⟩) (i + 1) cap') W5') := HM.out.shelf hsh; clear hsh)
      go_roundw
      case rel => exact ⟨i + 1, by go_num, by omega, _, _, rfl, HN5.out⟩
      case measure => simp [intOf]; omega
    · obtain rfl : i = 2 := by omega
      have z0 : ¬ (((2 : Nat) : Int) < 2) := by omega
      have HW1 : Hid (Calls Tryz.prog 11 #[.agg #[.int .u8 (f.op : Nat), .string f.name, .slice (some ⟨fb, 0, none⟩) f.kids.length (f.kids.length + 1)], .agg #[.int .u8 (f.op : Nat), .string f.name, .slice fad f.kids.length fcap]] wr fun e w' => e = .returned (.bool true) ∧ Kept [] wr w') := whole_any f (fun k => k ∈ L) _ _ wr (HLO.out.isL.kept k9) (HIF.out wr HV.out) (by have := HSZ.out.1; omega)
      have HW2 : Hid (∀ W, Kept [] wr W → Calls Tryz.prog 19 #[.slice (some ⟨bx, 0, none⟩) frs.length (frs.length + 2), xv] W fun e w' => e = .returned (.bool true) ∧ Kept [] W w') := fun W k => wholeTexts_any bx xv frs W ((HXL.out.kept k9).kept k) (HXS.out W (HV.out.trans k (by simp) (by simp))).src_
      have HW3 : Hid (∀ W, Kept [] wr W → Calls Tryz.prog 19 #[.slice (some ⟨by_, 0, none⟩) tos.length (tos.length + 2), yv] W fun e w' => e = .returned (.bool true) ∧ Kept [] W w') := fun W k => wholeTexts_any by_ yv tos W ((HYL.out.kept k9).kept k) (HYS.out W (HV.out.trans k (by simp) (by simp))).src_
      have HCB : Hid (∀ W, Kept [] wr W → W.cell? ⟨B11, 0, none⟩ = some (.int .u8 (f.op : Nat)) ∧ W.cell? ⟨B11, 1, none⟩ = some (.string f.name) ∧ W.cell? ⟨B11, 2, none⟩ = some (.slice (some ⟨fb, 0, none⟩) f.kids.length (f.kids.length + 1))) := fun W k => by
        obtain ⟨x0, x1, x2, _⟩ := ((HFB.out.kept k9).kept k).cells
        exact ⟨x0, x1, x2⟩
      have HK9' : Hid (Kept [] W9 wr) := k9
      obtain ⟨a0, a1, a2, _⟩ := (HB0.out.kept HV.out).cells
      obtain ⟨b0, b1, b2⟩ := HCB.out wr (Kept.refl [] wr)
      clear k9 hlt hi
      go_upto_region 20 with (first
        | (go_at_call 11; refine Calls.mono HW1.out ?_; rintro e Wa ⟨rfl, hka⟩; have HKa : Hid (Kept [] wr Wa) := hka; clear hka a0 a1 a2 b0 b1 b2)
        | (go_at_call 19; refine Calls.mono (HW2.out Wa HKa.out) ?_; rintro e Wb ⟨rfl, hkb⟩; have HKb : Hid (Kept [] wr Wb) := HKa.out.trans hkb (by simp) (by simp); clear hkb HW2)
        | (go_at_call 19; refine Calls.mono (HW3.out Wb HKb.out) ?_; rintro e Wc ⟨rfl, hkc⟩; have HKc : Hid (Kept [] wr Wc) := HKb.out.trans hkc (by simp) (by simp); clear hkc HW3; obtain ⟨b0, b1, b2⟩ := HCB.out Wc HKc.out))
      have kc : Kept [] W9 Wc := HK9'.out.trans HKc.out (by simp) (by simp)
      have HSP : Hid (Calls Tryz.prog 12 #[.agg #[.int .u8 (f.op : Nat), .string f.name, .slice (some ⟨fb, 0, none⟩) f.kids.length (f.kids.length + 1)]] Wc fun e w' => (∃ v, e = .returned v) ∧ Kept L Wc w') := spoil_any f (by have := HSZ.out.1; omega) f.op f.name _ L Wc (HLO.out.keep (fun b hb => kc.block b (HLO.out.lt b hb) (by simp))) HNUM.out.2.2.2.2.2.2.1
      have HKC : Hid (Kept [] W9 Wc) := kc
      clear kc
      go_upto_region 21 with (go_at_call 12; refine Calls.mono HSP.out ?_; rintro e S1 ⟨⟨v1, rfl⟩, hs1⟩; have HS1 : Hid (Kept L Wc S1) := hs1; clear hs1 b0 b1 b2)
      have hnx : bx ∉ L := fun h => by have := HNUM.out.2.2.2.2.2.2.2 bx h; omega
      have hny : by_ ∉ L := fun h => by have := HNUM.out.2.2.2.2.2.2.2 by_ h; have := HNUM.out.2.2.2.1; omega
      have HX1 : Hid (Calls Tryz.prog 20 #[.slice (some ⟨bx, 0, none⟩) frs.length (frs.length + 2)] S1 fun e w' => (∃ v, e = .returned v) ∧ Kept [bx] S1 w' ∧ w'.heap[bx]? = some (.cells (List.replicate (frs.length + 2) spoilT).toArray 9 (0, 0))) := spoilTexts_any bx frs.length (cellsT frs) S1 ((HXL.out.kept HKC.out).keptF HS1.out hnx)
      go_upto_region 22 with (go_at_call 20; refine Calls.mono HX1.out ?_; rintro e S2 ⟨⟨v2, rfl⟩, hs2, _⟩; have HS2 : Hid (Kept [bx] S1 S2) := hs2; clear hs2)
      have HY1 : Hid (Calls Tryz.prog 20 #[.slice (some ⟨by_, 0, none⟩) tos.length (tos.length + 2)] S2 fun e w' => (∃ v, e = .returned v) ∧ Kept [by_] S2 w' ∧ w'.heap[by_]? = some (.cells (List.replicate (tos.length + 2) spoilT).toArray 9 (0, 0))) := spoilTexts_any by_ tos.length (cellsT tos) S2 (((HYL.out.kept HKC.out).keptF HS1.out hny).keptF HS2.out (by have := HNUM.out.2.2.2.1; simp; omega))
      go_upto_region 23 with (go_at_call 20; refine Calls.mono HY1.out ?_; rintro e S3 ⟨⟨v3, rfl⟩, hs3, _⟩; have HS3 : Hid (Kept [by_] S2 S3) := hs3; clear hs3)
      obtain ⟨n1, n2, n3, n4, n5, n6, _, n8⟩ := HNUM.out
      have nk := HBK.out
      have kS : Kept (L ++ [bx, by_]) Wc S3 := (HS1.out.trans HS2.out (H := L ++ [bx, by_]) (fun x h => by simp [h]) (fun x h => .inl (by simp at h; simp [h]))).trans HS3.out (fun x h => h) (fun x h => .inl (by simp at h; simp [h]))
      have hF : ∀ x ∈ L ++ [bx, by_], lo ≤ x ∧ x < Bk := fun x hx => by
        rcases List.mem_append.1 hx with q | q
        · have := n8 x q; omega
        · simp at q; omega
      have k9S : Kept (L ++ [bx, by_]) W9 S3 := HKC.out.trans kS (by simp) (fun x h => .inl h)
      have kwS : Kept (L ++ [bx, by_]) wr S3 := HKc.out.trans kS (by simp) (fun x h => .inl h)
      have hW : IsF S3 u (.slice uad u.kids.length ucap) := HWI.out.at (fun k q hl => by have := k9S.size; omega) (fun k q hl => k9S.block k hl (fun hx => by have := hF k hx; omega))
      have h9 : For3 S3 B9 (.int .u8 (u.op : Nat)) (.string u.name) (.slice uad u.kids.length ucap) := k9S.at HWB.out (fun hx => by have := hF B9 hx; omega)
      have hl : LstAt S3 (Bk + 1) (.slice ad 2 cap) u 2 := HR.out.lst.keep kwS (fun g hg hx => by
        have := hF g hx
        obtain ⟨xs, _, h2, _⟩ := HR.out.lst
        have := own_baseF h2 hg
        omega) (fun g arr hg _ hx => by have := hF g hx; omega)
      obtain ⟨bl, vs, xss, hb0, _, _⟩ := HR.out.book
      have hbS : BookF S3 (Bk + 1) (Bk + 1) Bk bl vs xss := hb0.kept kwS (fun g hg hx => by have := hF g hx; rcases hb0.high g hg with q | q <;> omega)
      have hhi : ∀ g ∈ blocksOfF vs, Bk + 1 ≤ g := fun g hg => by
        obtain ⟨v, hv, hvg⟩ := mem_blocksO hg
        obtain ⟨i, hi, rfl⟩ := List.getElem_of_mem hv
        have hix : i < xss.length := by rw [← hb0.inn.rows.len]; exact hi
        exact own_baseF (hb0.inn.rows.row i _ _ (List.getElem?_eq_getElem hi) (List.getElem?_eq_getElem hix)) hvg
      obtain ⟨g, cap2, kv0, e, c0, c1, c2, hI0⟩ := hl.one (j := 0) (by omega)
      cases e
      obtain ⟨g', cap3, kv1, e, d0, d1, d2, hI1⟩ := hl.one (j := 1) (by omega)
      cases e
      obtain ⟨kad0, kcap0, rfl⟩ := hI0.slice
      obtain ⟨kad1, kcap1, rfl⟩ := hI1.slice
      have HE1 : Hid (∀ W, Kept [] S3 W → Calls Tryz.prog 13 #[.agg #[.int .u8 (u.op : Nat), .string u.name, .slice kad0 u.kids.length kcap0], .agg #[.int .u8 (u.op : Nat), .string u.name, .slice uad u.kids.length ucap]] W fun e w' => e = .returned (.bool true) ∧ Kept [] W w') := fun W k => same_any u _ _ W (hI0.kept k) (hW.kept k) (by have := HSZ.out.2; omega)
      have HE2 : Hid (∀ W, Kept [] S3 W → Calls Tryz.prog 13 #[.agg #[.int .u8 (u.op : Nat), .string u.name, .slice kad1 u.kids.length kcap1], .agg #[.int .u8 (u.op : Nat), .string u.name, .slice uad u.kids.length ucap]] W fun e w' => e = .returned (.bool true) ∧ Kept [] W w') := fun W k => same_any u _ _ W (hI1.kept k) (hW.kept k) (by have := HSZ.out.2; omega)
      have HOW : Hid (∀ W, Kept [] S3 W → Calls Tryz.prog 14 #[.pointer (some ⟨Bk, 0, none⟩)] W fun e w' => e = .returned (.bool true) ∧ Kept (blocksOfF vs) W w') := fun W k => bookOwnF_any Bk (Bk + 1) (Bk + 1) bl vs xss W (hbS.quiet k)
      obtain ⟨x0, x1, x2, _⟩ := h9.cells
      have HD0 : Hid (∀ W, Kept [] S3 W → W.cell? ⟨g, 0, none⟩ = some (.int .u8 (u.op : Nat)) ∧ W.cell? ⟨g, 1, none⟩ = some (.string u.name) ∧ W.cell? ⟨g, 2, none⟩ = some (.slice kad0 u.kids.length kcap0) ∧ W.cell? ⟨B9, 0, none⟩ = some (.int .u8 (u.op : Nat)) ∧ W.cell? ⟨B9, 1, none⟩ = some (.string u.name) ∧ W.cell? ⟨B9, 2, none⟩ = some (.slice uad u.kids.length ucap)) := fun W k => ⟨cell_kept0 k c0, cell_kept0 k c1, cell_kept0 k c2, cell_kept0 k x0, cell_kept0 k x1, cell_kept0 k x2⟩
      have HD1 : Hid (∀ W, Kept [] S3 W → W.cell? ⟨g, 3, none⟩ = some (.int .u8 (u.op : Nat)) ∧ W.cell? ⟨g, 4, none⟩ = some (.string u.name) ∧ W.cell? ⟨g, 5, none⟩ = some (.slice kad1 u.kids.length kcap1) ∧ W.cell? ⟨B9, 0, none⟩ = some (.int .u8 (u.op : Nat)) ∧ W.cell? ⟨B9, 1, none⟩ = some (.string u.name) ∧ W.cell? ⟨B9, 2, none⟩ = some (.slice uad u.kids.length ucap)) := fun W k => ⟨cell_kept0 k d0, cell_kept0 k d1, cell_kept0 k d2, cell_kept0 k x0, cell_kept0 k x1, cell_kept0 k x2⟩
      have HEND : Hid (∀ W W', Kept [] S3 W → Kept (blocksOfF vs) W W' → Kept [] w W') := fun W W' k k' => by
        have hwz : w.heap.size ≤ lo := Nat.le_trans HKV.out.size n6
        have q1 : Kept [] w wr := HKV.out.trans HV.out (by simp) (by simp)
        have q2 : Kept [] w S3 := q1.trans kwS (by simp) (fun x hx => .inr (by have := hF x hx; omega))
        exact (q2.trans k (H := []) (by simp) (by simp)).trans k' (by simp) (fun x hx => .inr (by have := hhi x hx; omega))
      have HS : Hid (Kept [] S3 S3) := Kept.refl [] S3
      clear hnx hny n1 n2 n3 n4 n5 n6 n8 nk kS hF k9S kwS hW h9 hl hb0 hbS hhi c0 c1 c2 d0 d1 d2 x0 x1 x2 hI0 hI1 HSP HX1 HY1 HS1 HS2 HS3 HKa HKb HKc HKC HCB HW1 HR HRE HWI HLO HXL HYL HFB HWB HV9 HNUM HBK HU HIF HXS HYS HB0 HT HFF
      go_cut [20] from 91 to 95 (fun s20 wx => s20 = .bool true ∧ Hid (Kept [] S3 wx))
      case first =>
        go_region_held3 (fun Y => Y.cell? ⟨g, 0, none⟩ = some (.int .u8 (u.op : Nat)) ∧ Y.cell? ⟨g, 1, none⟩ = some (.string u.name) ∧ Y.cell? ⟨g, 2, none⟩ = some (.slice kad0 u.kids.length kcap0) ∧ Y.cell? ⟨B9, 0, none⟩ = some (.int .u8 (u.op : Nat)) ∧ Y.cell? ⟨B9, 1, none⟩ = some (.string u.name) ∧ Y.cell? ⟨B9, 2, none⟩ = some (.slice uad u.kids.length ucap))
          ((refine HD0.out _ ?_; (first | exact HS.out | exact HS.out.drew | exact HK6.out)))
          (first | (go_at_call 13; refine Calls.mono (HE1.out _ HS.out.drew) ?_; rintro e S4 ⟨rfl, k4⟩; have HK6 : Hid (Kept [] S3 S4) := HS.out.drew.trans k4 (by simp) (by simp); clear k4))
        all_goals (go_wp2_with fail; go_meet)
        all_goals exact ⟨rfl, HK6.out⟩
      case rest =>
        obtain ⟨rfl, HT4⟩ := hcut
        obtain ⟨S4, hS4⟩ : ∃ S4, wc = S4 := ⟨_, rfl⟩
        rw [hS4] at HT4 ⊢
        clear hS4
        go_upto_region 24 with fail
        go_cut [21] from 96 to 100 (fun s21 wx => s21 = .bool true ∧ Hid (Kept [] S3 wx))
        case first =>
          go_region_held3 (fun Y => Y.cell? ⟨g, 3, none⟩ = some (.int .u8 (u.op : Nat)) ∧ Y.cell? ⟨g, 4, none⟩ = some (.string u.name) ∧ Y.cell? ⟨g, 5, none⟩ = some (.slice kad1 u.kids.length kcap1) ∧ Y.cell? ⟨B9, 0, none⟩ = some (.int .u8 (u.op : Nat)) ∧ Y.cell? ⟨B9, 1, none⟩ = some (.string u.name) ∧ Y.cell? ⟨B9, 2, none⟩ = some (.slice uad u.kids.length ucap))
            ((refine HD1.out _ ?_; (first | exact HT4.out | exact HT4.out.drew | exact HK7.out)))
            (first | (go_at_call 13; refine Calls.mono (HE2.out _ HT4.out.drew) ?_; rintro e S5 ⟨rfl, k5⟩; have HK7 : Hid (Kept [] S3 S5) := HT4.out.drew.trans k5 (by simp) (by simp); clear k5))
          all_goals (go_wp2_with fail; go_meet)
          all_goals exact ⟨rfl, HK7.out⟩
        case rest =>
          obtain ⟨rfl, HT5⟩ := hcut
          go_wp2_with (go_at_call 14; refine Calls.mono (HOW.out _ HT5.out) ?_; rintro e S6 ⟨rfl, k6⟩; have HF6 : Hid (Kept [] w S6) := HEND.out _ S6 HT5.out k6; clear k6)
          go_ret
          exact ⟨rfl, HF6.out⟩
end Go.Proofs.YtnjajafmmociiaaGreatDoor
