/- 'CodecSums': the walk. -/
import Derived.Test.YtnaebadjejhdiaaGreatDoorCoByt
import Derived.Deep.AppendLies
import Derived.Deep.RegionHeld3
import Derived.Laws.OwnMore
import Derived.Deep.Cut
namespace Go.Proofs.YtnaebadjejhdiaaGreatDoor
open Go.RowKit

theorem kept_of_below {w w' : World} (h : Below w.heap.size w w') : Kept [] w w' :=
  ⟨h.os, h.tape, h.output, h.size, fun k hk _ => h.block k hk⟩
theorem Tryz.infoByte : (Tryz.prog.info? 5).map (fun i => (i.zero, i.size, i.bytes)) = some (some (.int .u8 0), 1, 1) := by kernel_rfl
def bytV (xs : List Nat) : List Value := xs.map fun x : Nat => Value.int .u8 (x : Int)
theorem bytV_get (xs : List Nat) (i : Nat) (h : i < xs.length) : (bytV xs)[i]? = some (.int .u8 (xs[i] : Nat)) := by simp [bytV, h]

/-- A row of one's own, one byte turned. -/
theorem own_byts {W : World} {base g n cap k : Nat} {xs : List Nat} {to_ : Nat} (h : W.ownsRow base 5 1 (.slice (some ⟨g, 0, none⟩) n cap) n (bytV xs)) (hn : xs.length = n) (hk : k < n) (hf : xs.length ≤ 140737488351232) (hw : ∀ x ∈ xs, x < 256) (ht : to_ < 256) :
    Byts (W.setCell ⟨g, k, none⟩ (.int .u8 (to_ : Int))) (.slice (some ⟨g, 0, none⟩) n cap) (xs.set k to_) := by
  rcases h.2 with ⟨h', _⟩ | ⟨g', cap', cur, h', _, hg, h3, h4, h5, h6⟩
  · simp at h'
  · simp only [Value.slice.injEq, Option.some.injEq, Addr.mk.injEq, and_true, true_and] at h'
    obtain ⟨rfl, rfl⟩ := h'
    refine ⟨by simpa using hf, fun x hx => ?_, .inr ⟨g, 0, cap, by simp [hn], by simpa [hn] using h3, h4, fun i hi => ?_⟩⟩
    · rcases List.mem_or_eq_of_mem_set hx with h7 | rfl
      · exact hw x h7
      · exact ht
    · have hi' : i < n := by simpa [hn] using hi
      have hcur : i < cur.size := by omega
      have hset : (W.setCell ⟨g, k, none⟩ (.int .u8 (to_ : Int))).heap[g]? = some (.cells (cur.setIfInBounds k (.int .u8 (to_ : Int))) 5 (0, 0)) := by
        simp only [World.setCell, Array.getElem?_modify, if_true]
        rw [hg]
        simp
      rw [Nat.zero_add, cell_of hset]
      by_cases hik : i = k
      · subst hik
        simp [hcur]
      · have h8 : cur[i]? = some (.int .u8 (xs[i]'(by omega) : Nat)) := by
          have := bytV_get xs i (by omega)
          rw [← h6, List.getElem?_take] at this
          rw [if_pos (by omega)] at this
          simpa using this
        rw [Array.getElem?_setIfInBounds_ne (Ne.symm hik), h8]
        simp [List.getElem_set_ne (Ne.symm hik)]

theorem byts_kept {W W' : World} {v : Value} {xs : List Nat} (h : Byts W v xs) (k : Kept [] W W') : Byts W' v xs := h.kept k

set_option maxHeartbeats 4000000 in
set_option maxRecDepth 10000 in
theorem codecSums_walk (v : Value) (xs : List Nat) (q : Int) (to_ : Nat) (W : World) (hB : Byts W v xs) (hq : -9223372036854775808 ≤ q ∧ q ≤ 9223372036854775807) (hto : to_ < 256)
    (hA : Calls Tryz.prog 4 #[] W fun e w' => e = .returned (.bool true) ∧ Below W.heap.size W w') :
    Calls Tryz.prog 3 #[v, .int .i64 q, .int .u8 to_] W fun e w' => e = .returned (.bool true) ∧ Hid (Kept [] W w') := by
  have HA : Hid (Calls Tryz.prog 4 #[] W fun e w' => e = .returned (.bool true) ∧ Below W.heap.size W w') := hA
  have HB : Hid (Byts W v xs) := hB
  have hf := hB.few
  obtain ⟨ad, c, rfl, HC⟩ := hB.at
  clear hA hB
  by_cases h0 : xs.length = 0 ∨ 1048576 < xs.length
  · have e0 : ((xs.length : Int) == 0 || decide ((1048576 : Int) < (xs.length : Int))) = true := by
      rcases h0 with h0 | h0
      · simp [h0]
      · simp [show (1048576 : Int) < (xs.length : Int) by omega]
    rcases h0 with h0 | h0
    · clear e0 HC
      go_enter Tryz.func3, Tryz.ntmps3
      go_wp2_with (go_at_call 4; refine HA.out.mono ?_; rintro e w1 ⟨rfl, hb⟩; have HK : Hid (Kept [] W w1) := kept_of_below hb; clear hb)
      go_ret
      exact ⟨rfl, HK⟩
    · have e1 : ¬ xs.length = 0 := by omega
      clear e0 HC
      go_enter Tryz.func3, Tryz.ntmps3
      go_wp2_with (go_at_call 4; refine HA.out.mono ?_; rintro e w1 ⟨rfl, hb⟩; have HK : Hid (Kept [] W w1) := kept_of_below hb; clear hb)
      go_ret
      exact ⟨rfl, HK⟩
  · have e0 : ¬ xs.length = 0 := fun h => h0 (.inl h)
    have e1 : ¬ 1048576 < xs.length := fun h => h0 (.inr h)
    clear h0
    obtain ⟨b, o, rfl, hc0⟩ := HC 0 (by omega)
    have HCell : Hid (∀ i (h : i < xs.length), W.cell? ⟨b, o + i, none⟩ = some (.int .u8 (xs[i] : Nat))) := fun i h => by
      obtain ⟨b', o', he, hx⟩ := HC i h
      cases he
      exact hx
    have HFew : Hid (∀ x ∈ xs, x < 256) := HB.out.wf
    obtain ⟨i0, hi, hz0, hz1, hz2⟩ := info_parts Tryz.infoByte
    have HONE : Hid (∀ u, u ∈ bytV xs → u.oneCell' = true) := by
      intro u hu
      obtain ⟨x, _, rfl⟩ := List.mem_map.1 hu
      rfl
    have HLEN : Hid ((bytV xs).length = xs.length * 1) := by simp [Hid, bytV]
    have HNEWS : Hid (∀ V, Kept [] W V → ∀ j u, (bytV xs)[j]? = some u → V.cell? ((⟨b, o, none⟩ : Addr).add j) = some u) := by
      intro V hV j u hj
      have hj' : j < xs.length := by
        rcases Nat.lt_or_ge j xs.length with h | h
        · exact h
        · rw [List.getElem?_eq_none (by simpa [bytV] using h)] at hj; cases hj
      have e : (⟨b, o, none⟩ : Addr).add j = ⟨b, o + j, none⟩ := by simp [Addr.add]
      rw [e, cell_keptC hV (HCell.out j hj'), ← hj, bytV_get xs j hj']
    have tail : ∀ (k : Nat), k < xs.length → True := fun _ _ => trivial
    clear HC hc0 tail
    by_cases hq0 : q < 0
    · obtain ⟨k, hk⟩ : ∃ k : Nat, k = (-(q + 1)).toNat % xs.length := ⟨_, rfl⟩
      have hkl : k < xs.length := by rw [hk]; exact Nat.mod_lt _ (by omega)
      have hm : -(q + 1).tmod (xs.length : Int) = (k : Int) := by
        obtain ⟨j, hj⟩ : ∃ j : Nat, -(q + 1) = (j : Int) := ⟨(-(q + 1)).toNat, by omega⟩
        rw [← Int.neg_tmod, hj, hk, hj, Int.tmod_eq_emod_of_nonneg (by omega)]
        rfl
      clear hk
      have HX : Hid (∀ W3 : World, Kept [] W W3 → W3.cell? ⟨b, o + k, none⟩ = some (.int .u8 (xs[k] : Nat))) := fun W3 h => cell_keptC h (HCell.out k hkl)
      have HEQ : fnv (xs.set k to_) = fnv xs ↔ xs[k] = to_ := fnv_set xs k to_ hkl HFew.out hto
      have HSM : xs[k] < 256 := HFew.out _ (List.getElem_mem hkl)
      have HD1 : Hid (∀ v V, Byts V v (xs.set k to_) → Calls Tryz.prog 5 #[v] V fun e w' => e = .returned (.int .u64 (fnv (xs.set k to_) : Nat)) ∧ w' = V) := fun v V h => digest_any v _ V h
      have HD2 : Hid (∀ v V, Byts V v xs → Calls Tryz.prog 5 #[v] V fun e w' => e = .returned (.int .u64 (fnv xs : Nat)) ∧ w' = V) := fun v V h => digest_any v _ V h
      have HOWN : Hid (∀ W2 : World, ∀ g cap, W2.ownsRow W.heap.size 5 1 (.slice (some ⟨g, 0, none⟩) xs.length cap) xs.length (bytV xs) → Byts (W2.setCell ⟨g, k, none⟩ (.int .u8 (to_ : Int))) (.slice (some ⟨g, 0, none⟩) xs.length cap) (xs.set k to_)) := fun W2 g cap h => own_byts h rfl hkl (by omega) HFew.out hto
      have HCG : Hid (∀ W2 : World, ∀ g cap, W2.ownsRow W.heap.size 5 1 (.slice (some ⟨g, 0, none⟩) xs.length cap) xs.length (bytV xs) → W2.cell? ⟨g, k, none⟩ = some (.int .u8 (xs[k] : Nat)) ∧ W2.frozen? ⟨g, k, none⟩ = false) := fun W2 g cap h => by
        refine ⟨by rw [h.cellAt k (by omega), bytV_get xs k hkl], ?_⟩
        rcases h.2 with ⟨h', _⟩ | ⟨g', cap', cur, h', _, hg, _⟩
        · simp at h'
        · simp only [Value.slice.injEq, Option.some.injEq, Addr.mk.injEq, and_true, true_and] at h'
          obtain ⟨rfl, rfl⟩ := h'
          exact free_of hg k
      have hlk : (k : Int) < (xs.length : Int) := by omega
      have e3 : ((xs.length : Int) == 0) = false := by rw [beq_eq_false_iff_ne]; omega
      have e4 : decide ((1048576 : Int) < (xs.length : Int)) = false := by simp; omega
      generalize hx : xs[k] = x at HX HEQ HSM HCG
      clear hx
      generalize fnv (xs.set k to_) = s1 at HEQ HD1
      generalize fnv xs = s2 at HEQ HD2
      have HTO : Hid (to_ < 256) := hto
      have T1 : Hid True := trivial
      clear HCell hto
      by_cases hxt : x = to_
      · have hss := HEQ.2 hxt
        subst hxt
        subst hss
        have q1 : ((s1 : Int) == (s1 : Int)) = true := by simp
        have q2 : ((x : Int) == (x : Int)) = true := by simp
        clear HEQ
        go_enter Tryz.func3, Tryz.ntmps3
        go_wp2_with (first
          | (go_at_call 4; refine HA.out.mono ?_; rintro e w1 ⟨rfl, hb⟩; have HK : Hid (Kept [] W w1) := kept_of_below hb; clear hb)
          | (at_builtin; refine wpList_append_own _ rfl (.tmp 29) (.tmp 30) 22 rfl W.heap.size 5 i0 _ 1 1 (by kernel_rfl) hi hz0 hz1 hz2 rfl (by decide) (.slice none 0 0) 0 [] rfl ⟨by simp, .inl ⟨rfl, rfl⟩⟩ ⟨b, o, none⟩ xs.length c (bytV xs) rfl HLEN.out (HNEWS.out _ HK.out) HONE.out (by unfold maxLen; omega) (by omega) HK.out.size ?_; intro v' w2 hown hgrow hnil; have HO : Hid (w2.ownsRow W.heap.size 5 1 v' (0 + xs.length) ([] ++ bytV xs)) := hown; have HKg : Hid (Kept [] W w2) := HK.out.grown hgrow (fun _ h => by cases h); clear hown hgrow hnil; obtain ⟨g, cap, rfl, hgb, hgl⟩ := World.ownsRow.form HO.out (by omega); have HO2 : Hid (w2.ownsRow W.heap.size 5 1 (.slice (some ⟨g, 0, none⟩) xs.length cap) xs.length (bytV xs)) := (by simpa [Hid] using HO); rw [Nat.zero_add]; clear HO; obtain ⟨g1, g2⟩ := HCG.out _ _ _ HO2.out; have HB3 : Hid _ := HOWN.out _ _ _ HO2.out; have HK3 : Hid (Kept [] W (w2.setCell ⟨g, k, none⟩ (.int .u8 (x : Int)))) := HKg.out.setCell (.inr hgb) _; clear HO2))
        go_region_held3 (fun w' => w'.cell? ⟨b, o + k, none⟩ = some (.int .u8 (x : Nat)))
          ((refine HX.out _ ?_; (first | exact HK3.out | exact HK3.out.drew)))
          (first
            | (clear T1; go_at_call 5; refine (HD1.out _ _ (HB3.out.kept (Kept.refl [] _).drew)).mono ?_; rintro e wa ⟨rfl, rfl⟩)
            | (go_at_call 5; refine (HD2.out _ _ (HB.out.kept (by first | exact HK3.out | exact HK3.out.drew))).mono ?_; rintro e wb ⟨rfl, rfl⟩))
        all_goals go_wp2
        all_goals go_ret
        all_goals exact ⟨rfl, HK3.out.drew⟩
      · have q1 : ((s1 : Int) == (s2 : Int)) = false := by
          rw [beq_eq_false_iff_ne]; intro h; exact hxt (HEQ.1 (by omega))
        have q2 : ((x : Int) == (to_ : Int)) = false := by
          rw [beq_eq_false_iff_ne]; intro h; exact hxt (by omega)
        clear HEQ hxt
        go_enter Tryz.func3, Tryz.ntmps3
        go_wp2_with (first
          | (go_at_call 4; refine HA.out.mono ?_; rintro e w1 ⟨rfl, hb⟩; have HK : Hid (Kept [] W w1) := kept_of_below hb; clear hb)
          | (at_builtin; refine wpList_append_own _ rfl (.tmp 29) (.tmp 30) 22 rfl W.heap.size 5 i0 _ 1 1 (by kernel_rfl) hi hz0 hz1 hz2 rfl (by decide) (.slice none 0 0) 0 [] rfl ⟨by simp, .inl ⟨rfl, rfl⟩⟩ ⟨b, o, none⟩ xs.length c (bytV xs) rfl HLEN.out (HNEWS.out _ HK.out) HONE.out (by unfold maxLen; omega) (by omega) HK.out.size ?_; intro v' w2 hown hgrow hnil; have HO : Hid (w2.ownsRow W.heap.size 5 1 v' (0 + xs.length) ([] ++ bytV xs)) := hown; have HKg : Hid (Kept [] W w2) := HK.out.grown hgrow (fun _ h => by cases h); clear hown hgrow hnil; obtain ⟨g, cap, rfl, hgb, hgl⟩ := World.ownsRow.form HO.out (by omega); have HO2 : Hid (w2.ownsRow W.heap.size 5 1 (.slice (some ⟨g, 0, none⟩) xs.length cap) xs.length (bytV xs)) := (by simpa [Hid] using HO); rw [Nat.zero_add]; clear HO; obtain ⟨g1, g2⟩ := HCG.out _ _ _ HO2.out; have HB3 : Hid _ := HOWN.out _ _ _ HO2.out; have HK3 : Hid (Kept [] W (w2.setCell ⟨g, k, none⟩ (.int .u8 (to_ : Int)))) := HKg.out.setCell (.inr hgb) _; clear HO2))
        go_region_held3 (fun w' => w'.cell? ⟨b, o + k, none⟩ = some (.int .u8 (x : Nat)))
          ((refine HX.out _ ?_; (first | exact HK3.out | exact HK3.out.drew)))
          (first
            | (clear T1; go_at_call 5; refine (HD1.out _ _ (HB3.out.kept (Kept.refl [] _).drew)).mono ?_; rintro e wa ⟨rfl, rfl⟩)
            | (go_at_call 5; refine (HD2.out _ _ (HB.out.kept (by first | exact HK3.out | exact HK3.out.drew))).mono ?_; rintro e wb ⟨rfl, rfl⟩))
        all_goals go_wp2
        all_goals go_ret
        all_goals exact ⟨rfl, HK3.out.drew⟩
    · obtain ⟨k, hk⟩ : ∃ k : Nat, k = q.toNat % xs.length := ⟨_, rfl⟩
      have hkl : k < xs.length := by rw [hk]; exact Nat.mod_lt _ (by omega)
      obtain ⟨j, hj⟩ : ∃ j : Nat, q = (j : Int) := ⟨q.toNat, by omega⟩
      have hm2 : q % (xs.length : Int) = (k : Int) := by rw [hk, hj]; rfl
      have hm : q.tmod (xs.length : Int) = (k : Int) := by rw [Int.tmod_eq_emod_of_nonneg (by omega)]; exact hm2
      clear hk hj
      have HX : Hid (∀ W3 : World, Kept [] W W3 → W3.cell? ⟨b, o + k, none⟩ = some (.int .u8 (xs[k] : Nat))) := fun W3 h => cell_keptC h (HCell.out k hkl)
      have HEQ : fnv (xs.set k to_) = fnv xs ↔ xs[k] = to_ := fnv_set xs k to_ hkl HFew.out hto
      have HSM : xs[k] < 256 := HFew.out _ (List.getElem_mem hkl)
      have HD1 : Hid (∀ v V, Byts V v (xs.set k to_) → Calls Tryz.prog 5 #[v] V fun e w' => e = .returned (.int .u64 (fnv (xs.set k to_) : Nat)) ∧ w' = V) := fun v V h => digest_any v _ V h
      have HD2 : Hid (∀ v V, Byts V v xs → Calls Tryz.prog 5 #[v] V fun e w' => e = .returned (.int .u64 (fnv xs : Nat)) ∧ w' = V) := fun v V h => digest_any v _ V h
      have HOWN : Hid (∀ W2 : World, ∀ g cap, W2.ownsRow W.heap.size 5 1 (.slice (some ⟨g, 0, none⟩) xs.length cap) xs.length (bytV xs) → Byts (W2.setCell ⟨g, k, none⟩ (.int .u8 (to_ : Int))) (.slice (some ⟨g, 0, none⟩) xs.length cap) (xs.set k to_)) := fun W2 g cap h => own_byts h rfl hkl (by omega) HFew.out hto
      have HCG : Hid (∀ W2 : World, ∀ g cap, W2.ownsRow W.heap.size 5 1 (.slice (some ⟨g, 0, none⟩) xs.length cap) xs.length (bytV xs) → W2.cell? ⟨g, k, none⟩ = some (.int .u8 (xs[k] : Nat)) ∧ W2.frozen? ⟨g, k, none⟩ = false) := fun W2 g cap h => by
        refine ⟨by rw [h.cellAt k (by omega), bytV_get xs k hkl], ?_⟩
        rcases h.2 with ⟨h', _⟩ | ⟨g', cap', cur, h', _, hg, _⟩
        · simp at h'
        · simp only [Value.slice.injEq, Option.some.injEq, Addr.mk.injEq, and_true, true_and] at h'
          obtain ⟨rfl, rfl⟩ := h'
          exact free_of hg k
      have hlk : (k : Int) < (xs.length : Int) := by omega
      have e3 : ((xs.length : Int) == 0) = false := by rw [beq_eq_false_iff_ne]; omega
      have e4 : decide ((1048576 : Int) < (xs.length : Int)) = false := by simp; omega
      generalize hx : xs[k] = x at HX HEQ HSM HCG
      clear hx
      generalize fnv (xs.set k to_) = s1 at HEQ HD1
      generalize fnv xs = s2 at HEQ HD2
      have HTO : Hid (to_ < 256) := hto
      have T1 : Hid True := trivial
      clear HCell hto
      by_cases hxt : x = to_
      · have hss := HEQ.2 hxt
        subst hxt
        subst hss
        have q1 : ((s1 : Int) == (s1 : Int)) = true := by simp
        have q2 : ((x : Int) == (x : Int)) = true := by simp
        clear HEQ
        go_enter Tryz.func3, Tryz.ntmps3
        go_wp2_with (first
          | (go_at_call 4; refine HA.out.mono ?_; rintro e w1 ⟨rfl, hb⟩; have HK : Hid (Kept [] W w1) := kept_of_below hb; clear hb)
          | (at_builtin; refine wpList_append_own _ rfl (.tmp 29) (.tmp 30) 22 rfl W.heap.size 5 i0 _ 1 1 (by kernel_rfl) hi hz0 hz1 hz2 rfl (by decide) (.slice none 0 0) 0 [] rfl ⟨by simp, .inl ⟨rfl, rfl⟩⟩ ⟨b, o, none⟩ xs.length c (bytV xs) rfl HLEN.out (HNEWS.out _ HK.out) HONE.out (by unfold maxLen; omega) (by omega) HK.out.size ?_; intro v' w2 hown hgrow hnil; have HO : Hid (w2.ownsRow W.heap.size 5 1 v' (0 + xs.length) ([] ++ bytV xs)) := hown; have HKg : Hid (Kept [] W w2) := HK.out.grown hgrow (fun _ h => by cases h); clear hown hgrow hnil; obtain ⟨g, cap, rfl, hgb, hgl⟩ := World.ownsRow.form HO.out (by omega); have HO2 : Hid (w2.ownsRow W.heap.size 5 1 (.slice (some ⟨g, 0, none⟩) xs.length cap) xs.length (bytV xs)) := (by simpa [Hid] using HO); rw [Nat.zero_add]; clear HO; obtain ⟨g1, g2⟩ := HCG.out _ _ _ HO2.out; have HB3 : Hid _ := HOWN.out _ _ _ HO2.out; have HK3 : Hid (Kept [] W (w2.setCell ⟨g, k, none⟩ (.int .u8 (x : Int)))) := HKg.out.setCell (.inr hgb) _; clear HO2))
        go_region_held3 (fun w' => w'.cell? ⟨b, o + k, none⟩ = some (.int .u8 (x : Nat)))
          ((refine HX.out _ ?_; (first | exact HK3.out | exact HK3.out.drew)))
          (first
            | (clear T1; go_at_call 5; refine (HD1.out _ _ (HB3.out.kept (Kept.refl [] _).drew)).mono ?_; rintro e wa ⟨rfl, rfl⟩)
            | (go_at_call 5; refine (HD2.out _ _ (HB.out.kept (by first | exact HK3.out | exact HK3.out.drew))).mono ?_; rintro e wb ⟨rfl, rfl⟩))
        all_goals go_wp2
        all_goals go_ret
        all_goals exact ⟨rfl, HK3.out.drew⟩
      · have q1 : ((s1 : Int) == (s2 : Int)) = false := by
          rw [beq_eq_false_iff_ne]; intro h; exact hxt (HEQ.1 (by omega))
        have q2 : ((x : Int) == (to_ : Int)) = false := by
          rw [beq_eq_false_iff_ne]; intro h; exact hxt (by omega)
        clear HEQ hxt
        go_enter Tryz.func3, Tryz.ntmps3
        go_wp2_with (first
          | (go_at_call 4; refine HA.out.mono ?_; rintro e w1 ⟨rfl, hb⟩; have HK : Hid (Kept [] W w1) := kept_of_below hb; clear hb)
          | (at_builtin; refine wpList_append_own _ rfl (.tmp 29) (.tmp 30) 22 rfl W.heap.size 5 i0 _ 1 1 (by kernel_rfl) hi hz0 hz1 hz2 rfl (by decide) (.slice none 0 0) 0 [] rfl ⟨by simp, .inl ⟨rfl, rfl⟩⟩ ⟨b, o, none⟩ xs.length c (bytV xs) rfl HLEN.out (HNEWS.out _ HK.out) HONE.out (by unfold maxLen; omega) (by omega) HK.out.size ?_; intro v' w2 hown hgrow hnil; have HO : Hid (w2.ownsRow W.heap.size 5 1 v' (0 + xs.length) ([] ++ bytV xs)) := hown; have HKg : Hid (Kept [] W w2) := HK.out.grown hgrow (fun _ h => by cases h); clear hown hgrow hnil; obtain ⟨g, cap, rfl, hgb, hgl⟩ := World.ownsRow.form HO.out (by omega); have HO2 : Hid (w2.ownsRow W.heap.size 5 1 (.slice (some ⟨g, 0, none⟩) xs.length cap) xs.length (bytV xs)) := (by simpa [Hid] using HO); rw [Nat.zero_add]; clear HO; obtain ⟨g1, g2⟩ := HCG.out _ _ _ HO2.out; have HB3 : Hid _ := HOWN.out _ _ _ HO2.out; have HK3 : Hid (Kept [] W (w2.setCell ⟨g, k, none⟩ (.int .u8 (to_ : Int)))) := HKg.out.setCell (.inr hgb) _; clear HO2))
        go_region_held3 (fun w' => w'.cell? ⟨b, o + k, none⟩ = some (.int .u8 (x : Nat)))
          ((refine HX.out _ ?_; (first | exact HK3.out | exact HK3.out.drew)))
          (first
            | (clear T1; go_at_call 5; refine (HD1.out _ _ (HB3.out.kept (Kept.refl [] _).drew)).mono ?_; rintro e wa ⟨rfl, rfl⟩)
            | (go_at_call 5; refine (HD2.out _ _ (HB.out.kept (by first | exact HK3.out | exact HK3.out.drew))).mono ?_; rintro e wb ⟨rfl, rfl⟩))
        all_goals go_wp2
        all_goals go_ret
        all_goals exact ⟨rfl, HK3.out.drew⟩
end Go.Proofs.YtnaebadjejhdiaaGreatDoor
