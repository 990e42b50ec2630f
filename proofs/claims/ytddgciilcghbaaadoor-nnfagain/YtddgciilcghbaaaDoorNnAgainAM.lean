/- NnfAgain's two small functions: among (every name of one list is in another) and iffs (is there an equivalence in a formula). -/
import Derived.Test.YtddgciilcghbaaaDoorGS
import Derived.Test.YtddgciilcghbaaaDoorEvStrM
namespace Go.Proofs.YtddgciilcghbaaaDoor
open Go.RowKit Go.Shelf

/-- What iffs answers: where it says no, no equivalence stands in the formula. -/
def IffEnd (t : Tr) (w : World) (e : Ending) (w' : World) : Prop := ∃ b : Bool, e = .returned (.bool b) ∧ (b = false → t.All (fun x => x.op ≠ 8)) ∧ Kept [] w w'
def IffsDoes (t : Tr) : Prop := ∀ (kv : Value) (w : World), IsF w t kv → t.size ≤ 1099511627776 →
  Calls Tryd.prog 28 #[.agg #[.int .u8 (t.op : Nat), .string t.name, kv]] w (IffEnd t w)
theorem hid_false {b : Bool} {p : Prop} (h : Hid (b = false → p)) : (b = false ∧ Hid p) ∨ b = true := by
  cases b
  · exact .inl ⟨rfl, h.out rfl⟩
  · exact .inr rfl
set_option maxHeartbeats 1000000 in
set_option maxRecDepth 20000 in
theorem iffs_any (t : Tr) : IffsDoes t := by
  induction t using Tr.ind with
  | h t ih =>
    intro kv w hI hs0
    have hlen : t.kids.length ≤ 1099511627776 := by have := t.kids_size; omega
    obtain ⟨kad, kcap, rfl⟩ := hI.slice
    have HI : Hid (IsT (fun k => k < w.heap.size) w t (.slice kad t.kids.length kcap)) := hI
    have HIH : Hid (∀ k ∈ t.kids, IffsDoes k) := fun k hk => ih k hk
    have HSZ : Hid (t.size ≤ 1099511627776) := hs0
    clear hI ih hs0
    obtain ⟨V, hV⟩ : ∃ V, w.alloc (.cells #[.int .u8 (t.op : Nat), .string t.name, .slice kad t.kids.length kcap] 25) = V := ⟨_, rfl⟩
    have HKV : Hid (Kept [] w V) := by show Kept [] w V; rw [← hV]; exact (Kept.refl [] w).alloc _
    have HB0 : Hid (For3 V w.heap.size (.int .u8 (t.op : Nat)) (.string t.name) (.slice kad t.kids.length kcap)) := by show For3 V _ _ _ _; rw [← hV]; exact al0 _ _
    have HV : Hid (_ = V) := hV
    clear hV
    by_cases h8 : t.op = 8
    · have h8i : (t.op : Int) = 8 := by omega
      rw [h8i]
      rw [h8i] at HV
      clear h8 h8i
      go_enter Tryd.func28, Tryd.ntmps28
      go_wp2
      go_ret
      exact ⟨true, rfl, (fun h => by cases h), (Kept.refl [] w).alloc _⟩
    · have h8i : ((t.op : Int) == 8) = false := by simp; omega
      have H8 : Hid (t.op ≠ 8) := h8
      clear h8
      go_enter Tryd.func28, Tryd.ntmps28
      go_wp2
      rw [HV.out]
      clear HV
      go_loopw [3] (fun v2 wr => ∃ i : Nat, v2 = .int .i64 (i : Nat) ∧ i ≤ t.kids.length ∧ Hid (Kept [] V wr) ∧ Hid (∀ j (h : j < t.kids.length), j < i → t.kids[j].All (fun x => x.op ≠ 8))) (fun v2 _ => t.kids.length - (intOf v2).toNat)
      case atStart => exact ⟨0, rfl, Nat.zero_le _, Kept.refl [] V, fun j h hj => absurd hj (Nat.not_lt_zero _)⟩
      case round =>
        obtain ⟨i, rfl, hi, HR, HA⟩ := hrel
        obtain ⟨_, _, b2, _⟩ := (HB0.out.kept HR.out).cells
        by_cases hlt : i < t.kids.length
        · have hli : (i : Int) < (t.kids.length : Int) := by omega
          obtain ⟨kb, koff, rfl, _, hkid⟩ := HI.out.kid (by omega)
          obtain ⟨kv, c0, c1, c2, hIk⟩ := hkid i hlt
          obtain ⟨ckad, ckcap, rfl⟩ := hIk.slice
          obtain ⟨k, hk⟩ : ∃ k, t.kids[i] = k := ⟨_, rfl⟩
          have hkm : k ∈ t.kids := by rw [← hk]; exact List.getElem_mem _
          rw [hk] at c0 c1 c2 hIk
          have kw : Kept [] w wr := HKV.out.trans HR.out (by simp) (by simp)
          have c0 := cell_kept0 kw c0
          have c1 := cell_kept0 kw c1
          have c2 := cell_kept0 kw c2
          have HREC : Hid (Calls Tryd.prog 28 #[.agg #[.int .u8 (k.op : Nat), .string k.name, .slice ckad k.kids.length ckcap]] wr (IffEnd k wr)) := HIH.out k hkm (.slice ckad k.kids.length ckcap) wr (IsF.kept hIk kw) (by have := Tr.kid_size hkm; have := HSZ.out; omega)
          have HNX : Hid (k.All (fun x => x.op ≠ 8) → ∀ j (h : j < t.kids.length), j < i + 1 → t.kids[j].All (fun x => x.op ≠ 8)) := fun hka j h hj => by
            rcases Nat.lt_or_ge j i with h' | h'
            · exact HA.out j h h'
            · obtain rfl : j = i := by omega
              rw [hk]; exact hka
          clear hkid hk hIk hkm kw
          go_wp2_with (go_at_call 28; refine HREC.out.mono ?_; rintro e W5 ⟨b, rfl, hb, hk5⟩; have HK5 : Hid (Kept [] wr W5) := hk5; have HBB : Hid (b = false → k.All (fun x => x.op ≠ 8)) := hb; clear hk5 hb; rcases hid_false HBB with ⟨rfl, HNO⟩ | rfl; all_goals clear HBB)
          · go_roundw
            case rel => exact ⟨i + 1, by go_num, by omega, HR.out.trans HK5.out (by simp) (by simp), HNX.out HNO.out⟩
            case measure => simp [intOf]; omega
          · go_ret
            have k5 : Kept [] V W5 := HR.out.trans HK5.out (by simp) (by simp)
            exact ⟨true, rfl, (fun h => by cases h), HKV.out.trans k5 (by simp) (by simp)⟩
        · obtain rfl : i = t.kids.length := by omega
          have hli : ¬ ((t.kids.length : Int) < (t.kids.length : Int)) := by omega
          go_wp2
          go_ret
          refine ⟨false, rfl, fun _ => (Tr.all_eq t).2 ⟨H8.out, fun k hk => ?_⟩, HKV.out.trans HR.out (by simp) (by simp)⟩
          obtain ⟨j, hj, rfl⟩ := List.getElem_of_mem hk
          exact HA.out j hj hj

set_option maxHeartbeats 1000000 in
set_option maxRecDepth 20000 in
theorem among_any (u v : Value) (ns xs : List ByteArray) (w : World) (hn : Strs w u ns) (hx : Strs w v xs) (hall : lackN ns xs = false) :
    Calls Tryd.prog 23 #[u, v] w fun e w' => e = .returned (.bool true) ∧ Kept [] w w' := by
  have fn := hn.few
  have fx := hx.few
  have HHAS : Hid (∀ i (h : i < ns.length), ∃ j, ∃ h2 : j < xs.length, sameN ns[i] xs[j] = true) := fun i h => by
    have h1 : ∀ s ∈ ns, hasN xs s = true := by
      unfold lackN at hall
      rw [List.any_eq_false] at hall
      intro s hs
      have := hall s hs
      simpa using this
    have h2 := h1 ns[i] (List.getElem_mem _)
    unfold hasN at h2
    rw [List.any_eq_true] at h2
    obtain ⟨x, hx1, hx2⟩ := h2
    obtain ⟨j, hj, rfl⟩ := List.getElem_of_mem hx1
    exact ⟨j, hj, hx2⟩
  have HSU : Hid (Strs w u ns) := hn
  have HSV : Hid (Strs w v xs) := hx
  obtain ⟨ua, uc, rfl, _, _⟩ := hn.form
  obtain ⟨va, vc, rfl, _, _⟩ := hx.form
  clear hn hx hall
  go_enter Tryd.func23, Tryd.ntmps23
  go_wp2_with fail
  go_loopw [5] (fun v5 wr => ∃ i : Nat, i ≤ ns.length ∧ v5 = .int .i64 (i : Nat) ∧ Hid (Kept [] w wr)) (fun v5 _ => ns.length - (intOf v5).toNat)
  case atStart => exact ⟨0, Nat.zero_le _, rfl, Kept.refl [] w⟩
  case round =>
    rename World => w5
    obtain ⟨i, hi, rfl, HKO⟩ := hrel
    by_cases hlt : i < ns.length
    · have hlt' : (i : Int) < (ns.length : Int) := by omega
      obtain ⟨ub, uo, uc', hu1, _, _, hu4⟩ := HSU.out.there (by omega)
      simp only [Value.slice.injEq] at hu1
      obtain ⟨rfl, _, rfl⟩ := hu1
      have HCU : Hid (w.cell? ⟨ub, uo + i, none⟩ = some (.string ns[i])) := hu4 i hlt
      have HJ : Hid (∃ j, ∃ h2 : j < xs.length, sameN ns[i] xs[j] = true) := HHAS.out i hlt
      obtain ⟨s, hs⟩ : ∃ s, ns[i] = s := ⟨_, rfl⟩
      rw [hs] at HCU HJ
      clear hu4 hs
      go_wp2_with fail
      go_loopw [6, 7] (fun v6 v7 wr => ∃ (k : Nat) (b : Bool), k ≤ xs.length ∧ v6 = .bool b ∧ v7 = .int .i64 (k : Nat) ∧ Hid (Kept [] w wr) ∧ Hid (b = false → ∀ j (h : j < xs.length), j < k → sameN s xs[j] = false)) (fun _ v7 _ => xs.length - (intOf v7).toNat)
      case atStart => exact ⟨0, false, Nat.zero_le _, rfl, rfl, HKO.out, fun _ j _ hj => absurd hj (Nat.not_lt_zero _)⟩
      case round =>
        rename World => w6
        obtain ⟨k, b, hk, rfl, rfl, HKI, HF⟩ := hrel
        rcases hid_false HF with ⟨rfl, HNO⟩ | rfl
        · clear HF
          by_cases hlk : k < xs.length
          · have hlk' : (k : Int) < (xs.length : Int) := by omega
            have b0 : (0 : Int) ≤ (k : Int) := by omega
            have b1 : (0 : Int) ≤ (i : Int) := by omega
            obtain ⟨vb, vo, vc', hv1, _, _, hv4⟩ := HSV.out.there (by omega)
            simp only [Value.slice.injEq] at hv1
            obtain ⟨rfl, _, rfl⟩ := hv1
            have d1 := cell_kept0 HKI.out HCU.out
            have d2 := cell_kept0 HKI.out (hv4 k hlk)
            have HQ : Hid (sameN s xs[k] = false → ∀ j (h : j < xs.length), j < k + 1 → sameN s xs[j] = false) := fun hf j h hj => by
              rcases Nat.lt_or_ge j k with h' | h'
              · exact HNO.out j h h'
              · obtain rfl : j = k := by omega
                exact hf
            obtain ⟨x, hxk⟩ : ∃ x, xs[k] = x := ⟨_, rfl⟩
            rw [hxk] at d2 HQ
            clear hv4 hxk
            obtain ⟨b, hb⟩ : ∃ b, (s.toList == x.toList) = b := ⟨_, rfl⟩
            have HQ2 : Hid (b = false → ∀ j (h : j < xs.length), j < k + 1 → sameN s xs[j] = false) := fun hf => HQ.out (hb.trans hf)
            clear HQ
            go_wp2_with fail
            go_region_held3 (fun w' => w'.cell? ⟨ub, uo + i, none⟩ = some (.string s) ∧ w'.cell? ⟨vb, vo + k, none⟩ = some (.string x)) (go_keep) (fail)
            go_wp2
            go_roundw
            case rel => exact ⟨k + 1, b, by omega, rfl, by go_num, by first | exact HKI.out | exact HKI.out.drew | exact HKI.out.drewN _, HQ2.out⟩
            case measure => simp [intOf]; omega
          · exfalso
            obtain ⟨j, h2, h3⟩ := HJ.out
            have h4 := HNO.out j h2 (by omega)
            rw [h3] at h4
            cases h4
        · clear HF
          by_cases hlk : k < xs.length
          · have hlk' : (k : Int) < (xs.length : Int) := by omega
            go_wp2
            go_roundw
            case rel => exact ⟨i + 1, by omega, by go_num, HKI.out⟩
            case measure => simp [intOf]; omega
          · have hlk' : ¬ (k : Int) < (xs.length : Int) := by omega
            go_wp2
            go_roundw
            case rel => exact ⟨i + 1, by omega, by go_num, HKI.out⟩
            case measure => simp [intOf]; omega
    · have hlt' : ¬ (i : Int) < (ns.length : Int) := by omega
      go_wp2
      go_ret
      exact ⟨rfl, HKO.out⟩
end Go.Proofs.YtddgciilcghbaaaDoor
