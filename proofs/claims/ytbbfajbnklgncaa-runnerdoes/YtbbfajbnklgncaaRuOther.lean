/- runner.finalOf's closure isOther, and ContainsFunc by it. -/
import Derived.Test.YtbbfajbnklgncaaRuBack
namespace Go.Proofs.Ytbbfajbnklgncaa
open Go.RowKit Go.Shelf

/-- Where the verdicts of a machine lie. -/
def OutAt (W : World) (ob oo : Nat) (out : List Nat) : Prop := ∀ i, i < out.length → W.cell? ⟨ob, oo + i, none⟩ = some (.int .u8 (out.getD i 0 : Nat))
theorem OutAt.kept {W W' : World} {ob oo : Nat} {out : List Nat} (h : OutAt W ob oo out) (k : Kept [] W W') : OutAt W' ob oo out := fun i hi => cell_kept0 k (h i hi)
def otherB (out : List Nat) (s : Nat) (x : Int) : Bool := decide (out.getD x.toNat 0 ≠ out.getD s 0)
set_option maxHeartbeats 2000000 in
set_option maxRecDepth 10000 in
theorem isOther_any (x : Int) (s M S ob oo oc : Nat) (out : List Nat) (w : World) (hM : w.cell? ⟨M, 2, none⟩ = some (.slice (some ⟨ob, oo, none⟩) out.length oc)) (hS : w.cell? ⟨S, 0, none⟩ = some (.int .i64 (s : Nat))) (ho : OutAt w ob oo out) (hx0 : 0 ≤ x) (hx1 : x < (out.length : Int)) (hs : s < out.length) :
    Calls Try.prog 67 #[.int .i64 x, .pointer (some ⟨M, 0, none⟩), .pointer (some ⟨S, 0, none⟩)] w fun e w' => e = .returned (.bool (otherB out s x)) ∧ Kept [] w w' := by
  obtain ⟨t, rfl⟩ : ∃ t : Nat, x = (t : Int) := ⟨x.toNat, by omega⟩
  have ht : t < out.length := by omega
  have c1 := ho t ht
  have c2 := ho s hs
  have z0 : (0 : Int) ≤ (t : Int) := by omega
  have z1 : (0 : Int) ≤ (s : Int) := by omega
  have z2 : (s : Int) < (out.length : Int) := by omega
  obtain ⟨a, ha⟩ : ∃ a, out.getD t 0 = a := ⟨_, rfl⟩
  obtain ⟨b, hb⟩ : ∃ b, out.getD s 0 = b := ⟨_, rfl⟩
  obtain ⟨N, hN⟩ : ∃ N, out.length = N := ⟨_, rfl⟩
  have hot : otherB out s (t : Int) = decide (a ≠ b) := by
    unfold otherB
    rw [Int.toNat_natCast, ha, hb]
  rw [hot]
  rw [ha] at c1
  rw [hb] at c2
  rw [hN] at hM hx1 z2
  clear ho hs ht hot ha hb hN
  by_cases hab : a = b
  · subst hab
    go_enter Try.func67, Try.ntmps67
    go_wp2_with fail
    go_region_held3 (fun w' => w'.cell? ⟨M, 2, none⟩ = some (.slice (some ⟨ob, oo, none⟩) N oc) ∧ w'.cell? ⟨S, 0, none⟩ = some (.int .i64 (s : Nat)) ∧ w'.cell? ⟨ob, oo + t, none⟩ = some (.int .u8 (a : Nat)) ∧ w'.cell? ⟨ob, oo + s, none⟩ = some (.int .u8 (a : Nat))) (exact ⟨hM, hS, c1, c2⟩) (fail)
    all_goals go_wp2
    all_goals go_ret
    all_goals exact ⟨by simp, (Kept.refl [] w).drew⟩
  · have hne : ((a : Int) != (b : Int)) = true := by simp; omega
    go_enter Try.func67, Try.ntmps67
    go_wp2_with fail
    go_region_held3 (fun w' => w'.cell? ⟨M, 2, none⟩ = some (.slice (some ⟨ob, oo, none⟩) N oc) ∧ w'.cell? ⟨S, 0, none⟩ = some (.int .i64 (s : Nat)) ∧ w'.cell? ⟨ob, oo + t, none⟩ = some (.int .u8 (a : Nat)) ∧ w'.cell? ⟨ob, oo + s, none⟩ = some (.int .u8 (b : Nat))) (exact ⟨hM, hS, c1, c2⟩) (fail)
    all_goals go_wp2
    all_goals go_ret
    all_goals exact ⟨by simp [hab], (Kept.refl [] w).drew⟩
set_option maxHeartbeats 2000000 in
set_option maxRecDepth 10000 in
theorem indexO_any (v : Value) (xs : List Int) (s M S ob oo oc : Nat) (out : List Nat) (w : World) (h : Ints w v xs) (hM : w.cell? ⟨M, 2, none⟩ = some (.slice (some ⟨ob, oo, none⟩) out.length oc)) (hS : w.cell? ⟨S, 0, none⟩ = some (.int .i64 (s : Nat))) (ho : OutAt w ob oo out) (hx : ∀ x ∈ xs, 0 ≤ x ∧ x < (out.length : Int)) (hs : s < out.length) :
    Calls Try.prog 78 #[v, .func (.func 67) #[] #[.pointer (some ⟨M, 0, none⟩), .pointer (some ⟨S, 0, none⟩)]] w fun e w' => ∃ k : Int, e = .returned (.int .i64 k) ∧ Hid (decide (0 ≤ k) = xs.any (otherB out s)) ∧ Hid (Kept [] w w') := by
  have hfew := h.few
  have HO : Hid (∀ W x, Kept [] w W → x ∈ xs → Calls Try.prog 67 #[.int .i64 x, .pointer (some ⟨M, 0, none⟩), .pointer (some ⟨S, 0, none⟩)] W fun e w' => e = .returned (.bool (otherB out s x)) ∧ Kept [] W w') := fun W x k hin => isOther_any x s M S ob oo oc out W (cell_kept0 k hM) (cell_kept0 k hS) (ho.kept k) (hx x hin).1 (hx x hin).2 hs
  have HK0 : Hid (Kept [] w w) := Kept.refl [] w
  rcases h.lie with ⟨⟨ad, c, rfl, _, _⟩, rfl⟩ | ⟨b, o, c, rfl, hc1, hc2, hcell⟩
  · clear h hfew hM hS ho hx
    go_enter Try.func78, Try.ntmps78
    go_wp2_with fail
    refine wp_loop_rounds 1 ?_
    rw [rounds_succ]
    go_wp2
    go_ret
    exact ⟨-1, rfl, rfl, HK0⟩
  · have HCE : Hid (∀ i (h : i < xs.length), w.cell? ⟨b, o + i, none⟩ = some (.int .i64 xs[i])) := hcell
    clear h hcell hM hS ho hx
    go_enter Try.func78, Try.ntmps78
    go_wp2_with fail
    go_loopw [8] (fun i wr => ∃ k : Nat, i = .int .i64 (k : Nat) ∧ k ≤ xs.length ∧ Hid (Kept [] w wr) ∧ Hid (∀ j (h : j < xs.length), j < k → otherB out s xs[j] = false)) (fun i _ => xs.length - (intOf i).toNat)
    case atStart => exact ⟨0, rfl, Nat.zero_le _, HK0, fun j _ h => by omega⟩
    case round =>
      obtain ⟨k, rfl, hk, HWR, HA⟩ := hrel
      by_cases hlt : k < xs.length
      · have z0 : (k : Int) < (xs.length : Int) := by omega
        obtain ⟨y, hy⟩ : ∃ y, xs[k] = y := ⟨_, rfl⟩
        obtain ⟨sb, hsb⟩ : ∃ sb, otherB out s y = sb := ⟨_, rfl⟩
        have HN : Hid (Calls Try.prog 67 #[.int .i64 y, .pointer (some ⟨M, 0, none⟩), .pointer (some ⟨S, 0, none⟩)] wr fun e w' => e = .returned (.bool sb) ∧ Kept [] wr w') := by rw [← hsb]; exact HO.out wr y HWR.out (by rw [← hy]; exact List.getElem_mem _)
        have c0 : wr.cell? ⟨b, o + k, none⟩ = some (.int .i64 y) := by rw [← hy]; exact cell_kept0 HWR.out (HCE.out k hlt)
        have HSB : Hid (otherB out s xs[k] = sb) := by show _ = _; rw [hy]; exact hsb
        clear hy hsb
        cases sb with
        | true =>
          have HY : Hid (xs.any (otherB out s) = true) := any_yes hlt HSB.out
          go_wp2_with (go_at_call 67; refine HN.out.mono ?_; rintro e w1 ⟨rfl, hw1⟩; have HW1 : Hid (Kept [] w w1) := keptB HWR.out hw1; clear hw1)
          go_ret
          exact ⟨k, rfl, by show decide (0 ≤ (k : Int)) = _; rw [HY.out]; simp, HW1⟩
        | false =>
          have HY : Hid (∀ j (h : j < xs.length), j < k + 1 → otherB out s xs[j] = false) := fun j hj h' => by
            rcases Nat.lt_or_ge j k with q | q
            · exact HA.out j hj q
            · obtain rfl : j = k := by omega
              exact HSB.out
          go_wp2_with (go_at_call 67; refine HN.out.mono ?_; rintro e w1 ⟨rfl, hw1⟩; have HW1 : Hid (Kept [] w w1) := keptB HWR.out hw1; clear hw1)
          go_roundw
          case rel => exact ⟨k + 1, by go_num, by omega, HW1, HY.out⟩
          case measure => simp [intOf]; omega
      · obtain rfl : k = xs.length := by omega
        have z0 : ¬ ((xs.length : Int) < (xs.length : Int)) := by omega
        have HY : Hid (xs.any (otherB out s) = false) := any_no (fun i hi => HA.out i hi hi)
        go_wp2
        go_ret
        exact ⟨-1, rfl, by show decide ((0 : Int) ≤ -1) = _; rw [HY.out]; rfl, HWR⟩
theorem containsO_any (v : Value) (xs : List Int) (s M S ob oo oc : Nat) (out : List Nat) (w : World) (h : Ints w v xs) (hM : w.cell? ⟨M, 2, none⟩ = some (.slice (some ⟨ob, oo, none⟩) out.length oc)) (hS : w.cell? ⟨S, 0, none⟩ = some (.int .i64 (s : Nat))) (ho : OutAt w ob oo out) (hx : ∀ x ∈ xs, 0 ≤ x ∧ x < (out.length : Int)) (hs : s < out.length) :
    Calls Try.prog 68 #[v, .func (.func 67) #[] #[.pointer (some ⟨M, 0, none⟩), .pointer (some ⟨S, 0, none⟩)]] w fun e w' => e = .returned (.bool (xs.any (otherB out s))) ∧ Hid (Kept [] w w') := by
  have HI := indexO_any v xs s M S ob oo oc out w h hM hS ho hx hs
  obtain ⟨ad, c, rfl, _, _⟩ := h.form
  clear h hM hS ho hx
  go_enter Try.func68, Try.ntmps68
  go_wp2_with (go_at_call 78; refine Calls.mono HI ?_; rintro e w1 ⟨k, rfl, HD, HW1⟩)
  go_ret
  exact ⟨ret_bool HD.out, HW1⟩
end Go.Proofs.Ytbbfajbnklgncaa
