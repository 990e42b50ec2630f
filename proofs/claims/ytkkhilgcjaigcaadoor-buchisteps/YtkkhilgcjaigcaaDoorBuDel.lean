/- package buchi: drop's closure, slices.IndexFunc and DeleteFunc by it. -/
import Derived.Test.YtkkhilgcjaigcaaDoorBuRows
namespace Go.Proofs.YtkkhilgcjaigcaaDoor
open Go.RowKit Go.Shelf

/-- Truths in a list. -/
structure Bools (W : World) (v : Value) (bs : List Bool) : Prop where
  few : bs.length ≤ 2199023255552
  lie : (v = .slice none 0 0 ∧ bs = []) ∨ ∃ b o c, v = .slice (some ⟨b, o, none⟩) bs.length c ∧ bs.length ≤ c ∧ c ≤ maxLen ∧ ∀ i (h : i < bs.length), W.cell? ⟨b, o + i, none⟩ = some (.bool bs[i])
theorem Bools.kept {W W' : World} {v : Value} {bs : List Bool} (h : Bools W v bs) (k : Kept [] W W') : Bools W' v bs := by
  refine ⟨h.few, ?_⟩
  rcases h.lie with h1 | ⟨b, o, c, h1, h2, h3, h4⟩
  · exact .inl h1
  · exact .inr ⟨b, o, c, h1, h2, h3, fun i hi => cell_kept0 k (h4 i hi)⟩
theorem Bools.there {W : World} {v : Value} {bs : List Bool} (h : Bools W v bs) (h0 : 0 < bs.length) : ∃ b o c, v = .slice (some ⟨b, o, none⟩) bs.length c ∧ bs.length ≤ c ∧ c ≤ maxLen ∧ ∀ i (h : i < bs.length), W.cell? ⟨b, o + i, none⟩ = some (.bool bs[i]) := by
  rcases h.lie with ⟨_, h2⟩ | h2
  · rw [h2] at h0; simp at h0
  · exact h2
set_option maxHeartbeats 1000000 in
theorem drop1_any (FB F : Nat) (v : Value) (bs : List Bool) (n : Nat) (w : World) (hB : w.cell? ⟨FB, 0, none⟩ = some (.pointer (some ⟨F, 0, none⟩))) (hF : w.cell? ⟨F, 4, none⟩ = some v) (h : Bools w v bs) (hn : n < bs.length) :
    Calls Tryd.prog 94 #[.int .i64 (n : Nat), .pointer (some ⟨FB, 0, none⟩)] w fun e w' => e = .returned (.bool (!bs[n])) ∧ w' = w := by
  obtain ⟨b, o, c, rfl, hc1, hc2, hc⟩ := h.there (by omega)
  have hcn := hc n hn
  have hfew := h.few
  obtain ⟨x, hx⟩ : ∃ x, bs[n] = x := ⟨_, rfl⟩
  rw [hx] at hcn ⊢
  obtain ⟨m, hm⟩ : ∃ m, bs.length = m := ⟨_, rfl⟩
  rw [hm] at hF hc1 hfew hn
  have z0 : (n : Int) < (m : Int) := by omega
  clear h hc hx hm
  go_enter Tryd.func94, Tryd.ntmps94
  go_wp2
  go_ret
  exact ⟨rfl, rfl⟩
/-- A spot is out. -/
def outB (bs : List Bool) (x : Int) : Bool := !(bs.getD x.toNat true)
/-- Numbers of spots. -/
def Spots (bs : List Bool) (xs : List Int) : Prop := ∀ x ∈ xs, 0 ≤ x ∧ x < (bs.length : Int)
theorem Spots.nat {bs : List Bool} {xs : List Int} (h : Spots bs xs) {k : Nat} (hk : k < xs.length) : ∃ n : Nat, xs[k] = (n : Int) ∧ ∃ hn : n < bs.length, outB bs xs[k] = !bs[n] := by
  obtain ⟨h1, h2⟩ := h _ (List.getElem_mem hk)
  refine ⟨xs[k].toNat, by omega, by omega, ?_⟩
  unfold outB
  rw [List.getD_eq_getElem?_getD, List.getElem?_eq_getElem (by omega)]
  rfl
set_option maxHeartbeats 2000000 in
set_option maxRecDepth 10000 in
theorem indexD_any (v u : Value) (xs : List Int) (bs : List Bool) (FB F : Nat) (w : World) (h : Ints w v xs) (hB : w.cell? ⟨FB, 0, none⟩ = some (.pointer (some ⟨F, 0, none⟩))) (hF : w.cell? ⟨F, 4, none⟩ = some u) (hu : Bools w u bs) (hs : Spots bs xs) :
    Calls Tryd.prog 100 #[v, .func (.func 94) #[] #[.pointer (some ⟨FB, 0, none⟩)]] w fun e w' => ∃ k : Int, e = .returned (.int .i64 k) ∧ Hid ((k = -1 ∧ ∀ j (h : j < xs.length), outB bs xs[j] = false) ∨ ∃ i : Nat, k = i ∧ ∃ hi : i < xs.length, outB bs xs[i] = true ∧ ∀ j (h : j < xs.length), j < i → outB bs xs[j] = false) ∧ w' = w := by
  have hfew := h.few
  rcases h.lie with ⟨⟨ad0, c0, rfl, hc0, _⟩, rfl⟩ | ⟨b, o, c, rfl, hc1, hc2, hcell⟩
  · clear h hfew
    go_enter Tryd.func100, Tryd.ntmps100
    go_wp2_with fail
    refine wp_loop_rounds 1 ?_
    rw [rounds_succ]
    go_wp2
    go_ret
    exact ⟨-1, rfl, .inl ⟨rfl, fun j h => absurd h (by simp)⟩, rfl⟩
  · have HCE : Hid (∀ i (h : i < xs.length), w.cell? ⟨b, o + i, none⟩ = some (.int .i64 xs[i])) := hcell
    have HB : Hid (w.cell? ⟨FB, 0, none⟩ = some (.pointer (some ⟨F, 0, none⟩))) := hB
    have HF : Hid (w.cell? ⟨F, 4, none⟩ = some u) := hF
    have HU : Hid (Bools w u bs) := hu
    have HS : Hid (Spots bs xs) := hs
    clear h hcell hB hF hu hs
    go_enter Tryd.func100, Tryd.ntmps100
    go_wp2_with fail
    go_loopw [8] (fun i wr => ∃ k : Nat, i = .int .i64 (k : Nat) ∧ k ≤ xs.length ∧ wr = w ∧ Hid (∀ j (h : j < xs.length), j < k → outB bs xs[j] = false)) (fun i _ => xs.length - (intOf i).toNat)
    case atStart => exact ⟨0, rfl, Nat.zero_le _, rfl, fun j _ h => by omega⟩
    case round =>
      obtain ⟨k, rfl, hk, hwr, HA⟩ := hrel
      have HWR : Hid (wr = w) := hwr
      clear hwr
      by_cases hlt : k < xs.length
      · have z0 : (k : Int) < (xs.length : Int) := by omega
        obtain ⟨n, hn, hnl, hob⟩ := HS.out.nat hlt
        obtain ⟨sb, hsb⟩ : ∃ sb, bs[n] = sb := ⟨_, rfl⟩
        have HN : Hid (Calls Tryd.prog 94 #[.int .i64 (n : Nat), .pointer (some ⟨FB, 0, none⟩)] wr fun e w' => e = .returned (.bool (!sb)) ∧ w' = wr) := by rw [← hsb, HWR.out]; exact drop1_any FB F u bs n w HB.out HF.out HU.out hnl
        have c0 : wr.cell? ⟨b, o + k, none⟩ = some (.int .i64 (n : Nat)) := by rw [HWR.out, ← hn]; exact HCE.out k hlt
        have HSB : Hid (outB bs xs[k] = !sb) := by show outB bs xs[k] = _; rw [hob, hsb]
        clear hn hob hsb hnl
        cases sb with
        | false =>
          go_wp2_with (go_at_call 94; refine HN.out.mono ?_; rintro e w1 ⟨rfl, hw1⟩; rw [hw1]; clear hw1)
          go_ret
          exact ⟨k, rfl, .inr ⟨k, rfl, hlt, HSB.out, HA.out⟩, HWR.out⟩
        | true =>
          have HY : Hid (∀ j (h : j < xs.length), j < k + 1 → outB bs xs[j] = false) := fun j hj h' => by
            rcases Nat.lt_or_ge j k with q | q
            · exact HA.out j hj q
            · obtain rfl : j = k := by omega
              exact HSB.out
          go_wp2_with (go_at_call 94; refine HN.out.mono ?_; rintro e w1 ⟨rfl, hw1⟩; rw [hw1]; clear hw1)
          go_roundw
          case rel => exact ⟨k + 1, by go_num, by omega, HWR.out, HY.out⟩
          case measure => simp [intOf]; omega
      · obtain rfl : k = xs.length := by omega
        have z0 : ¬ ((xs.length : Int) < (xs.length : Int)) := by omega
        go_wp2
        go_ret
        exact ⟨-1, rfl, .inl ⟨rfl, fun i hi => HA.out i hi hi⟩, HWR.out⟩
end Go.Proofs.YtkkhilgcjaigcaaDoor
