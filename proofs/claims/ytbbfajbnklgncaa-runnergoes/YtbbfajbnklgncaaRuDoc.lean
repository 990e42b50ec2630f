/- The document's runner (augurref17): Letter, Step. -/
import Derived.Test.YtbbfajbnklgncaaRuDocM
import Derived.Test.YtbbfajbnklgncaaHL
import Derived.Test.YtbbfajbnklgncaaHL
namespace Go.Proofs.Ytbbfajbnklgncaa
open Go.RowKit Go.Shelf Go.Maps

/-- The document's runner in memory: its lists are as they were in Wb, but for its own box. -/
structure DocS (Wb W : World) (Q : Nat) (ps : List ByteArray) (next : List (List Int)) (out : List Nat) (s : Nat) : Prop where
  ex : ∃ pv nv ov, W.heap[Q]? = some (.cells #[pv, nv, ov, .int .i64 (s : Nat)] 51 (0, 0)) ∧ ∀ W', Kept [Q] Wb W' → Strs W' pv ps ∧ Rowss W' nv next ∧ Vds W' ov out
  kept : Kept [Q] Wb W
  lt : s < next.length
theorem kept_addR {F : List Nat} {A B C : World} (h : Kept F A B) (k : Kept [] B C) : Kept F A C := h.trans k (fun _ q => q) (by simp)
theorem DocS.more {Wb W W' : World} {Q s : Nat} {ps : List ByteArray} {next : List (List Int)} {out : List Nat} (h : DocS Wb W Q ps next out s) (k : Kept [] W W') : DocS Wb W' Q ps next out s := by
  obtain ⟨pv, nv, ov, h1, h2⟩ := h.ex
  exact ⟨⟨pv, nv, ov, k.at h1 (by simp), h2⟩, kept_addR h.kept k, h.lt⟩
theorem StrsE.cellsE {W : World} {v : Value} {xs : List ByteArray} (h : StrsE W v xs) : ∃ ad c, v = .slice ad xs.length c ∧ ∀ i (hi : i < xs.length), ∃ b o, ad = some ⟨b, o, none⟩ ∧ W.cell? ⟨b, o + i, none⟩ = some (.string xs[i]) := by
  rcases h.lie with ⟨⟨ad, c, rfl⟩, rfl⟩ | ⟨b, o, c, rfl, _, _, h4⟩
  · exact ⟨ad, c, rfl, fun i hi => by simp at hi⟩
  · exact ⟨_, c, rfl, fun i hi => ⟨b, o, rfl, h4 i hi⟩⟩
theorem Strs.strsE {W : World} {v : Value} {xs : List ByteArray} (h : Strs W v xs) : StrsE W v xs :=
  ⟨h.few, h.small, h.lie.imp (fun ⟨e, h0⟩ => ⟨⟨none, 0, e⟩, h0⟩) id, h.srcD⟩
set_option maxHeartbeats 4000000 in
set_option maxRecDepth 10000 in
theorem refLetter_any (Wb : World) (Q s : Nat) (ps : List ByteArray) (next : List (List Int)) (out : List Nat) (uv : Value) (us : List ByteArray) (w : World) (h : DocS Wb w Q ps next out s) (hm : MachR ps next out) (hu : StrsE w uv us) :
    Calls Try.prog 38 #[.pointer (some ⟨Q, 0, none⟩), uv] w fun e w' => e = .returned (.int .u16 (letterN ps us : Nat)) ∧ Hid (Kept [] w w') := by
  obtain ⟨pv, nv, ov, h1, h2⟩ := h.ex
  have hps := (h2 w h.kept).1
  have h8 := hm.few
  have HDL : Hid (dletN ps us ps.length = letterN ps us) := dletN_is hm.names us
  have hfu := hu.few
  obtain ⟨pa, pc, rfl, hpc⟩ := hps.strsE.cellsE
  obtain ⟨ua, uc, rfl, huc⟩ := hu.cellsE
  have HPC : Hid (∀ i (hi : i < ps.length), ∃ b o, pa = some ⟨b, o, none⟩ ∧ w.cell? ⟨b, o + i, none⟩ = some (.string ps[i])) := hpc
  have HUC : Hid (∀ i (hi : i < us.length), ∃ b o, ua = some ⟨b, o, none⟩ ∧ w.cell? ⟨b, o + i, none⟩ = some (.string us[i])) := huc
  have c0 : w.cell? ⟨Q, 0, none⟩ = some (.slice pa ps.length pc) := (cell_of h1 0).trans rfl
  have HC0 : Hid (∀ W, Kept [] w W → W.cell? ⟨Q, 0, none⟩ = some (.slice pa ps.length pc)) := fun W k => cell_kept0 k c0
  have HK0 : Hid (Kept [] w w) := Kept.refl [] w
  have HB : Hid (∀ i, i ≤ ps.length → dletN ps us i < 256) := fun i hi => by
    have : ∀ k, k ≤ 8 → dletN ps us k < 2 ^ 8 := by
      intro k
      induction k with
      | zero => intro _; unfold dletN; omega
      | succ k ih =>
        intro hk
        unfold dletN
        split
        · exact Nat.or_lt_two_pow (ih (by omega)) (Nat.pow_lt_pow_right (by omega) (by omega))
        · exact ih (by omega)
    exact this i (by omega)
  obtain ⟨p, hp⟩ : ∃ p, ps.length = p := ⟨_, rfl⟩
  obtain ⟨ul, hul⟩ : ∃ ul, us.length = ul := ⟨_, rfl⟩
  have HPL : Hid (ps.length = p) := hp
  have HUL : Hid (us.length = ul) := hul
  rw [hp] at c0 h8 HC0 HB HDL
  rw [hul] at hfu ⊢
  clear h hm hu h1 h2 hps hpc huc hp hul c0
  go_enter Try.func38, Try.ntmps38
  go_wp2_with fail
  go_loopw [5, 6] (fun l v wr => ∃ i : Nat, v = .int .i64 (i : Nat) ∧ i ≤ p ∧ ∃ y : Nat, l = .int .u16 (y : Nat) ∧ Hid (dletN ps us i = y) ∧ Hid (Kept [] w wr)) (fun _ v _ => p - (intOf v).toNat)
  case atStart => exact ⟨0, rfl, Nat.zero_le _, 0, rfl, rfl, HK0⟩
  case round =>
    obtain ⟨i, rfl, hi, y, rfl, HY, HK⟩ := hrel
    have d0 := HC0.out wr HK.out
    by_cases hlt : i < p
    · have q0 : (i : Int) < (p : Int) := by omega
      have q1 : (0 : Int) ≤ (i : Int) := by omega
      obtain ⟨pb, po, rfl, hpx⟩ := HPC.out i (by rw [HPL.out]; exact hlt)
      obtain ⟨x, hx⟩ : ∃ x, ps[i]'(by rw [HPL.out]; exact hlt) = x := ⟨_, rfl⟩
      rw [hx] at hpx
      have HXD : Hid (ps.getD i ⟨#[]⟩ = x) := by show _ = x; rw [List.getD_eq_getElem?_getD, List.getElem?_eq_getElem (by rw [HPL.out]; exact hlt), hx]; rfl
      have HPX : Hid (w.cell? ⟨pb, po + i, none⟩ = some (.string x)) := hpx
      have hyb : y < 256 := by rw [← HY.out]; exact HB.out i hi
      obtain ⟨e16, _, _⟩ := mask_facts i 0 (by omega) (by omega)
      have hqb : 2 ^ i < 2 ^ 8 := Nat.pow_lt_pow_right (by omega) (by omega)
      obtain ⟨q2, hq2⟩ : ∃ q2, 2 ^ i = q2 := ⟨_, rfl⟩
      rw [hq2] at e16 hqb
      obtain ⟨yq, hyq⟩ : ∃ yq, y ||| q2 = yq := ⟨_, rfl⟩
      have hyqb : yq < 256 := by rw [← hyq]; exact Nat.or_lt_two_pow (n := 8) hyb hqb
      have eor : bits .or .u16 (y : Int) (q2 : Int) = (yq : Int) := by rw [u16_or_nat y q2 (by omega) (by omega), hyq]
      have eor2 : bits .or .u16 (yq : Int) (q2 : Int) = (yq : Int) := by rw [u16_or_nat yq q2 (by omega) (by omega), ← hyq, Nat.or_assoc, Nat.or_self]
      have HND : Hid (dletN ps us (i + 1) = if us.any (fun u => sameN u x) then yq else y) := by
        show dletN ps us (i + 1) = _
        unfold dletN
        rw [HXD.out, HY.out, hq2, hyq]
      clear hpx hx hqb hq2 hyq hyb hyqb
      go_wp2_with fail
      go_loopw [5, 7] (fun l v w3 => ∃ k : Nat, v = .int .i64 (k : Nat) ∧ k ≤ ul ∧ ∃ z : Nat, l = .int .u16 (z : Nat) ∧ Hid (z = if (us.take k).any (fun u => sameN u x) then yq else y) ∧ Hid (Kept [] w w3)) (fun _ v _ => ul - (intOf v).toNat)
      case atStart => exact ⟨0, rfl, Nat.zero_le _, y, rfl, rfl, HK⟩
      case round =>
        rename World => w3
        obtain ⟨k, rfl, hk, z, rfl, HZ, HK3⟩ := hrel
        by_cases hkl : k < ul
        · have p0 : (k : Int) < (ul : Int) := by omega
          have p1 : (0 : Int) ≤ (k : Int) := by omega
          obtain ⟨ub, uo, rfl, hux⟩ := HUC.out k (by rw [HUL.out]; exact hkl)
          have hu? : us[k]? = some (us[k]'(by rw [HUL.out]; exact hkl)) := List.getElem?_eq_getElem _
          obtain ⟨u, hu⟩ : ∃ u, us[k]'(by rw [HUL.out]; exact hkl) = u := ⟨_, rfl⟩
          rw [hu] at hux hu?
          have f1 := cell_kept0 HK3.out hux
          have f2 := cell_kept0 HK3.out HPX.out
          have f3 := HC0.out w3 HK3.out
          have HTK : Hid ((us.take (k + 1)).any (fun u => sameN u x) = ((us.take k).any (fun u => sameN u x) || sameN u x)) := by
            show _ = _
            rw [List.take_add_one, hu?, List.any_append]
            simp
          have HKd : Hid (Kept [] w w3.drew) := HK3.out.drew
          clear hux hu? hu
          cases hs : sameN u x with
          | true =>
            have hse : (u.toList == x.toList) = true := hs
            have HZ1 : Hid (yq = if (us.take (k + 1)).any (fun u => sameN u x) then yq else y) := by show yq = _; rw [HTK.out, hs, Bool.or_true]; rfl
            cases ha : (us.take k).any (fun u => sameN u x) with
            | true =>
              obtain rfl : z = yq := by rw [HZ.out, ha]; rfl
              clear hs ha
              go_wp2_with fail
              go_region_held3 (fun w' => w'.cell? ⟨ub, uo + k, none⟩ = some (.string u) ∧ w'.cell? ⟨pb, po + i, none⟩ = some (.string x) ∧ w'.cell? ⟨Q, 0, none⟩ = some (.slice (some ⟨pb, po, none⟩) p pc)) (exact ⟨f1, f2, f3⟩) (fail)
              all_goals go_wp2
              go_roundw
              case rel => exact ⟨k + 1, by go_num, by omega, z, rfl, HZ1, HKd⟩
              case measure => simp [intOf]; omega
            | false =>
              obtain rfl : z = y := by rw [HZ.out, ha]; rfl
              clear hs ha
              go_wp2_with fail
              go_region_held3 (fun w' => w'.cell? ⟨ub, uo + k, none⟩ = some (.string u) ∧ w'.cell? ⟨pb, po + i, none⟩ = some (.string x) ∧ w'.cell? ⟨Q, 0, none⟩ = some (.slice (some ⟨pb, po, none⟩) p pc)) (exact ⟨f1, f2, f3⟩) (fail)
              all_goals go_wp2
              go_roundw
              case rel => exact ⟨k + 1, by go_num, by omega, yq, rfl, HZ1, HKd⟩
              case measure => simp [intOf]; omega
          | false =>
            have hse : (u.toList == x.toList) = false := hs
            have HZ1 : Hid (z = if (us.take (k + 1)).any (fun u => sameN u x) then yq else y) := by show z = _; rw [HTK.out, hs, Bool.or_false]; exact HZ.out
            clear hs
            go_wp2_with fail
            go_region_held3 (fun w' => w'.cell? ⟨ub, uo + k, none⟩ = some (.string u) ∧ w'.cell? ⟨pb, po + i, none⟩ = some (.string x) ∧ w'.cell? ⟨Q, 0, none⟩ = some (.slice (some ⟨pb, po, none⟩) p pc)) (exact ⟨f1, f2, f3⟩) (fail)
            all_goals go_wp2
            go_roundw
            case rel => exact ⟨k + 1, by go_num, by omega, z, rfl, HZ1, HKd⟩
            case measure => simp [intOf]; omega
        · obtain rfl : k = ul := by omega
          have p0 : ¬ ((k : Int) < (k : Int)) := by omega
          have HZ1 : Hid (dletN ps us (i + 1) = z) := by show _ = z; rw [HND.out, HZ.out, List.take_of_length_le (Nat.le_of_eq HUL.out)]
          go_wp2
          go_roundw
          case rel => exact ⟨i + 1, by go_num, by omega, z, rfl, HZ1, HK3⟩
          case measure => simp [intOf]; omega
    · obtain rfl : i = p := by omega
      have q0 : ¬ ((i : Int) < (i : Int)) := by omega
      have HE : Hid (letterN ps us = y) := by show _ = y; rw [← HDL.out, HY.out]
      go_wp2
      rw [HE.out]
      go_ret
      exact ⟨rfl, HK⟩
end Go.Proofs.Ytbbfajbnklgncaa
