/- Table.Len, Find, At. -/
import Derived.Test.YtjfhfdpbdjeedaaIntern
namespace Go.Proofs.Ytjfhfdpbdjeedaa
open Go.RowKit
attribute [local go_sem ↓] Go.wp_at_zero Go.wp_at_succ

theorem IsTable.form {w : World} {B tb mb n : Nat} {v : Value} {es : List Ent} (h : IsTable w B tb mb n v es) : ∃ ad cp, v = .slice ad es.length cp := by
  obtain ⟨h1, ⟨rfl, h2⟩ | ⟨g', cap', cur, h2, _⟩⟩ := h.own
  · exact ⟨none, 0, by rw [h2]⟩
  · exact ⟨_, _, h2⟩

set_option maxHeartbeats 400000 in
theorem tabLen_any (B tb mb n : Nat) (v : Value) (es : List Ent) (w : World) (ht : IsTable w B tb mb n v es) :
    Calls Try.prog 16 #[.pointer (some ⟨tb, 0, none⟩)] w fun e w' => e = .returned (.int .i64 (es.length : Nat)) ∧ w' = w := by
  obtain ⟨ad, cp, rfl⟩ := ht.form
  have t1 := ht.c1
  clear ht
  go_enter Try.func16, Try.ntmps16
  go_wp2
  go_ret
  exact ⟨rfl, rfl⟩

set_option maxHeartbeats 800000 in
theorem at_out (B tb mb n : Nat) (v : Value) (es : List Ent) (i : Int) (w : World) (ht : IsTable w B tb mb n v es) (hi : i < 0 ∨ (es.length : Int) ≤ i) :
    Calls Try.prog 19 #[.pointer (some ⟨tb, 0, none⟩), .int .i64 i] w fun e w' => e = .returned (.pointer none) ∧ w' = w := by
  obtain ⟨ad, cp, rfl⟩ := ht.form
  have t1 := ht.c1
  clear ht
  by_cases h : i < 0
  · go_enter Try.func19, Try.ntmps19
    go_wp2
    go_ret
    exact ⟨rfl, rfl⟩
  · have h2 : (es.length : Int) ≤ i := by omega
    clear hi
    go_enter Try.func19, Try.ntmps19
    go_wp2
    go_ret
    exact ⟨rfl, rfl⟩

set_option maxHeartbeats 800000 in
theorem at_in (B tb mb n : Nat) (v : Value) (es : List Ent) (i : Nat) (en : Ent) (w : World) (ht : IsTable w B tb mb n v es) (hi : es[i]? = some en) :
    Calls Try.prog 19 #[.pointer (some ⟨tb, 0, none⟩), .int .i64 i] w (Makes w n en.ws) := by
  have hlt : i < es.length := by
    rcases Nat.lt_or_ge i es.length with h | h
    · exact h
    · rw [List.getElem?_eq_none h] at hi; cases hi
  have hen : en ∈ es := List.mem_of_getElem? hi
  have hs := ht.sets en hen
  have t1 := ht.c1
  have hrow : ∃ g cp, v = .slice (some ⟨g, 0, none⟩) es.length cp ∧ w.cell? ⟨g, i, none⟩ = some (.pointer (some ⟨en.b, 0, none⟩)) := by
    obtain ⟨g, cp, hv, _, _⟩ := ht.own.form (by omega)
    refine ⟨g, cp, hv, ?_⟩
    have hc := ht.own.cells (g := g) (by rw [hv]; rfl) i (.pointer (some ⟨en.b, 0, none⟩)) (by rw [List.getElem?_map, hi]; rfl)
    have e : (⟨g, 0, none⟩ : Addr).add i = ⟨g, i, none⟩ := by simp [Addr.add]; exact fun h => h.symm
    rwa [e] at hc
  obtain ⟨g, cp, rfl, hc⟩ := hrow
  have b0 : ¬ (i : Int) < 0 := by omega
  have b1 : ¬ (es.length : Int) ≤ (i : Int) := by omega
  have b2 : (i : Int) < (es.length : Int) := by omega
  have b3 : (0 : Int) ≤ (i : Int) := by omega
  have HS : Hid _ := hs
  have hf := ht.few
  clear hs ht hi hen
  go_enter Try.func19, Try.ntmps19
  go_wp2_with fail
  refine (copy_any en.b en.g en.c n en.ws _ HS.out.1 HS.out.2).mono ?_
  rintro e w1 ⟨b', g', c', rfl, h1, h2, h3, h4⟩
  go_wp2
  go_ret
  exact ⟨b', g', c', rfl, h1, h2, h3, h4⟩

/-- What Find answers. -/
def findN (keys : List (List UInt8)) (K : List UInt8) : Int := if K ∈ keys then (keys.idxOf K : Nat) else -1

theorem find_look {w w0 wk : World} {B tb mb n : Nat} {v : Value} {es : List Ent} {ws : List Nat} (ht : IsTable w B tb mb n v es) (h0 : Kept [] w w0) (hk : Kept [] w0 wk) (hkl : (keyW n ws).length ≤ maxLen) :
    Kept [] w wk ∧ wk.cell? ⟨tb, 2, none⟩ = some (.map (some mb)) ∧ ∃ i : Int, Sem.run Try.prog (Instr.lookup 54 (.map (some mb)) (.string ⟨(keyW n ws).toArray⟩) true) wk = .ok (.tuple #[.int .i64 i, .bool (decide (keyW n ws ∈ es.map fun e => keyW n e.ws))]) wk ∧
      (keyW n ws ∈ (es.map fun e => keyW n e.ws) → i = ((es.map fun e => keyW n e.ws).idxOf (keyW n ws) : Nat)) := by
  have k := h0.trans (F := []) (G := []) (H := []) hk (by simp) (by simp)
  have ht' := ht.quiet k
  obtain ⟨i, h1, h2⟩ := ht'.map.look (keyW n ws) hkl
  exact ⟨k, ht'.c2, i, h1, h2⟩

set_option maxHeartbeats 1600000 in
theorem find_any (B tb mb n b g c : Nat) (v : Value) (es : List Ent) (ws : List Nat) (w : World) (ht : IsTable w B tb mb n v es) (hs : IsSet w b g c n ws) (hG : Good n ws) :
    Calls Try.prog 18 #[.pointer (some ⟨tb, 0, none⟩), .pointer (some ⟨b, 0, none⟩)] w fun e w' =>
      e = .returned (.int .i64 (findN (es.map fun e => keyW n e.ws) (keyW n ws))) ∧ Kept [] w w' := by
  have h0 := hs.c0
  have t0 := ht.c0
  have t2 := ht.c2
  have hb : ((n : Int) != (n : Int)) = false := by simp
  have hkl := keyW_len n ws hG.top
  have HS : Hid _ := hs
  have HT : Hid _ := ht
  have HG : Hid _ := hG
  clear hs ht hG
  obtain ⟨r, hr⟩ : ∃ r, r = findN (es.map fun e => keyW n e.ws) (keyW n ws) := ⟨_, rfl⟩
  rw [← hr]
  have HR : Hid _ := hr
  clear hr
  by_cases hm : keyW n ws ∈ es.map fun e => keyW n e.ws
  · have HM : Hid _ := hm
    have HD : Hid (decide (keyW n ws ∈ es.map fun e => keyW n e.ws) = true) := decide_eq_true hm
    clear hm
    go_enter Try.func18, Try.ntmps18
    go_wp2_with fail
    go_quiet (fail)
    go_wp2_with fail
    go_region_with (first | (go_at_call 14; refine (key_any b g c n ws _ (HS.out.kept (((Kept.refl [] w).drewN nq).drew) (by simp) (by simp)) HG.out).mono ?_; rintro e wk ⟨rfl, hk⟩; obtain ⟨k', c2', i2, hlook, hi2⟩ := find_look HT.out (((Kept.refl [] w).drewN nq).drew) hk hkl; rw [HD.out] at hlook; have HI2 : Hid _ := hi2; clear hi2))
    all_goals go_wp2
    all_goals go_ret
    all_goals
      refine ⟨ret_int ?_, k'⟩
      rw [HR.out, HI2.out HM.out]; unfold findN; rw [if_pos HM.out]
  · have HM : Hid _ := hm
    have HD : Hid (decide (keyW n ws ∈ es.map fun e => keyW n e.ws) = false) := decide_eq_false hm
    clear hm
    go_enter Try.func18, Try.ntmps18
    go_wp2_with fail
    go_quiet (fail)
    go_wp2_with fail
    go_region_with (first | (go_at_call 14; refine (key_any b g c n ws _ (HS.out.kept (((Kept.refl [] w).drewN nq).drew) (by simp) (by simp)) HG.out).mono ?_; rintro e wk ⟨rfl, hk⟩; obtain ⟨k', c2', i2, hlook, hi2⟩ := find_look HT.out (((Kept.refl [] w).drewN nq).drew) hk hkl; rw [HD.out] at hlook; clear hi2))
    all_goals go_wp2
    all_goals go_ret
    all_goals
      refine ⟨ret_int ?_, k'⟩
      rw [HR.out]; unfold findN; rw [if_neg HM.out]

set_option maxHeartbeats 400000 in
theorem find_other (B tb mb n b g c n' : Nat) (v : Value) (es : List Ent) (ws : List Nat) (w : World) (ht : IsTable w B tb mb n v es) (hs : IsSet w b g c n' ws) (hne : n' ≠ n) :
    Calls Try.prog 18 #[.pointer (some ⟨tb, 0, none⟩), .pointer (some ⟨b, 0, none⟩)] w fun e w' => e = .returned (.int .i64 (-1)) ∧ Kept [] w w' := by
  have h0 := hs.c0
  have t0 := ht.c0
  have hb : ((n' : Int) != (n : Int)) = true := by simp; omega
  clear hs ht
  go_enter Try.func18, Try.ntmps18
  go_wp2_with fail
  go_quiet (fail)
  go_wp2
  go_ret
  exact ⟨rfl, (Kept.refl [] w).drewN _⟩
end Go.Proofs.Ytjfhfdpbdjeedaa
