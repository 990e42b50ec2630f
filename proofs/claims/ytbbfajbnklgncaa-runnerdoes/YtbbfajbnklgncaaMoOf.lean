/- The law's own: how much is handed in (augurref00.OfMoore; OfTexts of an event). -/
import Derived.Test.YtbbfajbnklgncaaDrOf
import Derived.Test.YtbbfajbnklgncaaMoOpen
import Derived.Test.YtbbfajbnklgncaaHH
import Derived.Deep.RegionHeld3
namespace Go.Proofs.Ytbbfajbnklgncaa
open Go.RowKit Go.Shelf

def moN (ps : List ByteArray) (next : List (List Int)) (out : List Nat) : Nat := ot 0 ps + orw 0 next + out.length
theorem orw_le (n : Nat) : ∀ (l : List (List Int)), n ≤ 17594333528064 → (∀ x ∈ l, x.length ≤ 17592186044416) → orw n l ≤ 17594333528064
  | [], h, _ => h
  | x :: r, h, hx => by
    rw [orw]
    split
    · exact orw_le _ r (by have := hx x (by simp); omega) (fun y hy => hx y (by simp [hy]))
    · exact h
theorem rowss_few {W : World} {v : Value} {ss : List (List Int)} (h : Rowss W v ss) : ∀ x ∈ ss, x.length ≤ 17592186044416 := by
  intro x hx
  obtain ⟨i, hi, rfl⟩ := List.getElem_of_mem hx
  rcases h.lie with ⟨_, rfl⟩ | ⟨b, o, c, _, _, _, h4⟩
  · simp at hi
  · obtain ⟨u, _, hu⟩ := h4 i hi
    exact hu.few
set_option maxHeartbeats 2000000 in
set_option maxRecDepth 10000 in
theorem ofMoore_any (pv nv ov : Value) (ps : List ByteArray) (next : List (List Int)) (out : List Nat) (w : World) (hp : Strs w pv ps) (hn : Rowss w nv next) (ho : Vds w ov out) (hs : ∀ x ∈ ps, x.size ≤ 140737488351232) :
    Calls Try.prog 5 #[.agg #[pv, nv, ov]] w fun e w' => e = .returned (.int .i64 (moN ps next out : Nat)) ∧ Hid (Kept [] w w') := by
  have b1 := ot_le 0 ps (by omega) hs
  have b2 := orw_le 0 next (by omega) (rowss_few hn)
  have b3 := ho.few
  obtain ⟨pa, pc, rfl, _, _⟩ := hp.form
  obtain ⟨na, nc, rfl, _, _⟩ := hn.form13
  obtain ⟨oa, oc, rfl⟩ := ho.form
  obtain ⟨V, hV⟩ : ∃ V, w.alloc (.cells #[.slice pa ps.length pc, .slice na next.length nc, .slice oa out.length oc] 26) = V := ⟨_, rfl⟩
  have kV : Kept [] w V := by rw [← hV]; exact (Kept.refl [] w).alloc _
  have hB : Thr 26 V w.heap.size (.slice pa ps.length pc) (.slice na next.length nc) (.slice oa out.length oc) := by rw [← hV]; exact al0 _ _
  have HV : Hid (_ = V) := hV
  have HKV : Hid (Kept [] w V) := kV
  have kd : Kept [] V V.drew := (Kept.refl [] V).drew
  have H1 : Hid (Calls Try.prog 19 #[.slice pa ps.length pc] V.drew fun e w' => e = .returned (.int .i64 (ot 0 ps : Nat)) ∧ w' = V.drew) := ofTexts_any _ ps V.drew (hp.kept (keptB kV kd)) hs
  have H2 : Hid (Calls Try.prog 20 #[.slice na next.length nc] V.drew fun e w' => e = .returned (.int .i64 (orw 0 next : Nat)) ∧ w' = V.drew) := ofRows_any _ next V.drew (hn.kept (keptB kV kd))
  obtain ⟨c0, c1, c2⟩ := hB.cells
  unfold moN
  obtain ⟨x, hx⟩ : ∃ x, ot 0 ps = x := ⟨_, rfl⟩
  obtain ⟨y, hy⟩ : ∃ y, orw 0 next = y := ⟨_, rfl⟩
  rw [hx] at b1 H1 ⊢
  rw [hy] at b2 H2 ⊢
  have HKD : Hid (Kept [] w V.drew) := keptB kV kd
  clear hp hn ho hs hV kV hB hx hy kd
  go_enter Try.func5, Try.ntmps5
  go_upto_region 1 with fail
  rw [HV.out]
  clear HV
  go_region_held3 (fun w' => w'.cell? ⟨w.heap.size, 0, none⟩ = some (.slice pa ps.length pc) ∧ w'.cell? ⟨w.heap.size, 1, none⟩ = some (.slice na next.length nc) ∧ w'.cell? ⟨w.heap.size, 2, none⟩ = some (.slice oa out.length oc)) (exact ⟨c0, c1, c2⟩)
    (first
    | (go_at_call 19; refine H1.out.mono ?_; rintro e w1 ⟨rfl, hw1⟩; rw [hw1]; clear hw1)
    | (go_at_call 20; refine H2.out.mono ?_; rintro e w1 ⟨rfl, hw1⟩; rw [hw1]; clear hw1))
  all_goals go_wp2
  all_goals go_ret
  all_goals exact ⟨ret_int (by simp only [IntKind.wrap_i64]; omega), HKD⟩
/-- What a machine of few numbers is. -/
theorem moN_few {ps : List ByteArray} {next : List (List Int)} {out : List Nat} (h : moN ps next out ≤ 100000) : ps.length ≤ 100000 ∧ next.length ≤ 100000 ∧ out.length ≤ 100000 := by
  unfold moN at h
  have h2 := (orw_few next 0 (by omega)).1
  refine ⟨?_, by omega, by omega⟩
  by_cases hl : ot 0 ps < 100000
  · have := (ot_few ps 0 hl).1; omega
  · have : ∀ (l : List ByteArray) (n : Nat), n ≤ 100000 → ot n l ≤ 100000 → n + l.length ≤ 100000 := by
      intro l
      induction l with
      | nil => intro n h1 h2; simp; omega
      | cons x r ih =>
        intro n h1 h2
        rw [ot, if_pos (by omega)] at h2
        have hm : n + (1 + x.size) ≤ 100000 := by
          by_cases hb : n + (1 + x.size) ≤ 2147483647
          · by_cases hc : n + (1 + x.size) ≤ 100000
            · exact hc
            · have hge : ∀ (q : List ByteArray) (m : Nat), m ≤ ot m q := by
                intro q
                induction q with
                | nil => intro m; exact Nat.le_refl _
                | cons z q ih2 => intro m; rw [ot]; split
                                  · have := ih2 (m + (1 + z.size)); omega
                                  · exact Nat.le_refl _
              have := hge r (n + (1 + x.size)); omega
          · rw [ot_stop hb] at h2; omega
        have := ih _ hm h2
        simp only [List.length_cons]
        omega
    have := this ps 0 (by omega) (by omega)
    omega
set_option maxHeartbeats 1000000 in
theorem ofTextsE_any (v : Value) (xs : List ByteArray) (w : World) (hx : StrsE w v xs) (hm : ∀ x ∈ xs, x.size ≤ 140737488351232) :
    Calls Try.prog 19 #[v] w fun e w' => e = .returned (.int .i64 (ot 0 xs : Nat)) ∧ w' = w := by
  rcases hx.cases with ⟨rfl, ad, c, rfl⟩ | h
  · clear hx hm
    go_enter Try.func19, Try.ntmps19
    go_wp2_with fail
    go_loop [3, 4] (fun a i => i = .int .i64 0 ∧ a = .int .i64 0) (fun _ _ => 0)
    case atStart => exact ⟨rfl, rfl⟩
    case round =>
      obtain ⟨rfl, rfl⟩ := hrel
      go_wp2
      go_ret
      exact ⟨rfl, rfl⟩
  · exact ofTexts_any v xs w h hm
end Go.Proofs.Ytbbfajbnklgncaa
