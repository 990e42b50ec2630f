/- package buchi: DeleteFunc where nothing is out; drop of nothing. -/
import Derived.Test.YtkkhilgcjaigcaaDoorBuJoin
namespace Go.Proofs.YtkkhilgcjaigcaaDoor
open Go.RowKit Go.Shelf

set_option maxHeartbeats 1000000 in
theorem delete_none (v u : Value) (xs : List Int) (bs : List Bool) (FB F : Nat) (w : World) (h : Ints w v xs) (hB : w.cell? ⟨FB, 0, none⟩ = some (.pointer (some ⟨F, 0, none⟩))) (hF : w.cell? ⟨F, 4, none⟩ = some u) (hu : Bools w u bs) (hs : Spots bs xs) (hin : ∀ j (h : j < xs.length), outB bs xs[j] = false) :
    Calls Tryd.prog 93 #[v, .func (.func 94) #[] #[.pointer (some ⟨FB, 0, none⟩)]] w fun e w' => e = .returned v ∧ w' = w := by
  have HI : Hid (Calls Tryd.prog 100 #[v, .func (.func 94) #[] #[.pointer (some ⟨FB, 0, none⟩)]] w fun e w' => e = .returned (.int .i64 (-1)) ∧ w' = w) := (indexD_any v u xs bs FB F w h hB hF hu hs).mono fun e w' ⟨k, h1, h2, h3⟩ => by
    rcases h2.out with ⟨rfl, _⟩ | ⟨i, _, hi, hq, _⟩
    · exact ⟨h1, h3⟩
    · rw [hin i hi] at hq; cases hq
  obtain ⟨ad, c, rfl, _, _⟩ := h.form
  clear h hB hF hu hs hin
  go_enter Tryd.func93, Tryd.ntmps93
  go_wp2_with (go_at_call 100; refine HI.out.mono ?_; rintro e w1 ⟨rfl, hw1⟩; rw [hw1]; clear hw1)
  go_ret
  exact ⟨rfl, rfl⟩
theorem FBox.same {w0 W : World} {F : Nat} {T : TypeId} {vs : List Value} {rs : List (Option Rw)} (h : FBox w0 W F T vs rs) {i : Nat} {v : Value} (hv : vs[i]? = some v) : FBox w0 (W.setCell ⟨F, i, none⟩ v) F T vs rs := by
  have hset : Kept [F] W (W.setCell ⟨F, i, none⟩ v) := (Kept.refl [F] W).setCell (.inl (by simp)) v
  refine ⟨h.base, h.kept.setCell (.inr h.base) v, ?_, fun j r u h1 h2 => bx_kept (h.own j r u h1 h2) hset (fun g e hg => by have := (bx_base (h.own j r u h1 h2) e).1; simp at hg; omega), h.apart⟩
  rw [bx_set h.box]
  congr 2
  obtain ⟨hi, rfl⟩ := List.getElem?_eq_some_iff.1 hv
  simp
theorem MBox.same {w0 W : World} {F M : Nat} {es : Array MapEntry} {ck : Nat} {T : TypeId} {vs : List Value} {rs : List (Option Rw)} (h : MBox w0 W F M es ck T vs rs) {i : Nat} {v : Value} (hv : vs[i]? = some v) : MBox w0 (W.setCell ⟨F, i, none⟩ v) F M es ck T vs rs :=
  ⟨h.f.same hv, ((Kept.refl [F] W).setCell (.inl (by simp)) v).at h.m (fun e => by simp at e; subst e; have := h.f.box; rw [h.m] at this; cases this), h.m0⟩
/-- The rows as lists. -/
theorem ints_row {W : World} {base : Nat} {v : Value} {xs : List Int} (h : W.ownsRow base 3 1 v xs.length (xs.map (Value.int .i64))) (hl : xs.length ≤ 1000000) (hx : ∀ x ∈ xs, -9223372036854775808 ≤ x ∧ x ≤ 9223372036854775807) : Ints W v xs := by
  refine ⟨by omega, hx, ?_⟩
  rcases h.2 with ⟨h1, h2⟩ | ⟨g, cap, cur, h1, hb, hw, h3, h4, h5, h6⟩
  · exact .inl ⟨⟨none, 0, h1, by unfold maxLen; omega, fun _ => rfl⟩, List.length_eq_zero_iff.1 h2⟩
  · refine .inr ⟨g, 0, cap, h1, h3, h4, fun i hi => ?_⟩
    rw [cell_of hw]
    have e : (cur.toList.take (xs.length * 1))[i]? = some (Value.int .i64 xs[i]) := by rw [h6]; simp [hi]
    rw [List.getElem?_take] at e
    split at e
    · rw [← Array.getElem?_toList, Nat.zero_add]; exact e
    · cases e
theorem bools_row {W : World} {base : Nat} {v : Value} {xs : List Bool} (h : W.ownsRow base 4 1 v xs.length (xs.map Value.bool)) (hl : xs.length ≤ 1000000) : Bools W v xs := by
  refine ⟨by omega, ?_⟩
  rcases h.2 with ⟨h1, h2⟩ | ⟨g, cap, cur, h1, hb, hw, h3, h4, h5, h6⟩
  · exact .inl ⟨h1, List.length_eq_zero_iff.1 h2⟩
  · refine .inr ⟨g, 0, cap, h1, h3, h4, fun i hi => ?_⟩
    rw [cell_of hw]
    have e : (cur.toList.take (xs.length * 1))[i]? = some (Value.bool xs[i]) := by rw [h6]; simp [hi]
    rw [List.getElem?_take] at e
    split at e
    · rw [← Array.getElem?_toList, Nat.zero_add]; exact e
    · cases e
set_option maxHeartbeats 2000000 in
set_option maxRecDepth 10000 in
theorem drop_nil (F M : Nat) (es : Array MapEntry) (ck : Nat) (T : TypeId) (w0 w : World) (vs : List Value) (rs : List (Option Rw)) (lv iv : Value) (xs : List Int) (bs : List Bool) (h : MBox w0 w F M es ck T vs rs)
    (hlv : vs[3]? = some lv) (hiv : vs[4]? = some iv) (hr3 : rs[3]? = some (some ⟨3, 1, xs.length, xs.map (Value.int .i64)⟩)) (hr4 : rs[4]? = some (some ⟨4, 1, bs.length, bs.map Value.bool⟩)) (hl : xs.length ≤ 1000) (hb : bs.length ≤ 1000) (hs : Spots bs xs) (hin : ∀ j (h : j < xs.length), outB bs xs[j] = false) :
    Calls Tryd.prog 84 #[.pointer (some ⟨F, 0, none⟩), .slice none 0 0] w fun e w' => e = .returned (.tuple #[]) ∧ Hid (MBox w0 w' F M es ck T vs rs) ∧ Hid (Kept [F] w w') := by
  obtain ⟨V, hV⟩ : ∃ V, w.alloc (.cells #[.pointer (some ⟨F, 0, none⟩)] 95) = V := ⟨_, rfl⟩
  have hkV : Kept [] w V := by rw [← hV]; exact (Kept.refl [] w).alloc _
  have hbV : V.heap[w.heap.size]? = some (.cells #[.pointer (some ⟨F, 0, none⟩)] 95 (0, 0)) := by rw [← hV]; exact al0 _ _
  have kd : Kept [] V V.drew := (Kept.refl [] V).drew
  have hVb := h.go hkV
  have hVd := hVb.go kd
  have HS : Hid (MBox w0 (V.drew.setCell ⟨F, 3, none⟩ lv) F M es ck T vs rs) := hVd.same hlv
  have HKF : Hid (Kept [F] w (V.drew.setCell ⟨F, 3, none⟩ lv)) := ((keptB hkV kd).mono (by simp)).setCell (.inl (by simp)) lv
  have x0 : V.cell? ⟨w.heap.size, 0, none⟩ = some (.pointer (some ⟨F, 0, none⟩)) := (cell_of hbV 0).trans rfl
  obtain ⟨c3, f3⟩ := hVb.f.cell hlv
  have HD : Hid (Calls Tryd.prog 93 #[lv, .func (.func 94) #[] #[.pointer (some ⟨w.heap.size, 0, none⟩)]] V.drew fun e w' => e = .returned lv ∧ w' = V.drew) :=
    delete_none lv iv xs bs w.heap.size F V.drew (ints_row (hVd.f.own 3 _ _ hr3 hlv) (by omega) (fun x hx => by have := hs x hx; omega)) (cell_kept0 kd x0) (hVd.f.cell hiv).1 (bools_row (hVd.f.own 4 _ _ hr4 hiv) (by omega)) hs hin
  obtain ⟨la, lc, rfl⟩ := own_slice (h.f.own 3 _ _ hr3 hlv)
  have HV : Hid (w.alloc (.cells #[.pointer (some ⟨F, 0, none⟩)] 95) = V) := hV
  clear hV hkV hbV kd hVb hVd h hlv hiv hr3 hr4 hs hin
  go_enter Tryd.func84, Tryd.ntmps84
  go_wp2_with fail
  rw [HV.out]
  refine wp_loop_rounds 1 ?_
  rw [rounds_succ]
  go_wp2_with fail
  refine wp_loop_rounds 1 ?_
  rw [rounds_succ]
  go_wp2_with fail
  go_region_with (go_at_call 93; refine HD.out.mono ?_; rintro e w1 ⟨rfl, hw1⟩; rw [hw1]; clear hw1)
  all_goals go_wp2_with fail
  all_goals go_end0
  all_goals exact ⟨rfl, HS, HKF⟩
end Go.Proofs.YtkkhilgcjaigcaaDoor
