/- The law's own: how much is handed in (augurref00.OfTexts; the maths of small). -/
import Derived.Test.YtbbfajbnklgncaaHD
import Derived.Test.YtbbfajbnklgncaaHL
import Derived.Test.YtbbfajbnklgncaaHH
import Derived.Deep.RegionHeld3
namespace Go.Proofs.Ytbbfajbnklgncaa
open Go.RowKit Go.Shelf

def ot (n : Nat) : List ByteArray → Nat
  | [] => n
  | x :: r => if n ≤ 2147483647 then ot (n + (1 + x.size)) r else n
theorem ot_stop {n : Nat} (h : ¬ n ≤ 2147483647) : ∀ l, ot n l = n
  | [] => rfl
  | _ :: _ => by rw [ot, if_neg h]
theorem drop_cons {xs : List ByteArray} {k : Nat} (h : k < xs.length) : xs.drop k = xs[k] :: xs.drop (k + 1) := (List.getElem_cons_drop h).symm
set_option maxHeartbeats 1000000 in
theorem ofTexts_any (v : Value) (xs : List ByteArray) (w : World) (hx : Strs w v xs) (hm : ∀ x ∈ xs, x.size ≤ 140737488351232) :
    Calls Try.prog 19 #[v] w fun e w' => e = .returned (.int .i64 (ot 0 xs : Nat)) ∧ w' = w := by
  have fx := hx.few
  obtain ⟨r, hr⟩ : ∃ r, ot 0 xs = r := ⟨_, rfl⟩
  rw [hr]
  have HR : Hid (ot 0 xs = r) := hr
  have HM : Hid _ := hm
  clear hr hm
  by_cases h0 : 0 < xs.length
  · obtain ⟨b, o, c, rfl, _, _, hc⟩ := hx.there h0
    have HC : Hid (∀ i (h : i < xs.length), w.cell? ⟨b, o + i, none⟩ = some (.string xs[i])) := hc
    clear hx hc
    go_enter Try.func19, Try.ntmps19
    go_wp2_with fail
    go_loop [3, 4] (fun a i => ∃ n k : Nat, k ≤ xs.length ∧ i = .int .i64 (k : Nat) ∧ a = .int .i64 (n : Nat) ∧ n ≤ 140739635834880 ∧ Hid (ot n (xs.drop k) = r)) (fun _ i => xs.length - (intOf i).toNat)
    case atStart => exact ⟨0, 0, Nat.zero_le _, rfl, rfl, by omega, HR.out⟩
    case round =>
      obtain ⟨n, k, hk, rfl, rfl, hn, HF⟩ := hrel
      by_cases hlt : k < xs.length
      · have hlt' : (k : Int) < (xs.length : Int) := by omega
        have b0 : (0 : Int) ≤ (k : Int) := by omega
        by_cases hnb : n ≤ 2147483647
        · have hnbi : (n : Int) ≤ 2147483647 := by omega
          have d1 := HC.out k hlt
          have hxm := HM.out xs[k] (List.getElem_mem _)
          have HF2 : Hid (ot (n + (1 + xs[k].size)) (xs.drop (k + 1)) = r) := by
            show ot _ _ = r
            have := HF.out
            rw [drop_cons hlt, ot, if_pos hnb] at this
            exact this
          obtain ⟨x, hxk⟩ : ∃ x, xs[k] = x := ⟨_, rfl⟩
          rw [hxk] at d1 HF2 hxm
          clear hxk
          go_wp2
          go_round
          case rel => exact ⟨n + (1 + x.size), k + 1, by omega, by go_num, by go_num, by omega, HF2.out⟩
          case measure => simp [intOf]; omega
        · have hnbi : ¬ ((n : Int) ≤ 2147483647) := by omega
          have HE : Hid (n = r) := by have := HF.out; rw [ot_stop hnb] at this; exact this
          clear hnb
          go_wp2
          go_ret
          exact ⟨ret_int (by rw [HE.out]), rfl⟩
      · have hlt' : ¬ (k : Int) < (xs.length : Int) := by omega
        have HE : Hid (n = r) := by have := HF.out; rw [List.drop_eq_nil_of_le (by omega), ot] at this; exact this
        go_wp2
        go_ret
        exact ⟨ret_int (by rw [HE.out]), rfl⟩
  · obtain rfl : xs = [] := List.length_eq_zero_iff.1 (by omega)
    obtain ⟨ad, c, rfl, _⟩ := hx.form
    have HE : Hid (0 = r) := HR.out
    clear hx
    simp only [List.length_nil]
    go_enter Try.func19, Try.ntmps19
    go_wp2_with fail
    go_loop [3, 4] (fun a i => i = .int .i64 0 ∧ a = .int .i64 0) (fun _ _ => 0)
    case atStart => exact ⟨rfl, rfl⟩
    case round =>
      obtain ⟨rfl, rfl⟩ := hrel
      go_wp2
      go_ret
      exact ⟨ret_int (by rw [← HE.out]; rfl), rfl⟩
theorem ot_le (n : Nat) : ∀ (l : List ByteArray), n ≤ 140739635834880 → (∀ x ∈ l, x.size ≤ 140737488351232) → ot n l ≤ 140739635834880
  | [], h, _ => h
  | x :: r, h, hx => by
    rw [ot]
    split
    · exact ot_le _ r (by have := hx x (by simp); omega) (fun y hy => hx y (by simp [hy]))
    · exact h
theorem ot_few : ∀ (l : List ByteArray) (n : Nat), ot n l < 100000 → n + l.length ≤ ot n l ∧ n < 100000
  | [], n, h => ⟨Nat.le_refl _, h⟩
  | x :: r, n, h => by
    rw [ot] at h ⊢
    by_cases hn : n ≤ 2147483647
    · rw [if_pos hn] at h ⊢
      have := ot_few r _ h
      simp only [List.length_cons]
      omega
    · rw [if_neg hn] at h
      omega
/-- The sum of the sets' sizes, as far as the law counts. -/
def os (n : Nat) : List (List Int) → Nat
  | [] => n
  | x :: r => if n < 100000 then os (n + 1 + x.length) r else n
theorem os_stop {n : Nat} (h : ¬ n < 100000) : ∀ l, os n l = n
  | [] => rfl
  | _ :: _ => by rw [os, if_neg h]
theorem os_few : ∀ (l : List (List Int)) (n : Nat), os n l < 100000 → n + l.length ≤ os n l ∧ n < 100000 ∧ ∀ xs ∈ l, xs.length < 100000
  | [], n, h => ⟨Nat.le_refl _, h, by simp⟩
  | x :: r, n, h => by
    rw [os] at h ⊢
    by_cases hn : n < 100000
    · rw [if_pos hn] at h ⊢
      obtain ⟨h1, h2, h3⟩ := os_few r _ h
      simp only [List.length_cons]
      refine ⟨by omega, hn, fun xs hx => ?_⟩
      rcases List.mem_cons.1 hx with rfl | hx
      · omega
      · exact h3 xs hx
    · rw [if_neg hn] at h
      omega
theorem drop_consL {xs : List (List Int)} {k : Nat} (h : k < xs.length) : xs.drop k = xs[k] :: xs.drop (k + 1) := (List.getElem_cons_drop h).symm
/-- What the law's small tells: how much is handed in. -/
def smallN (g : Gen) : Nat := os (ot 0 g.ps + g.ini.length + g.es.length) g.sets
theorem smallN_few {g : Gen} (h : smallN g < 100000) : g.ps.length ≤ 100000 ∧ g.ini.length ≤ 100000 ∧ g.es.length ≤ 100000 ∧ g.sets.length ≤ 100000 ∧ ∀ xs ∈ g.sets, xs.length ≤ 100000 := by
  obtain ⟨h1, h2, h3⟩ := os_few _ _ h
  obtain ⟨h4, h5⟩ := ot_few g.ps 0 (by omega)
  exact ⟨by omega, by omega, by omega, by unfold smallN at h; omega, fun xs hx => Nat.le_of_lt (h3 xs hx)⟩
end Go.Proofs.Ytbbfajbnklgncaa

/- The law's own: how much is handed in (augurref00.OfRows). -/
namespace Go.Proofs.Ytbbfajbnklgncaa
open Go.RowKit Go.Shelf

def orw (n : Nat) : List (List Int) → Nat
  | [] => n
  | x :: r => if n ≤ 2147483647 then orw (n + (1 + x.length)) r else n
theorem orw_stop {n : Nat} (h : ¬ n ≤ 2147483647) : ∀ l, orw n l = n
  | [] => rfl
  | _ :: _ => by rw [orw, if_neg h]
theorem orw_few : ∀ (l : List (List Int)) (n : Nat), orw n l ≤ 100000 → n + l.length ≤ orw n l ∧ n ≤ 100000 ∧ ∀ xs ∈ l, xs.length ≤ 100000
  | [], n, h => ⟨Nat.le_refl _, h, by simp⟩
  | x :: r, n, h => by
    rw [orw] at h ⊢
    by_cases hn : n ≤ 2147483647
    · rw [if_pos hn] at h ⊢
      obtain ⟨h1, h2, h3⟩ := orw_few r _ h
      simp only [List.length_cons]
      refine ⟨by omega, by omega, fun xs hx => ?_⟩
      rcases List.mem_cons.1 hx with rfl | hx
      · omega
      · exact h3 xs hx
    · rw [if_neg hn] at h
      omega
theorem ot_few2 : ∀ (l : List ByteArray) (n : Nat), ot n l ≤ 10000 → n + l.length ≤ ot n l ∧ n ≤ 10000
  | [], n, h => ⟨Nat.le_refl _, h⟩
  | x :: r, n, h => by
    rw [ot] at h ⊢
    by_cases hn : n ≤ 2147483647
    · rw [if_pos hn] at h ⊢
      have := ot_few2 r _ h
      simp only [List.length_cons]
      omega
    · rw [if_neg hn] at h
      omega
theorem lenI_few {W : World} {v : Value} {xs : List Int} (h : Ints W v xs) : xs.length ≤ 17592186044416 := h.few
set_option maxHeartbeats 1000000 in
theorem ofRows_any (v : Value) (xs : List (List Int)) (w : World) (hx : Rowss w v xs) :
    Calls Try.prog 20 #[v] w fun e w' => e = .returned (.int .i64 (orw 0 xs : Nat)) ∧ w' = w := by
  have fx := hx.few
  obtain ⟨r, hr⟩ : ∃ r, orw 0 xs = r := ⟨_, rfl⟩
  rw [hr]
  have HR : Hid (orw 0 xs = r) := hr
  clear hr
  rcases hx.lie with ⟨rfl, rfl⟩ | ⟨b, o, c, rfl, _, _, hc⟩
  · have HE : Hid (0 = r) := HR.out
    clear hx fx
    go_enter Try.func20, Try.ntmps20
    go_wp2_with fail
    go_loop [3, 4] (fun a i => i = .int .i64 0 ∧ a = .int .i64 0) (fun _ _ => 0)
    case atStart => exact ⟨rfl, rfl⟩
    case round =>
      obtain ⟨rfl, rfl⟩ := hrel
      go_wp2
      go_ret
      exact ⟨ret_int (by rw [← HE.out]; rfl), rfl⟩
  · have HC : Hid (∀ i (h : i < xs.length), ∃ u, w.cell? ⟨b, o + i, none⟩ = some u ∧ Ints w u xs[i]) := hc
    clear hx hc
    go_enter Try.func20, Try.ntmps20
    go_wp2_with fail
    go_loop [3, 4] (fun a i => ∃ n k : Nat, k ≤ xs.length ∧ i = .int .i64 (k : Nat) ∧ a = .int .i64 (n : Nat) ∧ n ≤ 17594333528064 ∧ Hid (orw n (xs.drop k) = r)) (fun _ i => xs.length - (intOf i).toNat)
    case atStart => exact ⟨0, 0, Nat.zero_le _, rfl, rfl, by omega, HR.out⟩
    case round =>
      obtain ⟨n, k, hk, rfl, rfl, hn, HF⟩ := hrel
      by_cases hlt : k < xs.length
      · have hlt' : (k : Int) < (xs.length : Int) := by omega
        have b0 : (0 : Int) ≤ (k : Int) := by omega
        by_cases hnb : n ≤ 2147483647
        · have hnbi : (n : Int) ≤ 2147483647 := by omega
          obtain ⟨u, d1, hu⟩ := HC.out k hlt
          have hxm := lenI_few hu
          obtain ⟨uad, uc, rfl, _, _⟩ := hu.form
          have HF2 : Hid (orw (n + (1 + xs[k].length)) (xs.drop (k + 1)) = r) := by
            show orw _ _ = r
            have := HF.out
            rw [drop_consL hlt, orw, if_pos hnb] at this
            exact this
          clear hu
          obtain ⟨x, hxk⟩ : ∃ x, xs[k].length = x := ⟨_, rfl⟩
          rw [hxk] at d1 HF2 hxm
          clear hxk
          go_wp2
          go_round
          case rel => exact ⟨n + (1 + x), k + 1, by omega, by go_num, by go_num, by omega, HF2.out⟩
          case measure => simp [intOf]; omega
        · have hnbi : ¬ ((n : Int) ≤ 2147483647) := by omega
          have HE : Hid (n = r) := by have := HF.out; rw [orw_stop hnb] at this; exact this
          clear hnb
          go_wp2
          go_ret
          exact ⟨ret_int (by rw [HE.out]), rfl⟩
      · have hlt' : ¬ (k : Int) < (xs.length : Int) := by omega
        have HE : Hid (n = r) := by have := HF.out; rw [List.drop_eq_nil_of_le (by omega), orw] at this; exact this
        go_wp2
        go_ret
        exact ⟨ret_int (by rw [HE.out]), rfl⟩
end Go.Proofs.Ytbbfajbnklgncaa

/- The law's own: how much is handed in (augurref00.OfMoore; OfTexts of an event). -/
namespace Go.Proofs.Ytbbfajbnklgncaa
open Go.RowKit Go.Shelf

def moN (ps : List ByteArray) (next : List (List Int)) (out : List Nat) : Nat := ot 0 ps + orw 0 next + out.length
theorem orw_le (n : Nat) : ∀ (l : List (List Int)), n ≤ 17594333528064 → (∀ x ∈ l, x.length ≤ 17592186044416) → orw n l ≤ 17594333528064
  | [], h, _ => h
  | x :: r, h, hx => by
    rw [orw]
    split
    · exact orw_le _ r (by have := hx x (by simp); omega) (fun y hy => hx y (by simp [hy]))
    · exact h
theorem rowss_few {W : World} {v : Value} {ss : List (List Int)} (h : Rowss W v ss) : ∀ x ∈ ss, x.length ≤ 17592186044416 := by
  intro x hx
  obtain ⟨i, hi, rfl⟩ := List.getElem_of_mem hx
  rcases h.lie with ⟨_, rfl⟩ | ⟨b, o, c, _, _, _, h4⟩
  · simp at hi
  · obtain ⟨u, _, hu⟩ := h4 i hi
    exact hu.few
set_option maxHeartbeats 2000000 in
set_option maxRecDepth 10000 in
theorem ofMoore_any (pv nv ov : Value) (ps : List ByteArray) (next : List (List Int)) (out : List Nat) (w : World) (hp : Strs w pv ps) (hn : Rowss w nv next) (ho : Vds w ov out) (hs : ∀ x ∈ ps, x.size ≤ 140737488351232) :
    Calls Try.prog 5 #[.agg #[pv, nv, ov]] w fun e w' => e = .returned (.int .i64 (moN ps next out : Nat)) ∧ Hid (Kept [] w w') := by
  have b1 := ot_le 0 ps (by omega) hs
  have b2 := orw_le 0 next (by omega) (rowss_few hn)
  have b3 := ho.few
  obtain ⟨pa, pc, rfl, _, _⟩ := hp.form
  obtain ⟨na, nc, rfl, _, _⟩ := hn.form13
  obtain ⟨oa, oc, rfl⟩ := ho.form
  obtain ⟨V, hV⟩ : ∃ V, w.alloc (.cells #[.slice pa ps.length pc, .slice na next.length nc, .slice oa out.length oc] 26) = V := ⟨_, rfl⟩
  have kV : Kept [] w V := by rw [← hV]; exact (Kept.refl [] w).alloc _
  have hB : Thr 26 V w.heap.size (.slice pa ps.length pc) (.slice na next.length nc) (.slice oa out.length oc) := by rw [← hV]; exact al0 _ _
  have HV : Hid (_ = V) := hV
  have HKV : Hid (Kept [] w V) := kV
  have kd : Kept [] V V.drew := (Kept.refl [] V).drew
  have H1 : Hid (Calls Try.prog 19 #[.slice pa ps.length pc] V.drew fun e w' => e = .returned (.int .i64 (ot 0 ps : Nat)) ∧ w' = V.drew) := ofTexts_any _ ps V.drew (hp.kept (keptB kV kd)) hs
  have H2 : Hid (Calls Try.prog 20 #[.slice na next.length nc] V.drew fun e w' => e = .returned (.int .i64 (orw 0 next : Nat)) ∧ w' = V.drew) := ofRows_any _ next V.drew (hn.kept (keptB kV kd))
  obtain ⟨c0, c1, c2⟩ := hB.cells
  unfold moN
  obtain ⟨x, hx⟩ : ∃ x, ot 0 ps = x := ⟨_, rfl⟩
  obtain ⟨y, hy⟩ : ∃ y, orw 0 next = y := ⟨_, rfl⟩
  rw [hx] at b1 H1 ⊢
  rw [hy] at b2 H2 ⊢
  have HKD : Hid (Kept [] w V.drew) := keptB kV kd
  clear hp hn ho hs hV kV hB hx hy kd
  go_enter Try.func5, Try.ntmps5
  go_upto_region 1 with fail
  rw [HV.out]
  clear HV
  go_region_held3 (fun w' => w'.cell? ⟨w.heap.size, 0, none⟩ = some (.slice pa ps.length pc) ∧ w'.cell? ⟨w.heap.size, 1, none⟩ = some (.slice na next.length nc) ∧ w'.cell? ⟨w.heap.size, 2, none⟩ = some (.slice oa out.length oc)) (exact ⟨c0, c1, c2⟩)
    (first
    | (go_at_call 19; refine H1.out.mono ?_; rintro e w1 ⟨rfl, hw1⟩; rw [hw1]; clear hw1)
    | (go_at_call 20; refine H2.out.mono ?_; rintro e w1 ⟨rfl, hw1⟩; rw [hw1]; clear hw1))
  all_goals go_wp2
  all_goals go_ret
  all_goals exact ⟨ret_int (by simp only [IntKind.wrap_i64]; omega), HKD⟩
/-- What a machine of few numbers is. -/
theorem moN_few {ps : List ByteArray} {next : List (List Int)} {out : List Nat} (h : moN ps next out ≤ 100000) : ps.length ≤ 100000 ∧ next.length ≤ 100000 ∧ out.length ≤ 100000 := by
  unfold moN at h
  have h2 := (orw_few next 0 (by omega)).1
  refine ⟨?_, by omega, by omega⟩
  by_cases hl : ot 0 ps < 100000
  · have := (ot_few ps 0 hl).1; omega
  · have : ∀ (l : List ByteArray) (n : Nat), n ≤ 100000 → ot n l ≤ 100000 → n + l.length ≤ 100000 := by
      intro l
      induction l with
      | nil => intro n h1 h2; simp; omega
      | cons x r ih =>
        intro n h1 h2
        rw [ot, if_pos (by omega)] at h2
        have hm : n + (1 + x.size) ≤ 100000 := by
          by_cases hb : n + (1 + x.size) ≤ 2147483647
          · by_cases hc : n + (1 + x.size) ≤ 100000
            · exact hc
            · have hge : ∀ (q : List ByteArray) (m : Nat), m ≤ ot m q := by
                intro q
                induction q with
                | nil => intro m; exact Nat.le_refl _
                | cons z q ih2 => intro m; rw [ot]; split
                                  · have := ih2 (m + (1 + z.size)); omega
                                  · exact Nat.le_refl _
              have := hge r (n + (1 + x.size)); omega
          · rw [ot_stop hb] at h2; omega
        have := ih _ hm h2
        simp only [List.length_cons]
        omega
    have := this ps 0 (by omega) (by omega)
    omega
set_option maxHeartbeats 1000000 in
theorem ofTextsE_any (v : Value) (xs : List ByteArray) (w : World) (hx : StrsE w v xs) (hm : ∀ x ∈ xs, x.size ≤ 140737488351232) :
    Calls Try.prog 19 #[v] w fun e w' => e = .returned (.int .i64 (ot 0 xs : Nat)) ∧ w' = w := by
  rcases hx.cases with ⟨rfl, ad, c, rfl⟩ | h
  · clear hx hm
    go_enter Try.func19, Try.ntmps19
    go_wp2_with fail
    go_loop [3, 4] (fun a i => i = .int .i64 0 ∧ a = .int .i64 0) (fun _ _ => 0)
    case atStart => exact ⟨rfl, rfl⟩
    case round =>
      obtain ⟨rfl, rfl⟩ := hrel
      go_wp2
      go_ret
      exact ⟨rfl, rfl⟩
  · exact ofTexts_any v xs w h hm
end Go.Proofs.Ytbbfajbnklgncaa
