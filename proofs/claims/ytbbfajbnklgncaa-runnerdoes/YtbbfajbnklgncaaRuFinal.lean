/- runner.finalOf of any machine: which states are final. -/
import Derived.Test.YtbbfajbnklgncaaRuLeave
namespace Go.Proofs.Ytbbfajbnklgncaa
open Go.RowKit Go.Shelf

/-- A state from which one comes to another verdict. -/
inductive NotFin (next : List (List Int)) (out : List Nat) : Nat → Prop
  | base {s : Nat} : (next.getD s []).any (otherB out s) = true → NotFin next out s
  | step {s t : Nat} : (t : Int) ∈ next.getD s [] → NotFin next out t → NotFin next out s
/-- What finalOf tells. -/
structure FinOf (next : List (List Int)) (out : List Nat) (fin : List Bool) : Prop where
  len : fin.length = next.length
  is : ∀ s, s < next.length → (fin.getD s false = true ↔ ¬ NotFin next out s)
theorem FinS.form {W : World} {base FB LB FR n : Nat} {lv : Value} {fin : List Bool} {L : List Nat} (h : FinS W base FB LB FR n lv fin L) : ∃ ad c, lv = .slice ad L.length c ∧ ∀ j, j < L.length → ∃ g, ad = some ⟨g, 0, none⟩ ∧ W.cell? ⟨g, j, none⟩ = some (.int .i64 (L.getD j 0 : Nat)) := by
  rcases h.own.2 with ⟨e, h0⟩ | ⟨g, cap, cur, e, hb, hw, h3, h4, h5, h6⟩
  · exact ⟨none, 0, by rw [e, h0], fun j hj => by omega⟩
  · refine ⟨_, cap, e, fun j hj => ⟨g, rfl, ?_⟩⟩
    rw [cell_of hw]
    have hx2 := numsN_at hj
    rw [show L[j] = L.getD j 0 from by rw [List.getD_eq_getElem?_getD, List.getElem?_eq_getElem hj]; rfl] at hx2
    rw [← h6, List.getElem?_take] at hx2
    split at hx2
    · rw [← Array.getElem?_toList]; exact hx2
    · cases hx2
theorem FinS.flo {W : World} {base FB LB FR n : Nat} {lv : Value} {fin : List Bool} {L : List Nat} (h : FinS W base FB LB FR n lv fin L) : ∀ x ∈ FL LB FR lv, base ≤ x := by
  intro x hx
  unfold FL at hx
  rcases List.mem_cons.1 hx with rfl | hx
  · exact h.low.1
  · rcases List.mem_cons.1 hx with rfl | hx
    · exact h.low.2
    · exact (h.off (Option.mem_toList.1 hx)).2.2.2.1
theorem FinS.old {W W' w : World} {base FB LB FR n : Nat} {lv : Value} {fin : List Bool} {L : List Nat} (h : FinS W base FB LB FR n lv fin L) (k : Kept [] w W) (k' : Kept (FL LB FR lv) W W') (hb : w.heap.size ≤ base) : Kept [] w W' :=
  k.trans k' (by simp) (fun x hx => .inr (by have := h.flo x hx; omega))
theorem FinS.oldT {W W' : World} {base FB LB FR n M : Nat} {T : TypeId} {a b c : Value} {lv : Value} {fin : List Bool} {L : List Nat} (h : FinS W base FB LB FR n lv fin L) (k' : Kept (FL LB FR lv) W W') (hM : M < base) (t : Thr T W M a b c) : Thr T W' M a b c :=
  t.keptF k' (fun hx => by have := h.flo M hx; omega)
theorem cell_keptN {F : List Nat} {W W' : World} (k : Kept F W W') {b o : Nat} {v : Value} (hb : b ∉ F) (h : W.cell? ⟨b, o, none⟩ = some v) : W'.cell? ⟨b, o, none⟩ = some v :=
  (World.cell?_of_block (w := W) (a := ⟨b, o, none⟩) (k.block b (World.block_lt_of_cell? W _ h) hb)).trans h
theorem grow_at {L : List Nat} {fr i x : Nat} (h : L[i]? = some x) : (if fr ∈ L then L else L ++ [fr])[i]? = some x := by
  split
  · exact h
  · rw [List.getElem?_append_left (List.getElem?_eq_some_iff.1 h).1]; exact h
theorem grow_mem {L : List Nat} {fr y : Nat} (h : y ∈ L) : y ∈ (if fr ∈ L then L else L ++ [fr]) := by
  split
  · exact h
  · exact List.mem_append_left _ h
theorem grow_self {L : List Nat} {fr : Nat} : fr ∈ (if fr ∈ L then L else L ++ [fr]) := by
  split
  · assumption
  · simp
theorem FL.trans {LB FR N : Nat} {lv lv2 : Value} {A B C : World} (h : Kept (FL LB FR lv) A B) (k : Kept (FL LB FR lv2) B C) (hN : A.heap.size = N) (hg : ∀ g, lv2.ownBlock = some g → lv.ownBlock = some g ∨ N ≤ g) : Kept (FL LB FR lv) A C :=
  h.trans k (fun _ q => q) (fun x hx => by
    unfold FL at hx ⊢
    rcases List.mem_cons.1 hx with rfl | hx
    · exact .inl (by simp)
    · rcases List.mem_cons.1 hx with rfl | hx
      · exact .inl (by simp)
      · rcases hg x (Option.mem_toList.1 hx) with q | q
        · exact .inl (by rw [q]; simp)
        · exact .inr (by omega))
/-- A row of what leads back, behind whatever leave did. -/
theorem RowsN.later {Wb : World} {base B n x LB FR : Nat} {vs : List Value} {bk : List (List Nat)} {lv : Value} (h : RowsN Wb base B n vs bk) (hx : x < n) (hF : ∀ y ∈ FL LB FR lv, y < base) :
    ∃ ad c xs, bk.getD x [] = xs ∧ (∀ W, Kept (FL LB FR lv) Wb W → W.cell? ⟨B, x, none⟩ = some (.slice ad xs.length c) ∧ ∀ q, q < xs.length → ∃ g, ad = some ⟨g, 0, none⟩ ∧ W.cell? ⟨g, q, none⟩ = some (.int .i64 (xs.getD q 0 : Nat))) := by
  obtain ⟨v, xs, hv, hxs, hc, _⟩ := h.at hx
  have e : bk.getD x [] = xs := by rw [List.getD_eq_getElem?_getD, hxs]; rfl
  have hBF : B ∉ FL LB FR lv := fun hb => by have := hF B hb; have := h.low; omega
  rcases h.lies hv hxs with ⟨rfl, rfl⟩ | ⟨g, c, rfl, hg, _, _, hl⟩
  · exact ⟨none, 0, [], e, fun W k => ⟨cell_keptN k hBF hc, fun q hq => by simp at hq⟩⟩
  · exact ⟨_, c, xs, e, fun W k => ⟨cell_keptN k hBF hc, fun q hq => ⟨g, rfl, cell_keptN k (fun hb => by have := hF g hb; omega) (hl q hq)⟩⟩⟩
theorem Vds.there {W : World} {v : Value} {xs : List Nat} (h : Vds W v xs) (h0 : 0 < xs.length) : ∃ b o c, v = .slice (some ⟨b, o, none⟩) xs.length c ∧ OutAt W b o xs := by
  rcases h.lie with ⟨_, rfl⟩ | ⟨b, o, c, h1, _, _, h4⟩
  · simp at h0
  · exact ⟨b, o, c, h1, h4⟩
/-- Which states are left, of the first k. -/
def Left1 (next : List (List Int)) (out : List Nat) (k : Nat) (L : List Nat) : Prop := ∀ s, s ∈ L ↔ s < k ∧ (next.getD s []).any (otherB out s) = true
theorem Left1.yes {next : List (List Int)} {out : List Nat} {k : Nat} {L : List Nat} (h : Left1 next out k L) (hk : (next.getD k []).any (otherB out k) = true) : Left1 next out (k + 1) (if k ∈ L then L else L ++ [k]) := by
  have hn : k ∉ L := fun q => by have := ((h k).1 q).1; omega
  rw [if_neg hn]
  intro s
  rw [List.mem_append, h s, List.mem_singleton]
  constructor
  · rintro (⟨q1, q2⟩ | rfl)
    · exact ⟨by omega, q2⟩
    · exact ⟨by omega, hk⟩
  · rintro ⟨q1, q2⟩
    by_cases e : s = k
    · exact .inr e
    · exact .inl ⟨by omega, q2⟩
theorem Left1.no {next : List (List Int)} {out : List Nat} {k : Nat} {L : List Nat} (h : Left1 next out k L) (hk : (next.getD k []).any (otherB out k) = false) : Left1 next out (k + 1) L := by
  intro s
  rw [h s]
  constructor
  · rintro ⟨q1, q2⟩; exact ⟨by omega, q2⟩
  · rintro ⟨q1, q2⟩
    by_cases e : s = k
    · subst e; rw [hk] at q2; cases q2
    · exact ⟨by omega, q2⟩
/-- The states that are left, those before the i-th looked at, and of the i-th's q ones. -/
structure Left2 (next : List (List Int)) (out : List Nat) (bk : List (List Nat)) (i : Nat) (L : List Nat) : Prop where
  not : ∀ s ∈ L, NotFin next out s
  all : ∀ s, s < next.length → (next.getD s []).any (otherB out s) = true → s ∈ L
  shut : ∀ j x, j < i → L[j]? = some x → ∀ fr ∈ bk.getD x [], fr ∈ L
theorem Left2.first {next : List (List Int)} {out : List Nat} {bk : List (List Nat)} {L : List Nat} (h : Left1 next out next.length L) : Left2 next out bk 0 L :=
  ⟨fun s hs => .base ((h s).1 hs).2, fun s hs hb => (h s).2 ⟨hs, hb⟩, fun j x hj => by omega⟩
theorem Left2.leave {next : List (List Int)} {out : List Nat} {bk : List (List Nat)} {i x fr : Nat} {L : List Nat} (h : Left2 next out bk i L) (hB : BkTo next bk next.length 0) (hx : L[i]? = some x) (hxn : x < next.length) (hf : fr ∈ bk.getD x []) : Left2 next out bk i (if fr ∈ L then L else L ++ [fr]) := by
  split
  · exact h
  · have hnf : NotFin next out fr := by
      have h1 := (hB.iff x fr hxn).1 hf
      rcases h1 with ⟨_, q⟩ | ⟨_, q⟩
      · exact .step q (h.not x (List.mem_of_getElem? hx))
      · simp at q
    have hil : i < L.length := (List.getElem?_eq_some_iff.1 hx).1
    refine ⟨fun s hs => ?_, fun s hs hb => List.mem_append_left _ (h.all s hs hb), fun j y hj hy f hf' => ?_⟩
    · rcases List.mem_append.1 hs with q | q
      · exact h.not s q
      · rw [List.mem_singleton.1 q]; exact hnf
    · rw [List.getElem?_append_left (by omega)] at hy
      exact List.mem_append_left _ (h.shut j y hj hy f hf')
theorem Left2.next {next : List (List Int)} {out : List Nat} {bk : List (List Nat)} {i x : Nat} {L : List Nat} (h : Left2 next out bk i L) (hx : L[i]? = some x) (hq : ∀ fr ∈ bk.getD x [], fr ∈ L) : Left2 next out bk (i + 1) L :=
  ⟨h.not, h.all, fun j y hj hy => by
    rcases Nat.lt_or_ge j i with q | q
    · exact h.shut j y q hy
    · obtain rfl : j = i := by omega
      rw [hx] at hy
      cases hy
      exact hq⟩
theorem Left2.done {next : List (List Int)} {out : List Nat} {bk : List (List Nat)} {L : List Nat} (h : Left2 next out bk L.length L) (hB : BkTo next bk next.length 0) (hr : RightR next) : ∀ s, s < next.length → (s ∈ L ↔ NotFin next out s) := by
  intro s hs
  refine ⟨h.not s, fun hn => ?_⟩
  induction hn with
  | base hb => exact h.all _ hs hb
  | @step s t ht _ ih =>
    have hr2 : next.getD s [] ∈ next := by rw [List.getD_eq_getElem?_getD, List.getElem?_eq_getElem hs]; exact List.getElem_mem _
    have h2 := (hr.row _ hr2).2.2 _ ht
    have htl : t < next.length := by omega
    obtain ⟨j, hj, hjt⟩ := List.getElem_of_mem (ih htl)
    exact h.shut j t hj (by rw [List.getElem?_eq_getElem hj, hjt]) s ((hB.iff t s htl).2 (.inl ⟨hs, ht⟩))
end Go.Proofs.Ytbbfajbnklgncaa
