/- The spaced text has the same tokens but for their places, plainly. -/
import Derived.Test.YtilgfnafkcjdgaaDoorLxSpace
namespace Go.Proofs.YtilgfnafkcjdgaaDoor

/-- Tokens as they are written, blanks ahead of each. -/
def spacedFrom (L : List UInt8) (bl : Nat → List UInt8) : Nat → List Item → List UInt8
  | _, [] => []
  | i, x :: xs => bl i ++ (writtenL L x ++ spacedFrom L bl (i + 1) xs)
/-- All of a token but its place. -/
def kindTE (x : Item) : Fin 5 × List UInt8 × Nat := (x.kind, x.text, x.err)
theorem spaced_loose (L : List UInt8) (bl : Nat → List UInt8) (hbl : ∀ i, bl i ≠ [] ∧ ∀ c ∈ bl i, isBlankB c = true) (i : Nat) (xs : List Item) : Loose (spacedFrom L bl i xs) := by
  cases xs with
  | nil => exact .inl rfl
  | cons x xs =>
    obtain ⟨h1, h2⟩ := hbl i
    cases hb : bl i with
    | nil => exact absurd hb h1
    | cons c t =>
      refine .inr ⟨c, t ++ (writtenL L x ++ spacedFrom L bl (i + 1) xs), ?_, h2 c (by rw [hb]; simp)⟩
      show bl i ++ _ = _
      rw [hb]; rfl
theorem spaced_items (L : List UInt8) (bl : Nat → List UInt8) (hbl : ∀ i, bl i ≠ [] ∧ ∀ c ∈ bl i, isBlankB c = true) :
    ∀ (n p i q f : Nat), L.length - p ≤ n → p ≤ L.length → (∀ x ∈ from_ L p, x.err = 0) → (spacedFrom L bl i (from_ L p)).length < f →
      (items f q (spacedFrom L bl i (from_ L p))).map kindTE = (from_ L p).map kindTE ∧ ∀ x ∈ from_ L p, (writtenL L x).length ≤ L.length := by
  intro n
  induction n with
  | zero =>
    intro p i q f hn hp hg hf
    obtain ⟨f', rfl⟩ : ∃ f', f = f' + 1 := ⟨f - 1, by omega⟩
    have hd : L.drop (p + blanksN (L.drop p)) = [] := List.drop_eq_nil_of_le (by omega)
    rw [from_end L p hd]
    have hw : writtenL L ⟨1, [], p + blanksN (L.drop p), 0⟩ = [] := by
      unfold writtenL; rw [if_neg (fun h => absurd h.1 (show (1 : Fin 5) ≠ 2 by decide))]
    have hs : spacedFrom L bl i [⟨1, [], p + blanksN (L.drop p), 0⟩] = bl i ++ [] := by
      show bl i ++ (writtenL L _ ++ []) = _
      rw [hw]; rfl
    have hb := blanks_app (bl i) (hbl i).2 [] (.inl rfl)
    refine ⟨?_, fun x hx => by rw [List.mem_singleton.1 hx, hw]; exact Nat.zero_le _⟩
    rw [hs, items_end _ _ _ (by rw [hb]; simp)]
    rfl
  | succ n ih =>
    intro p i q f hn hp hg hf
    obtain ⟨f', rfl⟩ : ∃ f', f = f' + 1 := ⟨f - 1, by omega⟩
    have hblL := blanksN_le (L.drop p)
    rw [List.length_drop] at hblL
    cases hd : L.drop (p + blanksN (L.drop p)) with
    | nil =>
      rw [from_end L p hd]
      have hw : writtenL L ⟨1, [], p + blanksN (L.drop p), 0⟩ = [] := by
        unfold writtenL; rw [if_neg (fun h => absurd h.1 (show (1 : Fin 5) ≠ 2 by decide))]
      have hs : spacedFrom L bl i [⟨1, [], p + blanksN (L.drop p), 0⟩] = bl i ++ [] := by
        show bl i ++ (writtenL L _ ++ []) = _
        rw [hw]; rfl
      have hb := blanks_app (bl i) (hbl i).2 [] (.inl rfl)
      refine ⟨?_, fun x hx => by rw [List.mem_singleton.1 hx, hw]; exact Nat.zero_le _⟩
      rw [hs, items_end _ _ _ (by rw [hb]; simp)]
      rfl
    | cons b r =>
      by_cases he : (pieceOf (b :: r)).err = 0
      · obtain ⟨w1, w2⟩ := piece_width b r he
        obtain ⟨t1, t2⟩ := piece_text b r he
        have hgo := from_go L p b r hd he
        have hlen : (b :: r).length = L.length - (p + blanksN (L.drop p)) := by rw [← hd, List.length_drop]
        have hb : L[p + blanksN (L.drop p)]? = some b := by
          have : (L.drop (p + blanksN (L.drop p)))[0]? = some b := by rw [hd]; rfl
          rwa [List.getElem?_drop, Nat.add_zero] at this
        obtain ⟨m, hm⟩ : ∃ m, (pieceOf (b :: r)).width = m + 1 := ⟨(pieceOf (b :: r)).width - 1, by omega⟩
        obtain ⟨P, hP⟩ : ∃ P, pieceOf (b :: r) = P := ⟨_, rfl⟩
        obtain ⟨B, hB⟩ : ∃ B, p + blanksN (L.drop p) = B := ⟨_, rfl⟩
        have hw : writtenL L ⟨P.kind, P.text, B, 0⟩ = b :: r.take m := by
          unfold writtenL
          show (if P.kind = 2 ∧ L[B]? = some 34 then [34] ++ P.text ++ [34] else P.text) = _
          rw [← hB, hb]
          have e : (b :: r).take (m + 1) = b :: r.take m := rfl
          rw [← e, ← hm, ← t2, hP]
          simp
        rw [hP, hB] at hgo
        have hml : m ≤ r.length := by rw [hm] at w2; simpa using w2
        obtain ⟨i1, i2⟩ := ih (B + P.width) (i + 1) (q + (bl i).length + (m + 1)) f' (by rw [← hP]; omega) (by rw [← hP]; omega) (fun x hx => hg x (by rw [hgo]; exact List.mem_cons_of_mem _ hx)) (by
          rw [hgo] at hf
          have e : spacedFrom L bl i (⟨P.kind, P.text, B, 0⟩ :: from_ L (B + P.width)) = bl i ++ (writtenL L ⟨P.kind, P.text, B, 0⟩ ++ spacedFrom L bl (i + 1) (from_ L (B + P.width))) := rfl
          rw [e, hw] at hf
          simp only [List.length_append, List.length_cons] at hf
          omega)
        rw [hgo]
        have hs : spacedFrom L bl i (⟨P.kind, P.text, B, 0⟩ :: from_ L (B + P.width)) = bl i ++ (b :: (r.take m ++ spacedFrom L bl (i + 1) (from_ L (B + P.width)))) := by
          show bl i ++ (writtenL L _ ++ _) = _
          rw [hw]; rfl
        have hnb := piece_not_blank b r he
        have hbb := blanks_app (bl i) (hbl i).2 (b :: (r.take m ++ spacedFrom L bl (i + 1) (from_ L (B + P.width)))) (.inr ⟨_, _, rfl, hnb⟩)
        have hpt : pieceOf (b :: r.take m) = P := by rw [piece_take b r m he (by omega), hP]
        have hpa : pieceOf (b :: (r.take m ++ spacedFrom L bl (i + 1) (from_ L (B + P.width)))) = P := by
          rw [piece_append b _ _ (by rw [hpt, ← hP]; exact he) (spaced_loose L bl hbl _ _), hpt]
        refine ⟨?_, fun x hx => ?_⟩
        · rw [hs, items_go f' q _ b (r.take m ++ spacedFrom L bl (i + 1) (from_ L (B + P.width))) (by rw [hbb, List.drop_left' rfl]) (by rw [hpa, ← hP]; exact he), hpa, hbb]
          have hdr : (b :: (r.take m ++ spacedFrom L bl (i + 1) (from_ L (B + P.width)))).drop P.width = spacedFrom L bl (i + 1) (from_ L (B + P.width)) := by
            have e : b :: (r.take m ++ spacedFrom L bl (i + 1) (from_ L (B + P.width))) = (b :: r.take m) ++ spacedFrom L bl (i + 1) (from_ L (B + P.width)) := rfl
            rw [e]
            exact List.drop_left' (by rw [← hP, hm, List.length_cons, List.length_take, Nat.min_eq_left hml])
          have hPw : P.width = m + 1 := by rw [← hP]; exact hm
          rw [hdr, List.map_cons, List.map_cons]
          rw [hPw] at i1 ⊢
          rw [i1]
          rfl
        · rcases List.mem_cons.1 hx with h | h
          · rw [h, hw, List.length_cons, List.length_take, Nat.min_eq_left hml]
            have : (b :: r).length = r.length + 1 := rfl
            omega
          · exact i2 x h
      · exfalso
        have := hg _ (by rw [from_err L p b r hd he]; exact List.mem_singleton.2 rfl)
        exact he this
theorem spaced_length (L : List UInt8) (bl : Nat → List UInt8) (hbl : ∀ i, (bl i).length ≤ 2) (N : Nat) : ∀ (xs : List Item) (i : Nat), (∀ x ∈ xs, (writtenL L x).length ≤ N) → (spacedFrom L bl i xs).length ≤ xs.length * (N + 2)
  | [], _, _ => Nat.zero_le _
  | x :: xs, i, h => by
    have ih := spaced_length L bl hbl N xs (i + 1) (fun y hy => h y (List.mem_cons_of_mem _ hy))
    have h1 := h x (by simp)
    have h2 := hbl i
    show (bl i ++ (writtenL L x ++ _)).length ≤ _
    rw [List.length_append, List.length_append, List.length_cons, Nat.add_mul]
    omega
end Go.Proofs.YtilgfnafkcjdgaaDoor
