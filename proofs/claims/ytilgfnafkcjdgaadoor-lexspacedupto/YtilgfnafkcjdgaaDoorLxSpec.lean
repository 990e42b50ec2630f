/- A text as tokens, as plain functions of lists of bytes. No program here. -/
import Derived.Test.YtilgfnafkcjdgaaDoorKeeps
namespace Go.Proofs.YtilgfnafkcjdgaaDoor

def isLetterB (b : UInt8) : Bool := (decide (65 ≤ b.toNat) && decide (b.toNat ≤ 90)) || (decide (97 ≤ b.toNat) && decide (b.toNat ≤ 122)) || decide (b.toNat = 95)
def isDigitB (b : UInt8) : Bool := decide (48 ≤ b.toNat) && decide (b.toNat ≤ 57)
def isBareB (b : UInt8) : Bool := isLetterB b || isDigitB b
def isBlankB (b : UInt8) : Bool := ([32, 9, 10, 13] : List UInt8).contains b
def okB (b : UInt8) : Bool := decide (32 ≤ b.toNat) && decide (b.toNat ≤ 126) && !decide (b.toNat = 34) && !decide (b.toNat = 92)

/-- How many bytes at the front a word or a bare name could take. -/
def bareN : List UInt8 → Nat
  | [] => 0
  | b :: r => if isLetterB b then (r.takeWhile isBareB).length + 1 else 0
def wordsL : List (List UInt8) := [[116, 114, 117, 101], [102, 97, 108, 115, 101], [88], [70], [71], [85], [82], [87], [77], [89], [90], [79], [72], [83], [84]]
def isWordB (l : List UInt8) : Bool := wordsL.contains l
def quotableB (l : List UInt8) : Bool := l.all okB
def goodLenB (l : List UInt8) : Bool := decide (0 < l.length) && decide (l.length ≤ 32)
def isNameB (l : List UInt8) : Bool := goodLenB l && decide (bareN l = l.length) && !isWordB l
def quoteL (l : List UInt8) : List UInt8 := if isNameB l then l else if goodLenB l && quotableB l then [34] ++ l ++ [34] else []
def blanksN (l : List UInt8) : Nat := (l.takeWhile isBlankB).length

/-- What stands at a place: a token and how many bytes it takes, or an error. -/
structure Piece where
  kind : Fin 5
  text : List UInt8
  width : Nat
  err : Nat
def noneP : Piece := ⟨0, [], 0, 20⟩
def exactlyP (l sign : List UInt8) : Piece := if sign.isPrefixOf l then ⟨4, sign, sign.length, 0⟩ else noneP
def namedP (t : List UInt8) (n : Nat) : Piece := if goodLenB t then ⟨2, t, n, 0⟩ else ⟨0, [], 0, 22⟩
def bareP (l : List UInt8) : Piece := if isWordB (l.take (bareN l)) then ⟨3, l.take (bareN l), bareN l, 0⟩ else namedP (l.take (bareN l)) (bareN l)
def upto34 (r : List UInt8) : List UInt8 := r.takeWhile fun b => b != 34
def quotedP (r : List UInt8) : Piece := if decide ((upto34 r).length < r.length) && quotableB (upto34 r) then namedP (upto34 r) ((upto34 r).length + 2) else ⟨0, [], 0, 21⟩
def isSignB (b : UInt8) : Bool := ([33, 38, 124, 40, 41] : List UInt8).contains b
def pieceOf : List UInt8 → Piece
  | [] => noneP
  | b :: r => if isLetterB b then bareP (b :: r) else if isSignB b then exactlyP (b :: r) [b] else if b = 34 then quotedP r else if b = 45 then exactlyP (b :: r) [45, 62] else if b = 60 then exactlyP (b :: r) [60, 45, 62] else noneP

/-- What comes out: a token and OK; or an error and its place. -/
structure Item where
  kind : Fin 5
  text : List UInt8
  pos : Nat
  err : Nat
def items : Nat → Nat → List UInt8 → List Item
  | 0, _, _ => []
  | f + 1, p, l => match l.drop (blanksN l) with
    | [] => [⟨1, [], p + blanksN l, 0⟩]
    | b :: r => if (pieceOf (b :: r)).err = 0 then ⟨(pieceOf (b :: r)).kind, (pieceOf (b :: r)).text, p + blanksN l, 0⟩ :: items f (p + blanksN l + (pieceOf (b :: r)).width) ((b :: r).drop (pieceOf (b :: r)).width)
      else [⟨0, [], p + blanksN l, (pieceOf (b :: r)).err⟩]
def itemsOf (l : List UInt8) : List Item := items (l.length + 1) 0 l

theorem bareN_cons (b : UInt8) (r : List UInt8) : bareN (b :: r) = if isLetterB b then (r.takeWhile isBareB).length + 1 else 0 := rfl
theorem pieceOf_cons (b : UInt8) (r : List UInt8) : pieceOf (b :: r) = if isLetterB b then bareP (b :: r) else if isSignB b then exactlyP (b :: r) [b] else if b = 34 then quotedP r else if b = 45 then exactlyP (b :: r) [45, 62] else if b = 60 then exactlyP (b :: r) [60, 45, 62] else noneP := rfl
theorem bareN_le (l : List UInt8) : bareN l ≤ l.length := by
  cases l with
  | nil => exact Nat.le_refl _
  | cons b r =>
    rw [bareN_cons]
    have := (List.takeWhile_prefix (p := isBareB) (l := r)).length_le
    split
    · rw [List.length_cons]; omega
    · exact Nat.zero_le _
theorem bareN_pos (b : UInt8) (r : List UInt8) (h : isLetterB b = true) : 0 < bareN (b :: r) := by rw [bareN_cons, if_pos h]; omega
theorem upto34_le (r : List UInt8) : (upto34 r).length ≤ r.length := (List.takeWhile_prefix (p := fun b => b != 34) (l := r)).length_le

theorem exactly_width (l sign : List UInt8) (hs : 0 < sign.length) (h : (exactlyP l sign).err = 0) : 0 < (exactlyP l sign).width ∧ (exactlyP l sign).width ≤ l.length := by
  unfold exactlyP at h ⊢
  split at h
  · rename_i hp
    rw [if_pos hp]
    exact ⟨hs, (List.isPrefixOf_iff_prefix.1 hp).length_le⟩
  · simp [noneP] at h
theorem named_width (t : List UInt8) (n : Nat) (h : (namedP t n).err = 0) : (namedP t n).width = n := by
  unfold namedP at h ⊢
  split at h
  · rename_i hp; rw [if_pos hp]
  · simp at h
/-- A token takes a byte at least, and no more than there are. -/
theorem piece_width (b : UInt8) (r : List UInt8) (h : (pieceOf (b :: r)).err = 0) : 0 < (pieceOf (b :: r)).width ∧ (pieceOf (b :: r)).width ≤ (b :: r).length := by
  rw [pieceOf_cons] at h ⊢
  split at h
  · rename_i hl
    rw [if_pos hl]
    have h1 := bareN_pos b r hl
    have h2 := bareN_le (b :: r)
    unfold bareP at h ⊢
    split at h
    · rename_i hw; rw [if_pos hw]; exact ⟨h1, h2⟩
    · rename_i hw; rw [if_neg hw, named_width _ _ h]; exact ⟨h1, h2⟩
  · rename_i hl
    rw [if_neg hl]
    split at h
    · rename_i hs; rw [if_pos hs]; exact exactly_width _ _ (by simp) h
    · rename_i hs
      rw [if_neg hs]
      split at h
      · rename_i hq
        rw [if_pos hq]
        unfold quotedP at h ⊢
        split at h
        · rename_i hc
          rw [if_pos hc, named_width _ _ h]
          simp only [Bool.and_eq_true, decide_eq_true_eq] at hc
          simp only [List.length_cons]
          omega
        · simp at h
      · rename_i hq
        rw [if_neg hq]
        split at h
        · rename_i hd; rw [if_pos hd]; exact exactly_width _ _ (by simp) h
        · rename_i hd
          rw [if_neg hd]
          split at h
          · rename_i he; rw [if_pos he]; exact exactly_width _ _ (by simp) h
          · simp [noneP] at h

theorem blanksN_le (l : List UInt8) : blanksN l ≤ l.length := (List.takeWhile_prefix (p := isBlankB) (l := l)).length_le
theorem drop_blanks (l : List UInt8) : l.drop (blanksN l) = l.dropWhile isBlankB := by
  have h : l.takeWhile isBlankB ++ l.dropWhile isBlankB = l := List.takeWhile_append_dropWhile
  have e : l.drop (blanksN l) = (l.takeWhile isBlankB ++ l.dropWhile isBlankB).drop (blanksN l) := by rw [h]
  rw [e]
  exact List.drop_left' rfl

theorem items_end (f p : Nat) (l : List UInt8) (h : l.drop (blanksN l) = []) : items (f + 1) p l = [⟨1, [], p + blanksN l, 0⟩] := by
  show (match l.drop (blanksN l) with | [] => _ | b :: r => _) = _
  rw [h]
theorem items_err (f p : Nat) (l : List UInt8) (b : UInt8) (r : List UInt8) (h : l.drop (blanksN l) = b :: r) (he : (pieceOf (b :: r)).err ≠ 0) : items (f + 1) p l = [⟨0, [], p + blanksN l, (pieceOf (b :: r)).err⟩] := by
  show (match l.drop (blanksN l) with | [] => _ | b :: r => _) = _
  rw [h]
  exact if_neg he
theorem items_go (f p : Nat) (l : List UInt8) (b : UInt8) (r : List UInt8) (h : l.drop (blanksN l) = b :: r) (he : (pieceOf (b :: r)).err = 0) : items (f + 1) p l = ⟨(pieceOf (b :: r)).kind, (pieceOf (b :: r)).text, p + blanksN l, 0⟩ :: items f (p + blanksN l + (pieceOf (b :: r)).width) ((b :: r).drop (pieceOf (b :: r)).width) := by
  show (match l.drop (blanksN l) with | [] => _ | b :: r => _) = _
  rw [h]
  exact if_pos he
/-- More fuel than bytes changes nothing. -/
theorem items_fuel' : ∀ (n f : Nat) (p : Nat) (l : List UInt8), l.length ≤ n → l.length < f → items f p l = items (l.length + 1) p l := by
  intro n
  induction n with
  | zero =>
    intro f p l hn hf
    obtain ⟨f', rfl⟩ : ∃ f', f = f' + 1 := ⟨f - 1, by omega⟩
    obtain rfl : l = [] := List.length_eq_zero_iff.1 (by omega)
    rfl
  | succ n ih =>
    intro f p l hn hf
    obtain ⟨f', rfl⟩ : ∃ f', f = f' + 1 := ⟨f - 1, by omega⟩
    cases hd : l.drop (blanksN l) with
    | nil => rw [items_end _ _ _ hd, items_end _ _ _ hd]
    | cons b r =>
      by_cases he : (pieceOf (b :: r)).err = 0
      · rw [items_go _ _ _ _ _ hd he, items_go _ _ _ _ _ hd he]
        obtain ⟨h1, h2⟩ := piece_width b r he
        have hl : (b :: r).length ≤ l.length := by rw [← hd]; simp
        have hd2 : ((b :: r).drop (pieceOf (b :: r)).width).length < l.length := by rw [List.length_drop]; omega
        rw [ih f' _ _ (by omega) (by omega), ih l.length _ _ (by omega) hd2]
      · rw [items_err _ _ _ _ _ hd he, items_err _ _ _ _ _ hd he]
theorem items_fuel (f : Nat) (p : Nat) (l : List UInt8) (h : l.length < f) : items f p l = items (l.length + 1) p l := items_fuel' l.length f p l (Nat.le_refl _) h
/-- From a place on. -/
def from_ (l : List UInt8) (p : Nat) : List Item := items ((l.drop p).length + 1) p (l.drop p)
theorem from_zero (l : List UInt8) : from_ l 0 = itemsOf l := rfl
theorem from_go (l : List UInt8) (p : Nat) (b : UInt8) (r : List UInt8) (h : l.drop (p + blanksN (l.drop p)) = b :: r) (he : (pieceOf (b :: r)).err = 0) :
    from_ l p = ⟨(pieceOf (b :: r)).kind, (pieceOf (b :: r)).text, p + blanksN (l.drop p), 0⟩ :: from_ l (p + blanksN (l.drop p) + (pieceOf (b :: r)).width) := by
  have h' : (l.drop p).drop (blanksN (l.drop p)) = b :: r := by rw [List.drop_drop]; exact h
  unfold from_
  rw [items_go _ _ _ _ _ h' he]
  obtain ⟨h1, h2⟩ := piece_width b r he
  have hl : (b :: r).length ≤ (l.drop p).length := by rw [← h', List.length_drop]; exact Nat.sub_le _ _
  have e : l.drop (p + blanksN (l.drop p) + (pieceOf (b :: r)).width) = (b :: r).drop (pieceOf (b :: r)).width := by rw [← List.drop_drop, h]
  rw [e, items_fuel _ _ _ (by rw [List.length_drop]; omega)]
theorem from_end (l : List UInt8) (p : Nat) (h : l.drop (p + blanksN (l.drop p)) = []) : from_ l p = [⟨1, [], p + blanksN (l.drop p), 0⟩] :=
  items_end _ _ _ (by rw [List.drop_drop]; exact h)
theorem from_err (l : List UInt8) (p : Nat) (b : UInt8) (r : List UInt8) (h : l.drop (p + blanksN (l.drop p)) = b :: r) (he : (pieceOf (b :: r)).err ≠ 0) :
    from_ l p = [⟨0, [], p + blanksN (l.drop p), (pieceOf (b :: r)).err⟩] :=
  items_err _ _ _ _ _ (by rw [List.drop_drop]; exact h) he

/-- Tokens: all of them, or nothing, the error and its place. -/
def tokensE (xs : List Item) : List Item × Nat × Nat := match xs.find? fun x => x.err != 0 with
  | some x => ([], x.err, x.pos)
  | none => (xs, 0, 0)
end Go.Proofs.YtilgfnafkcjdgaaDoor
