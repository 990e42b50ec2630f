/- What a formula means on a word; the rows of a table tell it. Plain maths. -/
import Derived.Test.YtddgciilcghbaaaDoorEvMath
import Derived.Test.YtddgciilcghbaaaDoorTrRight
namespace Go.Proofs.YtddgciilcghbaaaDoor

/-- The place of a name in a list; has a letter its bit. -/
def nameAt (names : List ByteArray) (s : ByteArray) : Nat := names.findIdx (fun x => x.data.toList == s.data.toList)
def bitB (x n : Nat) : Bool := x.testBit n

/-- What an operator says of a number, by its kids. -/
def satOp (σ : Nat → Nat) (names : List ByteArray) (op : Nat) (name : ByteArray) (g h : Nat → Prop) (i : Nat) : Prop :=
  if op = 1 then True else if op = 2 then False else if op = 3 then bitB (σ i) (nameAt names name) = true
  else if op = 4 then ¬ g i else if op = 5 then g i ∧ h i else if op = 6 then g i ∨ h i else if op = 7 then h i ∨ ¬ g i else if op = 8 then (g i ↔ h i)
  else if op = 9 then g (i + 1) else if op = 10 then untilP (fun _ => True) g i else if op = 11 then ¬ untilP (fun _ => True) (fun j => ¬ g j) i
  else if op = 12 then untilP g h i else if op = 13 then ¬ untilP (fun j => ¬ g j) (fun j => ¬ h j) i
  else if op = 14 then ¬ untilP (fun j => ¬ h j) (fun j => ¬ (g j ∨ h j)) i else if op = 15 then untilP h (fun j => g j ∧ h j) i else False
def kid0 {α : Type} (d : α) (rs : List α) : α := rs.getD 0 d
def kid1 {α : Type} (d : α) (rs : List α) : α := rs.getD (rs.length - 1) d
def sat (σ : Nat → Nat) (names : List ByteArray) : Tr → Nat → Prop := Tr.para (fun t rs => satOp σ names t.op t.name (kid0 (fun _ => False) rs) (kid1 (fun _ => False) rs))
theorem sat_eq (σ : Nat → Nat) (names : List ByteArray) (t : Tr) : sat σ names t = satOp σ names t.op t.name (kid0 (fun _ => False) (t.kids.map (sat σ names))) (kid1 (fun _ => False) (t.kids.map (sat σ names))) := Tr.para_eq _ t

/-- What the program's table of meanings says. -/
def holdOp (op : Nat) (g h l : Bool) : Bool :=
  if op = 4 then !g else if op = 5 then g && h else if op = 6 then g || h else if op = 7 then h || !g else if op = 8 then g == h
  else if op = 10 then g || l else if op = 11 then g && l else if op = 12 then h || (g && l) else if op = 13 then h && (g || l) else if op = 14 then h || (g && l) else if op = 15 then h && (g || l) else false
def foreverOp (op : Nat) : Bool := op == 11 || op == 13 || op == 14
/-- The row of an operator, by those of its kids. -/
def rowOp (q : Wd) (names : List ByteArray) (op : Nat) (name : ByteArray) (g h : Nat → Bool) : Nat → Bool :=
  if op = 1 ∨ op = 2 then backR q false (fun _ _ => op == 1) else if op = 3 then backR q false (fun i _ => bitB (q.at i) (nameAt names name))
  else if op = 9 then backR q false (fun i _ => g (nxt q i)) else backR q (foreverOp op) (fun i l => holdOp op (g i) (h i) l)
def rowT (q : Wd) (names : List ByteArray) : Tr → Nat → Bool := Tr.para (fun t rs => rowOp q names t.op t.name (kid0 (fun _ => false) rs) (kid1 (fun _ => false) rs))
theorem rowT_eq (q : Wd) (names : List ByteArray) (t : Tr) : rowT q names t = rowOp q names t.op t.name (kid0 (fun _ => false) (t.kids.map (rowT q names))) (kid1 (fun _ => false) (t.kids.map (rowT q names))) := Tr.para_eq _ t

theorem mono_const (f : Nat → Bool) : Mono (fun i _ => f i) := fun _ h => h
theorem back_const {q : Wd} (h0 : 0 < q.loop.length) (f : Nat → Bool) (i : Nat) : backR q false (fun i _ => f i) (plc q i) = f (plc q i) :=
  (backR_is h0 (mono_const f) false).fix _ (plc_lt h0 i)
theorem mono_hold (op : Nat) (g h : Nat → Bool) : Mono (fun i l => holdOp op (g i) (h i) l) := by
  intro i
  simp only [holdOp]
  generalize g i = a
  generalize h i = b
  intro hh
  repeat' split at hh
  all_goals (first | (simp_all; done) | (cases a <;> cases b <;> simp_all))
/-- Which Ops have a meaning here. -/
theorem row_sat_op {q : Wd} (h0 : 0 < q.loop.length) (names : List ByteArray) {op : Nat} (h1 : 1 ≤ op) (h2 : op ≤ 15) (name : ByteArray) {g h : Nat → Bool} {G H : Nat → Prop} (hg : ∀ i, g (plc q i) = true ↔ G i) (hh : ∀ i, h (plc q i) = true ↔ H i) (i : Nat) :
    rowOp q names op name g h (plc q i) = true ↔ satOp q.at names op name G H i := by
  unfold rowOp satOp
  by_cases e1 : op = 1
  · subst e1; rw [if_pos (.inl rfl), if_pos rfl, back_const h0]; simp
  by_cases e2 : op = 2
  · subst e2; rw [if_pos (.inr rfl), if_neg (by decide), if_pos rfl, back_const h0]; simp
  rw [if_neg (by omega), if_neg e1, if_neg e2]
  by_cases e3 : op = 3
  · subst e3; rw [if_pos rfl, if_pos rfl, back_const h0 (fun i => bitB (q.at i) (nameAt names name)), at_plc]
  rw [if_neg e3, if_neg e3]
  by_cases e9 : op = 9
  · subst e9
    simp only [if_true, if_neg (show ¬ (9 = 4) by decide), if_neg (show ¬ (9 = 5) by decide), if_neg (show ¬ (9 = 6) by decide), if_neg (show ¬ (9 = 7) by decide), if_neg (show ¬ (9 = 8) by decide)]
    rw [back_const h0 (fun i => g (nxt q i)), ← plc_succ h0, hg]
  rw [if_neg e9, if_neg e9]
  have hD : foreverOp op = false → (backR q (foreverOp op) (fun i l => holdOp op (g i) (h i) l) (plc q i) = true ↔ untilP (fun j => holdOp op (g (plc q j)) (h (plc q j)) true = true) (fun j => holdOp op (g (plc q j)) (h (plc q j)) false = true) i) := fun hf => by
    rw [hf]; exact BackIs.down h0 (mono_hold op g h) (backR_is h0 (mono_hold op g h) false) i
  have hU : foreverOp op = true → (backR q (foreverOp op) (fun i l => holdOp op (g i) (h i) l) (plc q i) = true ↔ ¬ untilP (fun j => ¬ holdOp op (g (plc q j)) (h (plc q j)) false = true) (fun j => ¬ holdOp op (g (plc q j)) (h (plc q j)) true = true) i) := fun hf => by
    rw [hf]; exact BackIs.up h0 (mono_hold op g h) (backR_is h0 (mono_hold op g h) true) i
  have one : ∀ {b a : Nat → Prop}, (∀ j, a j ↔ b j) → (untilP b a i ↔ a i) := fun hab => by
    constructor
    · rintro ⟨k, ha, hb⟩
      rcases Nat.eq_zero_or_pos k with rfl | hk
      · exact ha
      · exact (hab _).2 (hb 0 hk)
    · exact fun ha => ⟨0, ha, fun j hj => by omega⟩
  have oneH : ∀ o, (∀ x y, holdOp o x y false = true ↔ holdOp o x y true = true) → (untilP (fun j => holdOp o (g (plc q j)) (h (plc q j)) true = true) (fun j => holdOp o (g (plc q j)) (h (plc q j)) false = true) i ↔ holdOp o (g (plc q i)) (h (plc q i)) false = true) := fun o ho => one (fun j => ho _ _)
  rcases (by omega : op = 4 ∨ op = 5 ∨ op = 6 ∨ op = 7 ∨ op = 8 ∨ op = 10 ∨ op = 11 ∨ op = 12 ∨ op = 13 ∨ op = 14 ∨ op = 15) with rfl | rfl | rfl | rfl | rfl | rfl | rfl | rfl | rfl | rfl | rfl
  · show _ ↔ ¬ G i
    rw [hD rfl, oneH 4 (fun _ _ => Iff.rfl)]; simp [holdOp, ← hg]
  · show _ ↔ G i ∧ H i
    rw [hD rfl, oneH 5 (fun _ _ => Iff.rfl)]; simp [holdOp, ← hg, ← hh]
  · show _ ↔ G i ∨ H i
    rw [hD rfl, oneH 6 (fun _ _ => Iff.rfl)]; simp [holdOp, ← hg, ← hh]
  · show _ ↔ H i ∨ ¬ G i
    rw [hD rfl, oneH 7 (fun _ _ => Iff.rfl)]; simp [holdOp, ← hg, ← hh]
  · show _ ↔ (G i ↔ H i)
    rw [hD rfl, oneH 8 (fun _ _ => Iff.rfl), ← hg, ← hh]
    cases g (plc q i) <;> cases h (plc q i) <;> simp [holdOp]
  · show _ ↔ untilP (fun _ => True) G i
    rw [hD rfl]
    exact untilP_congr (fun j => by simp [holdOp]) (fun j => by simp [holdOp, ← hg]) i
  · show _ ↔ ¬ untilP (fun _ => True) (fun j => ¬ G j) i
    rw [hU rfl]
    exact not_congr (untilP_congr (fun j => by simp [holdOp]) (fun j => by simp [holdOp, ← hg]) i)
  · show _ ↔ untilP G H i
    rw [hD rfl]
    exact Iff.trans (untilP_congr (b' := fun j => H j ∨ G j) (a' := H) (fun j => by simp [holdOp, ← hg, ← hh]) (fun j => by simp [holdOp, ← hh]) i) (untilP_or G H i)
  · show _ ↔ ¬ untilP (fun j => ¬ G j) (fun j => ¬ H j) i
    rw [hU rfl]
    refine not_congr (Iff.trans (untilP_congr (b' := fun j => ¬ H j ∨ ¬ G j) (a' := fun j => ¬ H j) (fun j => ?_) (fun j => by simp [holdOp, ← hh]) i) (untilP_or (fun j => ¬ G j) (fun j => ¬ H j) i))
    rw [← hg, ← hh]
    cases g (plc q j) <;> cases h (plc q j) <;> simp [holdOp]
  · show _ ↔ ¬ untilP (fun j => ¬ H j) (fun j => ¬ (G j ∨ H j)) i
    rw [hU rfl]
    refine not_congr (untilP_congr (fun j => by simp [holdOp, ← hh]) (fun j => ?_) i)
    rw [← hg, ← hh]
    cases g (plc q j) <;> cases h (plc q j) <;> simp [holdOp]
  · show _ ↔ untilP H (fun j => G j ∧ H j) i
    rw [hD rfl]
    refine untilP_congr (fun j => by simp [holdOp, ← hh]) (fun j => ?_) i
    rw [← hg, ← hh]
    cases g (plc q j) <;> cases h (plc q j) <;> simp [holdOp]

theorem kid0_map {α β : Type} (f : α → β) (a : α) (l : List α) (d : β) : kid0 d ((a :: l).map f) = f a := rfl
/-- A formula whose parts all have a meaning. -/
def Tr.Good (t : Tr) : Prop := t.All (fun x => formedB x = true ∧ x.op ≤ 15)
theorem formed_kids {t : Tr} (h : formedB t = true) : t.kids.length = kidsN t.op ∧ 1 ≤ t.op := by
  simp only [formedB, Bool.and_eq_true, decide_eq_true_eq, beq_iff_eq] at h
  exact ⟨h.1.2, h.1.1.1⟩
theorem satOp_kids (σ : Nat → Nat) (names : List ByteArray) (op : Nat) (name : ByteArray) {g g' h h' : Nat → Prop} (hg : ∀ i, g i ↔ g' i) (hh : ∀ i, h i ↔ h' i) (i : Nat) : satOp σ names op name g h i ↔ satOp σ names op name g' h' i := by
  rw [show g = g' from funext fun i => propext (hg i), show h = h' from funext fun i => propext (hh i)]
theorem satOp_none (σ : Nat → Nat) (names : List ByteArray) {op : Nat} (ho : op = 1 ∨ op = 2 ∨ op = 3) (name : ByteArray) (g h g' h' : Nat → Prop) : satOp σ names op name g h = satOp σ names op name g' h' := by
  funext i
  rcases ho with rfl | rfl | rfl <;> simp [satOp]
theorem kidsN_zero {o : Nat} (h1 : 1 ≤ o) (h2 : o ≤ 15) (h : kidsN o = 0) : o = 1 ∨ o = 2 ∨ o = 3 := by
  rcases (by omega : o = 1 ∨ o = 2 ∨ o = 3 ∨ o = 4 ∨ o = 5 ∨ o = 6 ∨ o = 7 ∨ o = 8 ∨ o = 9 ∨ o = 10 ∨ o = 11 ∨ o = 12 ∨ o = 13 ∨ o = 14 ∨ o = 15) with rfl | rfl | rfl | rfl | rfl | rfl | rfl | rfl | rfl | rfl | rfl | rfl | rfl | rfl | rfl <;> first | decide | exact absurd h (by decide)
/-- THE ROWS TELL WHAT THE FORMULA MEANS. -/
theorem row_sat {q : Wd} (h0 : 0 < q.loop.length) (names : List ByteArray) (t : Tr) : t.Good → ∀ i, rowT q names t (plc q i) = true ↔ sat q.at names t i := by
  induction t using Tr.ind with
  | h t ih =>
    intro hG i
    obtain ⟨⟨hf, ho⟩, hk⟩ := (Tr.all_eq t).1 hG
    obtain ⟨hl, h1⟩ := formed_kids hf
    rw [rowT_eq, sat_eq]
    rcases Nat.eq_zero_or_pos t.kids.length with h | h
    · have hn := kidsN_zero h1 ho (hl.symm.trans h)
      rw [row_sat_op h0 names h1 ho t.name (G := fun i => kid0 (fun _ => false) (t.kids.map (rowT q names)) (plc q i) = true) (H := fun i => kid1 (fun _ => false) (t.kids.map (rowT q names)) (plc q i) = true) (fun i => Iff.rfl) (fun i => Iff.rfl) i]
      rw [satOp_none q.at names hn t.name _ _ (kid0 (fun _ => False) (t.kids.map (sat q.at names))) (kid1 (fun _ => False) (t.kids.map (sat q.at names)))]
    · refine row_sat_op h0 names h1 ho t.name (fun i => ?_) (fun i => ?_) i
      · unfold kid0
        rw [List.getD_eq_getElem?_getD, List.getD_eq_getElem?_getD, List.getElem?_eq_getElem (by simpa using h), List.getElem?_eq_getElem (by simpa using h)]
        simp only [List.getElem_map, Option.getD_some]
        exact ih _ (List.getElem_mem _) (hk _ (List.getElem_mem _)) i
      · unfold kid1
        rw [List.getD_eq_getElem?_getD, List.getD_eq_getElem?_getD, List.getElem?_eq_getElem (by simp; omega), List.getElem?_eq_getElem (by simp; omega)]
        simp only [List.getElem_map, Option.getD_some, List.length_map]
        exact ih _ (List.getElem_mem _) (hk _ (List.getElem_mem _)) i
end Go.Proofs.YtddgciilcghbaaaDoor
