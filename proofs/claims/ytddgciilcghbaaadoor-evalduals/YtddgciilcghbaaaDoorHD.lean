/- EvalDuals' pairs: both of a pair mean the same. Plain maths. -/
import Derived.Test.YtddgciilcghbaaaDoorEvStp
import Derived.Test.YtddgciilcghbaaaDoorEvDualO
import Derived.Test.YtddgciilcghbaaaDoorEvSteps
namespace Go.Proofs.YtddgciilcghbaaaDoor
open Go.RowKit Go.Shelf

def o1 (o : Nat) (t : Tr) : Tr := ⟨o, b0, [t]⟩
def o2 (o : Nat) (t u : Tr) : Tr := ⟨o, b0, [t, u]⟩
def oYes : Tr := ⟨1, b0, []⟩
def oNo : Tr := ⟨2, b0, []⟩
/-- The law's list, by pairs. -/
def duals (f g : Tr) : List (Tr × Tr) := [
  (o1 10 f, o2 12 oYes f), (o1 11 f, o2 13 oNo f), (o2 14 f g, o2 13 g (o2 6 f g)), (o2 15 f g, o2 12 g (o2 5 f g)),
  (o1 4 (o2 12 f g), o2 13 (o1 4 f) (o1 4 g)), (o1 4 (o2 13 f g), o2 12 (o1 4 f) (o1 4 g)), (o1 4 (o2 14 f g), o2 15 (o1 4 f) (o1 4 g)),
  (o1 4 (o1 10 f), o1 11 (o1 4 f)), (o1 4 (o1 9 f), o1 9 (o1 4 f)), (o2 7 f g, o2 6 (o1 4 f) g), (o2 8 f g, o1 4 (o2 8 (o1 4 f) g)),
  (o1 9 (o2 12 f g), o2 12 (o1 9 f) (o1 9 g)), (o1 9 (o2 15 f g), o2 15 (o1 9 f) (o1 9 g)), (o1 9 (o1 11 f), o1 11 (o1 9 f))]
theorem none_all {q : Tr → Prop} {o : Nat} {s : ByteArray} (h : q ⟨o, s, []⟩) : (⟨o, s, []⟩ : Tr).All q := (Tr.all_eq _).2 ⟨h, fun k hk => by cases hk⟩
theorem until_up (b a : Nat → Prop) (i : Nat) : untilP b a (i + 1) ↔ untilP (fun j => b (j + 1)) (fun j => a (j + 1)) i := by
  constructor
  · rintro ⟨k, ha, hb⟩
    refine ⟨k, ?_, fun j hj => ?_⟩
    · have : i + 1 + k = i + k + 1 := by omega
      rw [this] at ha; exact ha
    · have h := hb j hj
      have : i + 1 + j = i + j + 1 := by omega
      rw [this] at h; exact h
  · rintro ⟨k, ha, hb⟩
    refine ⟨k, ?_, fun j hj => ?_⟩
    · have : i + 1 + k = i + k + 1 := by omega
      rw [this]; exact ha
    · have h := hb j hj
      have : i + 1 + j = i + j + 1 := by omega
      rw [this]; exact h
theorem duals_sat (σ : Nat → Nat) (xs : List ByteArray) (f g : Tr) : ∀ p ∈ duals f g, ∀ i, sat σ xs p.1 i ↔ sat σ xs p.2 i := by
  have h1 : ∀ o t, sat σ xs (o1 o t) = satOp σ xs o b0 (sat σ xs t) (sat σ xs t) := fun o t => sat_one σ xs o b0 t
  have h2 : ∀ o t u, sat σ xs (o2 o t u) = satOp σ xs o b0 (sat σ xs t) (sat σ xs u) := fun o t u => sat_two σ xs o b0 t u
  have hy : ∀ j, sat σ xs oYes j ↔ True := fun j => by rw [sat_eq]; exact Iff.rfl
  have hn : ∀ j, sat σ xs oNo j ↔ False := fun j => by rw [sat_eq]; exact Iff.rfl
  have e4 : ∀ (a b : Nat → Prop) j, satOp σ xs 4 b0 a b j = ¬ a j := fun _ _ _ => rfl
  have e5 : ∀ (a b : Nat → Prop) j, satOp σ xs 5 b0 a b j = (a j ∧ b j) := fun _ _ _ => rfl
  have e6 : ∀ (a b : Nat → Prop) j, satOp σ xs 6 b0 a b j = (a j ∨ b j) := fun _ _ _ => rfl
  have e7 : ∀ (a b : Nat → Prop) j, satOp σ xs 7 b0 a b j = (b j ∨ ¬ a j) := fun _ _ _ => rfl
  have e8 : ∀ (a b : Nat → Prop) j, satOp σ xs 8 b0 a b j = (a j ↔ b j) := fun _ _ _ => rfl
  have e9 : ∀ (a b : Nat → Prop) j, satOp σ xs 9 b0 a b j = a (j + 1) := fun _ _ _ => rfl
  have e10 : ∀ (a b : Nat → Prop) j, satOp σ xs 10 b0 a b j = untilP (fun _ => True) a j := fun _ _ _ => rfl
  have e11 : ∀ (a b : Nat → Prop) j, satOp σ xs 11 b0 a b j = ¬ untilP (fun _ => True) (fun j => ¬ a j) j := fun _ _ _ => rfl
  have e12 : ∀ (a b : Nat → Prop) j, satOp σ xs 12 b0 a b j = untilP a b j := fun _ _ _ => rfl
  have e13 : ∀ (a b : Nat → Prop) j, satOp σ xs 13 b0 a b j = ¬ untilP (fun j => ¬ a j) (fun j => ¬ b j) j := fun _ _ _ => rfl
  have e14 : ∀ (a b : Nat → Prop) j, satOp σ xs 14 b0 a b j = ¬ untilP (fun j => ¬ b j) (fun j => ¬ (a j ∨ b j)) j := fun _ _ _ => rfl
  have e15 : ∀ (a b : Nat → Prop) j, satOp σ xs 15 b0 a b j = untilP b (fun j => a j ∧ b j) j := fun _ _ _ => rfl
  intro p hp i
  unfold duals at hp
  simp only [List.mem_cons, List.not_mem_nil, or_false] at hp
  rcases hp with rfl | rfl | rfl | rfl | rfl | rfl | rfl | rfl | rfl | rfl | rfl | rfl | rfl | rfl
  · simp only [h1, h2, e10, e12]
    exact untilP_congr (fun j => (hy j).symm) (fun _ => Iff.rfl) i
  · simp only [h1, h2, e11, e13]
    exact not_congr (untilP_congr (fun j => by simp [hn]) (fun _ => Iff.rfl) i)
  · simp only [h2, e13, e14, e6]
  · simp only [h2, e12, e15]
    exact untilP_congr (fun _ => Iff.rfl) (fun j => by rw [e5]) i
  · simp only [h1, h2, e4, e12, e13, Classical.not_not]
  · simp only [h1, h2, e4, e12, e13, Classical.not_not]
    exact untilP_congr (fun j => by rw [e4]) (fun j => by rw [e4]) i
  · simp only [h1, h2, e4, e14, e15, Classical.not_not]
    exact untilP_congr (fun _ => Iff.rfl) (fun j => by simp) i
  · simp only [h1, e4, e10, e11, Classical.not_not]
  · simp only [h1, e4, e9]
  · simp only [h1, h2, e4, e6, e7]
    exact Or.comm
  · simp only [h1, h2, e4, e8]
    by_cases hf : sat σ xs f i <;> by_cases hg : sat σ xs g i <;> simp [hf, hg]
  · simp only [h1, h2, e9, e12]
    rw [until_up]
    exact untilP_congr (fun j => by rw [e9]) (fun j => by rw [e9]) i
  · simp only [h1, h2, e9, e15]
    rw [until_up]
    exact untilP_congr (fun j => by rw [e9]) (fun _ => Iff.rfl) i
  · simp only [h1, e9, e11]
    rw [until_up]
theorem duals_all {P : Tr → Prop} {f g : Tr} (hf : P f) (hg : P g) (hy : P oYes) (hn : P oNo) (h1 : ∀ o t, (o = 4 ∨ o = 9 ∨ o = 10 ∨ o = 11) → P t → P (o1 o t)) (h2 : ∀ o t u, (o = 5 ∨ o = 6 ∨ o = 7 ∨ o = 8 ∨ o = 12 ∨ o = 13 ∨ o = 14 ∨ o = 15) → P t → P u → P (o2 o t u)) : ∀ p ∈ duals f g, P p.1 ∧ P p.2 := by
  intro p hp
  unfold duals at hp
  simp only [List.mem_cons, List.not_mem_nil, or_false] at hp
  rcases hp with rfl | rfl | rfl | rfl | rfl | rfl | rfl | rfl | rfl | rfl | rfl | rfl | rfl | rfl <;> constructor <;> repeat (first | exact hf | exact hg | exact hy | exact hn | refine h1 _ _ (by omega) ?_ | refine h2 _ _ _ (by omega) ?_ ?_)
theorem duals_alike {f g : Tr} {xs : List ByteArray} {q : Wd} (hf : askB f xs q = true) (hg : askB g xs q = true) : ∀ p ∈ duals f g, Alike xs q p.1 p.2 := by
  obtain ⟨f1, f2, hl, hc, _⟩ := ask_along hf
  obtain ⟨g1, g2, _⟩ := ask_along hg
  have G := duals_all (P := fun t => t.Good ∧ t.Named xs) ⟨f1, f2⟩ ⟨g1, g2⟩ ⟨none_all ⟨formed_of (by decide) (by decide) (by decide) rfl, by decide⟩, none_all (fun e => absurd e (by decide))⟩ ⟨none_all ⟨formed_of (by decide) (by decide) (by decide) rfl, by decide⟩, none_all (fun e => absurd e (by decide))⟩
    (fun o t ho h => ⟨good_one (by omega) (by omega) (by omega) (by rcases ho with rfl | rfl | rfl | rfl <;> decide) h.1, named_one (by omega) h.2⟩)
    (fun o t u ho h k => ⟨good_two (by omega) (by omega) (by omega) (by rcases ho with rfl | rfl | rfl | rfl | rfl | rfl | rfl | rfl <;> decide) h.1 k.1, named_two (by omega) h.2 k.2⟩)
  exact fun p hp => alike_of (G p hp).1.1 (G p hp).2.1 (G p hp).1.2 (G p hp).2.2 hl hc (duals_sat q.at xs f g p hp)
theorem duals_fine {f g : Tr} (hf : f.Fine) (hg : g.Fine) : ∀ p ∈ duals f g, p.1.Fine ∧ p.2.Fine :=
  duals_all (P := Tr.Fine) hf hg (none_all ⟨by decide, max_small (by decide)⟩) (none_all ⟨by decide, max_small (by decide)⟩) (fun o t ho h => fine_one (by omega) h) (fun o t u ho h k => fine_two (by omega) h k)
theorem duals_size (f g : Tr) (hf : f.size ≤ 65536) (hg : g.size ≤ 65536) : ∀ p ∈ duals f g, p.1.size ≤ 1000000 ∧ p.2.size ≤ 1000000 := by
  have hy : oYes.size = 1 := by unfold oYes; rw [Tr.size_eq]; rfl
  have hn : oNo.size = 1 := by unfold oNo; rw [Tr.size_eq]; rfl
  have h1 : ∀ o t, (o1 o t).size = 1 + t.size := fun o t => (s_one o b0 t).1
  have h2 : ∀ o t u, (o2 o t u).size = 1 + (t.size + u.size) := fun o t u => (s_two o b0 t u).1
  intro p hp
  unfold duals at hp
  simp only [List.mem_cons, List.not_mem_nil, or_false] at hp
  rcases hp with rfl | rfl | rfl | rfl | rfl | rfl | rfl | rfl | rfl | rfl | rfl | rfl | rfl | rfl <;> simp only [h1, h2, hy, hn] <;> omega
end Go.Proofs.YtddgciilcghbaaaDoor

/- EvalDuals' list in memory. -/
namespace Go.Proofs.YtddgciilcghbaaaDoor
open Go.RowKit Go.Shelf
set_option maxRecDepth 20000

theorem isF_one {W : World} {b o : Nat} {t : Tr} {kv : Value} (hb : W.heap[b]? = some (oneO (t.op : Nat) t.name kv)) (h : IsF W t kv) : IsF W (o1 o t) (sl b 1) := (isN_one (n := 0) hb (isN0 h) (Nat.zero_le _)).isF
theorem isF_two {W : World} {b o : Nat} {t u : Tr} {kv lv : Value} (hb : W.heap[b]? = some (twoO (t.op : Nat) t.name kv (u.op : Nat) u.name lv)) (h : IsF W t kv) (k : IsF W u lv) : IsF W (o2 o t u) (sl b 2) := (isN_two (n := 0) hb (isN0 h) (isN0 k) (Nat.zero_le _)).isF
/-- The blocks of all formulas of the list, newest first. -/
def DualHeap (W : World) (f g : Tr) (fv gv : Value) (bx bz c0 c1 c2 c3 c4 c5 c6 c7 c8 c9 c10 c11 c12 c13 c14 c15 c16 c17 c18 c19 c20 c21 c22 c23 c24 c25 c26 c27 c28 c29 c30 c31 c32 c33 c34 c35 c36 c37 c38 c39 c40 c41 c42 c43 : Nat) : Prop := W.heap[c43]? = some (oneO 9 ⟨#[]⟩ (sl c42 1)) ∧ W.heap[c42]? = some (oneO (f.op : Nat) f.name fv) ∧ W.heap[c41]? = some (oneO 11 ⟨#[]⟩ (sl c40 1)) ∧ W.heap[c40]? = some (oneO (f.op : Nat) f.name fv) ∧ W.heap[c39]? = some (twoO 9 ⟨#[]⟩ (sl c37 1) 9 ⟨#[]⟩ (sl c38 1)) ∧ W.heap[c38]? = some (oneO (g.op : Nat) g.name gv) ∧ W.heap[c37]? = some (oneO (f.op : Nat) f.name fv) ∧ W.heap[c36]? = some (oneO 15 ⟨#[]⟩ (sl c35 2)) ∧ W.heap[c35]? = some (twoO (f.op : Nat) f.name fv (g.op : Nat) g.name gv) ∧ W.heap[c34]? = some (twoO 9 ⟨#[]⟩ (sl c32 1) 9 ⟨#[]⟩ (sl c33 1)) ∧ W.heap[c33]? = some (oneO (g.op : Nat) g.name gv) ∧ W.heap[c32]? = some (oneO (f.op : Nat) f.name fv) ∧ W.heap[c31]? = some (oneO 12 ⟨#[]⟩ (sl c30 2)) ∧ W.heap[c30]? = some (twoO (f.op : Nat) f.name fv (g.op : Nat) g.name gv) ∧ W.heap[c29]? = some (oneO 8 ⟨#[]⟩ (sl c28 2)) ∧ W.heap[c28]? = some (twoO 4 ⟨#[]⟩ (sl bx 1) (g.op : Nat) g.name gv) ∧ W.heap[c27]? = some (twoO (f.op : Nat) f.name fv (g.op : Nat) g.name gv) ∧ W.heap[c26]? = some (twoO 4 ⟨#[]⟩ (sl bx 1) (g.op : Nat) g.name gv) ∧ W.heap[c25]? = some (twoO (f.op : Nat) f.name fv (g.op : Nat) g.name gv) ∧ W.heap[c24]? = some (oneO 4 ⟨#[]⟩ (sl bx 1)) ∧ W.heap[c23]? = some (oneO 9 ⟨#[]⟩ (sl c22 1)) ∧ W.heap[c22]? = some (oneO (f.op : Nat) f.name fv) ∧ W.heap[c21]? = some (oneO 4 ⟨#[]⟩ (sl bx 1)) ∧ W.heap[c20]? = some (oneO 10 ⟨#[]⟩ (sl c19 1)) ∧ W.heap[c19]? = some (oneO (f.op : Nat) f.name fv) ∧ W.heap[c18]? = some (twoO 4 ⟨#[]⟩ (sl bx 1) 4 ⟨#[]⟩ (sl bz 1)) ∧ W.heap[c17]? = some (oneO 14 ⟨#[]⟩ (sl c16 2)) ∧ W.heap[c16]? = some (twoO (f.op : Nat) f.name fv (g.op : Nat) g.name gv) ∧ W.heap[c15]? = some (twoO 4 ⟨#[]⟩ (sl bx 1) 4 ⟨#[]⟩ (sl bz 1)) ∧ W.heap[c14]? = some (oneO 13 ⟨#[]⟩ (sl c13 2)) ∧ W.heap[c13]? = some (twoO (f.op : Nat) f.name fv (g.op : Nat) g.name gv) ∧ W.heap[c12]? = some (twoO 4 ⟨#[]⟩ (sl bx 1) 4 ⟨#[]⟩ (sl bz 1)) ∧ W.heap[c11]? = some (oneO 12 ⟨#[]⟩ (sl c10 2)) ∧ W.heap[c10]? = some (twoO (f.op : Nat) f.name fv (g.op : Nat) g.name gv) ∧ W.heap[c9]? = some (twoO (g.op : Nat) g.name gv 5 ⟨#[]⟩ (sl c8 2)) ∧ W.heap[c8]? = some (twoO (f.op : Nat) f.name fv (g.op : Nat) g.name gv) ∧ W.heap[c7]? = some (twoO (f.op : Nat) f.name fv (g.op : Nat) g.name gv) ∧ W.heap[c6]? = some (twoO (g.op : Nat) g.name gv 6 ⟨#[]⟩ (sl c5 2)) ∧ W.heap[c5]? = some (twoO (f.op : Nat) f.name fv (g.op : Nat) g.name gv) ∧ W.heap[c4]? = some (twoO (f.op : Nat) f.name fv (g.op : Nat) g.name gv) ∧ W.heap[c3]? = some (twoO 2 ⟨#[]⟩ (.slice none 0 0) (f.op : Nat) f.name fv) ∧ W.heap[c2]? = some (oneO (f.op : Nat) f.name fv) ∧ W.heap[c1]? = some (twoO 1 ⟨#[]⟩ (.slice none 0 0) (f.op : Nat) f.name fv) ∧ W.heap[c0]? = some (oneO (f.op : Nat) f.name fv) ∧ True
/-- The list. -/
def DualCells (c0 c1 c2 c3 c4 c6 c7 c9 c11 c12 c14 c15 c17 c18 c20 c21 c23 c24 c25 c26 c27 c29 c31 c34 c36 c39 c41 c43 : Nat) : Obj := .cells #[.int .u8 10, .string ⟨#[]⟩, .slice (some ⟨c0, 0, none⟩) 1 1, .int .u8 12, .string ⟨#[]⟩, .slice (some ⟨c1, 0, none⟩) 2 2, .int .u8 11, .string ⟨#[]⟩, .slice (some ⟨c2, 0, none⟩) 1 1, .int .u8 13, .string ⟨#[]⟩, .slice (some ⟨c3, 0, none⟩) 2 2, .int .u8 14, .string ⟨#[]⟩, .slice (some ⟨c4, 0, none⟩) 2 2, .int .u8 13, .string ⟨#[]⟩, .slice (some ⟨c6, 0, none⟩) 2 2, .int .u8 15, .string ⟨#[]⟩, .slice (some ⟨c7, 0, none⟩) 2 2, .int .u8 12, .string ⟨#[]⟩, .slice (some ⟨c9, 0, none⟩) 2 2, .int .u8 4, .string ⟨#[]⟩, .slice (some ⟨c11, 0, none⟩) 1 1, .int .u8 13, .string ⟨#[]⟩, .slice (some ⟨c12, 0, none⟩) 2 2, .int .u8 4, .string ⟨#[]⟩, .slice (some ⟨c14, 0, none⟩) 1 1, .int .u8 12, .string ⟨#[]⟩, .slice (some ⟨c15, 0, none⟩) 2 2, .int .u8 4, .string ⟨#[]⟩, .slice (some ⟨c17, 0, none⟩) 1 1, .int .u8 15, .string ⟨#[]⟩, .slice (some ⟨c18, 0, none⟩) 2 2, .int .u8 4, .string ⟨#[]⟩, .slice (some ⟨c20, 0, none⟩) 1 1, .int .u8 11, .string ⟨#[]⟩, .slice (some ⟨c21, 0, none⟩) 1 1, .int .u8 4, .string ⟨#[]⟩, .slice (some ⟨c23, 0, none⟩) 1 1, .int .u8 9, .string ⟨#[]⟩, .slice (some ⟨c24, 0, none⟩) 1 1, .int .u8 7, .string ⟨#[]⟩, .slice (some ⟨c25, 0, none⟩) 2 2, .int .u8 6, .string ⟨#[]⟩, .slice (some ⟨c26, 0, none⟩) 2 2, .int .u8 8, .string ⟨#[]⟩, .slice (some ⟨c27, 0, none⟩) 2 2, .int .u8 4, .string ⟨#[]⟩, .slice (some ⟨c29, 0, none⟩) 1 1, .int .u8 9, .string ⟨#[]⟩, .slice (some ⟨c31, 0, none⟩) 1 1, .int .u8 12, .string ⟨#[]⟩, .slice (some ⟨c34, 0, none⟩) 2 2, .int .u8 9, .string ⟨#[]⟩, .slice (some ⟨c36, 0, none⟩) 1 1, .int .u8 15, .string ⟨#[]⟩, .slice (some ⟨c39, 0, none⟩) 2 2, .int .u8 9, .string ⟨#[]⟩, .slice (some ⟨c41, 0, none⟩) 1 1, .int .u8 11, .string ⟨#[]⟩, .slice (some ⟨c43, 0, none⟩) 1 1] 25 (0, 0)
/-- A pair of the list at its place. -/
def DualRow (W : World) (lb : Nat) (f g : Tr) : Prop := ∀ j, j < 14 → ∃ (t u : Tr) (b c n m : Nat), (t, u) ∈ duals f g ∧ (W.cell? ⟨lb, 6 * j, none⟩ = some (.int .u8 (t.op : Nat)) ∧ W.cell? ⟨lb, 6 * j + 1, none⟩ = some (.string t.name) ∧ W.cell? ⟨lb, 6 * j + 2, none⟩ = some (sl b n) ∧ W.cell? ⟨lb, 6 * j + 3, none⟩ = some (.int .u8 (u.op : Nat)) ∧ W.cell? ⟨lb, 6 * j + 4, none⟩ = some (.string u.name) ∧ W.cell? ⟨lb, 6 * j + 5, none⟩ = some (sl c m)) ∧ t.kids.length = n ∧ u.kids.length = m ∧ IsF W t (sl b n) ∧ IsF W u (sl c m)
theorem DualRow.kept {W W' : World} {lb : Nat} {f g : Tr} (h : DualRow W lb f g) (k : Kept [] W W') : DualRow W' lb f g := fun j hj => by
  obtain ⟨t, u, b, c, n, m, h1, ⟨h2, h3, h4, h5, h6, h7⟩, h8, h9, ha, hb⟩ := h j hj
  exact ⟨t, u, b, c, n, m, h1, ⟨cell_kept0 k h2, cell_kept0 k h3, cell_kept0 k h4, cell_kept0 k h5, cell_kept0 k h6, cell_kept0 k h7⟩, h8, h9, ha.kept k, hb.kept k⟩
set_option maxHeartbeats 1000000 in
theorem dual_row {W : World} {f g : Tr} {fv gv : Value} {lb bx bz c0 c1 c2 c3 c4 c5 c6 c7 c8 c9 c10 c11 c12 c13 c14 c15 c16 c17 c18 c19 c20 c21 c22 c23 c24 c25 c26 c27 c28 c29 c30 c31 c32 c33 c34 c35 c36 c37 c38 c39 c40 c41 c42 c43 : Nat} (hrow : W.heap[lb]? = some (DualCells c0 c1 c2 c3 c4 c6 c7 c9 c11 c12 c14 c15 c17 c18 c20 c21 c23 c24 c25 c26 c27 c29 c31 c34 c36 c39 c41 c43)) (hf : IsF W f fv) (hg : IsF W g gv) (hbx : W.heap[bx]? = some (oneO (f.op : Nat) f.name fv)) (hbz : W.heap[bz]? = some (oneO (g.op : Nat) g.name gv)) (hH : DualHeap W f g fv gv bx bz c0 c1 c2 c3 c4 c5 c6 c7 c8 c9 c10 c11 c12 c13 c14 c15 c16 c17 c18 c19 c20 c21 c22 c23 c24 c25 c26 c27 c28 c29 c30 c31 c32 c33 c34 c35 c36 c37 c38 c39 c40 c41 c42 c43) : DualRow W lb f g := by
  have hY : IsF W oYes (.slice none 0 0) := IsT.isF (X := fun _ => True) (IsT.leaf _ _ rfl _ _)
  have hN : IsF W oNo (.slice none 0 0) := IsT.isF (X := fun _ => True) (IsT.leaf _ _ rfl _ _)
  have hx : IsF W (o1 4 f) (sl bx 1) := isF_one hbx hf
  have hz : IsF W (o1 4 g) (sl bz 1) := isF_one hbz hg
  obtain ⟨g43, g42, g41, g40, g39, g38, g37, g36, g35, g34, g33, g32, g31, g30, g29, g28, g27, g26, g25, g24, g23, g22, g21, g20, g19, g18, g17, g16, g15, g14, g13, g12, g11, g10, g9, g8, g7, g6, g5, g4, g3, g2, g1, g0, _⟩ := hH
  have i0 : IsF W (o1 10 f) (sl c0 1) := isF_one (t := f) g0 hf
  have i1 : IsF W (o2 12 oYes f) (sl c1 2) := isF_two (t := oYes) (u := f) g1 hY hf
  have i2 : IsF W (o1 11 f) (sl c2 1) := isF_one (t := f) g2 hf
  have i3 : IsF W (o2 13 oNo f) (sl c3 2) := isF_two (t := oNo) (u := f) g3 hN hf
  have i4 : IsF W (o2 14 f g) (sl c4 2) := isF_two (t := f) (u := g) g4 hf hg
  have i5 : IsF W (o2 6 f g) (sl c5 2) := isF_two (t := f) (u := g) g5 hf hg
  have i6 : IsF W (o2 13 g (o2 6 f g)) (sl c6 2) := isF_two (t := g) (u := (o2 6 f g)) g6 hg i5
  have i7 : IsF W (o2 15 f g) (sl c7 2) := isF_two (t := f) (u := g) g7 hf hg
  have i8 : IsF W (o2 5 f g) (sl c8 2) := isF_two (t := f) (u := g) g8 hf hg
  have i9 : IsF W (o2 12 g (o2 5 f g)) (sl c9 2) := isF_two (t := g) (u := (o2 5 f g)) g9 hg i8
  have i10 : IsF W (o2 12 f g) (sl c10 2) := isF_two (t := f) (u := g) g10 hf hg
  have i11 : IsF W (o1 4 (o2 12 f g)) (sl c11 1) := isF_one (t := (o2 12 f g)) g11 i10
  have i12 : IsF W (o2 13 (o1 4 f) (o1 4 g)) (sl c12 2) := isF_two (t := (o1 4 f)) (u := (o1 4 g)) g12 hx hz
  have i13 : IsF W (o2 13 f g) (sl c13 2) := isF_two (t := f) (u := g) g13 hf hg
  have i14 : IsF W (o1 4 (o2 13 f g)) (sl c14 1) := isF_one (t := (o2 13 f g)) g14 i13
  have i15 : IsF W (o2 12 (o1 4 f) (o1 4 g)) (sl c15 2) := isF_two (t := (o1 4 f)) (u := (o1 4 g)) g15 hx hz
  have i16 : IsF W (o2 14 f g) (sl c16 2) := isF_two (t := f) (u := g) g16 hf hg
  have i17 : IsF W (o1 4 (o2 14 f g)) (sl c17 1) := isF_one (t := (o2 14 f g)) g17 i16
  have i18 : IsF W (o2 15 (o1 4 f) (o1 4 g)) (sl c18 2) := isF_two (t := (o1 4 f)) (u := (o1 4 g)) g18 hx hz
  have i19 : IsF W (o1 10 f) (sl c19 1) := isF_one (t := f) g19 hf
  have i20 : IsF W (o1 4 (o1 10 f)) (sl c20 1) := isF_one (t := (o1 10 f)) g20 i19
  have i21 : IsF W (o1 11 (o1 4 f)) (sl c21 1) := isF_one (t := (o1 4 f)) g21 hx
  have i22 : IsF W (o1 9 f) (sl c22 1) := isF_one (t := f) g22 hf
  have i23 : IsF W (o1 4 (o1 9 f)) (sl c23 1) := isF_one (t := (o1 9 f)) g23 i22
  have i24 : IsF W (o1 9 (o1 4 f)) (sl c24 1) := isF_one (t := (o1 4 f)) g24 hx
  have i25 : IsF W (o2 7 f g) (sl c25 2) := isF_two (t := f) (u := g) g25 hf hg
  have i26 : IsF W (o2 6 (o1 4 f) g) (sl c26 2) := isF_two (t := (o1 4 f)) (u := g) g26 hx hg
  have i27 : IsF W (o2 8 f g) (sl c27 2) := isF_two (t := f) (u := g) g27 hf hg
  have i28 : IsF W (o2 8 (o1 4 f) g) (sl c28 2) := isF_two (t := (o1 4 f)) (u := g) g28 hx hg
  have i29 : IsF W (o1 4 (o2 8 (o1 4 f) g)) (sl c29 1) := isF_one (t := (o2 8 (o1 4 f) g)) g29 i28
  have i30 : IsF W (o2 12 f g) (sl c30 2) := isF_two (t := f) (u := g) g30 hf hg
  have i31 : IsF W (o1 9 (o2 12 f g)) (sl c31 1) := isF_one (t := (o2 12 f g)) g31 i30
  have i32 : IsF W (o1 9 f) (sl c32 1) := isF_one (t := f) g32 hf
  have i33 : IsF W (o1 9 g) (sl c33 1) := isF_one (t := g) g33 hg
  have i34 : IsF W (o2 12 (o1 9 f) (o1 9 g)) (sl c34 2) := isF_two (t := (o1 9 f)) (u := (o1 9 g)) g34 i32 i33
  have i35 : IsF W (o2 15 f g) (sl c35 2) := isF_two (t := f) (u := g) g35 hf hg
  have i36 : IsF W (o1 9 (o2 15 f g)) (sl c36 1) := isF_one (t := (o2 15 f g)) g36 i35
  have i37 : IsF W (o1 9 f) (sl c37 1) := isF_one (t := f) g37 hf
  have i38 : IsF W (o1 9 g) (sl c38 1) := isF_one (t := g) g38 hg
  have i39 : IsF W (o2 15 (o1 9 f) (o1 9 g)) (sl c39 2) := isF_two (t := (o1 9 f)) (u := (o1 9 g)) g39 i37 i38
  have i40 : IsF W (o1 11 f) (sl c40 1) := isF_one (t := f) g40 hf
  have i41 : IsF W (o1 9 (o1 11 f)) (sl c41 1) := isF_one (t := (o1 11 f)) g41 i40
  have i42 : IsF W (o1 9 f) (sl c42 1) := isF_one (t := f) g42 hf
  have i43 : IsF W (o1 11 (o1 9 f)) (sl c43 1) := isF_one (t := (o1 9 f)) g43 i42
  intro j hj
  match j, hj with
  | 0, _ => exact ⟨(o1 10 f), (o2 12 oYes f), c0, c1, 1, 2, List.mem_of_getElem? (l := duals f g) (i := 0) rfl, ⟨(cell_of hrow 0).trans rfl, (cell_of hrow 1).trans rfl, (cell_of hrow 2).trans rfl, (cell_of hrow 3).trans rfl, (cell_of hrow 4).trans rfl, (cell_of hrow 5).trans rfl⟩, rfl, rfl, i0, i1⟩
  | 1, _ => exact ⟨(o1 11 f), (o2 13 oNo f), c2, c3, 1, 2, List.mem_of_getElem? (l := duals f g) (i := 1) rfl, ⟨(cell_of hrow 6).trans rfl, (cell_of hrow 7).trans rfl, (cell_of hrow 8).trans rfl, (cell_of hrow 9).trans rfl, (cell_of hrow 10).trans rfl, (cell_of hrow 11).trans rfl⟩, rfl, rfl, i2, i3⟩
  | 2, _ => exact ⟨(o2 14 f g), (o2 13 g (o2 6 f g)), c4, c6, 2, 2, List.mem_of_getElem? (l := duals f g) (i := 2) rfl, ⟨(cell_of hrow 12).trans rfl, (cell_of hrow 13).trans rfl, (cell_of hrow 14).trans rfl, (cell_of hrow 15).trans rfl, (cell_of hrow 16).trans rfl, (cell_of hrow 17).trans rfl⟩, rfl, rfl, i4, i6⟩
  | 3, _ => exact ⟨(o2 15 f g), (o2 12 g (o2 5 f g)), c7, c9, 2, 2, List.mem_of_getElem? (l := duals f g) (i := 3) rfl, ⟨(cell_of hrow 18).trans rfl, (cell_of hrow 19).trans rfl, (cell_of hrow 20).trans rfl, (cell_of hrow 21).trans rfl, (cell_of hrow 22).trans rfl, (cell_of hrow 23).trans rfl⟩, rfl, rfl, i7, i9⟩
  | 4, _ => exact ⟨(o1 4 (o2 12 f g)), (o2 13 (o1 4 f) (o1 4 g)), c11, c12, 1, 2, List.mem_of_getElem? (l := duals f g) (i := 4) rfl, ⟨(cell_of hrow 24).trans rfl, (cell_of hrow 25).trans rfl, (cell_of hrow 26).trans rfl, (cell_of hrow 27).trans rfl, (cell_of hrow 28).trans rfl, (cell_of hrow 29).trans rfl⟩, rfl, rfl, i11, i12⟩
  | 5, _ => exact ⟨(o1 4 (o2 13 f g)), (o2 12 (o1 4 f) (o1 4 g)), c14, c15, 1, 2, List.mem_of_getElem? (l := duals f g) (i := 5) rfl, ⟨(cell_of hrow 30).trans rfl, (cell_of hrow 31).trans rfl, (cell_of hrow 32).trans rfl, (cell_of hrow 33).trans rfl, (cell_of hrow 34).trans rfl, (cell_of hrow 35).trans rfl⟩, rfl, rfl, i14, i15⟩
  | 6, _ => exact ⟨(o1 4 (o2 14 f g)), (o2 15 (o1 4 f) (o1 4 g)), c17, c18, 1, 2, List.mem_of_getElem? (l := duals f g) (i := 6) rfl, ⟨(cell_of hrow 36).trans rfl, (cell_of hrow 37).trans rfl, (cell_of hrow 38).trans rfl, (cell_of hrow 39).trans rfl, (cell_of hrow 40).trans rfl, (cell_of hrow 41).trans rfl⟩, rfl, rfl, i17, i18⟩
  | 7, _ => exact ⟨(o1 4 (o1 10 f)), (o1 11 (o1 4 f)), c20, c21, 1, 1, List.mem_of_getElem? (l := duals f g) (i := 7) rfl, ⟨(cell_of hrow 42).trans rfl, (cell_of hrow 43).trans rfl, (cell_of hrow 44).trans rfl, (cell_of hrow 45).trans rfl, (cell_of hrow 46).trans rfl, (cell_of hrow 47).trans rfl⟩, rfl, rfl, i20, i21⟩
  | 8, _ => exact ⟨(o1 4 (o1 9 f)), (o1 9 (o1 4 f)), c23, c24, 1, 1, List.mem_of_getElem? (l := duals f g) (i := 8) rfl, ⟨(cell_of hrow 48).trans rfl, (cell_of hrow 49).trans rfl, (cell_of hrow 50).trans rfl, (cell_of hrow 51).trans rfl, (cell_of hrow 52).trans rfl, (cell_of hrow 53).trans rfl⟩, rfl, rfl, i23, i24⟩
  | 9, _ => exact ⟨(o2 7 f g), (o2 6 (o1 4 f) g), c25, c26, 2, 2, List.mem_of_getElem? (l := duals f g) (i := 9) rfl, ⟨(cell_of hrow 54).trans rfl, (cell_of hrow 55).trans rfl, (cell_of hrow 56).trans rfl, (cell_of hrow 57).trans rfl, (cell_of hrow 58).trans rfl, (cell_of hrow 59).trans rfl⟩, rfl, rfl, i25, i26⟩
  | 10, _ => exact ⟨(o2 8 f g), (o1 4 (o2 8 (o1 4 f) g)), c27, c29, 2, 1, List.mem_of_getElem? (l := duals f g) (i := 10) rfl, ⟨(cell_of hrow 60).trans rfl, (cell_of hrow 61).trans rfl, (cell_of hrow 62).trans rfl, (cell_of hrow 63).trans rfl, (cell_of hrow 64).trans rfl, (cell_of hrow 65).trans rfl⟩, rfl, rfl, i27, i29⟩
  | 11, _ => exact ⟨(o1 9 (o2 12 f g)), (o2 12 (o1 9 f) (o1 9 g)), c31, c34, 1, 2, List.mem_of_getElem? (l := duals f g) (i := 11) rfl, ⟨(cell_of hrow 66).trans rfl, (cell_of hrow 67).trans rfl, (cell_of hrow 68).trans rfl, (cell_of hrow 69).trans rfl, (cell_of hrow 70).trans rfl, (cell_of hrow 71).trans rfl⟩, rfl, rfl, i31, i34⟩
  | 12, _ => exact ⟨(o1 9 (o2 15 f g)), (o2 15 (o1 9 f) (o1 9 g)), c36, c39, 1, 2, List.mem_of_getElem? (l := duals f g) (i := 12) rfl, ⟨(cell_of hrow 72).trans rfl, (cell_of hrow 73).trans rfl, (cell_of hrow 74).trans rfl, (cell_of hrow 75).trans rfl, (cell_of hrow 76).trans rfl, (cell_of hrow 77).trans rfl⟩, rfl, rfl, i36, i39⟩
  | 13, _ => exact ⟨(o1 9 (o1 11 f)), (o1 11 (o1 9 f)), c41, c43, 1, 1, List.mem_of_getElem? (l := duals f g) (i := 13) rfl, ⟨(cell_of hrow 78).trans rfl, (cell_of hrow 79).trans rfl, (cell_of hrow 80).trans rfl, (cell_of hrow 81).trans rfl, (cell_of hrow 82).trans rfl, (cell_of hrow 83).trans rfl⟩, rfl, rfl, i41, i43⟩
/-- What stands in memory, newest first. -/
def Facts (W : World) (L : List (Nat × Obj)) : Prop := ∀ p ∈ L, W.heap[p.1]? = some p.2
theorem Facts.nil (W : World) : Facts W [] := fun p hp => by cases hp
theorem Facts.more {W W' : World} {L : List (Nat × Obj)} {b : Nat} {o : Obj} (h : Facts W L) (k : Kept [] W W') (hb : W'.heap[b]? = some o) : Facts W' ((b, o) :: L) := fun p hp => by
  rcases List.mem_cons.1 hp with e | hp
  · rw [e]; exact hb
  · exact k.at (h p hp) (by simp)
theorem Facts.top {W : World} {L : List (Nat × Obj)} {b : Nat} {o : Obj} (h : Facts W ((b, o) :: L)) : W.heap[b]? = some o ∧ Facts W L := ⟨h (b, o) List.mem_cons_self, fun p hp => h p (List.mem_cons_of_mem _ hp)⟩
set_option maxHeartbeats 1000000 in
theorem dual_end {V Wn : World} {f g : Tr} {fv gv : Value} {bx bz c0 c1 c2 c3 c4 c5 c6 c7 c8 c9 c10 c11 c12 c13 c14 c15 c16 c17 c18 c19 c20 c21 c22 c23 c24 c25 c26 c27 c28 c29 c30 c31 c32 c33 c34 c35 c36 c37 c38 c39 c40 c41 c42 c43 : Nat} (k : Kept [] V Wn) (hf : IsF V f fv) (hg : IsF V g gv) (hbx : V.heap[bx]? = some (oneO (f.op : Nat) f.name fv)) (hbz : V.heap[bz]? = some (oneO (g.op : Nat) g.name gv)) (h : Facts Wn [(c43, oneO 9 ⟨#[]⟩ (sl c42 1)), (c42, oneO (f.op : Nat) f.name fv), (c41, oneO 11 ⟨#[]⟩ (sl c40 1)), (c40, oneO (f.op : Nat) f.name fv), (c39, twoO 9 ⟨#[]⟩ (sl c37 1) 9 ⟨#[]⟩ (sl c38 1)), (c38, oneO (g.op : Nat) g.name gv), (c37, oneO (f.op : Nat) f.name fv), (c36, oneO 15 ⟨#[]⟩ (sl c35 2)), (c35, twoO (f.op : Nat) f.name fv (g.op : Nat) g.name gv), (c34, twoO 9 ⟨#[]⟩ (sl c32 1) 9 ⟨#[]⟩ (sl c33 1)), (c33, oneO (g.op : Nat) g.name gv), (c32, oneO (f.op : Nat) f.name fv), (c31, oneO 12 ⟨#[]⟩ (sl c30 2)), (c30, twoO (f.op : Nat) f.name fv (g.op : Nat) g.name gv), (c29, oneO 8 ⟨#[]⟩ (sl c28 2)), (c28, twoO 4 ⟨#[]⟩ (sl bx 1) (g.op : Nat) g.name gv), (c27, twoO (f.op : Nat) f.name fv (g.op : Nat) g.name gv), (c26, twoO 4 ⟨#[]⟩ (sl bx 1) (g.op : Nat) g.name gv), (c25, twoO (f.op : Nat) f.name fv (g.op : Nat) g.name gv), (c24, oneO 4 ⟨#[]⟩ (sl bx 1)), (c23, oneO 9 ⟨#[]⟩ (sl c22 1)), (c22, oneO (f.op : Nat) f.name fv), (c21, oneO 4 ⟨#[]⟩ (sl bx 1)), (c20, oneO 10 ⟨#[]⟩ (sl c19 1)), (c19, oneO (f.op : Nat) f.name fv), (c18, twoO 4 ⟨#[]⟩ (sl bx 1) 4 ⟨#[]⟩ (sl bz 1)), (c17, oneO 14 ⟨#[]⟩ (sl c16 2)), (c16, twoO (f.op : Nat) f.name fv (g.op : Nat) g.name gv), (c15, twoO 4 ⟨#[]⟩ (sl bx 1) 4 ⟨#[]⟩ (sl bz 1)), (c14, oneO 13 ⟨#[]⟩ (sl c13 2)), (c13, twoO (f.op : Nat) f.name fv (g.op : Nat) g.name gv), (c12, twoO 4 ⟨#[]⟩ (sl bx 1) 4 ⟨#[]⟩ (sl bz 1)), (c11, oneO 12 ⟨#[]⟩ (sl c10 2)), (c10, twoO (f.op : Nat) f.name fv (g.op : Nat) g.name gv), (c9, twoO (g.op : Nat) g.name gv 5 ⟨#[]⟩ (sl c8 2)), (c8, twoO (f.op : Nat) f.name fv (g.op : Nat) g.name gv), (c7, twoO (f.op : Nat) f.name fv (g.op : Nat) g.name gv), (c6, twoO (g.op : Nat) g.name gv 6 ⟨#[]⟩ (sl c5 2)), (c5, twoO (f.op : Nat) f.name fv (g.op : Nat) g.name gv), (c4, twoO (f.op : Nat) f.name fv (g.op : Nat) g.name gv), (c3, twoO 2 ⟨#[]⟩ (.slice none 0 0) (f.op : Nat) f.name fv), (c2, oneO (f.op : Nat) f.name fv), (c1, twoO 1 ⟨#[]⟩ (.slice none 0 0) (f.op : Nat) f.name fv), (c0, oneO (f.op : Nat) f.name fv)]) : Kept [] V (Wn.alloc (.cells #[.int .u8 10, .string ⟨#[]⟩, .slice (some ⟨c0, 0, none⟩) 1 1, .int .u8 12, .string ⟨#[]⟩, .slice (some ⟨c1, 0, none⟩) 2 2, .int .u8 11, .string ⟨#[]⟩, .slice (some ⟨c2, 0, none⟩) 1 1, .int .u8 13, .string ⟨#[]⟩, .slice (some ⟨c3, 0, none⟩) 2 2, .int .u8 14, .string ⟨#[]⟩, .slice (some ⟨c4, 0, none⟩) 2 2, .int .u8 13, .string ⟨#[]⟩, .slice (some ⟨c6, 0, none⟩) 2 2, .int .u8 15, .string ⟨#[]⟩, .slice (some ⟨c7, 0, none⟩) 2 2, .int .u8 12, .string ⟨#[]⟩, .slice (some ⟨c9, 0, none⟩) 2 2, .int .u8 4, .string ⟨#[]⟩, .slice (some ⟨c11, 0, none⟩) 1 1, .int .u8 13, .string ⟨#[]⟩, .slice (some ⟨c12, 0, none⟩) 2 2, .int .u8 4, .string ⟨#[]⟩, .slice (some ⟨c14, 0, none⟩) 1 1, .int .u8 12, .string ⟨#[]⟩, .slice (some ⟨c15, 0, none⟩) 2 2, .int .u8 4, .string ⟨#[]⟩, .slice (some ⟨c17, 0, none⟩) 1 1, .int .u8 15, .string ⟨#[]⟩, .slice (some ⟨c18, 0, none⟩) 2 2, .int .u8 4, .string ⟨#[]⟩, .slice (some ⟨c20, 0, none⟩) 1 1, .int .u8 11, .string ⟨#[]⟩, .slice (some ⟨c21, 0, none⟩) 1 1, .int .u8 4, .string ⟨#[]⟩, .slice (some ⟨c23, 0, none⟩) 1 1, .int .u8 9, .string ⟨#[]⟩, .slice (some ⟨c24, 0, none⟩) 1 1, .int .u8 7, .string ⟨#[]⟩, .slice (some ⟨c25, 0, none⟩) 2 2, .int .u8 6, .string ⟨#[]⟩, .slice (some ⟨c26, 0, none⟩) 2 2, .int .u8 8, .string ⟨#[]⟩, .slice (some ⟨c27, 0, none⟩) 2 2, .int .u8 4, .string ⟨#[]⟩, .slice (some ⟨c29, 0, none⟩) 1 1, .int .u8 9, .string ⟨#[]⟩, .slice (some ⟨c31, 0, none⟩) 1 1, .int .u8 12, .string ⟨#[]⟩, .slice (some ⟨c34, 0, none⟩) 2 2, .int .u8 9, .string ⟨#[]⟩, .slice (some ⟨c36, 0, none⟩) 1 1, .int .u8 15, .string ⟨#[]⟩, .slice (some ⟨c39, 0, none⟩) 2 2, .int .u8 9, .string ⟨#[]⟩, .slice (some ⟨c41, 0, none⟩) 1 1, .int .u8 11, .string ⟨#[]⟩, .slice (some ⟨c43, 0, none⟩) 1 1] 25)) ∧ DualRow (Wn.alloc (.cells #[.int .u8 10, .string ⟨#[]⟩, .slice (some ⟨c0, 0, none⟩) 1 1, .int .u8 12, .string ⟨#[]⟩, .slice (some ⟨c1, 0, none⟩) 2 2, .int .u8 11, .string ⟨#[]⟩, .slice (some ⟨c2, 0, none⟩) 1 1, .int .u8 13, .string ⟨#[]⟩, .slice (some ⟨c3, 0, none⟩) 2 2, .int .u8 14, .string ⟨#[]⟩, .slice (some ⟨c4, 0, none⟩) 2 2, .int .u8 13, .string ⟨#[]⟩, .slice (some ⟨c6, 0, none⟩) 2 2, .int .u8 15, .string ⟨#[]⟩, .slice (some ⟨c7, 0, none⟩) 2 2, .int .u8 12, .string ⟨#[]⟩, .slice (some ⟨c9, 0, none⟩) 2 2, .int .u8 4, .string ⟨#[]⟩, .slice (some ⟨c11, 0, none⟩) 1 1, .int .u8 13, .string ⟨#[]⟩, .slice (some ⟨c12, 0, none⟩) 2 2, .int .u8 4, .string ⟨#[]⟩, .slice (some ⟨c14, 0, none⟩) 1 1, .int .u8 12, .string ⟨#[]⟩, .slice (some ⟨c15, 0, none⟩) 2 2, .int .u8 4, .string ⟨#[]⟩, .slice (some ⟨c17, 0, none⟩) 1 1, .int .u8 15, .string ⟨#[]⟩, .slice (some ⟨c18, 0, none⟩) 2 2, .int .u8 4, .string ⟨#[]⟩, .slice (some ⟨c20, 0, none⟩) 1 1, .int .u8 11, .string ⟨#[]⟩, .slice (some ⟨c21, 0, none⟩) 1 1, .int .u8 4, .string ⟨#[]⟩, .slice (some ⟨c23, 0, none⟩) 1 1, .int .u8 9, .string ⟨#[]⟩, .slice (some ⟨c24, 0, none⟩) 1 1, .int .u8 7, .string ⟨#[]⟩, .slice (some ⟨c25, 0, none⟩) 2 2, .int .u8 6, .string ⟨#[]⟩, .slice (some ⟨c26, 0, none⟩) 2 2, .int .u8 8, .string ⟨#[]⟩, .slice (some ⟨c27, 0, none⟩) 2 2, .int .u8 4, .string ⟨#[]⟩, .slice (some ⟨c29, 0, none⟩) 1 1, .int .u8 9, .string ⟨#[]⟩, .slice (some ⟨c31, 0, none⟩) 1 1, .int .u8 12, .string ⟨#[]⟩, .slice (some ⟨c34, 0, none⟩) 2 2, .int .u8 9, .string ⟨#[]⟩, .slice (some ⟨c36, 0, none⟩) 1 1, .int .u8 15, .string ⟨#[]⟩, .slice (some ⟨c39, 0, none⟩) 2 2, .int .u8 9, .string ⟨#[]⟩, .slice (some ⟨c41, 0, none⟩) 1 1, .int .u8 11, .string ⟨#[]⟩, .slice (some ⟨c43, 0, none⟩) 1 1] 25)) Wn.heap.size f g := by
  have k2 : Kept [] Wn (Wn.alloc (.cells #[.int .u8 10, .string ⟨#[]⟩, .slice (some ⟨c0, 0, none⟩) 1 1, .int .u8 12, .string ⟨#[]⟩, .slice (some ⟨c1, 0, none⟩) 2 2, .int .u8 11, .string ⟨#[]⟩, .slice (some ⟨c2, 0, none⟩) 1 1, .int .u8 13, .string ⟨#[]⟩, .slice (some ⟨c3, 0, none⟩) 2 2, .int .u8 14, .string ⟨#[]⟩, .slice (some ⟨c4, 0, none⟩) 2 2, .int .u8 13, .string ⟨#[]⟩, .slice (some ⟨c6, 0, none⟩) 2 2, .int .u8 15, .string ⟨#[]⟩, .slice (some ⟨c7, 0, none⟩) 2 2, .int .u8 12, .string ⟨#[]⟩, .slice (some ⟨c9, 0, none⟩) 2 2, .int .u8 4, .string ⟨#[]⟩, .slice (some ⟨c11, 0, none⟩) 1 1, .int .u8 13, .string ⟨#[]⟩, .slice (some ⟨c12, 0, none⟩) 2 2, .int .u8 4, .string ⟨#[]⟩, .slice (some ⟨c14, 0, none⟩) 1 1, .int .u8 12, .string ⟨#[]⟩, .slice (some ⟨c15, 0, none⟩) 2 2, .int .u8 4, .string ⟨#[]⟩, .slice (some ⟨c17, 0, none⟩) 1 1, .int .u8 15, .string ⟨#[]⟩, .slice (some ⟨c18, 0, none⟩) 2 2, .int .u8 4, .string ⟨#[]⟩, .slice (some ⟨c20, 0, none⟩) 1 1, .int .u8 11, .string ⟨#[]⟩, .slice (some ⟨c21, 0, none⟩) 1 1, .int .u8 4, .string ⟨#[]⟩, .slice (some ⟨c23, 0, none⟩) 1 1, .int .u8 9, .string ⟨#[]⟩, .slice (some ⟨c24, 0, none⟩) 1 1, .int .u8 7, .string ⟨#[]⟩, .slice (some ⟨c25, 0, none⟩) 2 2, .int .u8 6, .string ⟨#[]⟩, .slice (some ⟨c26, 0, none⟩) 2 2, .int .u8 8, .string ⟨#[]⟩, .slice (some ⟨c27, 0, none⟩) 2 2, .int .u8 4, .string ⟨#[]⟩, .slice (some ⟨c29, 0, none⟩) 1 1, .int .u8 9, .string ⟨#[]⟩, .slice (some ⟨c31, 0, none⟩) 1 1, .int .u8 12, .string ⟨#[]⟩, .slice (some ⟨c34, 0, none⟩) 2 2, .int .u8 9, .string ⟨#[]⟩, .slice (some ⟨c36, 0, none⟩) 1 1, .int .u8 15, .string ⟨#[]⟩, .slice (some ⟨c39, 0, none⟩) 2 2, .int .u8 9, .string ⟨#[]⟩, .slice (some ⟨c41, 0, none⟩) 1 1, .int .u8 11, .string ⟨#[]⟩, .slice (some ⟨c43, 0, none⟩) 1 1] 25)) := kA _ _
  have k3 := k.trans k2 (H := []) (by simp) (by simp)
  obtain ⟨g43, h⟩ := h.top
  obtain ⟨g42, h⟩ := h.top
  obtain ⟨g41, h⟩ := h.top
  obtain ⟨g40, h⟩ := h.top
  obtain ⟨g39, h⟩ := h.top
  obtain ⟨g38, h⟩ := h.top
  obtain ⟨g37, h⟩ := h.top
  obtain ⟨g36, h⟩ := h.top
  obtain ⟨g35, h⟩ := h.top
  obtain ⟨g34, h⟩ := h.top
  obtain ⟨g33, h⟩ := h.top
  obtain ⟨g32, h⟩ := h.top
  obtain ⟨g31, h⟩ := h.top
  obtain ⟨g30, h⟩ := h.top
  obtain ⟨g29, h⟩ := h.top
  obtain ⟨g28, h⟩ := h.top
  obtain ⟨g27, h⟩ := h.top
  obtain ⟨g26, h⟩ := h.top
  obtain ⟨g25, h⟩ := h.top
  obtain ⟨g24, h⟩ := h.top
  obtain ⟨g23, h⟩ := h.top
  obtain ⟨g22, h⟩ := h.top
  obtain ⟨g21, h⟩ := h.top
  obtain ⟨g20, h⟩ := h.top
  obtain ⟨g19, h⟩ := h.top
  obtain ⟨g18, h⟩ := h.top
  obtain ⟨g17, h⟩ := h.top
  obtain ⟨g16, h⟩ := h.top
  obtain ⟨g15, h⟩ := h.top
  obtain ⟨g14, h⟩ := h.top
  obtain ⟨g13, h⟩ := h.top
  obtain ⟨g12, h⟩ := h.top
  obtain ⟨g11, h⟩ := h.top
  obtain ⟨g10, h⟩ := h.top
  obtain ⟨g9, h⟩ := h.top
  obtain ⟨g8, h⟩ := h.top
  obtain ⟨g7, h⟩ := h.top
  obtain ⟨g6, h⟩ := h.top
  obtain ⟨g5, h⟩ := h.top
  obtain ⟨g4, h⟩ := h.top
  obtain ⟨g3, h⟩ := h.top
  obtain ⟨g2, h⟩ := h.top
  obtain ⟨g1, h⟩ := h.top
  obtain ⟨g0, h⟩ := h.top
  have hH : DualHeap (Wn.alloc (.cells #[.int .u8 10, .string ⟨#[]⟩, .slice (some ⟨c0, 0, none⟩) 1 1, .int .u8 12, .string ⟨#[]⟩, .slice (some ⟨c1, 0, none⟩) 2 2, .int .u8 11, .string ⟨#[]⟩, .slice (some ⟨c2, 0, none⟩) 1 1, .int .u8 13, .string ⟨#[]⟩, .slice (some ⟨c3, 0, none⟩) 2 2, .int .u8 14, .string ⟨#[]⟩, .slice (some ⟨c4, 0, none⟩) 2 2, .int .u8 13, .string ⟨#[]⟩, .slice (some ⟨c6, 0, none⟩) 2 2, .int .u8 15, .string ⟨#[]⟩, .slice (some ⟨c7, 0, none⟩) 2 2, .int .u8 12, .string ⟨#[]⟩, .slice (some ⟨c9, 0, none⟩) 2 2, .int .u8 4, .string ⟨#[]⟩, .slice (some ⟨c11, 0, none⟩) 1 1, .int .u8 13, .string ⟨#[]⟩, .slice (some ⟨c12, 0, none⟩) 2 2, .int .u8 4, .string ⟨#[]⟩, .slice (some ⟨c14, 0, none⟩) 1 1, .int .u8 12, .string ⟨#[]⟩, .slice (some ⟨c15, 0, none⟩) 2 2, .int .u8 4, .string ⟨#[]⟩, .slice (some ⟨c17, 0, none⟩) 1 1, .int .u8 15, .string ⟨#[]⟩, .slice (some ⟨c18, 0, none⟩) 2 2, .int .u8 4, .string ⟨#[]⟩, .slice (some ⟨c20, 0, none⟩) 1 1, .int .u8 11, .string ⟨#[]⟩, .slice (some ⟨c21, 0, none⟩) 1 1, .int .u8 4, .string ⟨#[]⟩, .slice (some ⟨c23, 0, none⟩) 1 1, .int .u8 9, .string ⟨#[]⟩, .slice (some ⟨c24, 0, none⟩) 1 1, .int .u8 7, .string ⟨#[]⟩, .slice (some ⟨c25, 0, none⟩) 2 2, .int .u8 6, .string ⟨#[]⟩, .slice (some ⟨c26, 0, none⟩) 2 2, .int .u8 8, .string ⟨#[]⟩, .slice (some ⟨c27, 0, none⟩) 2 2, .int .u8 4, .string ⟨#[]⟩, .slice (some ⟨c29, 0, none⟩) 1 1, .int .u8 9, .string ⟨#[]⟩, .slice (some ⟨c31, 0, none⟩) 1 1, .int .u8 12, .string ⟨#[]⟩, .slice (some ⟨c34, 0, none⟩) 2 2, .int .u8 9, .string ⟨#[]⟩, .slice (some ⟨c36, 0, none⟩) 1 1, .int .u8 15, .string ⟨#[]⟩, .slice (some ⟨c39, 0, none⟩) 2 2, .int .u8 9, .string ⟨#[]⟩, .slice (some ⟨c41, 0, none⟩) 1 1, .int .u8 11, .string ⟨#[]⟩, .slice (some ⟨c43, 0, none⟩) 1 1] 25)) f g fv gv bx bz c0 c1 c2 c3 c4 c5 c6 c7 c8 c9 c10 c11 c12 c13 c14 c15 c16 c17 c18 c19 c20 c21 c22 c23 c24 c25 c26 c27 c28 c29 c30 c31 c32 c33 c34 c35 c36 c37 c38 c39 c40 c41 c42 c43 := ⟨k2.at g43 (by simp), k2.at g42 (by simp), k2.at g41 (by simp), k2.at g40 (by simp), k2.at g39 (by simp), k2.at g38 (by simp), k2.at g37 (by simp), k2.at g36 (by simp), k2.at g35 (by simp), k2.at g34 (by simp), k2.at g33 (by simp), k2.at g32 (by simp), k2.at g31 (by simp), k2.at g30 (by simp), k2.at g29 (by simp), k2.at g28 (by simp), k2.at g27 (by simp), k2.at g26 (by simp), k2.at g25 (by simp), k2.at g24 (by simp), k2.at g23 (by simp), k2.at g22 (by simp), k2.at g21 (by simp), k2.at g20 (by simp), k2.at g19 (by simp), k2.at g18 (by simp), k2.at g17 (by simp), k2.at g16 (by simp), k2.at g15 (by simp), k2.at g14 (by simp), k2.at g13 (by simp), k2.at g12 (by simp), k2.at g11 (by simp), k2.at g10 (by simp), k2.at g9 (by simp), k2.at g8 (by simp), k2.at g7 (by simp), k2.at g6 (by simp), k2.at g5 (by simp), k2.at g4 (by simp), k2.at g3 (by simp), k2.at g2 (by simp), k2.at g1 (by simp), k2.at g0 (by simp), trivial⟩
  exact ⟨k3, dual_row (al0 _ _) (hf.kept k3) (hg.kept k3) (k3.at hbx (by simp)) (k3.at hbz (by simp)) hH⟩
end Go.Proofs.YtddgciilcghbaaaDoor

/- EvalDuals' great region, a declaration a stage. -/
namespace Go.Proofs.YtddgciilcghbaaaDoor
open Go.RowKit Go.Shelf
set_option maxRecDepth 100000

theorem evs_six {a : Act} {v0 v1 v2 v3 v4 v5 : Value} {s0 s1 s2 s3 s4 s5 : Nat} (h0 : a.eval (.tmp s0) = v0) (h1 : a.eval (.tmp s1) = v1) (h2 : a.eval (.tmp s2) = v2) (h3 : a.eval (.tmp s3) = v3) (h4 : a.eval (.tmp s4) = v4) (h5 : a.eval (.tmp s5) = v5) : Evs a [(s0, v0), (s1, v1), (s2, v2), (s3, v3), (s4, v4), (s5, v5)] := by
  intro p hp
  simp only [List.mem_cons, List.not_mem_nil, or_false] at hp
  rcases hp with rfl | rfl | rfl | rfl | rfl | rfl
  · exact h0
  · exact h1
  · exact h2
  · exact h3
  · exact h4
  · exact h5
theorem build28 {a : Act} {c0 c1 c2 c3 c4 c5 c6 c7 c8 c9 c10 c11 c12 c13 c14 c15 c16 c17 c18 c19 c20 c21 c22 c23 c24 c25 c26 c27 : Nat} (h0 : a.eval (.tmp 53) = .agg #[.int .u8 (10 : Nat), .string ⟨#[]⟩, sl c0 1]) (h1 : a.eval (.tmp 56) = .agg #[.int .u8 (12 : Nat), .string ⟨#[]⟩, sl c1 2]) (h2 : a.eval (.tmp 58) = .agg #[.int .u8 (11 : Nat), .string ⟨#[]⟩, sl c2 1]) (h3 : a.eval (.tmp 61) = .agg #[.int .u8 (13 : Nat), .string ⟨#[]⟩, sl c3 2]) (h4 : a.eval (.tmp 64) = .agg #[.int .u8 (14 : Nat), .string ⟨#[]⟩, sl c4 2]) (h5 : a.eval (.tmp 69) = .agg #[.int .u8 (13 : Nat), .string ⟨#[]⟩, sl c5 2]) (h6 : a.eval (.tmp 72) = .agg #[.int .u8 (15 : Nat), .string ⟨#[]⟩, sl c6 2]) (h7 : a.eval (.tmp 77) = .agg #[.int .u8 (12 : Nat), .string ⟨#[]⟩, sl c7 2]) (h8 : a.eval (.tmp 81) = .agg #[.int .u8 (4 : Nat), .string ⟨#[]⟩, sl c8 1]) (h9 : a.eval (.tmp 84) = .agg #[.int .u8 (13 : Nat), .string ⟨#[]⟩, sl c9 2]) (h10 : a.eval (.tmp 88) = .agg #[.int .u8 (4 : Nat), .string ⟨#[]⟩, sl c10 1]) (h11 : a.eval (.tmp 91) = .agg #[.int .u8 (12 : Nat), .string ⟨#[]⟩, sl c11 2]) (h12 : a.eval (.tmp 95) = .agg #[.int .u8 (4 : Nat), .string ⟨#[]⟩, sl c12 1]) (h13 : a.eval (.tmp 98) = .agg #[.int .u8 (15 : Nat), .string ⟨#[]⟩, sl c13 2]) (h14 : a.eval (.tmp 101) = .agg #[.int .u8 (4 : Nat), .string ⟨#[]⟩, sl c14 1]) (h15 : a.eval (.tmp 103) = .agg #[.int .u8 (11 : Nat), .string ⟨#[]⟩, sl c15 1]) (h16 : a.eval (.tmp 106) = .agg #[.int .u8 (4 : Nat), .string ⟨#[]⟩, sl c16 1]) (h17 : a.eval (.tmp 108) = .agg #[.int .u8 (9 : Nat), .string ⟨#[]⟩, sl c17 1]) (h18 : a.eval (.tmp 111) = .agg #[.int .u8 (7 : Nat), .string ⟨#[]⟩, sl c18 2]) (h19 : a.eval (.tmp 114) = .agg #[.int .u8 (6 : Nat), .string ⟨#[]⟩, sl c19 2]) (h20 : a.eval (.tmp 117) = .agg #[.int .u8 (8 : Nat), .string ⟨#[]⟩, sl c20 2]) (h21 : a.eval (.tmp 121) = .agg #[.int .u8 (4 : Nat), .string ⟨#[]⟩, sl c21 1]) (h22 : a.eval (.tmp 125) = .agg #[.int .u8 (9 : Nat), .string ⟨#[]⟩, sl c22 1]) (h23 : a.eval (.tmp 130) = .agg #[.int .u8 (12 : Nat), .string ⟨#[]⟩, sl c23 2]) (h24 : a.eval (.tmp 134) = .agg #[.int .u8 (9 : Nat), .string ⟨#[]⟩, sl c24 1]) (h25 : a.eval (.tmp 139) = .agg #[.int .u8 (15 : Nat), .string ⟨#[]⟩, sl c25 2]) (h26 : a.eval (.tmp 142) = .agg #[.int .u8 (9 : Nat), .string ⟨#[]⟩, sl c26 1]) (h27 : a.eval (.tmp 145) = .agg #[.int .u8 (11 : Nat), .string ⟨#[]⟩, sl c27 1]) {w : World} (_ : Unit) : (Instr.buildSlice 23 28 ((#[(0, .tmp 53), (1, .tmp 56), (2, .tmp 58), (3, .tmp 61), (4, .tmp 64), (5, .tmp 69), (6, .tmp 72), (7, .tmp 77), (8, .tmp 81), (9, .tmp 84), (10, .tmp 88), (11, .tmp 91), (12, .tmp 95), (13, .tmp 98), (14, .tmp 101), (15, .tmp 103), (16, .tmp 106), (17, .tmp 108), (18, .tmp 111), (19, .tmp 114), (20, .tmp 117), (21, .tmp 121), (22, .tmp 125), (23, .tmp 130), (24, .tmp 134), (25, .tmp 139), (26, .tmp 142), (27, .tmp 145)] : Array (Nat × Operand)).map fun (i, x) => (i, a.eval x))).run Tryd.prog w = .ok (.slice (some ⟨w.heap.size, 0, none⟩) 28 28) (w.alloc (.cells #[.int .u8 10, .string ⟨#[]⟩, .slice (some ⟨c0, 0, none⟩) 1 1, .int .u8 12, .string ⟨#[]⟩, .slice (some ⟨c1, 0, none⟩) 2 2, .int .u8 11, .string ⟨#[]⟩, .slice (some ⟨c2, 0, none⟩) 1 1, .int .u8 13, .string ⟨#[]⟩, .slice (some ⟨c3, 0, none⟩) 2 2, .int .u8 14, .string ⟨#[]⟩, .slice (some ⟨c4, 0, none⟩) 2 2, .int .u8 13, .string ⟨#[]⟩, .slice (some ⟨c5, 0, none⟩) 2 2, .int .u8 15, .string ⟨#[]⟩, .slice (some ⟨c6, 0, none⟩) 2 2, .int .u8 12, .string ⟨#[]⟩, .slice (some ⟨c7, 0, none⟩) 2 2, .int .u8 4, .string ⟨#[]⟩, .slice (some ⟨c8, 0, none⟩) 1 1, .int .u8 13, .string ⟨#[]⟩, .slice (some ⟨c9, 0, none⟩) 2 2, .int .u8 4, .string ⟨#[]⟩, .slice (some ⟨c10, 0, none⟩) 1 1, .int .u8 12, .string ⟨#[]⟩, .slice (some ⟨c11, 0, none⟩) 2 2, .int .u8 4, .string ⟨#[]⟩, .slice (some ⟨c12, 0, none⟩) 1 1, .int .u8 15, .string ⟨#[]⟩, .slice (some ⟨c13, 0, none⟩) 2 2, .int .u8 4, .string ⟨#[]⟩, .slice (some ⟨c14, 0, none⟩) 1 1, .int .u8 11, .string ⟨#[]⟩, .slice (some ⟨c15, 0, none⟩) 1 1, .int .u8 4, .string ⟨#[]⟩, .slice (some ⟨c16, 0, none⟩) 1 1, .int .u8 9, .string ⟨#[]⟩, .slice (some ⟨c17, 0, none⟩) 1 1, .int .u8 7, .string ⟨#[]⟩, .slice (some ⟨c18, 0, none⟩) 2 2, .int .u8 6, .string ⟨#[]⟩, .slice (some ⟨c19, 0, none⟩) 2 2, .int .u8 8, .string ⟨#[]⟩, .slice (some ⟨c20, 0, none⟩) 2 2, .int .u8 4, .string ⟨#[]⟩, .slice (some ⟨c21, 0, none⟩) 1 1, .int .u8 9, .string ⟨#[]⟩, .slice (some ⟨c22, 0, none⟩) 1 1, .int .u8 12, .string ⟨#[]⟩, .slice (some ⟨c23, 0, none⟩) 2 2, .int .u8 9, .string ⟨#[]⟩, .slice (some ⟨c24, 0, none⟩) 1 1, .int .u8 15, .string ⟨#[]⟩, .slice (some ⟨c25, 0, none⟩) 2 2, .int .u8 9, .string ⟨#[]⟩, .slice (some ⟨c26, 0, none⟩) 1 1, .int .u8 11, .string ⟨#[]⟩, .slice (some ⟨c27, 0, none⟩) 1 1] 25)) := by
  simp only [List.map_toArray, List.map_cons, List.map_nil, h0, h1, h2, h3, h4, h5, h6, h7, h8, h9, h10, h11, h12, h13, h14, h15, h16, h17, h18, h19, h20, h21, h22, h23, h24, h25, h26, h27]
  go_simp
theorem dual_loads {Q : Exit → Act → World → Prop} {V w : World} {a : Act} {f g : Tr} {fad gad : Option Addr} {fn fcap gn gcap bx bz : Nat} {BF BG BY BN BX BZ : Nat} (hz : a.tmps.size = 169) (hE : Evs a [(4, .pointer (some ⟨BF, 0, none⟩)), (5, .pointer (some ⟨BG, 0, none⟩)), (12, .pointer (some ⟨BY, 0, none⟩)), (13, .pointer (some ⟨BN, 0, none⟩)), (14, .pointer (some ⟨BX, 0, none⟩)), (15, .pointer (some ⟨BZ, 0, none⟩))]) (bF : ∀ W, Kept [] V W → For3 W BF (.int .u8 (f.op : Nat)) (.string f.name) (.slice fad fn fcap)) (bG : ∀ W, Kept [] V W → For3 W BG (.int .u8 (g.op : Nat)) (.string g.name) (.slice gad gn gcap)) (bY : ∀ W, Kept [] V W → For3 W BY (.int .u8 1) (.string ⟨#[]⟩) (.slice none 0 0)) (bN : ∀ W, Kept [] V W → For3 W BN (.int .u8 2) (.string ⟨#[]⟩) (.slice none 0 0)) (bX : ∀ W, Kept [] V W → For3 W BX (.int .u8 4) (.string ⟨#[]⟩) (.slice (some ⟨bx, 0, none⟩) 1 1)) (bZ : ∀ W, Kept [] V W → For3 W BZ (.int .u8 4) (.string ⟨#[]⟩) (.slice (some ⟨bz, 0, none⟩) 1 1)) (hw : Kept [] V w)
    (next : Evs ((((((((((((((((((((((((((((((((((((((((((((((((((a.put (some 52) (.agg #[.int .u8 (f.op : Nat), .string f.name, .slice fad fn fcap])).put (some 54) (.agg #[.int .u8 1, .string ⟨#[]⟩, .slice none 0 0])).put (some 55) (.agg #[.int .u8 (f.op : Nat), .string f.name, .slice fad fn fcap])).put (some 57) (.agg #[.int .u8 (f.op : Nat), .string f.name, .slice fad fn fcap])).put (some 59) (.agg #[.int .u8 2, .string ⟨#[]⟩, .slice none 0 0])).put (some 60) (.agg #[.int .u8 (f.op : Nat), .string f.name, .slice fad fn fcap])).put (some 62) (.agg #[.int .u8 (f.op : Nat), .string f.name, .slice fad fn fcap])).put (some 63) (.agg #[.int .u8 (g.op : Nat), .string g.name, .slice gad gn gcap])).put (some 65) (.agg #[.int .u8 (g.op : Nat), .string g.name, .slice gad gn gcap])).put (some 66) (.agg #[.int .u8 (f.op : Nat), .string f.name, .slice fad fn fcap])).put (some 67) (.agg #[.int .u8 (g.op : Nat), .string g.name, .slice gad gn gcap])).put (some 70) (.agg #[.int .u8 (f.op : Nat), .string f.name, .slice fad fn fcap])).put (some 71) (.agg #[.int .u8 (g.op : Nat), .string g.name, .slice gad gn gcap])).put (some 73) (.agg #[.int .u8 (g.op : Nat), .string g.name, .slice gad gn gcap])).put (some 74) (.agg #[.int .u8 (f.op : Nat), .string f.name, .slice fad fn fcap])).put (some 75) (.agg #[.int .u8 (g.op : Nat), .string g.name, .slice gad gn gcap])).put (some 78) (.agg #[.int .u8 (f.op : Nat), .string f.name, .slice fad fn fcap])).put (some 79) (.agg #[.int .u8 (g.op : Nat), .string g.name, .slice gad gn gcap])).put (some 82) (.agg #[.int .u8 4, .string ⟨#[]⟩, .slice (some ⟨bx, 0, none⟩) 1 1])).put (some 83) (.agg #[.int .u8 4, .string ⟨#[]⟩, .slice (some ⟨bz, 0, none⟩) 1 1])).put (some 85) (.agg #[.int .u8 (f.op : Nat), .string f.name, .slice fad fn fcap])).put (some 86) (.agg #[.int .u8 (g.op : Nat), .string g.name, .slice gad gn gcap])).put (some 89) (.agg #[.int .u8 4, .string ⟨#[]⟩, .slice (some ⟨bx, 0, none⟩) 1 1])).put (some 90) (.agg #[.int .u8 4, .string ⟨#[]⟩, .slice (some ⟨bz, 0, none⟩) 1 1])).put (some 92) (.agg #[.int .u8 (f.op : Nat), .string f.name, .slice fad fn fcap])).put (some 93) (.agg #[.int .u8 (g.op : Nat), .string g.name, .slice gad gn gcap])).put (some 96) (.agg #[.int .u8 4, .string ⟨#[]⟩, .slice (some ⟨bx, 0, none⟩) 1 1])).put (some 97) (.agg #[.int .u8 4, .string ⟨#[]⟩, .slice (some ⟨bz, 0, none⟩) 1 1])).put (some 99) (.agg #[.int .u8 (f.op : Nat), .string f.name, .slice fad fn fcap])).put (some 102) (.agg #[.int .u8 4, .string ⟨#[]⟩, .slice (some ⟨bx, 0, none⟩) 1 1])).put (some 104) (.agg #[.int .u8 (f.op : Nat), .string f.name, .slice fad fn fcap])).put (some 107) (.agg #[.int .u8 4, .string ⟨#[]⟩, .slice (some ⟨bx, 0, none⟩) 1 1])).put (some 109) (.agg #[.int .u8 (f.op : Nat), .string f.name, .slice fad fn fcap])).put (some 110) (.agg #[.int .u8 (g.op : Nat), .string g.name, .slice gad gn gcap])).put (some 112) (.agg #[.int .u8 4, .string ⟨#[]⟩, .slice (some ⟨bx, 0, none⟩) 1 1])).put (some 113) (.agg #[.int .u8 (g.op : Nat), .string g.name, .slice gad gn gcap])).put (some 115) (.agg #[.int .u8 (f.op : Nat), .string f.name, .slice fad fn fcap])).put (some 116) (.agg #[.int .u8 (g.op : Nat), .string g.name, .slice gad gn gcap])).put (some 118) (.agg #[.int .u8 4, .string ⟨#[]⟩, .slice (some ⟨bx, 0, none⟩) 1 1])).put (some 119) (.agg #[.int .u8 (g.op : Nat), .string g.name, .slice gad gn gcap])).put (some 122) (.agg #[.int .u8 (f.op : Nat), .string f.name, .slice fad fn fcap])).put (some 123) (.agg #[.int .u8 (g.op : Nat), .string g.name, .slice gad gn gcap])).put (some 126) (.agg #[.int .u8 (f.op : Nat), .string f.name, .slice fad fn fcap])).put (some 128) (.agg #[.int .u8 (g.op : Nat), .string g.name, .slice gad gn gcap])).put (some 131) (.agg #[.int .u8 (f.op : Nat), .string f.name, .slice fad fn fcap])).put (some 132) (.agg #[.int .u8 (g.op : Nat), .string g.name, .slice gad gn gcap])).put (some 135) (.agg #[.int .u8 (f.op : Nat), .string f.name, .slice fad fn fcap])).put (some 137) (.agg #[.int .u8 (g.op : Nat), .string g.name, .slice gad gn gcap])).put (some 140) (.agg #[.int .u8 (f.op : Nat), .string f.name, .slice fad fn fcap])).put (some 143) (.agg #[.int .u8 (f.op : Nat), .string f.name, .slice fad fn fcap])) [(143, (.agg #[.int .u8 (f.op : Nat), .string f.name, .slice fad fn fcap])), (140, (.agg #[.int .u8 (f.op : Nat), .string f.name, .slice fad fn fcap])), (137, (.agg #[.int .u8 (g.op : Nat), .string g.name, .slice gad gn gcap])), (135, (.agg #[.int .u8 (f.op : Nat), .string f.name, .slice fad fn fcap])), (132, (.agg #[.int .u8 (g.op : Nat), .string g.name, .slice gad gn gcap])), (131, (.agg #[.int .u8 (f.op : Nat), .string f.name, .slice fad fn fcap])), (128, (.agg #[.int .u8 (g.op : Nat), .string g.name, .slice gad gn gcap])), (126, (.agg #[.int .u8 (f.op : Nat), .string f.name, .slice fad fn fcap])), (123, (.agg #[.int .u8 (g.op : Nat), .string g.name, .slice gad gn gcap])), (122, (.agg #[.int .u8 (f.op : Nat), .string f.name, .slice fad fn fcap])), (119, (.agg #[.int .u8 (g.op : Nat), .string g.name, .slice gad gn gcap])), (118, (.agg #[.int .u8 4, .string ⟨#[]⟩, .slice (some ⟨bx, 0, none⟩) 1 1])), (116, (.agg #[.int .u8 (g.op : Nat), .string g.name, .slice gad gn gcap])), (115, (.agg #[.int .u8 (f.op : Nat), .string f.name, .slice fad fn fcap])), (113, (.agg #[.int .u8 (g.op : Nat), .string g.name, .slice gad gn gcap])), (112, (.agg #[.int .u8 4, .string ⟨#[]⟩, .slice (some ⟨bx, 0, none⟩) 1 1])), (110, (.agg #[.int .u8 (g.op : Nat), .string g.name, .slice gad gn gcap])), (109, (.agg #[.int .u8 (f.op : Nat), .string f.name, .slice fad fn fcap])), (107, (.agg #[.int .u8 4, .string ⟨#[]⟩, .slice (some ⟨bx, 0, none⟩) 1 1])), (104, (.agg #[.int .u8 (f.op : Nat), .string f.name, .slice fad fn fcap])), (102, (.agg #[.int .u8 4, .string ⟨#[]⟩, .slice (some ⟨bx, 0, none⟩) 1 1])), (99, (.agg #[.int .u8 (f.op : Nat), .string f.name, .slice fad fn fcap])), (97, (.agg #[.int .u8 4, .string ⟨#[]⟩, .slice (some ⟨bz, 0, none⟩) 1 1])), (96, (.agg #[.int .u8 4, .string ⟨#[]⟩, .slice (some ⟨bx, 0, none⟩) 1 1])), (93, (.agg #[.int .u8 (g.op : Nat), .string g.name, .slice gad gn gcap])), (92, (.agg #[.int .u8 (f.op : Nat), .string f.name, .slice fad fn fcap])), (90, (.agg #[.int .u8 4, .string ⟨#[]⟩, .slice (some ⟨bz, 0, none⟩) 1 1])), (89, (.agg #[.int .u8 4, .string ⟨#[]⟩, .slice (some ⟨bx, 0, none⟩) 1 1])), (86, (.agg #[.int .u8 (g.op : Nat), .string g.name, .slice gad gn gcap])), (85, (.agg #[.int .u8 (f.op : Nat), .string f.name, .slice fad fn fcap])), (83, (.agg #[.int .u8 4, .string ⟨#[]⟩, .slice (some ⟨bz, 0, none⟩) 1 1])), (82, (.agg #[.int .u8 4, .string ⟨#[]⟩, .slice (some ⟨bx, 0, none⟩) 1 1])), (79, (.agg #[.int .u8 (g.op : Nat), .string g.name, .slice gad gn gcap])), (78, (.agg #[.int .u8 (f.op : Nat), .string f.name, .slice fad fn fcap])), (75, (.agg #[.int .u8 (g.op : Nat), .string g.name, .slice gad gn gcap])), (74, (.agg #[.int .u8 (f.op : Nat), .string f.name, .slice fad fn fcap])), (73, (.agg #[.int .u8 (g.op : Nat), .string g.name, .slice gad gn gcap])), (71, (.agg #[.int .u8 (g.op : Nat), .string g.name, .slice gad gn gcap])), (70, (.agg #[.int .u8 (f.op : Nat), .string f.name, .slice fad fn fcap])), (67, (.agg #[.int .u8 (g.op : Nat), .string g.name, .slice gad gn gcap])), (66, (.agg #[.int .u8 (f.op : Nat), .string f.name, .slice fad fn fcap])), (65, (.agg #[.int .u8 (g.op : Nat), .string g.name, .slice gad gn gcap])), (63, (.agg #[.int .u8 (g.op : Nat), .string g.name, .slice gad gn gcap])), (62, (.agg #[.int .u8 (f.op : Nat), .string f.name, .slice fad fn fcap])), (60, (.agg #[.int .u8 (f.op : Nat), .string f.name, .slice fad fn fcap])), (59, (.agg #[.int .u8 2, .string ⟨#[]⟩, .slice none 0 0])), (57, (.agg #[.int .u8 (f.op : Nat), .string f.name, .slice fad fn fcap])), (55, (.agg #[.int .u8 (f.op : Nat), .string f.name, .slice fad fn fcap])), (54, (.agg #[.int .u8 1, .string ⟨#[]⟩, .slice none 0 0])), (52, (.agg #[.int .u8 (f.op : Nat), .string f.name, .slice fad fn fcap])), (4, .pointer (some ⟨BF, 0, none⟩)), (5, .pointer (some ⟨BG, 0, none⟩)), (12, .pointer (some ⟨BY, 0, none⟩)), (13, .pointer (some ⟨BN, 0, none⟩)), (14, .pointer (some ⟨BX, 0, none⟩)), (15, .pointer (some ⟨BZ, 0, none⟩))] → wpAnyH Tryd.prog .any dOps (NoPanic Q) (Kept [] V) 46 (dL 50) ((((((((((((((((((((((((((((((((((((((((((((((((((a.put (some 52) (.agg #[.int .u8 (f.op : Nat), .string f.name, .slice fad fn fcap])).put (some 54) (.agg #[.int .u8 1, .string ⟨#[]⟩, .slice none 0 0])).put (some 55) (.agg #[.int .u8 (f.op : Nat), .string f.name, .slice fad fn fcap])).put (some 57) (.agg #[.int .u8 (f.op : Nat), .string f.name, .slice fad fn fcap])).put (some 59) (.agg #[.int .u8 2, .string ⟨#[]⟩, .slice none 0 0])).put (some 60) (.agg #[.int .u8 (f.op : Nat), .string f.name, .slice fad fn fcap])).put (some 62) (.agg #[.int .u8 (f.op : Nat), .string f.name, .slice fad fn fcap])).put (some 63) (.agg #[.int .u8 (g.op : Nat), .string g.name, .slice gad gn gcap])).put (some 65) (.agg #[.int .u8 (g.op : Nat), .string g.name, .slice gad gn gcap])).put (some 66) (.agg #[.int .u8 (f.op : Nat), .string f.name, .slice fad fn fcap])).put (some 67) (.agg #[.int .u8 (g.op : Nat), .string g.name, .slice gad gn gcap])).put (some 70) (.agg #[.int .u8 (f.op : Nat), .string f.name, .slice fad fn fcap])).put (some 71) (.agg #[.int .u8 (g.op : Nat), .string g.name, .slice gad gn gcap])).put (some 73) (.agg #[.int .u8 (g.op : Nat), .string g.name, .slice gad gn gcap])).put (some 74) (.agg #[.int .u8 (f.op : Nat), .string f.name, .slice fad fn fcap])).put (some 75) (.agg #[.int .u8 (g.op : Nat), .string g.name, .slice gad gn gcap])).put (some 78) (.agg #[.int .u8 (f.op : Nat), .string f.name, .slice fad fn fcap])).put (some 79) (.agg #[.int .u8 (g.op : Nat), .string g.name, .slice gad gn gcap])).put (some 82) (.agg #[.int .u8 4, .string ⟨#[]⟩, .slice (some ⟨bx, 0, none⟩) 1 1])).put (some 83) (.agg #[.int .u8 4, .string ⟨#[]⟩, .slice (some ⟨bz, 0, none⟩) 1 1])).put (some 85) (.agg #[.int .u8 (f.op : Nat), .string f.name, .slice fad fn fcap])).put (some 86) (.agg #[.int .u8 (g.op : Nat), .string g.name, .slice gad gn gcap])).put (some 89) (.agg #[.int .u8 4, .string ⟨#[]⟩, .slice (some ⟨bx, 0, none⟩) 1 1])).put (some 90) (.agg #[.int .u8 4, .string ⟨#[]⟩, .slice (some ⟨bz, 0, none⟩) 1 1])).put (some 92) (.agg #[.int .u8 (f.op : Nat), .string f.name, .slice fad fn fcap])).put (some 93) (.agg #[.int .u8 (g.op : Nat), .string g.name, .slice gad gn gcap])).put (some 96) (.agg #[.int .u8 4, .string ⟨#[]⟩, .slice (some ⟨bx, 0, none⟩) 1 1])).put (some 97) (.agg #[.int .u8 4, .string ⟨#[]⟩, .slice (some ⟨bz, 0, none⟩) 1 1])).put (some 99) (.agg #[.int .u8 (f.op : Nat), .string f.name, .slice fad fn fcap])).put (some 102) (.agg #[.int .u8 4, .string ⟨#[]⟩, .slice (some ⟨bx, 0, none⟩) 1 1])).put (some 104) (.agg #[.int .u8 (f.op : Nat), .string f.name, .slice fad fn fcap])).put (some 107) (.agg #[.int .u8 4, .string ⟨#[]⟩, .slice (some ⟨bx, 0, none⟩) 1 1])).put (some 109) (.agg #[.int .u8 (f.op : Nat), .string f.name, .slice fad fn fcap])).put (some 110) (.agg #[.int .u8 (g.op : Nat), .string g.name, .slice gad gn gcap])).put (some 112) (.agg #[.int .u8 4, .string ⟨#[]⟩, .slice (some ⟨bx, 0, none⟩) 1 1])).put (some 113) (.agg #[.int .u8 (g.op : Nat), .string g.name, .slice gad gn gcap])).put (some 115) (.agg #[.int .u8 (f.op : Nat), .string f.name, .slice fad fn fcap])).put (some 116) (.agg #[.int .u8 (g.op : Nat), .string g.name, .slice gad gn gcap])).put (some 118) (.agg #[.int .u8 4, .string ⟨#[]⟩, .slice (some ⟨bx, 0, none⟩) 1 1])).put (some 119) (.agg #[.int .u8 (g.op : Nat), .string g.name, .slice gad gn gcap])).put (some 122) (.agg #[.int .u8 (f.op : Nat), .string f.name, .slice fad fn fcap])).put (some 123) (.agg #[.int .u8 (g.op : Nat), .string g.name, .slice gad gn gcap])).put (some 126) (.agg #[.int .u8 (f.op : Nat), .string f.name, .slice fad fn fcap])).put (some 128) (.agg #[.int .u8 (g.op : Nat), .string g.name, .slice gad gn gcap])).put (some 131) (.agg #[.int .u8 (f.op : Nat), .string f.name, .slice fad fn fcap])).put (some 132) (.agg #[.int .u8 (g.op : Nat), .string g.name, .slice gad gn gcap])).put (some 135) (.agg #[.int .u8 (f.op : Nat), .string f.name, .slice fad fn fcap])).put (some 137) (.agg #[.int .u8 (g.op : Nat), .string g.name, .slice gad gn gcap])).put (some 140) (.agg #[.int .u8 (f.op : Nat), .string f.name, .slice fad fn fcap])).put (some 143) (.agg #[.int .u8 (f.op : Nat), .string f.name, .slice fad fn fcap])) w) : wpAnyH Tryd.prog .any dOps (NoPanic Q) (Kept [] V) 96 (dL 0) a w := by
  refine stepLoad dop0 (hE.get 0 rfl) bF hw ?_
  replace hE := hE.put (d := 52) (.agg #[.int .u8 (f.op : Nat), .string f.name, .slice fad fn fcap]) rfl (by rw [hz]; omega)
  refine stepLoad dop1 (hE.get 3 rfl) bY hw ?_
  replace hE := hE.put (d := 54) (.agg #[.int .u8 1, .string ⟨#[]⟩, .slice none 0 0]) rfl (by simp only [put_size, hz]; omega)
  refine stepLoad dop2 (hE.get 2 rfl) bF hw ?_
  replace hE := hE.put (d := 55) (.agg #[.int .u8 (f.op : Nat), .string f.name, .slice fad fn fcap]) rfl (by simp only [put_size, hz]; omega)
  refine stepLoad dop3 (hE.get 3 rfl) bF hw ?_
  replace hE := hE.put (d := 57) (.agg #[.int .u8 (f.op : Nat), .string f.name, .slice fad fn fcap]) rfl (by simp only [put_size, hz]; omega)
  refine stepLoad dop4 (hE.get 7 rfl) bN hw ?_
  replace hE := hE.put (d := 59) (.agg #[.int .u8 2, .string ⟨#[]⟩, .slice none 0 0]) rfl (by simp only [put_size, hz]; omega)
  refine stepLoad dop5 (hE.get 5 rfl) bF hw ?_
  replace hE := hE.put (d := 60) (.agg #[.int .u8 (f.op : Nat), .string f.name, .slice fad fn fcap]) rfl (by simp only [put_size, hz]; omega)
  refine stepLoad dop6 (hE.get 6 rfl) bF hw ?_
  replace hE := hE.put (d := 62) (.agg #[.int .u8 (f.op : Nat), .string f.name, .slice fad fn fcap]) rfl (by simp only [put_size, hz]; omega)
  refine stepLoad dop7 (hE.get 8 rfl) bG hw ?_
  replace hE := hE.put (d := 63) (.agg #[.int .u8 (g.op : Nat), .string g.name, .slice gad gn gcap]) rfl (by simp only [put_size, hz]; omega)
  refine stepLoad dop8 (hE.get 9 rfl) bG hw ?_
  replace hE := hE.put (d := 65) (.agg #[.int .u8 (g.op : Nat), .string g.name, .slice gad gn gcap]) rfl (by simp only [put_size, hz]; omega)
  refine stepLoad dop9 (hE.get 9 rfl) bF hw ?_
  replace hE := hE.put (d := 66) (.agg #[.int .u8 (f.op : Nat), .string f.name, .slice fad fn fcap]) rfl (by simp only [put_size, hz]; omega)
  refine stepLoad dop10 (hE.get 11 rfl) bG hw ?_
  replace hE := hE.put (d := 67) (.agg #[.int .u8 (g.op : Nat), .string g.name, .slice gad gn gcap]) rfl (by simp only [put_size, hz]; omega)
  refine stepLoad dop11 (hE.get 11 rfl) bF hw ?_
  replace hE := hE.put (d := 70) (.agg #[.int .u8 (f.op : Nat), .string f.name, .slice fad fn fcap]) rfl (by simp only [put_size, hz]; omega)
  refine stepLoad dop12 (hE.get 13 rfl) bG hw ?_
  replace hE := hE.put (d := 71) (.agg #[.int .u8 (g.op : Nat), .string g.name, .slice gad gn gcap]) rfl (by simp only [put_size, hz]; omega)
  refine stepLoad dop13 (hE.get 14 rfl) bG hw ?_
  replace hE := hE.put (d := 73) (.agg #[.int .u8 (g.op : Nat), .string g.name, .slice gad gn gcap]) rfl (by simp only [put_size, hz]; omega)
  refine stepLoad dop14 (hE.get 14 rfl) bF hw ?_
  replace hE := hE.put (d := 74) (.agg #[.int .u8 (f.op : Nat), .string f.name, .slice fad fn fcap]) rfl (by simp only [put_size, hz]; omega)
  refine stepLoad dop15 (hE.get 16 rfl) bG hw ?_
  replace hE := hE.put (d := 75) (.agg #[.int .u8 (g.op : Nat), .string g.name, .slice gad gn gcap]) rfl (by simp only [put_size, hz]; omega)
  refine stepLoad dop16 (hE.get 16 rfl) bF hw ?_
  replace hE := hE.put (d := 78) (.agg #[.int .u8 (f.op : Nat), .string f.name, .slice fad fn fcap]) rfl (by simp only [put_size, hz]; omega)
  refine stepLoad dop17 (hE.get 18 rfl) bG hw ?_
  replace hE := hE.put (d := 79) (.agg #[.int .u8 (g.op : Nat), .string g.name, .slice gad gn gcap]) rfl (by simp only [put_size, hz]; omega)
  refine stepLoad dop18 (hE.get 22 rfl) bX hw ?_
  replace hE := hE.put (d := 82) (.agg #[.int .u8 4, .string ⟨#[]⟩, .slice (some ⟨bx, 0, none⟩) 1 1]) rfl (by simp only [put_size, hz]; omega)
  refine stepLoad dop19 (hE.get 24 rfl) bZ hw ?_
  replace hE := hE.put (d := 83) (.agg #[.int .u8 4, .string ⟨#[]⟩, .slice (some ⟨bz, 0, none⟩) 1 1]) rfl (by simp only [put_size, hz]; omega)
  refine stepLoad dop20 (hE.get 20 rfl) bF hw ?_
  replace hE := hE.put (d := 85) (.agg #[.int .u8 (f.op : Nat), .string f.name, .slice fad fn fcap]) rfl (by simp only [put_size, hz]; omega)
  refine stepLoad dop21 (hE.get 22 rfl) bG hw ?_
  replace hE := hE.put (d := 86) (.agg #[.int .u8 (g.op : Nat), .string g.name, .slice gad gn gcap]) rfl (by simp only [put_size, hz]; omega)
  refine stepLoad dop22 (hE.get 26 rfl) bX hw ?_
  replace hE := hE.put (d := 89) (.agg #[.int .u8 4, .string ⟨#[]⟩, .slice (some ⟨bx, 0, none⟩) 1 1]) rfl (by simp only [put_size, hz]; omega)
  refine stepLoad dop23 (hE.get 28 rfl) bZ hw ?_
  replace hE := hE.put (d := 90) (.agg #[.int .u8 4, .string ⟨#[]⟩, .slice (some ⟨bz, 0, none⟩) 1 1]) rfl (by simp only [put_size, hz]; omega)
  refine stepLoad dop24 (hE.get 24 rfl) bF hw ?_
  replace hE := hE.put (d := 92) (.agg #[.int .u8 (f.op : Nat), .string f.name, .slice fad fn fcap]) rfl (by simp only [put_size, hz]; omega)
  refine stepLoad dop25 (hE.get 26 rfl) bG hw ?_
  replace hE := hE.put (d := 93) (.agg #[.int .u8 (g.op : Nat), .string g.name, .slice gad gn gcap]) rfl (by simp only [put_size, hz]; omega)
  refine stepLoad dop26 (hE.get 30 rfl) bX hw ?_
  replace hE := hE.put (d := 96) (.agg #[.int .u8 4, .string ⟨#[]⟩, .slice (some ⟨bx, 0, none⟩) 1 1]) rfl (by simp only [put_size, hz]; omega)
  refine stepLoad dop27 (hE.get 32 rfl) bZ hw ?_
  replace hE := hE.put (d := 97) (.agg #[.int .u8 4, .string ⟨#[]⟩, .slice (some ⟨bz, 0, none⟩) 1 1]) rfl (by simp only [put_size, hz]; omega)
  refine stepLoad dop28 (hE.get 28 rfl) bF hw ?_
  replace hE := hE.put (d := 99) (.agg #[.int .u8 (f.op : Nat), .string f.name, .slice fad fn fcap]) rfl (by simp only [put_size, hz]; omega)
  refine stepLoad dop29 (hE.get 33 rfl) bX hw ?_
  replace hE := hE.put (d := 102) (.agg #[.int .u8 4, .string ⟨#[]⟩, .slice (some ⟨bx, 0, none⟩) 1 1]) rfl (by simp only [put_size, hz]; omega)
  refine stepLoad dop30 (hE.get 30 rfl) bF hw ?_
  replace hE := hE.put (d := 104) (.agg #[.int .u8 (f.op : Nat), .string f.name, .slice fad fn fcap]) rfl (by simp only [put_size, hz]; omega)
  refine stepLoad dop31 (hE.get 35 rfl) bX hw ?_
  replace hE := hE.put (d := 107) (.agg #[.int .u8 4, .string ⟨#[]⟩, .slice (some ⟨bx, 0, none⟩) 1 1]) rfl (by simp only [put_size, hz]; omega)
  refine stepLoad dop32 (hE.get 32 rfl) bF hw ?_
  replace hE := hE.put (d := 109) (.agg #[.int .u8 (f.op : Nat), .string f.name, .slice fad fn fcap]) rfl (by simp only [put_size, hz]; omega)
  refine stepLoad dop33 (hE.get 34 rfl) bG hw ?_
  replace hE := hE.put (d := 110) (.agg #[.int .u8 (g.op : Nat), .string g.name, .slice gad gn gcap]) rfl (by simp only [put_size, hz]; omega)
  refine stepLoad dop34 (hE.get 38 rfl) bX hw ?_
  replace hE := hE.put (d := 112) (.agg #[.int .u8 4, .string ⟨#[]⟩, .slice (some ⟨bx, 0, none⟩) 1 1]) rfl (by simp only [put_size, hz]; omega)
  refine stepLoad dop35 (hE.get 36 rfl) bG hw ?_
  replace hE := hE.put (d := 113) (.agg #[.int .u8 (g.op : Nat), .string g.name, .slice gad gn gcap]) rfl (by simp only [put_size, hz]; omega)
  refine stepLoad dop36 (hE.get 36 rfl) bF hw ?_
  replace hE := hE.put (d := 115) (.agg #[.int .u8 (f.op : Nat), .string f.name, .slice fad fn fcap]) rfl (by simp only [put_size, hz]; omega)
  refine stepLoad dop37 (hE.get 38 rfl) bG hw ?_
  replace hE := hE.put (d := 116) (.agg #[.int .u8 (g.op : Nat), .string g.name, .slice gad gn gcap]) rfl (by simp only [put_size, hz]; omega)
  refine stepLoad dop38 (hE.get 42 rfl) bX hw ?_
  replace hE := hE.put (d := 118) (.agg #[.int .u8 4, .string ⟨#[]⟩, .slice (some ⟨bx, 0, none⟩) 1 1]) rfl (by simp only [put_size, hz]; omega)
  refine stepLoad dop39 (hE.get 40 rfl) bG hw ?_
  replace hE := hE.put (d := 119) (.agg #[.int .u8 (g.op : Nat), .string g.name, .slice gad gn gcap]) rfl (by simp only [put_size, hz]; omega)
  refine stepLoad dop40 (hE.get 40 rfl) bF hw ?_
  replace hE := hE.put (d := 122) (.agg #[.int .u8 (f.op : Nat), .string f.name, .slice fad fn fcap]) rfl (by simp only [put_size, hz]; omega)
  refine stepLoad dop41 (hE.get 42 rfl) bG hw ?_
  replace hE := hE.put (d := 123) (.agg #[.int .u8 (g.op : Nat), .string g.name, .slice gad gn gcap]) rfl (by simp only [put_size, hz]; omega)
  refine stepLoad dop42 (hE.get 42 rfl) bF hw ?_
  replace hE := hE.put (d := 126) (.agg #[.int .u8 (f.op : Nat), .string f.name, .slice fad fn fcap]) rfl (by simp only [put_size, hz]; omega)
  refine stepLoad dop43 (hE.get 44 rfl) bG hw ?_
  replace hE := hE.put (d := 128) (.agg #[.int .u8 (g.op : Nat), .string g.name, .slice gad gn gcap]) rfl (by simp only [put_size, hz]; omega)
  refine stepLoad dop44 (hE.get 44 rfl) bF hw ?_
  replace hE := hE.put (d := 131) (.agg #[.int .u8 (f.op : Nat), .string f.name, .slice fad fn fcap]) rfl (by simp only [put_size, hz]; omega)
  refine stepLoad dop45 (hE.get 46 rfl) bG hw ?_
  replace hE := hE.put (d := 132) (.agg #[.int .u8 (g.op : Nat), .string g.name, .slice gad gn gcap]) rfl (by simp only [put_size, hz]; omega)
  refine stepLoad dop46 (hE.get 46 rfl) bF hw ?_
  replace hE := hE.put (d := 135) (.agg #[.int .u8 (f.op : Nat), .string f.name, .slice fad fn fcap]) rfl (by simp only [put_size, hz]; omega)
  refine stepLoad dop47 (hE.get 48 rfl) bG hw ?_
  replace hE := hE.put (d := 137) (.agg #[.int .u8 (g.op : Nat), .string g.name, .slice gad gn gcap]) rfl (by simp only [put_size, hz]; omega)
  refine stepLoad dop48 (hE.get 48 rfl) bF hw ?_
  replace hE := hE.put (d := 140) (.agg #[.int .u8 (f.op : Nat), .string f.name, .slice fad fn fcap]) rfl (by simp only [put_size, hz]; omega)
  refine stepLoad dop49 (hE.get 49 rfl) bF hw ?_
  replace hE := hE.put (d := 143) (.agg #[.int .u8 (f.op : Nat), .string f.name, .slice fad fn fcap]) rfl (by simp only [put_size, hz]; omega)
  exact next hE
theorem dual_calls {Q : Exit → Act → World → Prop} {V w : World} {a : Act} {f g : Tr} {fad gad : Option Addr} {fn fcap gn gcap bx bz : Nat} (hz : a.tmps.size = 169) (hE : Evs a [(143, (.agg #[.int .u8 (f.op : Nat), .string f.name, .slice fad fn fcap])), (140, (.agg #[.int .u8 (f.op : Nat), .string f.name, .slice fad fn fcap])), (137, (.agg #[.int .u8 (g.op : Nat), .string g.name, .slice gad gn gcap])), (135, (.agg #[.int .u8 (f.op : Nat), .string f.name, .slice fad fn fcap])), (132, (.agg #[.int .u8 (g.op : Nat), .string g.name, .slice gad gn gcap])), (131, (.agg #[.int .u8 (f.op : Nat), .string f.name, .slice fad fn fcap])), (128, (.agg #[.int .u8 (g.op : Nat), .string g.name, .slice gad gn gcap])), (126, (.agg #[.int .u8 (f.op : Nat), .string f.name, .slice fad fn fcap])), (123, (.agg #[.int .u8 (g.op : Nat), .string g.name, .slice gad gn gcap])), (122, (.agg #[.int .u8 (f.op : Nat), .string f.name, .slice fad fn fcap])), (119, (.agg #[.int .u8 (g.op : Nat), .string g.name, .slice gad gn gcap])), (118, (.agg #[.int .u8 4, .string ⟨#[]⟩, .slice (some ⟨bx, 0, none⟩) 1 1])), (116, (.agg #[.int .u8 (g.op : Nat), .string g.name, .slice gad gn gcap])), (115, (.agg #[.int .u8 (f.op : Nat), .string f.name, .slice fad fn fcap])), (113, (.agg #[.int .u8 (g.op : Nat), .string g.name, .slice gad gn gcap])), (112, (.agg #[.int .u8 4, .string ⟨#[]⟩, .slice (some ⟨bx, 0, none⟩) 1 1])), (110, (.agg #[.int .u8 (g.op : Nat), .string g.name, .slice gad gn gcap])), (109, (.agg #[.int .u8 (f.op : Nat), .string f.name, .slice fad fn fcap])), (107, (.agg #[.int .u8 4, .string ⟨#[]⟩, .slice (some ⟨bx, 0, none⟩) 1 1])), (104, (.agg #[.int .u8 (f.op : Nat), .string f.name, .slice fad fn fcap])), (102, (.agg #[.int .u8 4, .string ⟨#[]⟩, .slice (some ⟨bx, 0, none⟩) 1 1])), (99, (.agg #[.int .u8 (f.op : Nat), .string f.name, .slice fad fn fcap])), (97, (.agg #[.int .u8 4, .string ⟨#[]⟩, .slice (some ⟨bz, 0, none⟩) 1 1])), (96, (.agg #[.int .u8 4, .string ⟨#[]⟩, .slice (some ⟨bx, 0, none⟩) 1 1])), (93, (.agg #[.int .u8 (g.op : Nat), .string g.name, .slice gad gn gcap])), (92, (.agg #[.int .u8 (f.op : Nat), .string f.name, .slice fad fn fcap])), (90, (.agg #[.int .u8 4, .string ⟨#[]⟩, .slice (some ⟨bz, 0, none⟩) 1 1])), (89, (.agg #[.int .u8 4, .string ⟨#[]⟩, .slice (some ⟨bx, 0, none⟩) 1 1])), (86, (.agg #[.int .u8 (g.op : Nat), .string g.name, .slice gad gn gcap])), (85, (.agg #[.int .u8 (f.op : Nat), .string f.name, .slice fad fn fcap])), (83, (.agg #[.int .u8 4, .string ⟨#[]⟩, .slice (some ⟨bz, 0, none⟩) 1 1])), (82, (.agg #[.int .u8 4, .string ⟨#[]⟩, .slice (some ⟨bx, 0, none⟩) 1 1])), (79, (.agg #[.int .u8 (g.op : Nat), .string g.name, .slice gad gn gcap])), (78, (.agg #[.int .u8 (f.op : Nat), .string f.name, .slice fad fn fcap])), (75, (.agg #[.int .u8 (g.op : Nat), .string g.name, .slice gad gn gcap])), (74, (.agg #[.int .u8 (f.op : Nat), .string f.name, .slice fad fn fcap])), (73, (.agg #[.int .u8 (g.op : Nat), .string g.name, .slice gad gn gcap])), (71, (.agg #[.int .u8 (g.op : Nat), .string g.name, .slice gad gn gcap])), (70, (.agg #[.int .u8 (f.op : Nat), .string f.name, .slice fad fn fcap])), (67, (.agg #[.int .u8 (g.op : Nat), .string g.name, .slice gad gn gcap])), (66, (.agg #[.int .u8 (f.op : Nat), .string f.name, .slice fad fn fcap])), (65, (.agg #[.int .u8 (g.op : Nat), .string g.name, .slice gad gn gcap])), (63, (.agg #[.int .u8 (g.op : Nat), .string g.name, .slice gad gn gcap])), (62, (.agg #[.int .u8 (f.op : Nat), .string f.name, .slice fad fn fcap])), (60, (.agg #[.int .u8 (f.op : Nat), .string f.name, .slice fad fn fcap])), (59, (.agg #[.int .u8 2, .string ⟨#[]⟩, .slice none 0 0])), (57, (.agg #[.int .u8 (f.op : Nat), .string f.name, .slice fad fn fcap])), (55, (.agg #[.int .u8 (f.op : Nat), .string f.name, .slice fad fn fcap])), (54, (.agg #[.int .u8 1, .string ⟨#[]⟩, .slice none 0 0])), (52, (.agg #[.int .u8 (f.op : Nat), .string f.name, .slice fad fn fcap]))]) (hw : Kept [] V w) (hf : IsF V f (.slice fad fn fcap)) (hg : IsF V g (.slice gad gn gcap)) (hbx : V.heap[bx]? = some (oneO (f.op : Nat) f.name (.slice fad fn fcap))) (hbz : V.heap[bz]? = some (oneO (g.op : Nat) g.name (.slice gad gn gcap)))
    (next : ∀ (x53 x56 x58 x61 x64 x68 x69 x72 x76 x77 x80 x81 x84 x87 x88 x91 x94 x95 x98 x100 x101 x103 x105 x106 x108 x111 x114 x117 x120 x121 x124 x125 x127 x129 x130 x133 x134 x136 x138 x139 x141 x142 x144 x145 x146 : Value) (lb : Nat) (w' : World), Kept [] V w' → DualRow w' lb f g → Q .normal ((((((((((((((((((((((((((((((((((((((((((((((a.put (some 53) x53).put (some 56) x56).put (some 58) x58).put (some 61) x61).put (some 64) x64).put (some 68) x68).put (some 69) x69).put (some 72) x72).put (some 76) x76).put (some 77) x77).put (some 80) x80).put (some 81) x81).put (some 84) x84).put (some 87) x87).put (some 88) x88).put (some 91) x91).put (some 94) x94).put (some 95) x95).put (some 98) x98).put (some 100) x100).put (some 101) x101).put (some 103) x103).put (some 105) x105).put (some 106) x106).put (some 108) x108).put (some 111) x111).put (some 114) x114).put (some 117) x117).put (some 120) x120).put (some 121) x121).put (some 124) x124).put (some 125) x125).put (some 127) x127).put (some 129) x129).put (some 130) x130).put (some 133) x133).put (some 134) x134).put (some 136) x136).put (some 138) x138).put (some 139) x139).put (some 141) x141).put (some 142) x142).put (some 144) x144).put (some 145) x145).put (some 146) x146).put (some 16) (.slice (some ⟨lb, 0, none⟩) 28 28)) w') : wpAnyH Tryd.prog .any dOps (NoPanic Q) (Kept [] V) 46 (dL 50) a w := by
  have HF : Facts w [] := Facts.nil w
  refine stepOne dop50 (hE.get 49 rfl) hw (fun c0 w' k1 h1 => ?_)
  replace hE := hE.put (d := 53) (.agg #[.int .u8 (10 : Nat), .string ⟨#[]⟩, sl c0 1]) rfl (by rw [hz]; omega)
  replace HF := HF.more k1 h1
  replace hw := hw.trans k1 (H := []) (by simp) (by simp)
  clear k1 h1
  refine stepTwo dop51 (hE.get 49 rfl) (hE.get 48 rfl) hw (fun c1 w' k1 h1 => ?_)
  replace hE := hE.put (d := 56) (.agg #[.int .u8 (12 : Nat), .string ⟨#[]⟩, sl c1 2]) rfl (by simp only [put_size, hz]; omega)
  replace HF := HF.more k1 h1
  replace hw := hw.trans k1 (H := []) (by simp) (by simp)
  clear k1 h1
  refine stepOne dop52 (hE.get 48 rfl) hw (fun c2 w' k1 h1 => ?_)
  replace hE := hE.put (d := 58) (.agg #[.int .u8 (11 : Nat), .string ⟨#[]⟩, sl c2 1]) rfl (by simp only [put_size, hz]; omega)
  replace HF := HF.more k1 h1
  replace hw := hw.trans k1 (H := []) (by simp) (by simp)
  clear k1 h1
  refine stepTwo dop53 (hE.get 48 rfl) (hE.get 47 rfl) hw (fun c3 w' k1 h1 => ?_)
  replace hE := hE.put (d := 61) (.agg #[.int .u8 (13 : Nat), .string ⟨#[]⟩, sl c3 2]) rfl (by simp only [put_size, hz]; omega)
  replace HF := HF.more k1 h1
  replace hw := hw.trans k1 (H := []) (by simp) (by simp)
  clear k1 h1
  refine stepTwo dop54 (hE.get 47 rfl) (hE.get 46 rfl) hw (fun c4 w' k1 h1 => ?_)
  replace hE := hE.put (d := 64) (.agg #[.int .u8 (14 : Nat), .string ⟨#[]⟩, sl c4 2]) rfl (by simp only [put_size, hz]; omega)
  replace HF := HF.more k1 h1
  replace hw := hw.trans k1 (H := []) (by simp) (by simp)
  clear k1 h1
  refine stepTwo dop55 (hE.get 45 rfl) (hE.get 44 rfl) hw (fun c5 w' k1 h1 => ?_)
  replace hE := hE.put (d := 68) (.agg #[.int .u8 (6 : Nat), .string ⟨#[]⟩, sl c5 2]) rfl (by simp only [put_size, hz]; omega)
  replace HF := HF.more k1 h1
  replace hw := hw.trans k1 (H := []) (by simp) (by simp)
  clear k1 h1
  refine stepTwo dop56 (hE.get 47 rfl) (hE.get 0 rfl) hw (fun c6 w' k1 h1 => ?_)
  replace hE := hE.put (d := 69) (.agg #[.int .u8 (13 : Nat), .string ⟨#[]⟩, sl c6 2]) rfl (by simp only [put_size, hz]; omega)
  replace HF := HF.more k1 h1
  replace hw := hw.trans k1 (H := []) (by simp) (by simp)
  clear k1 h1
  refine stepTwo dop57 (hE.get 45 rfl) (hE.get 44 rfl) hw (fun c7 w' k1 h1 => ?_)
  replace hE := hE.put (d := 72) (.agg #[.int .u8 (15 : Nat), .string ⟨#[]⟩, sl c7 2]) rfl (by simp only [put_size, hz]; omega)
  replace HF := HF.more k1 h1
  replace hw := hw.trans k1 (H := []) (by simp) (by simp)
  clear k1 h1
  refine stepTwo dop58 (hE.get 43 rfl) (hE.get 42 rfl) hw (fun c8 w' k1 h1 => ?_)
  replace hE := hE.put (d := 76) (.agg #[.int .u8 (5 : Nat), .string ⟨#[]⟩, sl c8 2]) rfl (by simp only [put_size, hz]; omega)
  replace HF := HF.more k1 h1
  replace hw := hw.trans k1 (H := []) (by simp) (by simp)
  clear k1 h1
  refine stepTwo dop59 (hE.get 45 rfl) (hE.get 0 rfl) hw (fun c9 w' k1 h1 => ?_)
  replace hE := hE.put (d := 77) (.agg #[.int .u8 (12 : Nat), .string ⟨#[]⟩, sl c9 2]) rfl (by simp only [put_size, hz]; omega)
  replace HF := HF.more k1 h1
  replace hw := hw.trans k1 (H := []) (by simp) (by simp)
  clear k1 h1
  refine stepTwo dop60 (hE.get 43 rfl) (hE.get 42 rfl) hw (fun c10 w' k1 h1 => ?_)
  replace hE := hE.put (d := 80) (.agg #[.int .u8 (12 : Nat), .string ⟨#[]⟩, sl c10 2]) rfl (by simp only [put_size, hz]; omega)
  replace HF := HF.more k1 h1
  replace hw := hw.trans k1 (H := []) (by simp) (by simp)
  clear k1 h1
  refine stepOne dop61 (hE.get 0 rfl) hw (fun c11 w' k1 h1 => ?_)
  replace hE := hE.put (d := 81) (.agg #[.int .u8 (4 : Nat), .string ⟨#[]⟩, sl c11 1]) rfl (by simp only [put_size, hz]; omega)
  replace HF := HF.more k1 h1
  replace hw := hw.trans k1 (H := []) (by simp) (by simp)
  clear k1 h1
  refine stepTwo dop62 (hE.get 43 rfl) (hE.get 42 rfl) hw (fun c12 w' k1 h1 => ?_)
  replace hE := hE.put (d := 84) (.agg #[.int .u8 (13 : Nat), .string ⟨#[]⟩, sl c12 2]) rfl (by simp only [put_size, hz]; omega)
  replace HF := HF.more k1 h1
  replace hw := hw.trans k1 (H := []) (by simp) (by simp)
  clear k1 h1
  refine stepTwo dop63 (hE.get 42 rfl) (hE.get 41 rfl) hw (fun c13 w' k1 h1 => ?_)
  replace hE := hE.put (d := 87) (.agg #[.int .u8 (13 : Nat), .string ⟨#[]⟩, sl c13 2]) rfl (by simp only [put_size, hz]; omega)
  replace HF := HF.more k1 h1
  replace hw := hw.trans k1 (H := []) (by simp) (by simp)
  clear k1 h1
  refine stepOne dop64 (hE.get 0 rfl) hw (fun c14 w' k1 h1 => ?_)
  replace hE := hE.put (d := 88) (.agg #[.int .u8 (4 : Nat), .string ⟨#[]⟩, sl c14 1]) rfl (by simp only [put_size, hz]; omega)
  replace HF := HF.more k1 h1
  replace hw := hw.trans k1 (H := []) (by simp) (by simp)
  clear k1 h1
  refine stepTwo dop65 (hE.get 42 rfl) (hE.get 41 rfl) hw (fun c15 w' k1 h1 => ?_)
  replace hE := hE.put (d := 91) (.agg #[.int .u8 (12 : Nat), .string ⟨#[]⟩, sl c15 2]) rfl (by simp only [put_size, hz]; omega)
  replace HF := HF.more k1 h1
  replace hw := hw.trans k1 (H := []) (by simp) (by simp)
  clear k1 h1
  refine stepTwo dop66 (hE.get 41 rfl) (hE.get 40 rfl) hw (fun c16 w' k1 h1 => ?_)
  replace hE := hE.put (d := 94) (.agg #[.int .u8 (14 : Nat), .string ⟨#[]⟩, sl c16 2]) rfl (by simp only [put_size, hz]; omega)
  replace HF := HF.more k1 h1
  replace hw := hw.trans k1 (H := []) (by simp) (by simp)
  clear k1 h1
  refine stepOne dop67 (hE.get 0 rfl) hw (fun c17 w' k1 h1 => ?_)
  replace hE := hE.put (d := 95) (.agg #[.int .u8 (4 : Nat), .string ⟨#[]⟩, sl c17 1]) rfl (by simp only [put_size, hz]; omega)
  replace HF := HF.more k1 h1
  replace hw := hw.trans k1 (H := []) (by simp) (by simp)
  clear k1 h1
  refine stepTwo dop68 (hE.get 41 rfl) (hE.get 40 rfl) hw (fun c18 w' k1 h1 => ?_)
  replace hE := hE.put (d := 98) (.agg #[.int .u8 (15 : Nat), .string ⟨#[]⟩, sl c18 2]) rfl (by simp only [put_size, hz]; omega)
  replace HF := HF.more k1 h1
  replace hw := hw.trans k1 (H := []) (by simp) (by simp)
  clear k1 h1
  refine stepOne dop69 (hE.get 40 rfl) hw (fun c19 w' k1 h1 => ?_)
  replace hE := hE.put (d := 100) (.agg #[.int .u8 (10 : Nat), .string ⟨#[]⟩, sl c19 1]) rfl (by simp only [put_size, hz]; omega)
  replace HF := HF.more k1 h1
  replace hw := hw.trans k1 (H := []) (by simp) (by simp)
  clear k1 h1
  refine stepOne dop70 (hE.get 0 rfl) hw (fun c20 w' k1 h1 => ?_)
  replace hE := hE.put (d := 101) (.agg #[.int .u8 (4 : Nat), .string ⟨#[]⟩, sl c20 1]) rfl (by simp only [put_size, hz]; omega)
  replace HF := HF.more k1 h1
  replace hw := hw.trans k1 (H := []) (by simp) (by simp)
  clear k1 h1
  refine stepOne dop71 (hE.get 41 rfl) hw (fun c21 w' k1 h1 => ?_)
  replace hE := hE.put (d := 103) (.agg #[.int .u8 (11 : Nat), .string ⟨#[]⟩, sl c21 1]) rfl (by simp only [put_size, hz]; omega)
  replace HF := HF.more k1 h1
  replace hw := hw.trans k1 (H := []) (by simp) (by simp)
  clear k1 h1
  refine stepOne dop72 (hE.get 41 rfl) hw (fun c22 w' k1 h1 => ?_)
  replace hE := hE.put (d := 105) (.agg #[.int .u8 (9 : Nat), .string ⟨#[]⟩, sl c22 1]) rfl (by simp only [put_size, hz]; omega)
  replace HF := HF.more k1 h1
  replace hw := hw.trans k1 (H := []) (by simp) (by simp)
  clear k1 h1
  refine stepOne dop73 (hE.get 0 rfl) hw (fun c23 w' k1 h1 => ?_)
  replace hE := hE.put (d := 106) (.agg #[.int .u8 (4 : Nat), .string ⟨#[]⟩, sl c23 1]) rfl (by simp only [put_size, hz]; omega)
  replace HF := HF.more k1 h1
  replace hw := hw.trans k1 (H := []) (by simp) (by simp)
  clear k1 h1
  refine stepOne dop74 (hE.get 42 rfl) hw (fun c24 w' k1 h1 => ?_)
  replace hE := hE.put (d := 108) (.agg #[.int .u8 (9 : Nat), .string ⟨#[]⟩, sl c24 1]) rfl (by simp only [put_size, hz]; omega)
  replace HF := HF.more k1 h1
  replace hw := hw.trans k1 (H := []) (by simp) (by simp)
  clear k1 h1
  refine stepTwo dop75 (hE.get 42 rfl) (hE.get 41 rfl) hw (fun c25 w' k1 h1 => ?_)
  replace hE := hE.put (d := 111) (.agg #[.int .u8 (7 : Nat), .string ⟨#[]⟩, sl c25 2]) rfl (by simp only [put_size, hz]; omega)
  replace HF := HF.more k1 h1
  replace hw := hw.trans k1 (H := []) (by simp) (by simp)
  clear k1 h1
  refine stepTwo dop76 (hE.get 41 rfl) (hE.get 40 rfl) hw (fun c26 w' k1 h1 => ?_)
  replace hE := hE.put (d := 114) (.agg #[.int .u8 (6 : Nat), .string ⟨#[]⟩, sl c26 2]) rfl (by simp only [put_size, hz]; omega)
  replace HF := HF.more k1 h1
  replace hw := hw.trans k1 (H := []) (by simp) (by simp)
  clear k1 h1
  refine stepTwo dop77 (hE.get 40 rfl) (hE.get 39 rfl) hw (fun c27 w' k1 h1 => ?_)
  replace hE := hE.put (d := 117) (.agg #[.int .u8 (8 : Nat), .string ⟨#[]⟩, sl c27 2]) rfl (by simp only [put_size, hz]; omega)
  replace HF := HF.more k1 h1
  replace hw := hw.trans k1 (H := []) (by simp) (by simp)
  clear k1 h1
  refine stepTwo dop78 (hE.get 39 rfl) (hE.get 38 rfl) hw (fun c28 w' k1 h1 => ?_)
  replace hE := hE.put (d := 120) (.agg #[.int .u8 (8 : Nat), .string ⟨#[]⟩, sl c28 2]) rfl (by simp only [put_size, hz]; omega)
  replace HF := HF.more k1 h1
  replace hw := hw.trans k1 (H := []) (by simp) (by simp)
  clear k1 h1
  refine stepOne dop79 (hE.get 0 rfl) hw (fun c29 w' k1 h1 => ?_)
  replace hE := hE.put (d := 121) (.agg #[.int .u8 (4 : Nat), .string ⟨#[]⟩, sl c29 1]) rfl (by simp only [put_size, hz]; omega)
  replace HF := HF.more k1 h1
  replace hw := hw.trans k1 (H := []) (by simp) (by simp)
  clear k1 h1
  refine stepTwo dop80 (hE.get 39 rfl) (hE.get 38 rfl) hw (fun c30 w' k1 h1 => ?_)
  replace hE := hE.put (d := 124) (.agg #[.int .u8 (12 : Nat), .string ⟨#[]⟩, sl c30 2]) rfl (by simp only [put_size, hz]; omega)
  replace HF := HF.more k1 h1
  replace hw := hw.trans k1 (H := []) (by simp) (by simp)
  clear k1 h1
  refine stepOne dop81 (hE.get 0 rfl) hw (fun c31 w' k1 h1 => ?_)
  replace hE := hE.put (d := 125) (.agg #[.int .u8 (9 : Nat), .string ⟨#[]⟩, sl c31 1]) rfl (by simp only [put_size, hz]; omega)
  replace HF := HF.more k1 h1
  replace hw := hw.trans k1 (H := []) (by simp) (by simp)
  clear k1 h1
  refine stepOne dop82 (hE.get 39 rfl) hw (fun c32 w' k1 h1 => ?_)
  replace hE := hE.put (d := 127) (.agg #[.int .u8 (9 : Nat), .string ⟨#[]⟩, sl c32 1]) rfl (by simp only [put_size, hz]; omega)
  replace HF := HF.more k1 h1
  replace hw := hw.trans k1 (H := []) (by simp) (by simp)
  clear k1 h1
  refine stepOne dop83 (hE.get 39 rfl) hw (fun c33 w' k1 h1 => ?_)
  replace hE := hE.put (d := 129) (.agg #[.int .u8 (9 : Nat), .string ⟨#[]⟩, sl c33 1]) rfl (by simp only [put_size, hz]; omega)
  replace HF := HF.more k1 h1
  replace hw := hw.trans k1 (H := []) (by simp) (by simp)
  clear k1 h1
  refine stepTwo dop84 (hE.get 1 rfl) (hE.get 0 rfl) hw (fun c34 w' k1 h1 => ?_)
  replace hE := hE.put (d := 130) (.agg #[.int .u8 (12 : Nat), .string ⟨#[]⟩, sl c34 2]) rfl (by simp only [put_size, hz]; omega)
  replace HF := HF.more k1 h1
  replace hw := hw.trans k1 (H := []) (by simp) (by simp)
  clear k1 h1
  refine stepTwo dop85 (hE.get 40 rfl) (hE.get 39 rfl) hw (fun c35 w' k1 h1 => ?_)
  replace hE := hE.put (d := 133) (.agg #[.int .u8 (15 : Nat), .string ⟨#[]⟩, sl c35 2]) rfl (by simp only [put_size, hz]; omega)
  replace HF := HF.more k1 h1
  replace hw := hw.trans k1 (H := []) (by simp) (by simp)
  clear k1 h1
  refine stepOne dop86 (hE.get 0 rfl) hw (fun c36 w' k1 h1 => ?_)
  replace hE := hE.put (d := 134) (.agg #[.int .u8 (9 : Nat), .string ⟨#[]⟩, sl c36 1]) rfl (by simp only [put_size, hz]; omega)
  replace HF := HF.more k1 h1
  replace hw := hw.trans k1 (H := []) (by simp) (by simp)
  clear k1 h1
  refine stepOne dop87 (hE.get 40 rfl) hw (fun c37 w' k1 h1 => ?_)
  replace hE := hE.put (d := 136) (.agg #[.int .u8 (9 : Nat), .string ⟨#[]⟩, sl c37 1]) rfl (by simp only [put_size, hz]; omega)
  replace HF := HF.more k1 h1
  replace hw := hw.trans k1 (H := []) (by simp) (by simp)
  clear k1 h1
  refine stepOne dop88 (hE.get 40 rfl) hw (fun c38 w' k1 h1 => ?_)
  replace hE := hE.put (d := 138) (.agg #[.int .u8 (9 : Nat), .string ⟨#[]⟩, sl c38 1]) rfl (by simp only [put_size, hz]; omega)
  replace HF := HF.more k1 h1
  replace hw := hw.trans k1 (H := []) (by simp) (by simp)
  clear k1 h1
  refine stepTwo dop89 (hE.get 1 rfl) (hE.get 0 rfl) hw (fun c39 w' k1 h1 => ?_)
  replace hE := hE.put (d := 139) (.agg #[.int .u8 (15 : Nat), .string ⟨#[]⟩, sl c39 2]) rfl (by simp only [put_size, hz]; omega)
  replace HF := HF.more k1 h1
  replace hw := hw.trans k1 (H := []) (by simp) (by simp)
  clear k1 h1
  refine stepOne dop90 (hE.get 41 rfl) hw (fun c40 w' k1 h1 => ?_)
  replace hE := hE.put (d := 141) (.agg #[.int .u8 (11 : Nat), .string ⟨#[]⟩, sl c40 1]) rfl (by simp only [put_size, hz]; omega)
  replace HF := HF.more k1 h1
  replace hw := hw.trans k1 (H := []) (by simp) (by simp)
  clear k1 h1
  refine stepOne dop91 (hE.get 0 rfl) hw (fun c41 w' k1 h1 => ?_)
  replace hE := hE.put (d := 142) (.agg #[.int .u8 (9 : Nat), .string ⟨#[]⟩, sl c41 1]) rfl (by simp only [put_size, hz]; omega)
  replace HF := HF.more k1 h1
  replace hw := hw.trans k1 (H := []) (by simp) (by simp)
  clear k1 h1
  refine stepOne dop92 (hE.get 42 rfl) hw (fun c42 w' k1 h1 => ?_)
  replace hE := hE.put (d := 144) (.agg #[.int .u8 (9 : Nat), .string ⟨#[]⟩, sl c42 1]) rfl (by simp only [put_size, hz]; omega)
  replace HF := HF.more k1 h1
  replace hw := hw.trans k1 (H := []) (by simp) (by simp)
  clear k1 h1
  refine stepOne dop93 (hE.get 0 rfl) hw (fun c43 w' k1 h1 => ?_)
  replace hE := hE.put (d := 145) (.agg #[.int .u8 (11 : Nat), .string ⟨#[]⟩, sl c43 1]) rfl (by simp only [put_size, hz]; omega)
  replace HF := HF.more k1 h1
  replace hw := hw.trans k1 (H := []) (by simp) (by simp)
  clear k1 h1
  have hB := fun W => build28 (w := W) (hE.get 43 rfl) (hE.get 42 rfl) (hE.get 41 rfl) (hE.get 40 rfl) (hE.get 39 rfl) (hE.get 37 rfl) (hE.get 36 rfl) (hE.get 34 rfl) (hE.get 32 rfl) (hE.get 31 rfl) (hE.get 29 rfl) (hE.get 28 rfl) (hE.get 26 rfl) (hE.get 25 rfl) (hE.get 23 rfl) (hE.get 22 rfl) (hE.get 20 rfl) (hE.get 19 rfl) (hE.get 18 rfl) (hE.get 17 rfl) (hE.get 16 rfl) (hE.get 14 rfl) (hE.get 12 rfl) (hE.get 9 rfl) (hE.get 7 rfl) (hE.get 4 rfl) (hE.get 2 rfl) (hE.get 0 rfl)
  obtain ⟨hk, hr⟩ := dual_end hw hf hg hbx hbz HF
  refine held_make dop94_at dop94_guard dop94_ready dop94_link (exec_buildSlice dop94_op (hB _ ())) hk ?_
  rw [dop94_dst]
  refine held_make dop95_at dop95_guard dop95_ready dop95_link (exec_assign dop95_op) hk ?_
  rw [dop95_dst, eval_put_eq _ (by simp only [put_size, hz]; omega)]
  refine wpAnyH_done dEnd (NoPanic.normal ?_) _
  exact next _ _ _ _ _ _ _ _ _ _ _ _ _ _ _ _ _ _ _ _ _ _ _ _ _ _ _ _ _ _ _ _ _ _ _ _ _ _ _ _ _ _ _ _ _ _ _ hk hr
theorem dual_region {Q : Exit → Act → World → Prop} {V : World} {a : Act} {f g : Tr} {fad gad : Option Addr} {fn fcap gn gcap bx bz : Nat} {BF BG BY BN BX BZ : Nat} (hz : a.tmps.size = 169) (hE : Evs a [(4, .pointer (some ⟨BF, 0, none⟩)), (5, .pointer (some ⟨BG, 0, none⟩)), (12, .pointer (some ⟨BY, 0, none⟩)), (13, .pointer (some ⟨BN, 0, none⟩)), (14, .pointer (some ⟨BX, 0, none⟩)), (15, .pointer (some ⟨BZ, 0, none⟩))]) (bF : ∀ W, Kept [] V W → For3 W BF (.int .u8 (f.op : Nat)) (.string f.name) (.slice fad fn fcap)) (bG : ∀ W, Kept [] V W → For3 W BG (.int .u8 (g.op : Nat)) (.string g.name) (.slice gad gn gcap)) (bY : ∀ W, Kept [] V W → For3 W BY (.int .u8 1) (.string ⟨#[]⟩) (.slice none 0 0)) (bN : ∀ W, Kept [] V W → For3 W BN (.int .u8 2) (.string ⟨#[]⟩) (.slice none 0 0)) (bX : ∀ W, Kept [] V W → For3 W BX (.int .u8 4) (.string ⟨#[]⟩) (.slice (some ⟨bx, 0, none⟩) 1 1)) (bZ : ∀ W, Kept [] V W → For3 W BZ (.int .u8 4) (.string ⟨#[]⟩) (.slice (some ⟨bz, 0, none⟩) 1 1)) (hf : IsF V f (.slice fad fn fcap)) (hg : IsF V g (.slice gad gn gcap)) (hbx : V.heap[bx]? = some (oneO (f.op : Nat) f.name (.slice fad fn fcap))) (hbz : V.heap[bz]? = some (oneO (g.op : Nat) g.name (.slice gad gn gcap)))
    (next : ∀ (x52 x54 x55 x57 x59 x60 x62 x63 x65 x66 x67 x70 x71 x73 x74 x75 x78 x79 x82 x83 x85 x86 x89 x90 x92 x93 x96 x97 x99 x102 x104 x107 x109 x110 x112 x113 x115 x116 x118 x119 x122 x123 x126 x128 x131 x132 x135 x137 x140 x143 x53 x56 x58 x61 x64 x68 x69 x72 x76 x77 x80 x81 x84 x87 x88 x91 x94 x95 x98 x100 x101 x103 x105 x106 x108 x111 x114 x117 x120 x121 x124 x125 x127 x129 x130 x133 x134 x136 x138 x139 x141 x142 x144 x145 x146 : Value) (lb : Nat) (w' : World), Kept [] V w' → DualRow w' lb f g → Q .normal ((((((((((((((((((((((((((((((((((((((((((((((((((((((((((((((((((((((((((((((((((((((((((((((((a.put (some 52) x52).put (some 54) x54).put (some 55) x55).put (some 57) x57).put (some 59) x59).put (some 60) x60).put (some 62) x62).put (some 63) x63).put (some 65) x65).put (some 66) x66).put (some 67) x67).put (some 70) x70).put (some 71) x71).put (some 73) x73).put (some 74) x74).put (some 75) x75).put (some 78) x78).put (some 79) x79).put (some 82) x82).put (some 83) x83).put (some 85) x85).put (some 86) x86).put (some 89) x89).put (some 90) x90).put (some 92) x92).put (some 93) x93).put (some 96) x96).put (some 97) x97).put (some 99) x99).put (some 102) x102).put (some 104) x104).put (some 107) x107).put (some 109) x109).put (some 110) x110).put (some 112) x112).put (some 113) x113).put (some 115) x115).put (some 116) x116).put (some 118) x118).put (some 119) x119).put (some 122) x122).put (some 123) x123).put (some 126) x126).put (some 128) x128).put (some 131) x131).put (some 132) x132).put (some 135) x135).put (some 137) x137).put (some 140) x140).put (some 143) x143).put (some 53) x53).put (some 56) x56).put (some 58) x58).put (some 61) x61).put (some 64) x64).put (some 68) x68).put (some 69) x69).put (some 72) x72).put (some 76) x76).put (some 77) x77).put (some 80) x80).put (some 81) x81).put (some 84) x84).put (some 87) x87).put (some 88) x88).put (some 91) x91).put (some 94) x94).put (some 95) x95).put (some 98) x98).put (some 100) x100).put (some 101) x101).put (some 103) x103).put (some 105) x105).put (some 106) x106).put (some 108) x108).put (some 111) x111).put (some 114) x114).put (some 117) x117).put (some 120) x120).put (some 121) x121).put (some 124) x124).put (some 125) x125).put (some 127) x127).put (some 129) x129).put (some 130) x130).put (some 133) x133).put (some 134) x134).put (some 136) x136).put (some 138) x138).put (some 139) x139).put (some 141) x141).put (some 142) x142).put (some 144) x144).put (some 145) x145).put (some 146) x146).put (some 16) (.slice (some ⟨lb, 0, none⟩) 28 28)) w') : (Code.region 12 dOps true).wp Tryd.prog Q a V := by
  refine wp_region_noPanic (wp_region_held (S := Kept [] V) (by kernel_rfl) ?_)
  rw [dOps_size, dL_zero]
  have hw : Kept [] V V.drew := (Kept.refl [] V).drew
  refine dual_loads hz hE bF bG bY bN bX bZ hw (fun hE2 => dual_calls (by simp only [put_size, hz]) (fun p hp => hE2 p (List.mem_append_left _ hp)) hw hf hg hbx hbz (fun x53 x56 x58 x61 x64 x68 x69 x72 x76 x77 x80 x81 x84 x87 x88 x91 x94 x95 x98 x100 x101 x103 x105 x106 x108 x111 x114 x117 x120 x121 x124 x125 x127 x129 x130 x133 x134 x136 x138 x139 x141 x142 x144 x145 x146 lb w' h1 h2 => next _ _ _ _ _ _ _ _ _ _ _ _ _ _ _ _ _ _ _ _ _ _ _ _ _ _ _ _ _ _ _ _ _ _ _ _ _ _ _ _ _ _ _ _ _ _ _ _ _ _ _ _ _ _ _ _ _ _ _ _ _ _ _ _ _ _ _ _ _ _ _ _ _ _ _ _ _ _ _ _ _ _ _ _ _ _ _ _ _ _ _ _ _ _ _ _ _ h1 h2))
end Go.Proofs.YtddgciilcghbaaaDoor

/- EvalDuals, walked. -/
namespace Go.Proofs.YtddgciilcghbaaaDoor
open Go.RowKit Go.Shelf

set_option maxHeartbeats 16000000 in
set_option maxRecDepth 20000 in
theorem evalDuals_walk (f g : Tr) (fv gv nv sv lv : Value) (xs : List ByteArray) (q : Wd) (w : World) (hI : IsF w f fv) (hJ : IsF w g gv) (hF : f.Fine) (hG : g.Fine) (hM : f.Modest) (hO : g.Modest) (hN : Strs w nv xs) (hX : ∀ x ∈ xs, x.size ≤ 140737488351232) (hS : Lets w sv q.stem) (hL : Lets w lv q.loop) (hT : KidsTab w) :
    Calls Tryd.prog 3 #[.agg #[.int .u8 (f.op : Nat), .string f.name, fv], .agg #[.int .u8 (g.op : Nat), .string g.name, gv], nv, .agg #[sv, lv]] w fun e w' => e = .returned (.bool true) ∧ Kept [] w w' := by
  obtain ⟨fad, fcap, rfl⟩ := hI.slice
  obtain ⟨gad, gcap, rfl⟩ := hJ.slice
  obtain ⟨V, hV⟩ : ∃ V, ((w.alloc (.cells #[.int .u8 (f.op : Nat), .string f.name, .slice fad f.kids.length fcap] 25)).alloc (.cells #[.int .u8 (g.op : Nat), .string g.name, .slice gad g.kids.length gcap] 25)).alloc (.cells #[sv, lv] 29) = V := ⟨_, rfl⟩
  have kV : Kept [] w V := by rw [← hV]; exact (((Kept.refl [] w).alloc _).alloc _).alloc _
  have hC : StC w V f g (.slice fad f.kids.length fcap) (.slice gad g.kids.length gcap) nv sv lv xs q :=
    ⟨kV, by rw [← hV]; exact alUp (alUp (al0 _ _) _) _, by rw [← hV]; exact alUp (al1 _ _ _) _, by rw [← hV]; exact al2 _ _ _ _, hI.kept kV, hJ.kept kV, hN.kept kV, hS.kept kV, hL.kept kV, hT.kept kV⟩
  have HAW : Hid (Calls Tryd.prog 6 #[] V fun e w' => e = .returned (.bool true) ∧ Kept [] V w') := awake_any V hC.tab
  have HFF : Hid (∀ W, Kept [] V W → Calls Tryd.prog 7 #[.agg #[.int .u8 (f.op : Nat), .string f.name, .slice fad f.kids.length fcap], nv, .agg #[sv, lv]] W fun e w' => ∃ n : Nat, e = .returned (.bool (decide (0 < n))) ∧ (n = 0 → f.wsum ≤ 65536 ∧ q.stem.length + q.loop.length ≤ 65535) ∧ Kept [] W w') := fun W k => far_any f _ nv sv lv xs q W (hC.go k).f_ hM (hC.go k).n_ hX (hC.go k).st (hC.go k).lp
  have HFG : Hid (∀ W, Kept [] V W → Calls Tryd.prog 7 #[.agg #[.int .u8 (g.op : Nat), .string g.name, .slice gad g.kids.length gcap], nv, .agg #[sv, lv]] W fun e w' => ∃ n : Nat, e = .returned (.bool (decide (0 < n))) ∧ (n = 0 → g.wsum ≤ 65536 ∧ q.stem.length + q.loop.length ≤ 65535) ∧ Kept [] W w') := fun W k => far_any g _ nv sv lv xs q W (hC.go k).g_ hO (hC.go k).n_ hX (hC.go k).st (hC.go k).lp
  obtain ⟨nad, nc, rfl, _⟩ := hN.form
  obtain ⟨sad, sc, rfl, _, _⟩ := hS.form
  obtain ⟨lad, lc, rfl, _, _⟩ := hL.form
  have HC : Hid (StC w V f g (.slice fad f.kids.length fcap) (.slice gad g.kids.length gcap) (.slice nad xs.length nc) (.slice sad q.stem.length sc) (.slice lad q.loop.length lc) xs q) := hC
  have HVV : Hid (_ = V) := hV
  rw [← hV] at HAW
  have HFI : Hid (f.Fine ∧ g.Fine) := ⟨hF, hG⟩
  clear hI hJ hF hG hM hO hN hX hS hL hT kV hC hV
  go_enter Tryd.func3, Tryd.ntmps3
  go_upto_region 2 with (go_at_call 6; refine HAW.out.mono ?_; rintro e V1 ⟨rfl, k1⟩; rw [HVV.out] at k1; have HK1 : Hid (Kept [] V V1) := k1; have HC1 : Hid (StC w V1 f g (.slice fad f.kids.length fcap) (.slice gad g.kids.length gcap) (.slice nad xs.length nc) (.slice sad q.stem.length sc) (.slice lad q.loop.length lc) xs q) := HC.out.go k1; obtain ⟨f0, f1, f2, _⟩ := HC1.out.b0.cells; obtain ⟨d0, d1, _, _⟩ := HC1.out.b2.cells; clear k1)
  clear HAW HVV
  have T1 : Hid True := trivial
  go_cut [29] from 20 to 29 (fun s29 wx => ∃ b, s29 = .bool b ∧ Hid (Kept [] V wx ∧ (b = false → f.wsum ≤ 65536 ∧ g.wsum ≤ 65536 ∧ q.stem.length + q.loop.length ≤ 65535)))
  case first =>
    go_wp2_with (first
      | (clear T1; go_at_call 7; refine (HFF.out _ HK1.out).mono ?_; rintro e V2 ⟨n1, rfl, hn1, k2⟩; have HK2 : Hid (Kept [] V V2) := HK1.out.trans k2 (by simp) (by simp); have HN1 : Hid _ := hn1; obtain ⟨g0, g1, g2, _⟩ := (HC.out.go HK2.out).b1.cells; obtain ⟨d0, d1, _, _⟩ := (HC.out.go HK2.out).b2.cells; have T2 : Hid True := trivial; clear k2 hn1; rcases Nat.eq_zero_or_pos n1 with rfl | hn1)
      | (clear T2; go_at_call 7; refine (HFG.out _ HK2.out).mono ?_; rintro e V3 ⟨n2, rfl, hn2, k3⟩; have HK3 : Hid (Kept [] V V3) := HK2.out.trans k3 (by simp) (by simp); have HN2 : Hid _ := hn2; clear k3 hn2))
    · go_meet
      exact ⟨_, rfl, HK3.out, fun h => by
        have h2 : n2 = 0 := by simpa using h
        exact ⟨(HN1.out (by first | rfl | trivial)).1, HN2.out h2⟩⟩
    · go_meet
      exact ⟨_, rfl, HK2.out, fun h => by cases h⟩
  case rest =>
    obtain ⟨b, rfl, HX⟩ := hcut
    cases b with
    | true =>
      go_wp2
      go_ret
      exact ⟨rfl, HC.out.kept.trans HX.out.1 (by simp) (by simp)⟩
    | false =>
      have HC2 : Hid (StC w wc f g (.slice fad f.kids.length fcap) (.slice gad g.kids.length gcap) (.slice nad xs.length nc) (.slice sad q.stem.length sc) (.slice lad q.loop.length lc) xs q) := HC.out.go HX.out.1
      obtain ⟨hwf, hwg, hwq⟩ := HX.out.2 rfl
      have hsf := f.size_wsum
      have hsg := g.size_wsum
      have HWD : Hid (∀ W, Kept [] wc W → IsW W (.slice sad q.stem.length sc) (.slice lad q.loop.length lc) q) := fun W k => ⟨(HC2.out.go k).st, (HC2.out.go k).lp, by omega⟩
      have HRF : Hid (∀ W, Kept [] wc W → Calls Tryd.prog 8 #[.agg #[.int .u8 (f.op : Nat), .string f.name, .slice fad f.kids.length fcap], .slice nad xs.length nc, .agg #[.slice sad q.stem.length sc, .slice lad q.loop.length lc]] W fun e w' => e = .returned (.bool (askB f xs q)) ∧ Kept [] W w') := fun W k => ask_any f _ _ _ _ xs q W (HC2.out.go k).f_ HFI.out.1 (by omega) (HC2.out.go k).n_ (HWD.out W k)
      have HRG : Hid (∀ W, Kept [] wc W → Calls Tryd.prog 8 #[.agg #[.int .u8 (g.op : Nat), .string g.name, .slice gad g.kids.length gcap], .slice nad xs.length nc, .agg #[.slice sad q.stem.length sc, .slice lad q.loop.length lc]] W fun e w' => e = .returned (.bool (askB g xs q)) ∧ Kept [] W w') := fun W k => ask_any g _ _ _ _ xs q W (HC2.out.go k).g_ HFI.out.2 (by omega) (HC2.out.go k).n_ (HWD.out W k)
      have hzf : f.size ≤ 65536 := by omega
      have hzg : g.size ≤ 65536 := by omega
      obtain ⟨af, haf⟩ : ∃ af, askB f xs q = af := ⟨_, rfl⟩
      obtain ⟨ag, hag⟩ : ∃ ag, askB g xs q = ag := ⟨_, rfl⟩
      rw [haf] at HRF
      rw [hag] at HRG
      have HAF : Hid (askB f xs q = af) := haf
      have HAG : Hid (askB g xs q = ag) := hag
      have HTT : Hid (f.size ≤ 65536 ∧ g.size ≤ 65536) := ⟨hzf, hzg⟩
      obtain ⟨f0, f1, f2, _⟩ := HC2.out.b0.cells
      obtain ⟨d0, d1, _, _⟩ := HC2.out.b2.cells
      have T5 : Hid True := trivial
      clear haf hag hwf hwg hwq hsf hsg hzf hzg HX HFF HFG HK1 HC1 HC
      rename World => V2
      go_upto_region 6 with (first
        | (clear T5; go_at_call 8; refine Calls.mono (HRF.out V2 (Kept.refl [] V2)) ?_; rintro e V3 ⟨rfl, k3⟩; have HK3 : Hid (Kept [] V2 V3) := k3; obtain ⟨g0, g1, g2, _⟩ := (HC2.out.go k3).b1.cells; obtain ⟨e0, e1, _, _⟩ := (HC2.out.go k3).b2.cells; have T6 : Hid True := trivial; clear k3)
        | (clear T6; go_at_call 8; refine Calls.mono (HRG.out V3 HK3.out) ?_; rintro e V4 ⟨rfl, k4⟩; have HK4 : Hid (Kept [] V2 V4) := HK3.out.trans k4 (by simp) (by simp); clear k4))
      have HC4 : Hid (StC w V4 f g (.slice fad f.kids.length fcap) (.slice gad g.kids.length gcap) (.slice nad xs.length nc) (.slice sad q.stem.length sc) (.slice lad q.loop.length lc) xs q) := HC2.out.go HK4.out
      have HWD4 : Hid (∀ W, Kept [] V4 W → IsW W (.slice sad q.stem.length sc) (.slice lad q.loop.length lc) q) := fun W k => HWD.out W (HK4.out.trans k (by simp) (by simp))
      clear HRF HRG HWD HK3 HK4 HC2 f0 f1 f2 d0 d1 g0 g1 g2 e0 e1
      cases af with
      | false =>
        go_wp2
        go_ret
        exact ⟨rfl, HC4.out.kept⟩
      | true =>
        cases ag with
        | false =>
          go_wp2
          go_ret
          exact ⟨rfl, HC4.out.kept⟩
        | true =>
          go_upto_region 10 with fail
          obtain ⟨V5, hV5⟩ : ∃ V5, (V4.alloc (.cells #[.int .u8 1, .string ⟨#[]⟩, .slice none 0 0] 25)).alloc (.cells #[.int .u8 2, .string ⟨#[]⟩, .slice none 0 0] 25) = V5 := ⟨_, rfl⟩
          have k5 : Kept [] V4 V5 := by rw [← hV5]; exact (kA _ _).alloc _
          have hy5 : For3 V5 V4.heap.size (.int .u8 1) (.string ⟨#[]⟩) (.slice none 0 0) := by rw [← hV5]; exact alUp (al0 _ _) _
          have hn5 : For3 V5 (V4.heap.size + 1) (.int .u8 2) (.string ⟨#[]⟩) (.slice none 0 0) := by rw [← hV5]; exact al1 _ _ _
          rw [hV5]
          obtain ⟨BY, hBY⟩ : ∃ BY, V4.heap.size = BY := ⟨_, rfl⟩
          rw [hBY] at hy5 hn5 ⊢
          obtain ⟨BN, hBN⟩ : ∃ BN, BY + 1 = BN := ⟨_, rfl⟩
          rw [hBN] at hn5 ⊢
          have HC5 : Hid (StC w V5 f g (.slice fad f.kids.length fcap) (.slice gad g.kids.length gcap) (.slice nad xs.length nc) (.slice sad q.stem.length sc) (.slice lad q.loop.length lc) xs q) := HC4.out.go k5
          have HY5 : Hid (For3 V5 BY (.int .u8 1) (.string ⟨#[]⟩) (.slice none 0 0)) := hy5
          have HN5 : Hid (For3 V5 BN (.int .u8 2) (.string ⟨#[]⟩) (.slice none 0 0)) := hn5
          have HWD5 : Hid (∀ W, Kept [] V5 W → IsW W (.slice sad q.stem.length sc) (.slice lad q.loop.length lc) q) := fun W k => HWD4.out W (k5.trans k (by simp) (by simp))
          obtain ⟨f0, f1, f2, _⟩ := HC5.out.b0.cells
          clear hV5 k5 hy5 hn5 hBY hBN HC4 HWD4
          go_upto_region 11 with (go_at_call 9; refine (lawOneC _ _ _ _ _ _ _).mono ?_; rintro e X1 ⟨bx, rfl, _, _, hx, kx⟩; have HKx : Hid (Kept [] V5 X1) := kx; have HBx : Hid (X1.heap[bx]? = some (oneO (f.op : Nat) f.name (.slice fad f.kids.length fcap))) := hx; clear kx hx)
          obtain ⟨V6, hV6⟩ : ∃ V6, X1.alloc (.cells #[.int .u8 4, .string ⟨#[]⟩, .slice (some ⟨bx, 0, none⟩) 1 1] 25) = V6 := ⟨_, rfl⟩
          have k6 : Kept [] X1 V6 := by rw [← hV6]; exact kA _ _
          have hx6 : For3 V6 X1.heap.size (.int .u8 4) (.string ⟨#[]⟩) (.slice (some ⟨bx, 0, none⟩) 1 1) := by rw [← hV6]; exact al0 _ _
          have k56 : Kept [] V5 V6 := HKx.out.trans k6 (by simp) (by simp)
          rw [hV6]
          obtain ⟨BX, hBX⟩ : ∃ BX, X1.heap.size = BX := ⟨_, rfl⟩
          rw [hBX] at hx6 ⊢
          have HC6 : Hid (StC w V6 f g (.slice fad f.kids.length fcap) (.slice gad g.kids.length gcap) (.slice nad xs.length nc) (.slice sad q.stem.length sc) (.slice lad q.loop.length lc) xs q) := HC5.out.go k56
          have HX6 : Hid (For3 V6 BX (.int .u8 4) (.string ⟨#[]⟩) (.slice (some ⟨bx, 0, none⟩) 1 1)) := hx6
          have HB6 : Hid (V6.heap[bx]? = some (oneO (f.op : Nat) f.name (.slice fad f.kids.length fcap))) := k6.at HBx.out (by simp)
          have HK56 : Hid (Kept [] V5 V6) := k56
          obtain ⟨g0, g1, g2, _⟩ := HC6.out.b1.cells
          clear hV6 k6 hx6 k56 hBX HBx HKx f0 f1 f2 HC5
          go_upto_region 12 with (go_at_call 9; refine (lawOneC _ _ _ _ _ _ _).mono ?_; rintro e X2 ⟨bz, rfl, _, _, hx, kx⟩; have HKx : Hid (Kept [] V6 X2) := kx; have HBx : Hid (X2.heap[bz]? = some (oneO (g.op : Nat) g.name (.slice gad g.kids.length gcap))) := hx; clear kx hx)
          obtain ⟨V7, hV7⟩ : ∃ V7, X2.alloc (.cells #[.int .u8 4, .string ⟨#[]⟩, .slice (some ⟨bz, 0, none⟩) 1 1] 25) = V7 := ⟨_, rfl⟩
          have k7 : Kept [] X2 V7 := by rw [← hV7]; exact kA _ _
          have hz7 : For3 V7 X2.heap.size (.int .u8 4) (.string ⟨#[]⟩) (.slice (some ⟨bz, 0, none⟩) 1 1) := by rw [← hV7]; exact al0 _ _
          have k67 : Kept [] V6 V7 := HKx.out.trans k7 (by simp) (by simp)
          have k57 : Kept [] V5 V7 := HK56.out.trans k67 (by simp) (by simp)
          rw [hV7]
          obtain ⟨BZ, hBZ⟩ : ∃ BZ, X2.heap.size = BZ := ⟨_, rfl⟩
          rw [hBZ] at hz7 ⊢
          have HC7 : Hid (StC w V7 f g (.slice fad f.kids.length fcap) (.slice gad g.kids.length gcap) (.slice nad xs.length nc) (.slice sad q.stem.length sc) (.slice lad q.loop.length lc) xs q) := HC6.out.go k67
          have HY7 : Hid (For3 V7 BY (.int .u8 1) (.string ⟨#[]⟩) (.slice none 0 0)) := HY5.out.kept k57
          have HN7 : Hid (For3 V7 BN (.int .u8 2) (.string ⟨#[]⟩) (.slice none 0 0)) := HN5.out.kept k57
          have HX7 : Hid (For3 V7 BX (.int .u8 4) (.string ⟨#[]⟩) (.slice (some ⟨bx, 0, none⟩) 1 1)) := HX6.out.kept k67
          have HZ7 : Hid (For3 V7 BZ (.int .u8 4) (.string ⟨#[]⟩) (.slice (some ⟨bz, 0, none⟩) 1 1)) := hz7
          have HBX : Hid (V7.heap[bx]? = some (oneO (f.op : Nat) f.name (.slice fad f.kids.length fcap))) := k67.at HB6.out (by simp)
          have HBZ : Hid (V7.heap[bz]? = some (oneO (g.op : Nat) g.name (.slice gad g.kids.length gcap))) := k7.at HBx.out (by simp)
          have HWD7 : Hid (∀ W, Kept [] V7 W → IsW W (.slice sad q.stem.length sc) (.slice lad q.loop.length lc) q) := fun W k => HWD5.out W (k57.trans k (by simp) (by simp))
          clear hV7 k7 hz7 k67 k57 hBZ HBx HKx g0 g1 g2 HC6 HY5 HN5 HX6 HB6 HK56 HWD5
          go_cut [16] from 52 to 146 (fun s16 wx => ∃ lb, s16 = .slice (some ⟨lb, 0, none⟩) 28 28 ∧ Hid (Kept [] V7 wx ∧ DualRow wx lb f g))
          case first =>
            clear HAF HAG HTT HFI HWD7
            refine dual_region (V := V7) (f := f) (g := g) rfl (evs_six rfl rfl rfl rfl rfl rfl) (fun W k => HC7.out.b0.kept k) (fun W k => HC7.out.b1.kept k) (fun W k => HY7.out.kept k) (fun W k => HN7.out.kept k) (fun W k => HX7.out.kept k) (fun W k => HZ7.out.kept k) HC7.out.f_ HC7.out.g_ HBX.out HBZ.out (fun x52 x54 x55 x57 x59 x60 x62 x63 x65 x66 x67 x70 x71 x73 x74 x75 x78 x79 x82 x83 x85 x86 x89 x90 x92 x93 x96 x97 x99 x102 x104 x107 x109 x110 x112 x113 x115 x116 x118 x119 x122 x123 x126 x128 x131 x132 x135 x137 x140 x143 x53 x56 x58 x61 x64 x68 x69 x72 x76 x77 x80 x81 x84 x87 x88 x91 x94 x95 x98 x100 x101 x103 x105 x106 x108 x111 x114 x117 x120 x121 x124 x125 x127 x129 x130 x133 x134 x136 x138 x139 x141 x142 x144 x145 x146 lb w' hk hr => ?_)
            simp only [Act.put, List.setIfInBounds_toArray, List.set_cons_zero, List.set_cons_succ]
            have HKR : Hid (Kept [] V7 w' ∧ DualRow w' lb f g) := ⟨hk, hr⟩
            clear hk hr
            go_wp2_with fail
            go_meet
            exact ⟨_, rfl, HKR.out⟩
          case rest =>
            obtain ⟨lb, rfl, HX⟩ := hcut
            rename World => U
            have HC8 : Hid (StC w U f g (.slice fad f.kids.length fcap) (.slice gad g.kids.length gcap) (.slice nad xs.length nc) (.slice sad q.stem.length sc) (.slice lad q.loop.length lc) xs q) := HC7.out.go HX.out.1
            have HDR : Hid (DualRow U lb f g) := HX.out.2
            have HAK : Hid (∀ W (t u : Tr) (b c n m : Nat), Kept [] U W → (t, u) ∈ duals f g → IsF W t (sl b n) → IsF W u (sl c m) → Calls Tryd.prog 11 #[.agg #[.int .u8 (t.op : Nat), .string t.name, .slice (some ⟨b, 0, none⟩) n n], .agg #[.int .u8 (u.op : Nat), .string u.name, .slice (some ⟨c, 0, none⟩) m m], .slice nad xs.length nc, .agg #[.slice sad q.stem.length sc, .slice lad q.loop.length lc]] W fun e w' => e = .returned (.bool true) ∧ Kept [] W w') := fun W t u b c n m k hp h1 h2 =>
              alike_any t u _ _ _ _ _ xs q W h1 h2 (duals_fine HFI.out.1 HFI.out.2 _ hp).1 (duals_fine HFI.out.1 HFI.out.2 _ hp).2 (Nat.le_trans (duals_size f g HTT.out.1 HTT.out.2 _ hp).1 (by omega)) (Nat.le_trans (duals_size f g HTT.out.1 HTT.out.2 _ hp).2 (by omega)) (HC8.out.go k).n_ (HWD7.out W (HX.out.1.trans k (by simp) (by simp))) (HC8.out.go k).tab (duals_alike HAF.out HAG.out _ hp)
            clear HX HC7 HY7 HN7 HX7 HZ7 HBX HBZ HWD7 HAF HAG HFI HTT
            go_wp2_with fail
            go_loopw [17] (fun v17 wr => ∃ k : Nat, k ≤ 28 ∧ k % 2 = 0 ∧ v17 = .int .i64 (k : Nat) ∧ Hid (Kept [] U wr)) (fun v17 _ => 28 - (intOf v17).toNat)
            case atStart => exact ⟨0, by omega, rfl, rfl, Kept.refl [] U⟩
            case round =>
              obtain ⟨k, hk, hk2, rfl, HF⟩ := hrel
              obtain ⟨k1, hk1⟩ : ∃ k1, k + 1 = k1 := ⟨_, rfl⟩
              have hw1 : IntKind.i64.wrap ((k : Int) + 1) = (k1 : Int) := by rw [IntKind.wrap_i64]; omega
              have hw2 : IntKind.i64.wrap ((k : Int) + 2) = ((k + 2 : Nat) : Int) := by rw [IntKind.wrap_i64]; omega
              by_cases hlt : k < 28
              · have hlt1 : (k1 : Int) < 28 := by omega
                have hlt0 : (k : Int) < 28 := by omega
                have p0 : (0 : Int) ≤ (k : Int) := by omega
                have p1 : (0 : Int) ≤ (k1 : Int) := by omega
                obtain ⟨t, u, tb, uc, n, m, hp, hcs, _, _, ht, hu⟩ := HDR.out (k / 2) (by omega)
                rw [show 6 * (k / 2) = k * 3 by omega, show k * 3 + 3 = k1 * 3 by omega, show k * 3 + 4 = k1 * 3 + 1 by omega, show k * 3 + 5 = k1 * 3 + 2 by omega] at hcs
                have HCS : Hid (U.cell? ⟨lb, k * 3, none⟩ = some (.int .u8 (t.op : Nat)) ∧ U.cell? ⟨lb, k * 3 + 1, none⟩ = some (.string t.name) ∧ U.cell? ⟨lb, k * 3 + 2, none⟩ = some (sl tb n) ∧ U.cell? ⟨lb, k1 * 3, none⟩ = some (.int .u8 (u.op : Nat)) ∧ U.cell? ⟨lb, k1 * 3 + 1, none⟩ = some (.string u.name) ∧ U.cell? ⟨lb, k1 * 3 + 2, none⟩ = some (sl uc m)) := hcs
                have HAL : Hid (∀ W, Kept [] U W → Calls Tryd.prog 11 #[.agg #[.int .u8 (t.op : Nat), .string t.name, .slice (some ⟨tb, 0, none⟩) n n], .agg #[.int .u8 (u.op : Nat), .string u.name, .slice (some ⟨uc, 0, none⟩) m m], .slice nad xs.length nc, .agg #[.slice sad q.stem.length sc, .slice lad q.loop.length lc]] W fun e w' => e = .returned (.bool true) ∧ Kept [] W w') := fun W kk => HAK.out W t u tb uc n m kk hp (ht.kept kk) (hu.kept kk)
                clear hcs hp ht hu
                go_wp2_with fail
                go_cut [18] from 154 to 165 (fun s18 wx => s18 = .bool true ∧ Hid (Kept [] U wx))
                case first =>
                  have hS : ∀ W, Kept [] U W → (W.cell? ⟨lb, k * 3, none⟩ = some (.int .u8 (t.op : Nat)) ∧ W.cell? ⟨lb, k * 3 + 1, none⟩ = some (.string t.name) ∧ W.cell? ⟨lb, k * 3 + 2, none⟩ = some (.slice (some ⟨tb, 0, none⟩) n n) ∧ W.cell? ⟨lb, k1 * 3, none⟩ = some (.int .u8 (u.op : Nat)) ∧ W.cell? ⟨lb, k1 * 3 + 1, none⟩ = some (.string u.name) ∧ W.cell? ⟨lb, k1 * 3 + 2, none⟩ = some (.slice (some ⟨uc, 0, none⟩) m m) ∧ W.cell? ⟨w.heap.size + 1 + 1, 0, none⟩ = some (.slice sad q.stem.length sc) ∧ W.cell? ⟨w.heap.size + 1 + 1, 1, none⟩ = some (.slice lad q.loop.length lc)) := fun W kk => ⟨cell_kept0 kk HCS.out.1, cell_kept0 kk HCS.out.2.1, cell_kept0 kk HCS.out.2.2.1, cell_kept0 kk HCS.out.2.2.2.1, cell_kept0 kk HCS.out.2.2.2.2.1, cell_kept0 kk HCS.out.2.2.2.2.2, (HC8.out.go kk).b2.cells.1, (HC8.out.go kk).b2.cells.2.1⟩
                  have HS : Hid (∀ W, Kept [] U W → (W.cell? ⟨lb, k * 3, none⟩ = some (.int .u8 (t.op : Nat)) ∧ W.cell? ⟨lb, k * 3 + 1, none⟩ = some (.string t.name) ∧ W.cell? ⟨lb, k * 3 + 2, none⟩ = some (.slice (some ⟨tb, 0, none⟩) n n) ∧ W.cell? ⟨lb, k1 * 3, none⟩ = some (.int .u8 (u.op : Nat)) ∧ W.cell? ⟨lb, k1 * 3 + 1, none⟩ = some (.string u.name) ∧ W.cell? ⟨lb, k1 * 3 + 2, none⟩ = some (.slice (some ⟨uc, 0, none⟩) m m) ∧ W.cell? ⟨w.heap.size + 1 + 1, 0, none⟩ = some (.slice sad q.stem.length sc) ∧ W.cell? ⟨w.heap.size + 1 + 1, 1, none⟩ = some (.slice lad q.loop.length lc))) := hS
                  obtain ⟨e0, e1, e2, e3, e4, e5, e6, e7⟩ := hS wr HF.out
                  clear hS
                  go_region_held3 (fun w' => w'.cell? ⟨lb, k * 3, none⟩ = some (.int .u8 (t.op : Nat)) ∧ w'.cell? ⟨lb, k * 3 + 1, none⟩ = some (.string t.name) ∧ w'.cell? ⟨lb, k * 3 + 2, none⟩ = some (.slice (some ⟨tb, 0, none⟩) n n) ∧ w'.cell? ⟨lb, k1 * 3, none⟩ = some (.int .u8 (u.op : Nat)) ∧ w'.cell? ⟨lb, k1 * 3 + 1, none⟩ = some (.string u.name) ∧ w'.cell? ⟨lb, k1 * 3 + 2, none⟩ = some (.slice (some ⟨uc, 0, none⟩) m m) ∧ w'.cell? ⟨w.heap.size + 1 + 1, 0, none⟩ = some (.slice sad q.stem.length sc) ∧ w'.cell? ⟨w.heap.size + 1 + 1, 1, none⟩ = some (.slice lad q.loop.length lc))
                    ((refine HS.out _ ?_; (first | exact HF.out.drew | exact HF.out | exact HK9.out)))
                    (first | (go_at_call 11; refine Calls.mono (HAL.out _ HF.out.drew) ?_; rintro e W9 ⟨rfl, k9⟩; have HK9 : Hid (Kept [] U W9) := HF.out.drew.trans k9 (by simp) (by simp); clear k9))
                  all_goals (go_wp2_with fail; go_meet)
                  all_goals exact ⟨rfl, HK9.out⟩
                case rest =>
                  obtain ⟨rfl, HK9⟩ := hcut
                  go_wp2
                  go_roundw
                  case rel => exact ⟨k + 2, by omega, by omega, by go_num, HK9.out⟩
                  case measure => simp [intOf]; omega
              · obtain rfl : k = 28 := by omega
                obtain rfl : k1 = 29 := by omega
                clear hlt hk
                go_wp2
                go_ret
                exact ⟨rfl, HC8.out.kept.trans HF.out (by simp) (by simp)⟩
end Go.Proofs.YtddgciilcghbaaaDoor
