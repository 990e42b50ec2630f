/- What the abstract memory stands for, and that each operation keeps to it. -/
import Derived.Test.YtbbfajbnklgncaaRxA
import Derived.Laws.World
import Derived.Laws.Sem
import Derived.Laws.BytesString
namespace Go.Proofs.Ytbbfajbnklgncaa.Rx
/-! ### The tries -/
theorem Tri.get_none {α : Type} (d n : Nat) : Tri.get d (none : Option (Tri α)) n = none := by cases d <;> rfl
theorem Tri.even {n : Nat} (h : n % 2 = 0) : Nat.beq (Nat.mod n 2) 0 = true := by
  show Nat.beq (n % 2) 0 = true
  rw [h]; rfl
theorem Tri.odd {n : Nat} (h : n % 2 = 1) : Nat.beq (Nat.mod n 2) 0 = false := by
  show Nat.beq (n % 2) 0 = false
  rw [h]; rfl
theorem Tri.get_set_same {α : Type} (x : α) : ∀ (d : Nat) (t : Option (Tri α)) (n : Nat), Tri.get d (some (Tri.set d t n x)) n = some x
  | 0, _, _ => rfl
  | d + 1, t, n => by
    have ih := Tri.get_set_same x d
    rcases Nat.mod_two_eq_zero_or_one n with h | h
    · simp only [Tri.get, Tri.set, Tri.even h, ih]
    · simp only [Tri.get, Tri.set, Tri.odd h, ih]

theorem Tri.get_set_other {α : Type} (x : α) : ∀ (d : Nat) (t : Option (Tri α)) (n m : Nat), n < 2 ^ d → m < 2 ^ d → n ≠ m →
    Tri.get d (some (Tri.set d t n x)) m = Tri.get d t m
  | 0, _, n, m, hn, hm, h => by simp at hn hm; omega
  | d + 1, t, n, m, hn, hm, h => by
    have ih := Tri.get_set_other x d
    have hn' : Nat.div n 2 < 2 ^ d := by show n / 2 < _; rw [Nat.pow_succ] at hn; omega
    have hm' : Nat.div m 2 < 2 ^ d := by show m / 2 < _; rw [Nat.pow_succ] at hm; omega
    rcases Nat.mod_two_eq_zero_or_one n with n2 | n2 <;> rcases Nat.mod_two_eq_zero_or_one m with m2 | m2
    · have e : Nat.div n 2 ≠ Nat.div m 2 := by show n / 2 ≠ m / 2; omega
      cases t <;> simp only [Tri.get, Tri.set, Tri.even n2, Tri.even m2, ih _ _ _ hn' hm' e, Tri.get_none]
    · cases t <;> simp only [Tri.get, Tri.set, Tri.even n2, Tri.odd m2, Tri.get_none]
    · cases t <;> simp only [Tri.get, Tri.set, Tri.odd n2, Tri.even m2, Tri.get_none]
    · have e : Nat.div n 2 ≠ Nat.div m 2 := by show n / 2 ≠ m / 2; omega
      cases t <;> simp only [Tri.get, Tri.set, Tri.odd n2, Tri.odd m2, ih _ _ _ hn' hm' e, Tri.get_none]

theorem Tri.get_succ {α : Type} (d : Nat) (t : Option (Tri α)) (n : Nat) : Tri.get (d + 1) t n = Option.casesOn t none fun t => Bool.casesOn (Nat.beq (Nat.mod n 2) 0) (Tri.get d t.r (Nat.div n 2)) (Tri.get d t.l (Nat.div n 2)) := rfl
theorem Tri.set_succ {α : Type} (d : Nat) (t : Option (Tri α)) (n : Nat) (x : α) : Tri.set (d + 1) t n x = Bool.casesOn (Nat.beq (Nat.mod n 2) 0)
    ⟨none, Option.casesOn t none fun t => t.l, some (Tri.set d (Option.casesOn t none fun t => t.r) (Nat.div n 2) x)⟩
    ⟨none, some (Tri.set d (Option.casesOn t none fun t => t.l) (Nat.div n 2) x), Option.casesOn t none fun t => t.r⟩ := rfl
theorem Tri.g0_eq {α : Type} : @Tri.g0 α = Tri.get 0 := rfl
theorem Tri.g1_eq {α : Type} : @Tri.g1 α = Tri.get 1 := by funext t n; rw [show Tri.get 1 t n = _ from Tri.get_succ 0 t n, ← Tri.g0_eq]; rfl
theorem Tri.g2_eq {α : Type} : @Tri.g2 α = Tri.get 2 := by funext t n; rw [show Tri.get 2 t n = _ from Tri.get_succ 1 t n, ← Tri.g1_eq]; rfl
theorem Tri.g3_eq {α : Type} : @Tri.g3 α = Tri.get 3 := by funext t n; rw [show Tri.get 3 t n = _ from Tri.get_succ 2 t n, ← Tri.g2_eq]; rfl
theorem Tri.g4_eq {α : Type} : @Tri.g4 α = Tri.get 4 := by funext t n; rw [show Tri.get 4 t n = _ from Tri.get_succ 3 t n, ← Tri.g3_eq]; rfl
theorem Tri.g5_eq {α : Type} : @Tri.g5 α = Tri.get 5 := by funext t n; rw [show Tri.get 5 t n = _ from Tri.get_succ 4 t n, ← Tri.g4_eq]; rfl
theorem Tri.g6_eq {α : Type} : @Tri.g6 α = Tri.get 6 := by funext t n; rw [show Tri.get 6 t n = _ from Tri.get_succ 5 t n, ← Tri.g5_eq]; rfl
theorem Tri.g7_eq {α : Type} : @Tri.g7 α = Tri.get 7 := by funext t n; rw [show Tri.get 7 t n = _ from Tri.get_succ 6 t n, ← Tri.g6_eq]; rfl
theorem Tri.g8_eq {α : Type} : @Tri.g8 α = Tri.get 8 := by funext t n; rw [show Tri.get 8 t n = _ from Tri.get_succ 7 t n, ← Tri.g7_eq]; rfl
theorem Tri.g9_eq {α : Type} : @Tri.g9 α = Tri.get 9 := by funext t n; rw [show Tri.get 9 t n = _ from Tri.get_succ 8 t n, ← Tri.g8_eq]; rfl
theorem Tri.g10_eq {α : Type} : @Tri.g10 α = Tri.get 10 := by funext t n; rw [show Tri.get 10 t n = _ from Tri.get_succ 9 t n, ← Tri.g9_eq]; rfl
theorem Tri.g11_eq {α : Type} : @Tri.g11 α = Tri.get 11 := by funext t n; rw [show Tri.get 11 t n = _ from Tri.get_succ 10 t n, ← Tri.g10_eq]; rfl
theorem Tri.g12_eq {α : Type} : @Tri.g12 α = Tri.get 12 := by funext t n; rw [show Tri.get 12 t n = _ from Tri.get_succ 11 t n, ← Tri.g11_eq]; rfl
theorem Tri.g13_eq {α : Type} : @Tri.g13 α = Tri.get 13 := by funext t n; rw [show Tri.get 13 t n = _ from Tri.get_succ 12 t n, ← Tri.g12_eq]; rfl
theorem Tri.g14_eq {α : Type} : @Tri.g14 α = Tri.get 14 := by funext t n; rw [show Tri.get 14 t n = _ from Tri.get_succ 13 t n, ← Tri.g13_eq]; rfl
theorem Tri.s0_eq {α : Type} : @Tri.s0 α = Tri.set 0 := rfl
theorem Tri.s1_eq {α : Type} : @Tri.s1 α = Tri.set 1 := by funext t n x; rw [show Tri.set 1 t n x = _ from Tri.set_succ 0 t n x, ← Tri.s0_eq]; rfl
theorem Tri.s2_eq {α : Type} : @Tri.s2 α = Tri.set 2 := by funext t n x; rw [show Tri.set 2 t n x = _ from Tri.set_succ 1 t n x, ← Tri.s1_eq]; rfl
theorem Tri.s3_eq {α : Type} : @Tri.s3 α = Tri.set 3 := by funext t n x; rw [show Tri.set 3 t n x = _ from Tri.set_succ 2 t n x, ← Tri.s2_eq]; rfl
theorem Tri.s4_eq {α : Type} : @Tri.s4 α = Tri.set 4 := by funext t n x; rw [show Tri.set 4 t n x = _ from Tri.set_succ 3 t n x, ← Tri.s3_eq]; rfl
theorem Tri.s5_eq {α : Type} : @Tri.s5 α = Tri.set 5 := by funext t n x; rw [show Tri.set 5 t n x = _ from Tri.set_succ 4 t n x, ← Tri.s4_eq]; rfl
theorem Tri.s6_eq {α : Type} : @Tri.s6 α = Tri.set 6 := by funext t n x; rw [show Tri.set 6 t n x = _ from Tri.set_succ 5 t n x, ← Tri.s5_eq]; rfl
theorem Tri.s7_eq {α : Type} : @Tri.s7 α = Tri.set 7 := by funext t n x; rw [show Tri.set 7 t n x = _ from Tri.set_succ 6 t n x, ← Tri.s6_eq]; rfl
theorem Tri.s8_eq {α : Type} : @Tri.s8 α = Tri.set 8 := by funext t n x; rw [show Tri.set 8 t n x = _ from Tri.set_succ 7 t n x, ← Tri.s7_eq]; rfl
theorem Tri.s9_eq {α : Type} : @Tri.s9 α = Tri.set 9 := by funext t n x; rw [show Tri.set 9 t n x = _ from Tri.set_succ 8 t n x, ← Tri.s8_eq]; rfl
theorem Tri.s10_eq {α : Type} : @Tri.s10 α = Tri.set 10 := by funext t n x; rw [show Tri.set 10 t n x = _ from Tri.set_succ 9 t n x, ← Tri.s9_eq]; rfl
theorem Tri.s11_eq {α : Type} : @Tri.s11 α = Tri.set 11 := by funext t n x; rw [show Tri.set 11 t n x = _ from Tri.set_succ 10 t n x, ← Tri.s10_eq]; rfl
theorem Tri.s12_eq {α : Type} : @Tri.s12 α = Tri.set 12 := by funext t n x; rw [show Tri.set 12 t n x = _ from Tri.set_succ 11 t n x, ← Tri.s11_eq]; rfl
theorem Tri.s13_eq {α : Type} : @Tri.s13 α = Tri.set 13 := by funext t n x; rw [show Tri.set 13 t n x = _ from Tri.set_succ 12 t n x, ← Tri.s12_eq]; rfl
theorem Tri.s14_eq {α : Type} : @Tri.s14 α = Tri.set 14 := by funext t n x; rw [show Tri.set 14 t n x = _ from Tri.set_succ 13 t n x, ← Tri.s13_eq]; rfl
theorem Tri.g9_set_same {α : Type} (x : α) (t : Option (Tri α)) (n : Nat) : Tri.g9 (some (Tri.s9 t n x)) n = some x := by
  rw [Tri.g9_eq, Tri.s9_eq]; exact Tri.get_set_same x 9 t n
theorem Tri.g9_set_other {α : Type} (x : α) (t : Option (Tri α)) (n m : Nat) (hn : n < 2 ^ 9) (hm : m < 2 ^ 9) (h : n ≠ m) : Tri.g9 (some (Tri.s9 t n x)) m = Tri.g9 t m := by
  rw [Tri.g9_eq, Tri.s9_eq]; exact Tri.get_set_other x 9 t n m hn hm h
theorem Tri.g9_none {α : Type} (n : Nat) : Tri.g9 (none : Option (Tri α)) n = none := rfl

theorem Tri.g14_set_same {α : Type} (x : α) (t : Option (Tri α)) (n : Nat) : Tri.g14 (some (Tri.s14 t n x)) n = some x := by
  rw [Tri.g14_eq, Tri.s14_eq]; exact Tri.get_set_same x 14 t n
theorem Tri.g14_set_other {α : Type} (x : α) (t : Option (Tri α)) (n m : Nat) (hn : n < 2 ^ 14) (hm : m < 2 ^ 14) (h : n ≠ m) : Tri.g14 (some (Tri.s14 t n x)) m = Tri.g14 t m := by
  rw [Tri.g14_eq, Tri.s14_eq]; exact Tri.get_set_other x 14 t n m hn hm h
theorem Tri.g14_none {α : Type} (n : Nat) : Tri.g14 (none : Option (Tri α)) n = none := rfl

theorem AH.put_def (h : AH) (b : Nat) (o : AO) : h.put b o = ⟨h.next, some (Tri.s14 h.t b o)⟩ := rfl
theorem AH.add_def (h : AH) (o : AO) : h.add o = ⟨h.next + 1, some (Tri.s14 h.t h.next o)⟩ := rfl
theorem St.put_none (s : St) (v : Value) : s.put none v = s := rfl
theorem St.put_out (s : St) {d : Nat} (v : Value) (h : Nat.blt d s.n = false) : s.put (some d) v = s := by
  cases s; simp only [St.put] at h ⊢; rw [h]
theorem St.put_in (s : St) {d : Nat} (v : Value) (h : Nat.blt d s.n = true) : s.put (some d) v = { s with T := some (Tri.s9 s.T d v) } := by
  cases s; simp only [St.put] at h ⊢; rw [h]
theorem St.putH_eq (s : St) (h : AH) (dst : Option Tmp) (v : Value) : s.putH h dst v = { s with H := h }.put dst v := rfl

/-! ### What an abstract value stands for -/
structure REnt where
  blk : Nat
  sh : Nat
  room : Nat
  esz : Nat

abbrev Ren := Nat → Option REnt

def ARel (ρ : Ren) (a a' : Addr) : Prop := a.spot = none ∧ ∃ r, ρ a.block = some r ∧ a' = ⟨r.blk, a.off + r.sh, none⟩

/-- a slice's place and room -/
def SRel (ρ : Ren) (a : Addr) (l c : Nat) (a' : Addr) (c' : Nat) : Prop :=
  a.spot = none ∧ ∃ r, ρ a.block = some r ∧
    ((c < BIG ∧ c' = c ∧ a' = ⟨r.blk, a.off + r.sh, none⟩) ∨
     (BIG ≤ c ∧ l ≤ c - BIG ∧ c - BIG ≤ c' ∧ a'.block = r.blk ∧ a'.spot = none ∧ (c ≠ BIG → a'.off = a.off + r.sh) ∧ r.sh ≤ a'.off ∧ a'.off + c' * r.esz ≤ r.sh + r.room))

def FRel (ρ : Ren) : Fn → Fn → Prop
  | .yield l, g => ∃ r, ρ l = some r ∧ r.sh = 0 ∧ g = .yield r.blk
  | f, g => g = f

def VRel (ρ : Ren) (v v' : Value) : Prop :=
  match v with
  | .pointer (some a) => ∃ a', ARel ρ a a' ∧ v' = .pointer (some a')
  | .slice (some a) l c => ∃ a' c', SRel ρ a l c a' c' ∧ v' = .slice (some a') l c'
  | .map (some b) => ∃ r, ρ b = some r ∧ r.sh = 0 ∧ v' = .map (some r.blk)
  | .chan (some _) => False
  | .func fn first cap => ∃ fn' first' cap', FRel ρ fn fn' ∧ v' = .func fn' first' cap' ∧
      (first.size = first'.size ∧ ∀ i (h : i < first.size), VRel ρ first[i] (first'.getD i undef)) ∧
      (cap.size = cap'.size ∧ ∀ i (h : i < cap.size), VRel ρ cap[i] (cap'.getD i undef))
  | .iface t x => ∃ x', VRel ρ x x' ∧ v' = .iface t x'
  | .agg cs => ∃ cs', v' = .agg cs' ∧ cs.size = cs'.size ∧ ∀ i (h : i < cs.size), VRel ρ cs[i] (cs'.getD i undef)
  | .tuple cs => ∃ cs', v' = .tuple cs' ∧ cs.size = cs'.size ∧ ∀ i (h : i < cs.size), VRel ρ cs[i] (cs'.getD i undef)
  | v => v' = v

def LRel (ρ : Ren) : List Value → List Value → Prop
  | [], [] => True
  | x :: l, y :: m => VRel ρ x y ∧ LRel ρ l m
  | _, _ => False

theorem LRel.length {ρ : Ren} : ∀ {l m : List Value}, LRel ρ l m → l.length = m.length
  | [], [], _ => rfl
  | _ :: l, _ :: m, h => by simp [LRel.length h.2]

theorem LRel.get {ρ : Ren} : ∀ {l m : List Value} {i : Nat} {x : Value}, LRel ρ l m → l[i]? = some x → ∃ y, m[i]? = some y ∧ VRel ρ x y
  | [], _, _, _, _, hx => by simp at hx
  | a :: l, b :: m, 0, x, h, hx => by simp at hx; subst hx; exact ⟨b, rfl, h.1⟩
  | a :: l, b :: m, i + 1, x, h, hx => by
    obtain ⟨y, hy, hr⟩ := LRel.get (i := i) h.2 (by simpa using hx)
    exact ⟨y, by simpa using hy, hr⟩

theorem LRel.of_get {ρ : Ren} : ∀ {l m : List Value}, l.length = m.length → (∀ (i : Nat) (x : Value), l[i]? = some x → ∃ y, m[i]? = some y ∧ VRel ρ x y) → LRel ρ l m
  | [], [], _, _ => trivial
  | a :: l, b :: m, hl, h => by
    refine ⟨?_, LRel.of_get (by simpa using hl) fun i x hx => ?_⟩
    · obtain ⟨y, hy, hr⟩ := h 0 a rfl
      simp at hy; subst hy; exact hr
    · obtain ⟨y, hy, hr⟩ := h (i + 1) x (by simpa using hx)
      exact ⟨y, by simpa using hy, hr⟩

theorem rows_iff {ρ : Ren} {c c' : Array Value} : (c.size = c'.size ∧ ∀ i (h : i < c.size), VRel ρ c[i] (c'.getD i undef)) ↔ LRel ρ c.toList c'.toList := by
  constructor
  · rintro ⟨hs, h⟩
    refine LRel.of_get (by simpa using hs) fun i x hx => ?_
    have hi : i < c.size := by have := (List.getElem?_eq_some_iff.1 hx).1; simpa using this
    have := h i hi
    have hi' : i < c'.size := by omega
    rw [Array.getD_eq_getD_getElem?, Array.getElem?_eq_getElem hi'] at this
    refine ⟨c'[i], by simp [hi'], ?_⟩
    simp [hi] at hx
    rw [← hx]; simpa using this
  · intro h
    have hs : c.size = c'.size := by simpa using h.length
    refine ⟨hs, fun i hi => ?_⟩
    obtain ⟨y, hy, hr⟩ := h.get (i := i) (x := c[i]) (by simp [hi])
    have hi' : i < c'.size := by omega
    simp [hi'] at hy
    rw [Array.getD_eq_getD_getElem?, Array.getElem?_eq_getElem hi']
    simp [hy]; exact hr

section inv
variable {ρ : Ren} {v' : Value}
theorem VRel.bool {b : Bool} : VRel ρ (.bool b) v' ↔ v' = .bool b := by simp [VRel]
theorem VRel.int {k : IntKind} {n : Int} : VRel ρ (.int k n) v' ↔ v' = .int k n := by simp [VRel]
theorem VRel.float {k : FloatKind} {n : Nat} : VRel ρ (.float k n) v' ↔ v' = .float k n := by simp [VRel]
theorem VRel.complex {k : FloatKind} {n m : Nat} : VRel ρ (.complex k n m) v' ↔ v' = .complex k n m := by simp [VRel]
theorem VRel.string {s : ByteArray} : VRel ρ (.string s) v' ↔ v' = .string s := by simp [VRel]
theorem VRel.ptrNil : VRel ρ (.pointer none) v' ↔ v' = .pointer none := by simp [VRel]
theorem VRel.ptr {a : Addr} : VRel ρ (.pointer (some a)) v' ↔ ∃ a', ARel ρ a a' ∧ v' = .pointer (some a') := by simp [VRel]
theorem VRel.slNil {l c : Nat} : VRel ρ (.slice none l c) v' ↔ v' = .slice none l c := by simp [VRel]
theorem VRel.sl {a : Addr} {l c : Nat} : VRel ρ (.slice (some a) l c) v' ↔ ∃ a' c', SRel ρ a l c a' c' ∧ v' = .slice (some a') l c' := by simp [VRel]
theorem VRel.mapNil : VRel ρ (.map none) v' ↔ v' = .map none := by simp [VRel]
theorem VRel.map {b : Nat} : VRel ρ (.map (some b)) v' ↔ ∃ r, ρ b = some r ∧ r.sh = 0 ∧ v' = .map (some r.blk) := by simp [VRel]
theorem VRel.chanNil : VRel ρ (.chan none) v' ↔ v' = .chan none := by simp [VRel]
theorem VRel.chan {b : Nat} : VRel ρ (.chan (some b)) v' ↔ False := by simp [VRel]
theorem VRel.nilFunc : VRel ρ .nilFunc v' ↔ v' = .nilFunc := by simp [VRel]
theorem VRel.nilIface : VRel ρ .nilIface v' ↔ v' = .nilIface := by simp [VRel]
theorem VRel.iface {t : TypeId} {x : Value} : VRel ρ (.iface t x) v' ↔ ∃ x', VRel ρ x x' ∧ v' = .iface t x' := by rw [VRel]
theorem VRel.agg {cs : Array Value} : VRel ρ (.agg cs) v' ↔ ∃ cs', LRel ρ cs.toList cs'.toList ∧ v' = .agg cs' := by
  rw [VRel]
  exact ⟨fun ⟨c, h, k⟩ => ⟨c, rows_iff.1 k, h⟩, fun ⟨c, k, h⟩ => ⟨c, h, rows_iff.2 k⟩⟩
theorem VRel.tuple {cs : Array Value} : VRel ρ (.tuple cs) v' ↔ ∃ cs', LRel ρ cs.toList cs'.toList ∧ v' = .tuple cs' := by
  rw [VRel]
  exact ⟨fun ⟨c, h, k⟩ => ⟨c, rows_iff.1 k, h⟩, fun ⟨c, k, h⟩ => ⟨c, h, rows_iff.2 k⟩⟩
theorem VRel.func {fn : Fn} {first cap : Array Value} : VRel ρ (.func fn first cap) v' ↔
    ∃ fn' first' cap', FRel ρ fn fn' ∧ LRel ρ first.toList first'.toList ∧ LRel ρ cap.toList cap'.toList ∧ v' = .func fn' first' cap' := by
  rw [VRel]
  exact ⟨fun ⟨f, c, d, h, e, k, m⟩ => ⟨f, c, d, h, rows_iff.1 k, rows_iff.1 m, e⟩, fun ⟨f, c, d, h, k, m, e⟩ => ⟨f, c, d, h, e, rows_iff.2 k, rows_iff.2 m⟩⟩
end inv

theorem VRel.undef {ρ : Ren} : VRel ρ undef undef := by
  unfold Go.undef; rw [VRel.tuple]; exact ⟨#[], trivial, rfl⟩

/-! ### More is told: what was so stays so -/
def Ren.Le (ρ σ : Ren) : Prop := ∀ b r, ρ b = some r → σ b = some r

theorem Ren.Le.refl (ρ : Ren) : ρ.Le ρ := fun _ _ h => h
theorem Ren.Le.trans {ρ σ τ : Ren} (h : ρ.Le σ) (k : σ.Le τ) : ρ.Le τ := fun b r e => k b r (h b r e)

theorem ARel.mono {ρ σ : Ren} (h : ρ.Le σ) {a a' : Addr} (k : ARel ρ a a') : ARel σ a a' := by
  obtain ⟨s, r, hr, e⟩ := k
  exact ⟨s, r, h _ _ hr, e⟩
theorem SRel.mono {ρ σ : Ren} (h : ρ.Le σ) {a a' : Addr} {l c c' : Nat} (k : SRel ρ a l c a' c') : SRel σ a l c a' c' := by
  obtain ⟨s, r, hr, e⟩ := k
  exact ⟨s, r, h _ _ hr, e⟩
theorem SRel.addr {ρ : Ren} {a a' : Addr} {l c c' : Nat} (k : SRel ρ a l c a' c') (hl : 0 < l) : ARel ρ a a' := by
  obtain ⟨s, r, hr, ⟨_, _, e⟩ | ⟨h1, h2, h3, h4, h5, h6, _⟩⟩ := k
  · exact ⟨s, r, hr, e⟩
  · refine ⟨s, r, hr, ?_⟩
    obtain ⟨b, f, p⟩ := a'
    simp only at h4 h5 h6
    rw [h4, h5, h6 (by omega)]
theorem FRel.mono {ρ σ : Ren} (h : ρ.Le σ) {f g : Fn} (k : FRel ρ f g) : FRel σ f g := by
  cases f <;> simp only [FRel] at k ⊢ <;> first | exact k | (obtain ⟨r, hr, e⟩ := k; exact ⟨r, h _ _ hr, e⟩)

theorem VRel.mono {ρ σ : Ren} (h : ρ.Le σ) : ∀ (v : Value) {v' : Value}, VRel ρ v v' → VRel σ v v'
  | .bool _, _, k => VRel.bool.2 (VRel.bool.1 k)
  | .int _ _, _, k => VRel.int.2 (VRel.int.1 k)
  | .float _ _, _, k => VRel.float.2 (VRel.float.1 k)
  | .complex _ _ _, _, k => VRel.complex.2 (VRel.complex.1 k)
  | .string _, _, k => VRel.string.2 (VRel.string.1 k)
  | .pointer none, _, k => VRel.ptrNil.2 (VRel.ptrNil.1 k)
  | .pointer (some _), _, k => let ⟨a, r, e⟩ := VRel.ptr.1 k; VRel.ptr.2 ⟨a, r.mono h, e⟩
  | .slice none _ _, _, k => VRel.slNil.2 (VRel.slNil.1 k)
  | .slice (some _) _ _, _, k => let ⟨a, c, r, e⟩ := VRel.sl.1 k; VRel.sl.2 ⟨a, c, r.mono h, e⟩
  | .map none, _, k => VRel.mapNil.2 (VRel.mapNil.1 k)
  | .map (some _), _, k => let ⟨r, hr, e⟩ := VRel.map.1 k; VRel.map.2 ⟨r, h _ _ hr, e⟩
  | .chan none, _, k => VRel.chanNil.2 (VRel.chanNil.1 k)
  | .chan (some _), _, k => (VRel.chan.1 k).elim
  | .nilFunc, _, k => VRel.nilFunc.2 (VRel.nilFunc.1 k)
  | .nilIface, _, k => VRel.nilIface.2 (VRel.nilIface.1 k)
  | .iface _ x, _, k => let ⟨x', r, e⟩ := VRel.iface.1 k; VRel.iface.2 ⟨x', VRel.mono h x r, e⟩
  | .func _ first cap, v', k => by
    rw [VRel] at k ⊢
    obtain ⟨f, c, d, hf, e, ⟨k1, k2⟩, m1, m2⟩ := k
    exact ⟨f, c, d, hf.mono h, e, ⟨k1, fun i hi => VRel.mono h first[i] (k2 i hi)⟩, m1, fun i hi => VRel.mono h cap[i] (m2 i hi)⟩
  | .agg cs, v', k => by
    rw [VRel] at k ⊢
    obtain ⟨c, e, k1, k2⟩ := k
    exact ⟨c, e, k1, fun i hi => VRel.mono h cs[i] (k2 i hi)⟩
  | .tuple cs, v', k => by
    rw [VRel] at k ⊢
    obtain ⟨c, e, k1, k2⟩ := k
    exact ⟨c, e, k1, fun i hi => VRel.mono h cs[i] (k2 i hi)⟩

theorem LRel.mono {ρ σ : Ren} (h : ρ.Le σ) : ∀ {l m : List Value}, LRel ρ l m → LRel σ l m
  | [], [], _ => trivial
  | _ :: _, _ :: _, k => ⟨VRel.mono h _ k.1, LRel.mono h k.2⟩

theorem LRel.append {ρ : Ren} : ∀ {a b c d : List Value}, LRel ρ a b → LRel ρ c d → LRel ρ (a ++ c) (b ++ d)
  | [], [], _, _, _, k => k
  | _ :: _, _ :: _, _, _, h, k => ⟨h.1, LRel.append h.2 k⟩

/-! ### Values without places -/
theorem plain0_rel {ρ : Ren} (v : Value) (h : plain0 v = true) : VRel ρ v v := by
  unfold plain0 at h
  split at h <;> first | (simp [VRel]; done) | (cases h; done) | skip
  rename_i f c
  simp at h
  obtain ⟨rfl, rfl⟩ := h
  rw [VRel.func]; exact ⟨_, #[], #[], rfl, trivial, trivial, rfl⟩

theorem plain_rows {ρ : Ren} {n : Nat} (ih : ∀ v, plainN n v = true → VRel ρ v v) : ∀ (l : List Value), l.all (plainN n) = true → LRel ρ l l
  | [], _ => trivial
  | x :: l, h => by
    simp only [List.all_cons, Bool.and_eq_true] at h
    exact ⟨ih x h.1, plain_rows ih l h.2⟩

theorem plain_rel {ρ : Ren} : ∀ (n : Nat) (v : Value), plainN n v = true → VRel ρ v v := by
  intro n
  induction n with
  | zero => exact fun v h => plain0_rel v h
  | succ n ih =>
    intro v h
    cases v with
    | agg cs => rw [VRel.agg]; exact ⟨cs, plain_rows ih _ h, rfl⟩
    | tuple cs => rw [VRel.tuple]; exact ⟨cs, plain_rows ih _ h, rfl⟩
    | _ => exact plain0_rel _ h

theorem plain0_eq {ρ : Ren} {v v' : Value} (h : plain0 v = true) (k : VRel ρ v v') : v' = v := by
  unfold plain0 at h
  split at h
  · exact VRel.bool.1 k
  · exact VRel.int.1 k
  · exact VRel.string.1 k
  · exact VRel.ptrNil.1 k
  · exact VRel.slNil.1 k
  · exact VRel.mapNil.1 k
  · exact VRel.chanNil.1 k
  · exact VRel.nilFunc.1 k
  · exact VRel.nilIface.1 k
  · rename_i f c
    simp at h
    obtain ⟨rfl, rfl⟩ := h
    obtain ⟨fn, a, b, hf, ha, hb, rfl⟩ := VRel.func.1 k
    simp only [FRel] at hf
    subst hf
    have ea : a = #[] := by have := ha.length; simpa using this.symm
    have eb : b = #[] := by have := hb.length; simpa using this.symm
    rw [ea, eb]
  · cases h

theorem plain_rows_eq {ρ : Ren} {n : Nat} (ih : ∀ v v', plainN n v = true → VRel ρ v v' → v' = v) : ∀ (l l' : List Value), l.all (plainN n) = true → LRel ρ l l' → l' = l
  | [], [], _, _ => rfl
  | x :: l, y :: l', h, k => by
    simp only [List.all_cons, Bool.and_eq_true] at h
    rw [ih x y h.1 k.1, plain_rows_eq ih l l' h.2 k.2]

theorem plain_eq {ρ : Ren} : ∀ (n : Nat) (v v' : Value), plainN n v = true → VRel ρ v v' → v' = v := by
  intro n
  induction n with
  | zero => exact fun v v' h k => plain0_eq h k
  | succ n ih =>
    intro v v' h k
    cases v with
    | agg cs =>
      obtain ⟨cs', hl, rfl⟩ := VRel.agg.1 k
      rw [show cs' = cs from Array.toList_inj.1 (plain_rows_eq ih _ _ h hl)]
    | tuple cs =>
      obtain ⟨cs', hl, rfl⟩ := VRel.tuple.1 k
      rw [show cs' = cs from Array.toList_inj.1 (plain_rows_eq ih _ _ h hl)]
    | _ => exact plain0_eq h k

/-! ### Memory -/
def EsRel (ρ : Ren) : List MapEntry → List MapEntry → Prop
  | [], [] => True
  | x :: l, y :: m => (plainN 4 x.key = true ∧ y.key = x.key ∧ VRel ρ x.val y.val ∧ y.born = x.born) ∧ EsRel ρ l m
  | _, _ => False

theorem EsRel.mono {ρ σ : Ren} (h : ρ.Le σ) : ∀ {l m : List MapEntry}, EsRel ρ l m → EsRel σ l m
  | [], [], _ => trivial
  | _ :: _, _ :: _, k => ⟨⟨k.1.1, k.1.2.1, VRel.mono h _ k.1.2.2.1, k.1.2.2.2⟩, EsRel.mono h k.2⟩

def ORel (ρ : Ren) (o o' : Obj) : Prop :=
  match o with
  | .map es clock => ∃ es', o' = .map es' clock ∧ EsRel ρ es.toList es'.toList
  | .stringIter s p => o' = .stringIter s p
  | .mapIter none since seen st => o' = .mapIter none since seen st
  | .mapIter (some m) since seen st => ∃ r, ρ m = some r ∧ r.sh = 0 ∧ o' = .mapIter (some r.blk) since seen st
  | .deferred none => o' = .deferred none
  | .deferred (some []) => o' = .deferred (some [])
  | _ => False

theorem ORel.mono {ρ σ : Ren} (h : ρ.Le σ) {o o' : Obj} (k : ORel ρ o o') : ORel σ o o' := by
  unfold ORel at k ⊢
  split at k
  · obtain ⟨es, e, q⟩ := k; exact ⟨es, e, q.mono h⟩
  · exact k
  · exact k
  · obtain ⟨r, hr, q⟩ := k; exact ⟨r, h _ _ hr, q⟩
  · exact k
  · exact k
  · exact k.elim

theorem ORel.noCells {ρ : Ren} {o o' : Obj} (k : ORel ρ o o') : ∀ c e f, o' ≠ .cells c e f := by
  intro c e f he
  subst he
  unfold ORel at k
  split at k <;> first | (obtain ⟨_, e, _⟩ := k; cases e; done) | (obtain ⟨_, _, _, e⟩ := k; cases e; done) | (cases k; done)

def TRel (ρ : Ren) (T : Option (Tri Value)) (n : Nat) (tmps : Array Value) : Prop :=
  tmps.size = n ∧ ∀ t, t < 512 → VRel ρ ((Tri.g9 T t).getD undef) (tmps.getD t undef)

theorem TRel.mono {ρ σ : Ren} (h : ρ.Le σ) {T : Option (Tri Value)} {n : Nat} {tmps : Array Value} (k : TRel ρ T n tmps) : TRel σ T n tmps :=
  ⟨k.1, fun t ht => VRel.mono h _ (k.2 t ht)⟩

/-! what is asked of code: its slots are few, its constants bear no place -/
def randOk (G : Nat) : Operand → Bool
  | .tmp t => Nat.blt t 512
  | .const v => plainN 4 v
  | .global g => Nat.blt g G
  | .func _ => true

def operOk (G : Nat) (o : Oper) : Bool :=
  (match o.dst with | some d => Nat.blt d 512 | none => true) && o.op.operands.toList.all (randOk G)

def codeOk (G : Nat) : Code → Bool
  | .region _ ops _ => ops.toList.all (operOk G)
  | .seq a b => codeOk G a && codeOk G b
  | .cond c a b => randOk G c && codeOk G a && codeOk G b
  | .block _ a => codeOk G a
  | .loop a => codeOk G a
  | .scope a => codeOk G a
  | .rangeFunc f ps a b => randOk G f && ps.toList.all (Nat.blt · 512) && codeOk G a && codeOk G b
  | _ => true

structure LpRel (G : Nat) (ρ : Ren) (lp : ALoop) (L : Loop) : Prop where
  state : L.state = lp.state
  pending : L.pending = lp.pending
  params : L.params = lp.params
  assign : L.assign = lp.assign
  body : L.body = lp.body
  tmps : TRel ρ lp.T lp.n L.tmps
  defers : ∃ r, ρ lp.defers = some r ∧ r.sh = 0 ∧ L.defers = r.blk
  ok : codeOk G lp.assign = true ∧ codeOk G lp.body = true ∧ lp.params.toList.all (Nat.blt · 512) = true

theorem LpRel.mono {G : Nat} {ρ σ : Ren} (h : ρ.Le σ) {lp : ALoop} {L : Loop} (k : LpRel G ρ lp L) : LpRel G σ lp L :=
  { k with tmps := k.tmps.mono h, defers := let ⟨r, hr, e⟩ := k.defers; ⟨r, h _ _ hr, e⟩ }

/-- a row of cells none of which is shared with a string -/
def Loose (w : World) (b : Nat) (c : Array Value) (e : TypeId) : Prop := ∃ fz, w.heap[b]? = some (.cells c e fz) ∧ (fz = (0, 0) ∨ c.size ≤ fz.1)

theorem Loose.frozen {w : World} {b : Nat} {c : Array Value} {e : TypeId} (h : Loose w b c e) {i : Nat} (hi : i < c.size) : w.frozen? ⟨b, i, none⟩ = false := by
  obtain ⟨fz, h1, h2⟩ := h
  obtain ⟨lo, hi'⟩ := fz
  rcases h2 with h2 | h2
  · cases h2; simp [World.frozen?, h1]
  · simp only at h2
    have : ¬ lo ≤ i := by omega
    simp [World.frozen?, h1, this]

def BRel (G base : Nat) (ρ : Ren) (w : World) (r : REnt) (o : AO) : Prop :=
  match o.kind with
  | 0 => base ≤ r.blk ∧ r.sh = 0 ∧
    (match o.obj, o.loop with
     | none, none => ∃ c', Loose w r.blk c' o.elem ∧ LRel ρ o.cells c'.toList
     | some ob, none => o.cells = [] ∧ ∃ ob', w.heap[r.blk]? = some ob' ∧ ORel ρ ob ob'
     | _, some lp => o.cells = [] ∧ ∃ L, w.heap[r.blk]? = some (.loop L) ∧ LpRel G ρ lp L)
  | 1 => base ≤ r.blk ∧ o.obj = none ∧ o.loop = none ∧ ∃ c', Loose w r.blk c' o.elem ∧ r.esz = o.esz ∧ r.sh + r.room ≤ c'.size ∧ o.cells.length ≤ r.room ∧
      ∀ (i : Nat) (v : Value), o.cells[i]? = some v → ∃ v', c'[i + r.sh]? = some v' ∧ VRel ρ v v'
  | 2 => r.blk < base ∧ ∀ (i : Nat) (v : Value), o.cells[i]? = some v → ∃ v', w.cell? ⟨r.blk, i + r.sh, none⟩ = some v' ∧ VRel ρ v v'
  | _ => o.cells = [] ∧ o.obj = none ∧ o.loop = none

theorem BRel.mono {G base : Nat} {ρ σ : Ren} (h : ρ.Le σ) {w : World} {r : REnt} {o : AO} (k : BRel G base ρ w r o) : BRel G base σ w r o := by
  unfold BRel at k ⊢
  split
  · rename_i hk
    simp only [hk] at k
    refine ⟨k.1, k.2.1, ?_⟩
    have k := k.2.2
    split at k
    · obtain ⟨c, e, q⟩ := k; exact ⟨c, e, q.mono h⟩
    · obtain ⟨z, c, e, q⟩ := k; exact ⟨z, c, e, q.mono h⟩
    · obtain ⟨z, c, e, q⟩ := k; exact ⟨z, c, e, q.mono h⟩
  · rename_i hk
    simp only [hk] at k
    obtain ⟨k0, k1, k2, c, k3, kz, k4, k5, k6⟩ := k
    exact ⟨k0, k1, k2, c, k3, kz, k4, k5, fun i v hv => let ⟨v', e, q⟩ := k6 i v hv; ⟨v', e, VRel.mono h _ q⟩⟩
  · rename_i hk
    simp only [hk] at k
    exact ⟨k.1, fun i v hv => let ⟨v', e, q⟩ := k.2 i v hv; ⟨v', e, VRel.mono h _ q⟩⟩
  · rename_i h0 h1 h2
    split at k
    · rename_i hk; exact absurd hk h0
    · rename_i hk; exact absurd hk h1
    · rename_i hk; exact absurd hk h2
    · exact k

/-- It speaks of its one block alone (or of what lies below the base). -/
theorem BRel.of_same {G base : Nat} {ρ : Ren} {w w' : World} {r : REnt} {o : AO} (hh : w'.heap[r.blk]? = w.heap[r.blk]?) (k : BRel G base ρ w r o) : BRel G base ρ w' r o := by
  have hc : ∀ i, w'.cell? ⟨r.blk, i, none⟩ = w.cell? ⟨r.blk, i, none⟩ := fun i => by simp only [World.cell?, hh]
  have hl : ∀ c e, Loose w' r.blk c e = Loose w r.blk c e := fun c e => by simp only [Loose, hh]
  unfold BRel at k ⊢
  simp only [hh, hc, hl]
  exact k

def live (o : AO) : Prop := o.kind = 0 ∨ o.kind = 1

structure R (G base : Nat) (w0 : World) (ρ : Ren) (H : AH) (w : World) : Prop where
  top : H.next ≤ 16000
  fresh : ∀ b, H.next ≤ b → ρ b = none
  blk : ∀ b r o, ρ b = some r → H.get b = some o → BRel G base ρ w r o
  inj : ∀ b c r s o p, ρ b = some r → ρ c = some s → H.get b = some o → H.get c = some p → live o → live p → b ≠ c → r.blk ≠ s.blk
  glob : ∀ g, g < G → ∃ r, ρ g = some r ∧ r.blk = g ∧ r.sh = 0
  size : base ≤ w.heap.size
  frame : ∀ k, k < base → w.heap[k]? = w0.heap[k]?
  quiet : w.os = w0.os ∧ w.tape = w0.tape ∧ w.output = w0.output

structure Ext (ρ : Ren) (H : AH) (ρ' : Ren) (H' : AH) : Prop where
  le : ρ.Le ρ'
  next : H.next ≤ H'.next
  off : ∀ b, b < H.next → ρ b = none → ρ' b = none ∧ H'.get b = H.get b

theorem Ext.refl (ρ : Ren) (H : AH) : Ext ρ H ρ H := ⟨.refl _, Nat.le_refl _, fun _ _ h => ⟨h, rfl⟩⟩
theorem Ext.trans {ρ σ τ : Ren} {H I J : AH} (h : Ext ρ H σ I) (k : Ext σ I τ J) : Ext ρ H τ J :=
  ⟨h.le.trans k.le, Nat.le_trans h.next k.next, fun b hb e => by
    obtain ⟨e1, e2⟩ := h.off b hb e
    obtain ⟨e3, e4⟩ := k.off b (Nat.lt_of_lt_of_le hb h.next) e1
    exact ⟨e3, e4.trans e2⟩⟩

section
variable {G base : Nat} {w0 : World} {ρ : Ren} {H : AH} {w : World}

theorem R.lt (h : R G base w0 ρ H w) {b : Nat} {r : REnt} (e : ρ b = some r) : b < H.next := by
  rcases Nat.lt_or_ge b H.next with h1 | h1
  · exact h1
  · rw [h.fresh b h1] at e; cases e

theorem AH.get_put (h : AH) {b : Nat} (o : AO) : (h.put b o).get b = some o := Tri.g14_set_same o h.t b
theorem AH.get_put_other (h : AH) {b c : Nat} (o : AO) (hb : b < 16384) (hc : c < 16384) (hne : b ≠ c) : (h.put b o).get c = h.get c :=
  Tri.g14_set_other o h.t b c hb hc hne
theorem AH.next_put (h : AH) (b : Nat) (o : AO) : (h.put b o).next = h.next := rfl
theorem AH.get_add (h : AH) (o : AO) : (h.add o).get h.next = some o := Tri.g14_set_same o h.t h.next
theorem AH.get_add_other (h : AH) {c : Nat} (o : AO) (hb : h.next < 16384) (hc : c < 16384) (hne : h.next ≠ c) : (h.add o).get c = h.get c :=
  Tri.g14_set_other o h.t h.next c hb hc hne
theorem AH.next_add (h : AH) (o : AO) : (h.add o).next = h.next + 1 := rfl

theorem R.drew (h : R G base w0 ρ H w) (n : Nat) : R G base w0 ρ H { w with drawn := n } :=
  ⟨h.top, h.fresh, fun b r o e g => (h.blk b r o e g).of_same rfl, h.inj, h.glob, h.size, h.frame, h.quiet⟩

/-- One block is turned in both. -/
theorem R.turn (h : R G base w0 ρ H w) {b : Nat} {r : REnt} {o o' : AO} {w' : World} (e : ρ b = some r) (g : H.get b = some o) (hl : live o) (hb : base ≤ r.blk)
    (hs : w'.heap.size = w.heap.size) (ho : ∀ k, k ≠ r.blk → w'.heap[k]? = w.heap[k]?) (hn : BRel G base ρ w' r o') (hqt : w'.os = w.os ∧ w'.tape = w.tape ∧ w'.output = w.output := by exact ⟨rfl, rfl, rfl⟩) : R G base w0 ρ (H.put b o') w' ∧ Ext ρ H ρ (H.put b o') := by
  have hbt : b < 16384 := Nat.lt_of_lt_of_le (h.lt e) (Nat.le_trans h.top (by omega))
  have get : ∀ c s, ρ c = some s → c ≠ b → (H.put b o').get c = H.get c := fun c s hc hne =>
    AH.get_put_other H o' hbt (Nat.lt_of_lt_of_le (h.lt hc) (Nat.le_trans h.top (by omega))) (Ne.symm hne)
  refine ⟨⟨h.top, h.fresh, ?_, ?_, h.glob, by rw [hs]; exact h.size, fun k hk => (ho k (by omega)).trans (h.frame k hk), ⟨hqt.1.trans h.quiet.1, hqt.2.1.trans h.quiet.2.1, hqt.2.2.trans h.quiet.2.2⟩⟩, ⟨.refl _, Nat.le_refl _, fun c hc hce => ⟨hce, ?_⟩⟩⟩
  · intro c s p hc hp
    by_cases hcb : c = b
    · subst hcb
      rw [AH.get_put] at hp
      cases hp
      rw [e] at hc; cases hc
      exact hn
    · rw [get c s hc hcb] at hp
      have hk := h.blk c s p hc hp
      by_cases hlp : live p
      · exact hk.of_same (ho _ (h.inj c b s r p o hc e hp g hlp hl hcb))
      · unfold BRel at hk ⊢
        split at hk
        · rename_i hk0; exact absurd (.inl hk0) hlp
        · rename_i hk0; exact absurd (.inr hk0) hlp
        · have : w'.heap[s.blk]? = w.heap[s.blk]? := ho _ (by have := hk.1; omega)
          refine ⟨hk.1, fun i v hv => ?_⟩
          obtain ⟨v', e1, e2⟩ := hk.2 i v hv
          exact ⟨v', by simp only [World.cell?, this] at e1 ⊢; exact e1, e2⟩
        · exact hk
  · intro c d s t p q hc hd hp hq hlp hlq hne
    have old : ∀ c s p, ρ c = some s → (H.put b o').get c = some p → live p → ∃ p', H.get c = some p' ∧ live p' := by
      intro c s p hc hp hlp
      by_cases hcb : c = b
      · subst hcb; exact ⟨o, g, hl⟩
      · rw [get c s hc hcb] at hp; exact ⟨p, hp, hlp⟩
    obtain ⟨p', hp', hlp'⟩ := old c s p hc hp hlp
    obtain ⟨q', hq', hlq'⟩ := old d t q hd hq hlq
    exact h.inj c d s t p' q' hc hd hp' hq' hlp' hlq' hne
  · have hcb : c ≠ b := fun hx => by subst hx; rw [e] at hce; cases hce
    exact AH.get_put_other H o' hbt (Nat.lt_of_lt_of_le hc (Nat.le_trans h.top (by omega))) (Ne.symm hcb)

def Ren.add (ρ : Ren) (b : Nat) (r : REnt) : Ren := fun c => if c = b then some r else ρ c

theorem Ren.le_add {ρ : Ren} {b : Nat} {r : REnt} (h : ρ b = none) : ρ.Le (ρ.add b r) := fun c s e => by
  unfold Ren.add
  split
  · rename_i hc; subst hc; rw [h] at e; cases e
  · exact e
theorem Ren.add_same {ρ : Ren} {b : Nat} {r : REnt} : (ρ.add b r) b = some r := by simp [Ren.add]
theorem Ren.add_other {ρ : Ren} {b c : Nat} {r : REnt} (h : c ≠ b) : (ρ.add b r) c = ρ c := by simp [Ren.add, h]

/-- One block more in memory, by which number it is known (fresh, or one that was laid ahead). -/
theorem R.more (h : R G base w0 ρ H w) {b : Nat} {r : REnt} {o : AO} {H' : AH} {w' : World} (e : ρ b = none) (hbn : b < H'.next) (hH : H'.next ≤ 16000) (hn : H.next ≤ H'.next)
    (hg : H'.get b = some o) (hot : ∀ c, c ≠ b → c < H.next → H'.get c = H.get c)
    (hr : w.heap.size ≤ r.blk) (hs : w.heap.size ≤ w'.heap.size) (ho : ∀ k, k < w.heap.size → w'.heap[k]? = w.heap[k]?) (hB : BRel G base (ρ.add b r) w' r o) (hqt : w'.os = w.os ∧ w'.tape = w.tape ∧ w'.output = w.output := by exact ⟨rfl, rfl, rfl⟩) :
    R G base w0 (ρ.add b r) H' w' := by
  have hle : ρ.Le (ρ.add b r) := Ren.le_add e
  have lt : ∀ c s p, ρ c = some s → H.get c = some p → live p → s.blk < w.heap.size := by
    intro c s p hc hp hlp
    have hk := h.blk c s p hc hp
    unfold BRel at hk
    split at hk
    · obtain ⟨_, _, hk⟩ := hk
      split at hk
      · obtain ⟨_, ⟨_, hx, _⟩, _⟩ := hk; exact (Array.getElem?_eq_some_iff.1 hx).1
      · obtain ⟨_, _, hx, _⟩ := hk; exact (Array.getElem?_eq_some_iff.1 hx).1
      · obtain ⟨_, _, hx, _⟩ := hk; exact (Array.getElem?_eq_some_iff.1 hx).1
    · obtain ⟨_, _, _, _, ⟨_, hx, _⟩, _⟩ := hk; exact (Array.getElem?_eq_some_iff.1 hx).1
    · rename_i h2; rcases hlp with h0 | h0 <;> rw [h2] at h0 <;> cases h0
    · rename_i h0 h1 _; exact hlp.elim (fun h2 => absurd h2 h0) (fun h2 => absurd h2 h1)
  refine ⟨hH, fun c hc => ?_, ?_, ?_, ?_, Nat.le_trans h.size hs, fun k hk => (ho k (Nat.lt_of_lt_of_le hk h.size)).trans (h.frame k hk), ⟨hqt.1.trans h.quiet.1, hqt.2.1.trans h.quiet.2.1, hqt.2.2.trans h.quiet.2.2⟩⟩
  · rw [Ren.add_other (by omega)]; exact h.fresh c (by omega)
  · intro c s p hc hp
    by_cases hcb : c = b
    · subst hcb
      rw [Ren.add_same] at hc; cases hc
      rw [hg] at hp; cases hp
      exact hB
    · rw [Ren.add_other hcb] at hc
      rw [hot c hcb (h.lt hc)] at hp
      have hk := h.blk c s p hc hp
      refine BRel.mono hle ?_
      by_cases hlp : live p
      · exact hk.of_same (ho _ (lt c s p hc hp hlp))
      · unfold BRel at hk ⊢
        split at hk
        · rename_i hk0; exact absurd (.inl hk0) hlp
        · rename_i hk0; exact absurd (.inr hk0) hlp
        · have : w'.heap[s.blk]? = w.heap[s.blk]? := ho _ (by have := hk.1; have := h.size; omega)
          refine ⟨hk.1, fun i v hv => ?_⟩
          obtain ⟨v', e1, e2⟩ := hk.2 i v hv
          exact ⟨v', by simp only [World.cell?, this] at e1 ⊢; exact e1, e2⟩
        · exact hk
  · intro c d s t p q hc hd hp hq hlp hlq hne
    by_cases hcb : c = b
    · have hdb : d ≠ b := fun hx => hne (hcb.trans hx.symm)
      subst hcb
      rw [Ren.add_same] at hc; cases hc
      rw [Ren.add_other hdb] at hd
      rw [hot d hdb (h.lt hd)] at hq
      have := lt d t q hd hq hlq
      omega
    · rw [Ren.add_other hcb] at hc
      rw [hot c hcb (h.lt hc)] at hp
      have h1 := lt c s p hc hp hlp
      by_cases hdb : d = b
      · subst hdb
        rw [Ren.add_same] at hd; cases hd
        omega
      · rw [Ren.add_other hdb] at hd
        rw [hot d hdb (h.lt hd)] at hq
        exact h.inj c d s t p q hc hd hp hq hlp hlq hne
  · intro g hg'
    obtain ⟨s, e1, e2⟩ := h.glob g hg'
    exact ⟨s, hle _ _ e1, e2⟩
end

section
variable {G base : Nat} {w0 : World} {ρ : Ren} {H H' : AH} {w : World}

theorem R.cell (h : R G base w0 ρ H w) {a a' : Addr} {v : Value} (hv : H.cell a = some v) (ha : ARel ρ a a') : ∃ v', w.cell? a' = some v' ∧ VRel ρ v v' := by
  obtain ⟨hs, r, hr, rfl⟩ := ha
  simp only [AH.cell, hs] at hv
  cases hg : H.get a.block with
  | none => simp [hg] at hv
  | some o =>
    simp only [hg] at hv
    have hk := h.blk _ _ _ hr hg
    unfold BRel at hk
    split at hk
    · obtain ⟨_, hsh, hk⟩ := hk
      split at hk
      · obtain ⟨c, ⟨_, hc, _⟩, hl⟩ := hk
        obtain ⟨v', hv', hrel⟩ := hl.get hv
        refine ⟨v', ?_, hrel⟩
        simp only [World.cell?, hc, hsh, Nat.add_zero]
        simpa using hv'
      · rw [hk.1] at hv; simp at hv
      · rw [hk.1] at hv; simp at hv
    · obtain ⟨_, _, _, c, ⟨_, hc, _⟩, _, _, _, hl⟩ := hk
      obtain ⟨v', hv', hrel⟩ := hl _ _ hv
      exact ⟨v', by simp only [World.cell?, hc]; simpa using hv', hrel⟩
    · exact hk.2 _ _ hv
    · rw [hk.1] at hv; simp at hv

theorem setAt_spec : ∀ {l l' : List Value} {i : Nat} {v : Value}, setAt l i v = some l' → i < l.length ∧ l' = l.set i v
  | [], _, _, _, h => by simp [setAt] at h
  | _ :: l, _, 0, v, h => by simp [setAt] at h; exact ⟨by simp, by simp [← h]⟩
  | x :: l, l', i + 1, v, h => by
    simp only [setAt] at h
    cases hs : setAt l i v with
    | none => simp [hs] at h
    | some m =>
      simp only [hs, Option.some.injEq] at h
      obtain ⟨h1, h2⟩ := setAt_spec hs
      exact ⟨by simp; omega, by rw [← h, h2]; rfl⟩

theorem LRel.set {ρ : Ren} {v v' : Value} (hv : VRel ρ v v') : ∀ {l m : List Value} {i : Nat}, LRel ρ l m → LRel ρ (l.set i v) (m.set i v')
  | [], [], _, _ => trivial
  | _ :: _, _ :: _, 0, h => ⟨hv, h.2⟩
  | _ :: _, _ :: _, _ + 1, h => ⟨h.1, LRel.set hv h.2⟩

def oneCell : Value → Prop
  | .agg _ => False
  | .tuple _ => False
  | _ => True

theorem VRel.oneCell {v v' : Value} (h : VRel ρ v v') (k : oneCell v) : Rx.oneCell v' := by
  unfold VRel at h
  split at h <;> first
    | (subst h; exact k)
    | exact k.elim
    | (obtain ⟨_, _, rfl⟩ := h; trivial)
    | (obtain ⟨_, _, _, rfl⟩ := h; trivial)
    | exact h.elim
    | (obtain ⟨_, _, _, _, rfl, _⟩ := h; trivial)

theorem run_store1 {P : Program} {a : Addr} {v u : Value} {w : World} (hv : oneCell v) (hc : w.cell? a = some u) (hf : w.frozen? a = false) :
    (store a v).run P w = .ok () (w.setCell a v) := by
  unfold store
  cases v <;> first | exact hv.elim | simp [Sem.run, hc, hf]

theorem AH.store_spec {a : Addr} {v : Value} (h : H.store a v = some H') : a.spot = none ∧ oneCell v ∧ ∃ o cs, H.get a.block = some o ∧ live o ∧ setAt o.cells a.off v = some cs ∧ H' = H.put a.block { o with cells := cs } := by
  unfold AH.store at h
  cases hs : a.spot with
  | some _ => simp [hs] at h
  | none =>
    simp only [hs] at h
    cases ho : one v with
    | false => simp [ho] at h
    | true =>
      simp only [ho, cond_true] at h
      refine ⟨rfl, (by cases v <;> first | trivial | (cases ho)), ?_⟩
      cases hg : H.get a.block with
      | none => simp [hg] at h
      | some o =>
        simp only [hg] at h
        cases hk : Nat.blt o.kind 2 with
        | false => simp [hk] at h
        | true =>
          simp only [hk, cond_true] at h
          have hk2 : o.kind < 2 := by simpa using hk
          cases hs : setAt o.cells a.off v with
          | none => simp [hs] at h
          | some cs => simp only [hs, Option.some.injEq] at h; exact ⟨o, cs, rfl, by unfold live; omega, hs, h.symm⟩

theorem heap_setCell {w : World} {b i : Nat} {v : Value} {c : Array Value} {e : TypeId} {f : Nat × Nat} (h : w.heap[b]? = some (.cells c e f)) :
    (w.setCell ⟨b, i, none⟩ v).heap[b]? = some (.cells (c.setIfInBounds i v) e f) := by
  simp [World.setCell, Array.getElem?_modify, h]
theorem heap_setCell_other {w : World} {a : Addr} {k : Nat} {v : Value} (h : k ≠ a.block) : (w.setCell a v).heap[k]? = w.heap[k]? := by
  simp [World.setCell, Array.getElem?_modify, Ne.symm h]
theorem size_setCell {w : World} {a : Addr} {v : Value} : (w.setCell a v).heap.size = w.heap.size := by simp [World.setCell]

theorem R.store (h : R G base w0 ρ H w) {a a' : Addr} {v v' : Value} (hs : H.store a v = some H') (ha : ARel ρ a a') (hv : VRel ρ v v') :
    (∃ u, w.cell? a' = some u) ∧ w.frozen? a' = false ∧ oneCell v' ∧ R G base w0 ρ H' (w.setCell a' v') ∧ Ext ρ H ρ H' := by
  obtain ⟨hsp, hone, o, cs, hg, hl, hset, rfl⟩ := AH.store_spec hs
  obtain ⟨hi, rfl⟩ := setAt_spec hset
  have ha0 := ha
  obtain ⟨_, r, hr, rfl⟩ := ha
  have hk := h.blk _ _ _ hr hg
  obtain ⟨x, hx⟩ : ∃ x, o.cells[a.off]? = some x := ⟨_, List.getElem?_eq_getElem hi⟩
  have hcell : H.cell a = some x := by simp only [AH.cell, hsp, hg, hx]
  obtain ⟨u, hu, _⟩ := h.cell hcell ha0
  refine ⟨⟨u, hu⟩, ?_, hv.oneCell hone, ?_⟩
  · unfold BRel at hk
    split at hk
    · obtain ⟨_, hsh0, hk⟩ := hk
      split at hk
      · obtain ⟨c, hc, hl2⟩ := hk
        have hlen := hl2.length
        refine hc.frozen ?_
        rw [hsh0]
        simp at hlen; omega
      · rw [hk.1] at hx; simp at hx
      · rw [hk.1] at hx; simp at hx
    · obtain ⟨_, _, _, c, hc, _, hsz, hrm, _⟩ := hk
      exact hc.frozen (by omega)
    · rename_i h2; rcases hl with h0 | h0 <;> rw [h2] at h0 <;> cases h0
    · rename_i h0 h1 _; exact hl.elim (fun h2 => absurd h2 h0) (fun h2 => absurd h2 h1)
  · have hb : base ≤ r.blk := by
      unfold BRel at hk
      split at hk
      · exact hk.1
      · exact hk.1
      · rename_i h2; rcases hl with h0 | h0 <;> rw [h2] at h0 <;> cases h0
      · rename_i h0 h1 _; exact hl.elim (fun h2 => absurd h2 h0) (fun h2 => absurd h2 h1)
    refine h.turn hr hg hl hb size_setCell (fun k hne => heap_setCell_other hne) ?_
    unfold BRel at hk ⊢
    split at hk
    · rename_i hk0
      obtain ⟨hb0, hsh, hk⟩ := hk
      simp only [hk0]
      refine ⟨hb0, hsh, ?_⟩
      split at hk
      · rename_i e1 e2
        obtain ⟨c, hc, hl⟩ := hk
        refine ⟨c.setIfInBounds a.off v', ?_, ?_⟩
        · rw [hsh]
          obtain ⟨fz, q1, q2⟩ := hc
          exact ⟨fz, heap_setCell q1, by simpa using q2⟩
        · rw [Array.toList_setIfInBounds]; exact hl.set hv
      · rw [hk.1] at hx; simp at hx
      · rw [hk.1] at hx; simp at hx
    · rename_i hk1
      simp only [hk1]
      obtain ⟨hb0, e1, e2, c, hc, hez, hsz, hrm, hl⟩ := hk
      refine ⟨hb0, e1, e2, c.setIfInBounds (a.off + r.sh) v', (let ⟨fz, q1, q2⟩ := hc; ⟨fz, heap_setCell q1, by simpa using q2⟩), hez, by simpa using hsz, by simpa using hrm, fun i x hxx => ?_⟩
      rw [List.getElem?_set] at hxx
      by_cases hia : a.off = i
      · subst hia
        rw [if_pos rfl, if_pos hi] at hxx
        cases hxx
        refine ⟨v', ?_, hv⟩
        have : a.off + r.sh < c.size := by omega
        simp [this]
      · rw [if_neg hia] at hxx
        obtain ⟨y, hy, hrel⟩ := hl i x hxx
        refine ⟨y, ?_, hrel⟩
        rw [Array.getElem?_setIfInBounds_ne (by omega)]
        exact hy
    · rename_i h2; rcases hl with h0 | h0 <;> rw [h2] at h0 <;> cases h0
    · rename_i h0 h1 _; exact hl.elim (fun h2 => absurd h2 h0) (fun h2 => absurd h2 h1)
end

/-! ### Running beside one another -/
theorem arun_bind' {P : Program} {α β : Type} (x : Sem α) (f : α → Sem β) : ∀ (H : AH), arun P (x.bind f) H = match arun P x H with
    | none => none
    | some (a, H') => arun P (f a) H' := by
  induction x with
  | pure a => intro H; rfl
  | load m a k ih => intro H; simp only [Sem.bind, arun]; cases H.cell a <;> simp [ih]
  | store m a v k ih => intro H; simp only [Sem.bind, arun]; cases H.store a v <;> simp [ih]
  | new o k ih => intro H; simp only [Sem.bind, arun]; cases Nat.blt H.next 16000 <;> simp [ih]
  | shape r k ih => intro H; simp [Sem.bind, arun]
  | freeze a n k ih => intro H; simp [Sem.bind, arun]
  | frozen a k ih => intro H; simp [Sem.bind, arun]
  | getObj r k ih => intro H; simp only [Sem.bind, arun]; split <;> simp [ih]
  | setObj r o k ih => intro H; simp only [Sem.bind, arun]; split <;> simp [ih]
  | choose q k ih => intro H; simp only [Sem.bind, arun]; cases q.forced <;> simp [ih]
  | sys c k ih => intro H; simp [Sem.bind, arun]
  | program k ih => intro H; simp only [Sem.bind, arun, ih]
  | mark m k ih => intro H; simp only [Sem.bind, arun, ih]
  | halt h => intro H; simp [Sem.bind, arun]

theorem arun_bind {P : Program} {α β : Type} (x : Sem α) (f : α → Sem β) (H : AH) : arun P (x >>= f) H = match arun P x H with
    | none => none
    | some (a, H') => arun P (f a) H' := arun_bind' x f H

def Sim (P : Program) (G base : Nat) (w0 : World) (ρ : Ren) (H : AH) (w : World) {α β : Type} (m : Sem α) (m' : Sem β) (V : Ren → α → β → Prop) : Prop :=
  ∀ x H', arun P m H = some (x, H') → ∃ ρ' y w', m'.run P w = .ok y w' ∧ Ext ρ H ρ' H' ∧ R G base w0 ρ' H' w' ∧ V ρ' x y

section
variable {P : Program} {G base : Nat} {w0 : World} {ρ : Ren} {H : AH} {w : World} {α β γ δ : Type}

theorem Sim.ret (h : R G base w0 ρ H w) {V : Ren → α → β → Prop} {x : α} {y : β} (hv : V ρ x y) : Sim P G base w0 ρ H w (pure x) (pure y) V := by
  intro x' H' he
  simp only [Pure.pure, arun, Option.some.injEq, Prod.mk.injEq] at he
  obtain ⟨rfl, rfl⟩ := he
  exact ⟨ρ, y, w, rfl, .refl _ _, h, hv⟩

theorem Sim.bind {m : Sem α} {m' : Sem β} {U : Ren → α → β → Prop} {f : α → Sem γ} {f' : β → Sem δ} {V : Ren → γ → δ → Prop}
    (h : Sim P G base w0 ρ H w m m' U)
    (k : ∀ ρ' H' w' x y, Ext ρ H ρ' H' → R G base w0 ρ' H' w' → U ρ' x y → Sim P G base w0 ρ' H' w' (f x) (f' y) V) :
    Sim P G base w0 ρ H w (m >>= f) (m' >>= f') V := by
  intro z H2 he
  rw [arun_bind] at he
  cases hm : arun P m H with
  | none => simp [hm] at he
  | some p =>
    obtain ⟨x, H1⟩ := p
    simp only [hm] at he
    obtain ⟨ρ1, y, w1, e1, x1, r1, u1⟩ := h x H1 hm
    obtain ⟨ρ2, y2, w2, e2, x2, r2, u2⟩ := k ρ1 H1 w1 x y x1 r1 u1 z H2 he
    refine ⟨ρ2, y2, w2, ?_, x1.trans x2, r2, u2⟩
    rw [Sem.run_bind, e1]
    exact e2

theorem Sim.halt {e : Halt} {m' : Sem β} {V : Ren → α → β → Prop} : Sim P G base w0 ρ H w (.halt e) m' V := by
  intro x H' he
  simp [arun] at he

theorem Sim.stuck {s : String} {m' : Sem β} {V : Ren → α → β → Prop} : Sim P G base w0 ρ H w (stuck s) m' V := Sim.halt
theorem Sim.unsupported {s : Unsupported} {m' : Sem β} {V : Ren → α → β → Prop} : Sim P G base w0 ρ H w (unsupported s) m' V := Sim.halt

/-- What never goes through. -/
theorem Sim.never {m : Sem α} {m' : Sem β} {V : Ren → α → β → Prop} (h : ∀ H, arun P m H = none) : Sim P G base w0 ρ H w m m' V := by
  intro x H' he
  rw [h] at he; cases he

theorem Sim.panic {e : RuntimeError} {m' : Sem β} {V : Ren → α → β → Prop} : Sim P G base w0 ρ H w (runtimePanic e : Sem α) m' V := by
  refine Sim.never fun H => ?_
  unfold runtimePanic
  rw [arun_bind]
  simp only [program, arun]
  cases e <;> simp only [goPanic, arun] <;> simp only [arun_bind] <;> (repeat' split) <;> first | rfl | simp_all [arun]

theorem Sim.mono {m : Sem α} {m' : Sem β} {U V : Ren → α → β → Prop} (h : Sim P G base w0 ρ H w m m' U) (k : ∀ ρ' x y, ρ.Le ρ' → U ρ' x y → V ρ' x y) :
    Sim P G base w0 ρ H w m m' V := by
  intro x H' he
  obtain ⟨ρ1, y, w1, e1, x1, r1, u1⟩ := h x H' he
  exact ⟨ρ1, y, w1, e1, x1, r1, k _ _ _ x1.le u1⟩

/-- What looks at no memory. -/
def Still (P : Program) (m : Sem α) : Prop := ∀ H x H', arun P m H = some (x, H') → H' = H ∧ ∀ w, m.run P w = .ok x w

theorem Sim.still (h : R G base w0 ρ H w) {m : Sem α} (hs : Still P m) : Sim P G base w0 ρ H w m m (fun _ x y => y = x) := by
  intro x H' he
  obtain ⟨rfl, hr⟩ := hs H x H' he
  exact ⟨ρ, x, w, hr w, .refl _ _, h, rfl⟩

theorem Still.pure (x : α) : Still P (pure x : Sem α) := fun H y H' he => by
  simp only [Pure.pure, arun, Option.some.injEq, Prod.mk.injEq] at he
  obtain ⟨rfl, rfl⟩ := he
  exact ⟨rfl, fun _ => rfl⟩
theorem Still.halt (e : Halt) : Still P (.halt e : Sem α) := fun H y H' he => by simp [arun] at he
theorem Still.bind {m : Sem α} {f : α → Sem γ} (h : Still P m) (k : ∀ x, Still P (f x)) : Still P (m >>= f) := fun H y H' he => by
  rw [arun_bind] at he
  cases hm : arun P m H with
  | none => simp [hm] at he
  | some p =>
    obtain ⟨x, H1⟩ := p
    simp only [hm] at he
    obtain ⟨rfl, e1⟩ := h H x H1 hm
    obtain ⟨rfl, e2⟩ := k x _ y H' he
    exact ⟨rfl, fun w => by rw [Sem.run_bind, e1]; exact e2 w⟩
theorem Still.program : Still P program := fun H y H' he => by
  simp only [Go.program, arun, Option.some.injEq, Prod.mk.injEq] at he
  obtain ⟨rfl, rfl⟩ := he
  exact ⟨rfl, fun _ => rfl⟩
theorem Still.mark (m : Mark) : Still P (mark m) := fun H y H' he => by
  simp only [Go.mark, arun, Option.some.injEq, Prod.mk.injEq] at he
  obtain ⟨-, rfl⟩ := he
  exact ⟨rfl, fun _ => rfl⟩
theorem Still.underlying (t : TypeId) : Still P (underlying t) := by
  unfold Go.underlying
  refine Still.bind .program fun x => ?_
  split
  · exact .pure _
  · exact .halt _
theorem Still.typeInfo (t : TypeId) : Still P (typeInfo t) := by
  unfold Go.typeInfo
  refine Still.bind .program fun x => ?_
  split
  · exact .pure _
  · exact .halt _
theorem Still.sizeOf (t : TypeId) : Still P (sizeOf t) := by
  unfold Go.sizeOf; exact .bind (.typeInfo t) fun _ => .pure _
theorem Still.zeroValue (t : TypeId) : Still P (zeroValue t) := by
  unfold Go.zeroValue
  refine .bind (.typeInfo t) fun _ => ?_
  split
  · exact .pure _
  · exact .halt _
theorem Still.isAgg (t : TypeId) : Still P (isAgg t) := by
  unfold Go.isAgg
  refine .bind (.underlying t) fun _ => ?_
  split <;> exact .pure _
theorem Still.askRoom (n : Nat) : Still P (askRoom n) := by
  unfold Go.askRoom
  split
  · exact .mark _
  · exact .pure _

/-- the memory's own -/
theorem Sim.load (h : R G base w0 ρ H w) {a a' : Addr} (ha : ARel ρ a a') : Sim P G base w0 ρ H w (load a) (load a') VRel := by
  intro x H' he
  simp only [Go.load, arun] at he
  cases hc : H.cell a with
  | none => simp [hc] at he
  | some v =>
    simp only [hc, Option.some.injEq, Prod.mk.injEq] at he
    obtain ⟨rfl, rfl⟩ := he
    obtain ⟨v', hv', hrel⟩ := h.cell hc ha
    exact ⟨ρ, v', w, by simp [Go.load, Sem.run, hv'], .refl _ _, h, hrel⟩

theorem Sim.store (h : R G base w0 ρ H w) {a a' : Addr} {v v' : Value} (ha : ARel ρ a a') (hv : VRel ρ v v') : Sim P G base w0 ρ H w (store a v) (store a' v') (fun _ _ _ => True) := by
  intro x H' he
  simp only [Go.store, arun] at he
  cases hc : H.store a v with
  | none => simp [hc] at he
  | some H1 =>
    simp only [hc, Option.some.injEq, Prod.mk.injEq] at he
    obtain ⟨-, rfl⟩ := he
    obtain ⟨⟨u, hu⟩, hf, hone, hR, hE⟩ := h.store hc ha hv
    exact ⟨ρ, (), w.setCell a' v', run_store1 hone hu hf, hE, hR, trivial⟩

theorem R.alloc (h : R G base w0 ρ H w) (hn : H.next < 16000) {o o' : Obj} (r : REnt) (hr : r = ⟨w.heap.size, 0, 0, 0⟩)
    (hB : BRel G base (ρ.add H.next r) (w.alloc o') r (.of o)) : R G base w0 (ρ.add H.next r) (H.add (.of o)) (w.alloc o') ∧ Ext ρ H (ρ.add H.next r) (H.add (.of o)) := by
  have e : ρ H.next = none := h.fresh _ (Nat.le_refl _)
  have hg : ∀ c, c ≠ H.next → c < H.next → (H.add (.of o)).get c = H.get c := fun c hne hlt =>
    AH.get_add_other H _ (by omega) (by omega) (Ne.symm hne)
  refine ⟨h.more (H' := H.add (.of o)) e (by rw [AH.next_add]; omega) (by rw [AH.next_add]; omega) (by rw [AH.next_add]; omega) (AH.get_add H _) hg (by rw [hr]; exact Nat.le_refl _) (by show _ ≤ (w.heap.push o').size; simp) (fun k hk => ?_) hB, ?_⟩
  · have : k < w.heap.size + 1 := by omega
    show (w.heap.push o')[k]? = _
    simp [Array.getElem?_push, Nat.ne_of_lt hk]
  · refine ⟨Ren.le_add e, by rw [AH.next_add]; omega, fun b hb hbe => ⟨by rw [Ren.add_other (by omega)]; exact hbe, hg b (by omega) hb⟩⟩

theorem heap_alloc {w : World} {o : Obj} : (w.alloc o).heap[w.heap.size]? = some o := by show (w.heap.push o)[w.heap.size]? = _; simp

theorem Sim.newRow (h : R G base w0 ρ H w) {c c' : Array Value} (hc : LRel ρ c.toList c'.toList) (e : TypeId) :
    Sim P G base w0 ρ H w (newRow e c) (newRow e c') (fun ρ' a a' => ARel ρ' a a' ∧ a.off = 0 ∧ ∃ r, ρ' a.block = some r ∧ r.sh = 0) := by
  intro x H' he
  simp only [Go.newRow, arun_bind, Go.newObj, arun] at he
  cases hb : Nat.blt H.next 16000 with
  | false => simp [hb] at he
  | true =>
    have hn : H.next < 16000 := by simpa using hb
    simp only [hb, cond_true, Pure.pure, arun, Option.some.injEq, Prod.mk.injEq] at he
    obtain ⟨rfl, rfl⟩ := he
    have hle : ρ.Le (ρ.add H.next ⟨w.heap.size, 0, 0, 0⟩) := Ren.le_add (h.fresh _ (Nat.le_refl _))
    obtain ⟨hR, hE⟩ := h.alloc hn (o := .cells c e) (o' := .cells c' e) ⟨w.heap.size, 0, 0, 0⟩ rfl (by
      unfold BRel AO.of
      refine ⟨h.size, rfl, c', ⟨_, heap_alloc, .inl rfl⟩, hc.mono hle⟩)
    refine ⟨_, ⟨w.heap.size, 0, none⟩, w.alloc (.cells c' e), ?_, hE, hR, ⟨rfl, _, Ren.add_same, rfl⟩, rfl, _, Ren.add_same, rfl⟩
    rfl

theorem Sim.newObj (h : R G base w0 ρ H w) {o o' : Obj} (ho : ORel ρ o o') (hnc : ∀ c e f, o ≠ .cells c e f) :
    Sim P G base w0 ρ H w (newObj o) (newObj o') (fun ρ' b b' => ∃ r, ρ' b = some r ∧ r.sh = 0 ∧ b' = r.blk) := by
  intro x H' he
  simp only [Go.newObj, arun] at he
  cases hb : Nat.blt H.next 16000 with
  | false => simp [hb] at he
  | true =>
    have hn : H.next < 16000 := by simpa using hb
    simp only [hb, cond_true, Option.some.injEq, Prod.mk.injEq] at he
    obtain ⟨rfl, rfl⟩ := he
    have hle : ρ.Le (ρ.add H.next ⟨w.heap.size, 0, 0, 0⟩) := Ren.le_add (h.fresh _ (Nat.le_refl _))
    have hof : AO.of o = ⟨0, [], 0, some o, none, 0⟩ := by cases o <;> first | rfl | exact absurd rfl (hnc _ _ _)
    obtain ⟨hR, hE⟩ := h.alloc hn (o := o) (o' := o') ⟨w.heap.size, 0, 0, 0⟩ rfl (by
      rw [hof]
      exact ⟨h.size, rfl, rfl, o', heap_alloc, ho.mono hle⟩)
    exact ⟨_, w.heap.size, w.alloc o', rfl, hE, hR, _, Ren.add_same, rfl, rfl⟩

theorem Sim.getObj (h : R G base w0 ρ H w) {b : Nat} {r : REnt} (hr : ρ b = some r) :
    Sim P G base w0 ρ H w (getObj b) (getObj r.blk) (fun ρ' o o' => ORel ρ' o o') := by
  intro x H' he
  simp only [Go.getObj, arun] at he
  split at he
  · rename_i k c e o hg
    simp only [Option.some.injEq, Prod.mk.injEq] at he
    obtain ⟨rfl, rfl⟩ := he
    have hk := h.blk _ _ _ hr hg
    obtain ⟨_, _, _, ob', hob, hrel⟩ := hk
    refine ⟨ρ, ob', w, ?_, .refl _ _, h, hrel⟩
    have := hrel.noCells
    cases ob' <;> first | exact absurd rfl (this _ _ _) | simp [Go.getObj, Sem.run, hob]
  · cases he

theorem Sim.setObj (h : R G base w0 ρ H w) {b : Nat} {r : REnt} (hr : ρ b = some r) {o o' : Obj} (ho : ORel ρ o o') :
    Sim P G base w0 ρ H w (setObj b o) (setObj r.blk o') (fun _ _ _ => True) := by
  intro x H' he
  simp only [Go.setObj, arun] at he
  split at he
  · rename_i k c e ob hg
    simp only [Option.some.injEq, Prod.mk.injEq] at he
    obtain ⟨-, rfl⟩ := he
    have hk := h.blk _ _ _ hr hg
    obtain ⟨hb, hsh, _, ob', hob, hrel⟩ := hk
    have hlt := (Array.getElem?_eq_some_iff.1 hob).1
    obtain ⟨hR, hE⟩ := h.turn (w' := { w with heap := w.heap.setIfInBounds r.blk o' }) (o' := ⟨0, [], 0, some o, none, 0⟩) hr hg (.inl rfl) hb (by simp) (fun k hne => by simp [Ne.symm hne])
      ⟨hb, hsh, rfl, o', by simp [hlt], ho⟩
    refine ⟨ρ, (), _, ?_, hE, hR, trivial⟩
    have := hrel.noCells
    cases ob' <;> first | exact absurd rfl (this _ _ _) | simp [Go.setObj, Sem.run, hob]
  · cases he
end

section
variable {P : Program} {G base : Nat} {w0 : World} {ρ : Ren} {H : AH} {w : World} {α β γ δ : Type}

theorem noMem_get (b : Nat) : noMem.get b = none := by rfl
theorem noMem_run (m : Sem α) : ∀ {x : α} {H' : AH}, arun P m noMem = some (x, H') → ∀ w, m.run P w = .ok x w := by
  induction m with
  | pure a => intro x H' h w; simp [arun] at h; simp [Sem.run, h.1]
  | load m a k ih => intro x H' h; simp only [arun, AH.cell, noMem_get] at h; cases ha : a.spot <;> simp [ha] at h
  | store m a v k ih => intro x H' h; simp only [arun, AH.store, noMem_get] at h; cases ha : a.spot <;> cases ho : one v <;> simp [ha, ho] at h
  | new o k ih => intro x H' h; rw [arun, show Nat.blt noMem.next 16000 = false from rfl] at h; cases h
  | shape r k ih => intro x H' h; simp [arun] at h
  | freeze a n k ih => intro x H' h; simp [arun] at h
  | frozen a k ih => intro x H' h; simp [arun] at h
  | getObj r k ih => intro x H' h; simp [arun, noMem_get] at h
  | setObj r o k ih => intro x H' h; simp [arun, noMem_get] at h
  | choose q k ih =>
    intro x H' h w
    simp only [arun] at h
    cases hq : q.forced with
    | false => simp [hq] at h
    | true => simp only [hq] at h; simp only [Sem.run, hq, if_true]; exact ih 0 h w
  | sys c k ih => intro x H' h; simp [arun] at h
  | program k ih => intro x H' h w; simp only [arun] at h; simp only [Sem.run]; exact ih P h w
  | mark m k ih => intro x H' h w; simp only [arun] at h; simp only [Sem.run]; exact ih h w
  | halt e => intro x H' h; simp [arun] at h

theorem ARel.add {a a' : Addr} (h : ARel ρ a a') (n : Nat) : ARel ρ (a.add n) (a'.add n) := by
  obtain ⟨hs, r, hr, rfl⟩ := h
  unfold Addr.add
  split
  · exact ⟨hs, r, hr, rfl⟩
  · exact ⟨rfl, r, hr, by simp; omega⟩

theorem VRel.cells {v v' : Value} (h : VRel ρ v v') : LRel ρ v.cells.toList v'.cells.toList := by
  have one1 : ∀ {x y : Value}, (∀ c, y ≠ .agg c) → (∀ c, x ≠ .agg c) → VRel ρ x y → LRel ρ x.cells.toList y.cells.toList := by
    intro x y hy hx hr
    have ex : x.cells = #[x] := by cases x <;> first | rfl | exact absurd rfl (hx _)
    have ey : y.cells = #[y] := by cases y <;> first | rfl | exact absurd rfl (hy _)
    rw [ex, ey]; exact ⟨hr, trivial⟩
  cases v with
  | agg cs => obtain ⟨cs', hl, rfl⟩ := VRel.agg.1 h; exact hl
  | bool b => exact one1 (by rw [VRel.bool.1 h]; simp) (by simp) h
  | int k n => exact one1 (by rw [VRel.int.1 h]; simp) (by simp) h
  | float k n => exact one1 (by rw [VRel.float.1 h]; simp) (by simp) h
  | complex k n m => exact one1 (by rw [VRel.complex.1 h]; simp) (by simp) h
  | string s => exact one1 (by rw [VRel.string.1 h]; simp) (by simp) h
  | nilFunc => exact one1 (by rw [VRel.nilFunc.1 h]; simp) (by simp) h
  | nilIface => exact one1 (by rw [VRel.nilIface.1 h]; simp) (by simp) h
  | pointer a => cases a with
    | none => exact one1 (by rw [VRel.ptrNil.1 h]; simp) (by simp) h
    | some a => exact one1 (by obtain ⟨_, _, e⟩ := VRel.ptr.1 h; rw [e]; simp) (by simp) h
  | slice a l c => cases a with
    | none => exact one1 (by rw [VRel.slNil.1 h]; simp) (by simp) h
    | some a => exact one1 (by obtain ⟨_, _, _, e⟩ := VRel.sl.1 h; rw [e]; simp) (by simp) h
  | map a => cases a with
    | none => exact one1 (by rw [VRel.mapNil.1 h]; simp) (by simp) h
    | some a => exact one1 (by obtain ⟨_, _, _, e⟩ := VRel.map.1 h; rw [e]; simp) (by simp) h
  | chan a => cases a with
    | none => exact one1 (by rw [VRel.chanNil.1 h]; simp) (by simp) h
    | some a => exact (VRel.chan.1 h).elim
  | func f a b => exact one1 (by obtain ⟨_, _, _, _, _, _, e⟩ := VRel.func.1 h; rw [e]; simp) (by simp) h
  | iface t x => exact one1 (by obtain ⟨_, _, e⟩ := VRel.iface.1 h; rw [e]; simp) (by simp) h
  | tuple cs => exact one1 (by obtain ⟨_, _, e⟩ := VRel.tuple.1 h; rw [e]; simp) (by simp) h

/-! ### Rows of cells -/
theorem Sim.loadCellsFrom (h : R G base w0 ρ H w) {a a' : Addr} (ha : ARel ρ a a') : ∀ (n i : Nat) (acc acc' : Array Value), LRel ρ acc.toList acc'.toList →
    Sim P G base w0 ρ H w (loadCellsFrom a i n acc) (loadCellsFrom a' i n acc') (fun ρ' x y => LRel ρ' x.toList y.toList)
  | 0, i, acc, acc', hc => Sim.ret h hc
  | n + 1, i, acc, acc', hc => by
    unfold Go.loadCellsFrom
    intro x H' he
    rw [arun_bind] at he
    cases hc1 : H.cell (a.add i) with
    | none => simp [Go.load, arun, hc1] at he
    | some v =>
      simp only [Go.load, arun, hc1] at he
      obtain ⟨v', hv', hrel⟩ := h.cell hc1 (ha.add i)
      obtain ⟨ρ1, y, w1, e1, x1, r1, u1⟩ := Sim.loadCellsFrom h ha n (i + 1) (acc.push v) (acc'.push v') (by simpa using hc.append (c := [v]) (d := [v']) ⟨hrel, trivial⟩) x H' he
      refine ⟨ρ1, y, w1, ?_, x1, r1, u1⟩
      rw [Sem.run_bind]
      simp only [Go.load, Sem.run, hv', Result.andThen]
      exact e1

theorem Sim.loadCells (h : R G base w0 ρ H w) {a a' : Addr} (ha : ARel ρ a a') (n : Nat) :
    Sim P G base w0 ρ H w (loadCells a n) (loadCells a' n) (fun ρ' x y => LRel ρ' x.toList y.toList) := Sim.loadCellsFrom h ha n 0 #[] #[] trivial

theorem Sim.storeCells {a a' : Addr} : ∀ (l l' : List Value) (i : Nat) {ρ : Ren} {H : AH} {w : World}, R G base w0 ρ H w → ARel ρ a a' → LRel ρ l l' →
    Sim P G base w0 ρ H w (storeCells a l i) (storeCells a' l' i) (fun _ _ _ => True)
  | [], [], i, ρ, H, w, h, _, _ => by unfold Go.storeCells; exact Sim.ret h trivial
  | v :: l, v' :: l', i, ρ, H, w, h, ha, hl => by
    unfold Go.storeCells
    exact Sim.bind (Sim.store h (ha.add i) hl.1) fun ρ' H' w' _ _ hE hR _ => Sim.storeCells l l' (i + 1) hR (ha.mono hE.le) (hl.2.mono hE.le)

theorem Sim.loadVar (h : R G base w0 ρ H w) {a a' : Addr} (ha : ARel ρ a a') (t : TypeId) : Sim P G base w0 ρ H w (loadVar t a) (loadVar t a') VRel := by
  unfold Go.loadVar
  refine Sim.bind (Sim.still h (.isAgg t)) fun ρ1 H1 w1 x y hE hR e => ?_
  subst e
  cases y with
  | true =>
    simp only [if_true]
    refine Sim.bind (Sim.still hR (.sizeOf t)) fun ρ2 H2 w2 x y hE2 hR2 e => ?_
    subst e
    refine Sim.bind (Sim.loadCells hR2 ((ha.mono hE.le).mono hE2.le) _) fun ρ3 H3 w3 x y hE3 hR3 hl => ?_
    exact Sim.ret hR3 (VRel.agg.2 ⟨y, hl, rfl⟩)
  | false =>
    simp only [Bool.false_eq_true, if_false]
    exact Sim.load hR (ha.mono hE.le)

theorem Sim.storeVar (h : R G base w0 ρ H w) {a a' : Addr} {v v' : Value} (ha : ARel ρ a a') (hv : VRel ρ v v') (t : TypeId) :
    Sim P G base w0 ρ H w (storeVar t a v) (storeVar t a' v') (fun _ _ _ => True) := by
  unfold Go.storeVar
  refine Sim.bind (Sim.still h (.sizeOf t)) fun ρ1 H1 w1 x y hE hR e => ?_
  subst e
  have hc := (VRel.mono hE.le _ hv).cells
  have hsz : v.cells.size = v'.cells.size := by simpa using hc.length
  by_cases hs : v.cells.size = y
  · have hs' : v'.cells.size = y := by omega
    simp only [ne_eq, hs, hs', not_true_eq_false, if_false]
    exact Sim.storeCells _ _ _ hR (ha.mono hE.le) hc
  · simp only [ne_eq, hs, not_false_eq_true, if_true]
    exact Sim.never fun H => by simp [arun_bind, Go.stuck, arun]

theorem Sim.newVar (h : R G base w0 ρ H w) {v v' : Value} (hv : VRel ρ v v') (t : TypeId) :
    Sim P G base w0 ρ H w (newVar t v) (newVar t v') (fun ρ' a a' => ARel ρ' a a' ∧ a.off = 0 ∧ ∃ r, ρ' a.block = some r ∧ r.sh = 0) := Sim.newRow h hv.cells t

end

def OpRes (P : Program) (G base : Nat) (w0 : World) (ρ : Ren) (H : AH) (w : World) (m' : Sem Next) (v : Value) (H' : AH) : Prop :=
  ∃ ρ' v' w', (m'.run P w = .ok (.value v') w' ∨ (m'.run P w = .ok .skip w' ∧ v' = undef)) ∧ Ext ρ H ρ' H' ∧ R G base w0 ρ' H' w' ∧ VRel ρ' v v'

section runs
variable {P : Program} {w : World}
theorem rpure {α : Type} (x : α) : (pure x : Sem α).run P w = .ok x w := rfl
theorem rpure' {α : Type} (x : α) : (Sem.pure x : Sem α).run P w = .ok x w := rfl
theorem rthen {α β : Type} (x : α) (w : World) (f : α → World → Result β) : (Result.ok x w).andThen f = f x w := rfl
theorem rprog : program.run P w = .ok P w := rfl
theorem runder {t : TypeId} {d : TypeDesc} (h : P.underlying t = some d) : (underlying t).run P w = .ok d w := by
  simp [underlying, h]
theorem rinfo {t : TypeId} {i : TypeInfo} (h : P.info? t = some i) : (typeInfo t).run P w = .ok i w := by
  simp [typeInfo, h]
theorem rsize {t : TypeId} {i : TypeInfo} (h : P.info? t = some i) : (sizeOf t).run P w = .ok i.size w := by
  simp [sizeOf, rinfo h]
theorem rzero {t : TypeId} {i : TypeInfo} {z : Value} (h : P.info? t = some i) (hz : i.zero = some z) : (zeroValue t).run P w = .ok z w := by
  simp [zeroValue, rinfo h, hz]
def aggD : TypeDesc → Bool
  | .struct _ => true
  | .array _ _ => true
  | _ => false
theorem ragg {t : TypeId} {d : TypeDesc} (h : P.underlying t = some d) : (isAgg t).run P w = .ok (aggD d) w := by
  simp [isAgg, runder h]
  cases d <;> rfl
end runs

section
variable {P : Program} {G base : Nat} {w0 : World} {ρ : Ren} {H H' : AH} {w : World}

theorem OpRes.same (h : R G base w0 ρ H w) {m' : Sem Next} {v v' : Value} (hr : m'.run P w = .ok (.value v') w) (hv : VRel ρ v v') : OpRes P G base w0 ρ H w m' v H :=
  ⟨ρ, v', w, .inl hr, .refl _ _, h, hv⟩

/-- Nothing is done but that a value comes. -/
def OpSame (P : Program) (ρ : Ren) (H : AH) (w : World) (m' : Sem Next) (v : Value) (H' : AH) : Prop := H' = H ∧ ∃ v', m'.run P w = .ok (.value v') w ∧ VRel ρ v v'
theorem OpSame.same (_h : R G base w0 ρ H w) {m' : Sem Next} {v v' : Value} (hr : m'.run P w = .ok (.value v') w) (hv : VRel ρ v v') : OpSame P ρ H w m' v H := ⟨rfl, v', hr, hv⟩
theorem OpSame.res (h : R G base w0 ρ H w) {m' : Sem Next} {v : Value} (k : OpSame P ρ H w m' v H') : OpRes P G base w0 ρ H w m' v H' := by
  obtain ⟨rfl, v', hr, hv⟩ := k
  exact OpRes.same h hr hv

theorem add_one (a : Addr) (i : Nat) : (a.add i).add 1 = a.add (i + 1) := by
  unfold Addr.add
  by_cases hi : i = 0
  · simp [hi]
  · simp [hi]; omega

theorem first_run (h : R G base w0 ρ H w) {a a' : Addr} (ha : ARel ρ a a') : ∀ (n i : Nat) (acc : Array Value) (l : List Value), firstN H (a.add i) n = some l →
    ∃ l', LRel ρ l l' ∧ (loadCellsFrom a' i n acc).run P w = .ok (acc ++ l'.toArray) w
  | 0, i, acc, l, hl => by
    simp [firstN] at hl
    subst hl
    exact ⟨[], trivial, by simp [Go.loadCellsFrom]⟩
  | n + 1, i, acc, l, hl => by
    simp only [firstN] at hl
    cases hc : H.cell (a.add i) with
    | none => simp [hc] at hl
    | some v =>
      simp only [hc, add_one] at hl
      cases hf : firstN H (a.add (i + 1)) n with
      | none => simp [hf] at hl
      | some m =>
        simp only [hf, Option.some.injEq] at hl
        subst hl
        obtain ⟨v', hv', hrel⟩ := h.cell hc (ha.add i)
        obtain ⟨l', hl', hr⟩ := first_run h ha n (i + 1) (acc.push v') m hf
        refine ⟨v' :: l', ⟨hrel, hl'⟩, ?_⟩
        simp only [Go.loadCellsFrom, Sem.run_bind]
        have : (load (a'.add i)).run P w = .ok v' w := by simp [Go.load, Sem.run, hv']
        rw [this, rthen, hr]
        congr 1
        apply Array.toList_inj.1
        simp

theorem first_all (h : R G base w0 ρ H w) {a a' : Addr} (ha : ARel ρ a a') {n : Nat} {l : List Value} (hl : firstN H a n = some l) :
    ∃ l', LRel ρ l l' ∧ (loadCells a' n).run P w = .ok l'.toArray w := by
  have h0 : a.add 0 = a := by simp [Addr.add]
  obtain ⟨l', h1, h2⟩ := first_run h ha n 0 #[] l (by rw [h0]; exact hl)
  exact ⟨l', h1, by simpa [loadCells] using h2⟩

theorem store_run {a a' : Addr} : ∀ (l l' : List Value) (i : Nat) {H : AH} {w : World}, R G base w0 ρ H w → ARel ρ a a' → LRel ρ l l' → storeN H (a.add i) l = some H' →
    ∃ w', (storeCells a' l' i).run P w = .ok () w' ∧ R G base w0 ρ H' w' ∧ Ext ρ H ρ H'
  | [], [], i, H, w, h, _, _, hs => by
    simp [storeN] at hs
    subst hs
    exact ⟨w, by simp [Go.storeCells], h, .refl _ _⟩
  | v :: l, v' :: l', i, H, w, h, ha, hl, hs => by
    simp only [storeN] at hs
    cases h1 : H.store (a.add i) v with
    | none => simp [h1] at hs
    | some H1 =>
      simp only [h1, add_one] at hs
      obtain ⟨⟨u, hu⟩, hf, hone, hR, hE⟩ := h.store h1 (ha.add i) hl.1
      obtain ⟨w', e1, e2, e3⟩ := store_run l l' (i + 1) hR ha hl.2 hs
      exact ⟨w', by simp only [Go.storeCells, Sem.run_bind, run_store1 hone hu hf, rthen, e1], e2, hE.trans e3⟩

theorem store_all {a a' : Addr} {l l' : List Value} (h : R G base w0 ρ H w) (ha : ARel ρ a a') (hl : LRel ρ l l') (hs : storeN H a l = some H') :
    ∃ w', (storeCells a' l').run P w = .ok () w' ∧ R G base w0 ρ H' w' ∧ Ext ρ H ρ H' := by
  have h0 : a.add 0 = a := by simp [Addr.add]
  exact store_run l l' 0 h ha hl (by rw [h0]; exact hs)

theorem row_run (h : R G base w0 ρ H w) {e : TypeId} {l : List Value} {c' : Array Value} {b : Nat} (hl : LRel ρ l c'.toList) (hr : aRow e l H = some (b, H')) :
    (newRow e c').run P w = .ok ⟨w.heap.size, 0, none⟩ (w.alloc (.cells c' e)) ∧ b = H.next ∧ R G base w0 (ρ.add b ⟨w.heap.size, 0, 0, 0⟩) H' (w.alloc (.cells c' e)) ∧ Ext ρ H (ρ.add b ⟨w.heap.size, 0, 0, 0⟩) H' := by
  unfold aRow at hr
  cases hb : Nat.blt H.next 16000 with
  | false => simp [hb] at hr
  | true =>
    have hn : H.next < 16000 := by simpa using hb
    simp only [hb, cond_true, Option.some.injEq, Prod.mk.injEq] at hr
    obtain ⟨rfl, rfl⟩ := hr
    have hle : ρ.Le (ρ.add H.next ⟨w.heap.size, 0, 0, 0⟩) := Ren.le_add (h.fresh _ (Nat.le_refl _))
    have := h.alloc hn (o := .cells l.toArray e) (o' := .cells c' e) ⟨w.heap.size, 0, 0, 0⟩ rfl (by
      unfold BRel AO.of
      exact ⟨h.size, rfl, c', ⟨_, heap_alloc, .inl rfl⟩, by simpa using hl.mono hle⟩)
    simp only [AO.of] at this
    exact ⟨rfl, rfl, this⟩

theorem ptr_new {b n : Nat} : VRel (ρ.add b ⟨n, 0, 0, 0⟩) (.pointer (some ⟨b, 0, none⟩)) (.pointer (some ⟨n, 0, none⟩)) :=
  VRel.ptr.2 ⟨_, ⟨rfl, _, Ren.add_same, rfl⟩, rfl⟩
theorem sl_new {b n l c : Nat} (hc : c < BIG) : VRel (ρ.add b ⟨n, 0, 0, 0⟩) (.slice (some ⟨b, 0, none⟩) l c) (.slice (some ⟨n, 0, none⟩) l c) :=
  VRel.sl.2 ⟨_, _, ⟨rfl, _, Ren.add_same, .inl ⟨hc, rfl, rfl⟩⟩, rfl⟩

/-! ### The operations -/
variable {o : Oper} {e e' : Operand → Value} {v : Value}

theorem op_quiet (h : R G base w0 ρ H w) (hE : ∀ x ∈ o.op.operands, VRel ρ (e x) (e' x)) (hsel : ∀ cs b, o.op ≠ .select cs b) (hq : aQuiet P o e H = some (v, H')) :
    OpSame P ρ H w (execOp e' o) v H' := by
  unfold aQuiet at hq
  cases hp : o.op.operands.toList.all (fun x => plainN 4 (e x)) with
  | false => simp [hp] at hq
  | true =>
    simp only [hp, cond_true] at hq
    split at hq
    · rename_i u K hu
      cases hv : plainN 4 u with
      | false => simp [hv] at hq
      | true =>
        simp only [hv, cond_true, Option.some.injEq, Prod.mk.injEq] at hq
        obtain ⟨rfl, rfl⟩ := hq
        have heq : execOp e' o = execOp e o := execOp_congr o hsel fun x hx => plain_eq 4 _ _ (List.all_eq_true.1 hp x (by simpa using hx)) (hE x hx)
        refine OpSame.same h ?_ (plain_rel 4 _ hv)
        rw [heq]; exact noMem_run _ hu w
    · cases hq

theorem op_alloc (h : R G base w0 ρ H w) {t : TypeId} (ho : o.op = .alloc t) (hq : aOp P o e H = some (v, H')) : OpRes P G base w0 ρ H w (execOp e' o) v H' := by
  simp only [aOp, ho] at hq
  cases hi : P.info? t with
  | none => simp [hi] at hq
  | some i =>
    simp only [hi] at hq
    cases hzo : zeroOf i with
    | none => simp [hzo] at hq
    | some z =>
      have hzz := (zeroOf_zero hzo).1
      simp only [hzo] at hq
      cases hr : aRow t z.cells.toList H with
      | none => simp [hr] at hq
      | some p =>
        obtain ⟨b, H1⟩ := p
        simp only [hr, Option.some.injEq, Prod.mk.injEq] at hq
        obtain ⟨rfl, rfl⟩ := hq
        obtain ⟨e1, rfl, e3, e4⟩ := row_run (P := P) h (plain_rel 4 z (zeroOf_zero hzo).2 : VRel ρ z z).cells hr
        refine ⟨_, _, _, .inl ?_, e4, e3, ptr_new⟩
        simp only [execOp, ho, Instr.alloc, Go.newVar, Sem.run_bind, rzero hi hzz, rthen, e1, rpure]

theorem op_box (h : R G base w0 ρ H w) {t : TypeId} {x : Operand} (ho : o.op = .box t x) (hx : VRel ρ (e x) (e' x)) (hq : aOp P o e H = some (v, H')) : OpRes P G base w0 ρ H w (execOp e' o) v H' := by
  simp only [aOp, ho] at hq
  cases hr : aRow t (e x).cells.toList H with
  | none => simp [hr] at hq
  | some p =>
    obtain ⟨b, H1⟩ := p
    simp only [hr, Option.some.injEq, Prod.mk.injEq] at hq
    obtain ⟨rfl, rfl⟩ := hq
    obtain ⟨e1, rfl, e3, e4⟩ := row_run (P := P) h hx.cells hr
    refine ⟨_, _, _, .inl ?_, e4, e3, ptr_new⟩
    simp only [execOp, ho, Instr.box, Go.newVar, Sem.run_bind, rthen, e1, rpure]

theorem op_move (h : R G base w0 ρ H w) {x : Operand} (ho : o.op = .move x ∨ o.op = .assign x) (hx : VRel ρ (e x) (e' x)) (hq : aOp P o e H = some (v, H')) : OpSame P ρ H w (execOp e' o) v H' := by
  rcases ho with ho | ho <;> (
    simp only [aOp, ho, Option.some.injEq, Prod.mk.injEq] at hq
    obtain ⟨rfl, rfl⟩ := hq
    exact OpSame.same h (by simp only [execOp, ho, rpure]) hx)

theorem load_run (h : R G base w0 ρ H w) {t : TypeId} {p p' : Addr} {u : Value} (ha : ARel ρ p p') (hq : aLoad P t p H = some u) : ∃ u', (loadVar t p').run P w = .ok u' w ∧ VRel ρ u u' := by
  unfold aLoad at hq
  have agg : ∀ (i : TypeInfo) (d : TypeDesc), P.underlying t = some d → P.info? t = some i → aggD d = true →
      (match firstN H p i.size with | none => none | some l => some (Value.agg l.toArray)) = some u → ∃ u', (loadVar t p').run P w = .ok u' w ∧ VRel ρ u u' := by
    intro i d hd hi hb hq
    cases hf : firstN H p i.size with
    | none => simp [hf] at hq
    | some l =>
      simp only [hf, Option.some.injEq] at hq
      subst hq
      obtain ⟨l', hl, hr⟩ := first_all (P := P) h ha hf
      refine ⟨.agg l'.toArray, ?_, VRel.agg.2 ⟨_, by simpa using hl, rfl⟩⟩
      simp only [Go.loadVar, Sem.run_bind, rpure, rthen, ragg hd, hb, if_true, rsize hi, hr]
  split at hq
  · rename_i f i hu hi; exact agg i _ hu hi rfl hq
  · rename_i n el i hu hi; exact agg i _ hu hi rfl hq
  · rename_i d hu h1 h2
    obtain ⟨u', hu', hrel⟩ := h.cell hq ha
    have hb : aggD d = false := by
      cases d with
      | struct f => cases hI : P.info? t with
        | none => simp [Program.underlying, hI] at hu
        | some i => exact (h1 f i hI rfl).elim
      | array n el => cases hI : P.info? t with
        | none => simp [Program.underlying, hI] at hu
        | some i => exact (h2 n el i hI rfl).elim
      | _ => rfl
    refine ⟨u', ?_, hrel⟩
    simp only [Go.loadVar, Sem.run_bind, rthen, ragg hu, hb, Bool.false_eq_true, if_false]
    simp [Go.load, Sem.run, hu']
  · cases hq

theorem op_load (h : R G base w0 ρ H w) {t : TypeId} {x : Operand} (ho : o.op = .load t x) (hx : VRel ρ (e x) (e' x)) (hq : aOp P o e H = some (v, H')) : OpSame P ρ H w (execOp e' o) v H' := by
  simp only [aOp, ho] at hq
  split at hq
  · rename_i p hp
    rw [hp] at hx
    obtain ⟨a', ha, hx'⟩ := VRel.ptr.1 hx
    cases hl : aLoad P t p H with
    | none => simp [hl] at hq
    | some u =>
      simp only [hl, Option.some.injEq, Prod.mk.injEq] at hq
      obtain ⟨rfl, rfl⟩ := hq
      obtain ⟨u', hr, hrel⟩ := load_run (P := P) h ha hl
      exact OpSame.same h (by simp only [execOp, ho, Instr.loadAt, hx', Instr.sureAddr, Sem.run_bind, rpure, rthen, hr]) hrel
  · cases hq

theorem op_store (h : R G base w0 ρ H w) {t : TypeId} {x y : Operand} (ho : o.op = .store t x y) (hx : VRel ρ (e x) (e' x)) (hy : VRel ρ (e y) (e' y)) (hq : aOp P o e H = some (v, H')) : OpRes P G base w0 ρ H w (execOp e' o) v H' := by
  simp only [aOp, ho] at hq
  split at hq
  · rename_i p hp
    rw [hp] at hx
    obtain ⟨a', ha, hx'⟩ := VRel.ptr.1 hx
    cases hi : P.info? t with
    | none => simp [hi] at hq
    | some i =>
      simp only [hi] at hq
      cases hs : Nat.beq (e y).cells.toList.length i.size with
      | false => simp only [hs, cond_false] at hq; cases hq
      | true =>
        simp only [hs, cond_true] at hq
        have hsz : (e' y).cells.size = i.size := by
          have := hy.cells.length
          have h2 := Nat.eq_of_beq_eq_true hs
          simp at this h2; omega
        cases hst : storeN H p (e y).cells.toList with
        | none => simp [hst] at hq
        | some H1 =>
          simp only [hst, Option.some.injEq, Prod.mk.injEq] at hq
          obtain ⟨rfl, rfl⟩ := hq
          obtain ⟨w', e1, e2, e3⟩ := store_all (P := P) h ha hy.cells hst
          refine ⟨ρ, undef, w', .inr ⟨?_, rfl⟩, e3, e2, VRel.undef⟩
          simp [execOp, ho, Instr.storeAt, hx', Instr.sureAddr, Go.storeVar, rsize hi, hsz, e1]
  · cases hq
end

section
variable {P : Program} {G base : Nat} {w0 : World} {ρ : Ren} {H H' : AH} {w : World}
variable {o : Oper} {e e' : Operand → Value} {v : Value}

theorem op_pick (h : R G base w0 ρ H w) {c x y : Operand} (ho : o.op = .pick c x y) (hc : VRel ρ (e c) (e' c)) (hx : VRel ρ (e x) (e' x)) (hy : VRel ρ (e y) (e' y)) (hq : aOp P o e H = some (v, H')) : OpSame P ρ H w (execOp e' o) v H' := by
  simp only [aOp, ho] at hq
  split at hq
  · rename_i hb
    rw [hb] at hc
    simp only [Option.some.injEq, Prod.mk.injEq] at hq
    obtain ⟨rfl, rfl⟩ := hq
    exact OpSame.same h (by simp [execOp, ho, VRel.bool.1 hc, asBool]) hx
  · rename_i hb
    rw [hb] at hc
    simp only [Option.some.injEq, Prod.mk.injEq] at hq
    obtain ⟨rfl, rfl⟩ := hq
    exact OpSame.same h (by simp [execOp, ho, VRel.bool.1 hc, asBool]) hy
  · cases hq

theorem op_nilCheck (h : R G base w0 ρ H w) {x : Operand} (ho : o.op = .nilCheck x) (hx : VRel ρ (e x) (e' x)) (hq : aOp P o e H = some (v, H')) : OpSame P ρ H w (execOp e' o) v H' := by
  simp only [aOp, ho] at hq
  split at hq
  · rename_i a hb
    rw [hb] at hx
    simp only [Option.some.injEq, Prod.mk.injEq] at hq
    obtain ⟨rfl, rfl⟩ := hq
    obtain ⟨a', ha, e1⟩ := VRel.ptr.1 hx
    exact OpSame.same h (by simp only [execOp, ho, e1, rpure]) (VRel.ptr.2 ⟨a', ha, rfl⟩)
  · rename_i f a b hb
    rw [hb] at hx
    simp only [Option.some.injEq, Prod.mk.injEq] at hq
    obtain ⟨rfl, rfl⟩ := hq
    have hx0 := hx
    obtain ⟨fn, a', b', hf, ha, hb', e1⟩ := VRel.func.1 hx
    simp only [FRel] at hf
    subst hf
    rw [e1] at hx0
    exact OpSame.same h (by simp only [execOp, ho, e1, rpure]) hx0
  · cases hq

theorem op_makeInterface (h : R G base w0 ρ H w) {t : TypeId} {x : Operand} (ho : o.op = .makeInterface t x) (hx : VRel ρ (e x) (e' x)) (hq : aOp P o e H = some (v, H')) : OpSame P ρ H w (execOp e' o) v H' := by
  simp only [aOp, ho] at hq
  split at hq
  · cases hq
  · cases hq
  · rename_i d hni hu
    simp only [Option.some.injEq, Prod.mk.injEq] at hq
    obtain ⟨rfl, rfl⟩ := hq
    refine OpSame.same h (v' := .iface t (e' x)) ?_ (VRel.iface.2 ⟨_, hx, rfl⟩)
    simp only [execOp, ho, Instr.makeInterface, Sem.run_bind, runder hu, rthen]
    cases d <;> first | exact (hni _ rfl).elim | rfl

theorem LRel.map {l : List Operand} (h : ∀ x ∈ l, VRel ρ (e x) (e' x)) : LRel ρ (l.map e) (l.map e') := by
  induction l with
  | nil => trivial
  | cons x l ih => exact ⟨h x (by simp), ih fun y hy => h y (by simp [hy])⟩

theorem op_makeFunc (h : R G base w0 ρ H w) {f : FuncId} {a b : Array Operand} (ho : o.op = .makeFunc (.func f) a b) (hE : ∀ x ∈ o.op.operands, VRel ρ (e x) (e' x)) (hq : aOp P o e H = some (v, H')) : OpSame P ρ H w (execOp e' o) v H' := by
  simp only [aOp, ho, Option.some.injEq, Prod.mk.injEq] at hq
  obtain ⟨rfl, rfl⟩ := hq
  simp only [ho, Op.operands] at hE
  refine OpSame.same h (v' := .func (.func f) (a.map e') (b.map e')) (by simp [execOp, ho, Instr.makeFunc]) (VRel.func.2 ⟨_, _, _, rfl, ?_, ?_, rfl⟩)
  · rw [Array.toList_map]; exact LRel.map fun x hx => hE x (by simp; exact .inl (by simpa using hx))
  · rw [Array.toList_map]; exact LRel.map fun x hx => hE x (by simp; exact .inr (by simpa using hx))

theorem obj_run (h : R G base w0 ρ H w) {ob ob' : Obj} (hb : Nat.blt H.next 16000 = true) (ho : ORel ρ ob ob') (hof : AO.of ob = ⟨0, [], 0, some ob, none, 0⟩) :
    (newObj ob').run P w = .ok w.heap.size (w.alloc ob') ∧ R G base w0 (ρ.add H.next ⟨w.heap.size, 0, 0, 0⟩) (H.add ⟨0, [], 0, some ob, none, 0⟩) (w.alloc ob') ∧ Ext ρ H (ρ.add H.next ⟨w.heap.size, 0, 0, 0⟩) (H.add ⟨0, [], 0, some ob, none, 0⟩) := by
  have hn : H.next < 16000 := by simpa using hb
  have hle : ρ.Le (ρ.add H.next ⟨w.heap.size, 0, 0, 0⟩) := Ren.le_add (h.fresh _ (Nat.le_refl _))
  have := h.alloc hn (o := ob) (o' := ob') ⟨w.heap.size, 0, 0, 0⟩ rfl (by
    rw [hof]
    exact ⟨h.size, rfl, rfl, ob', heap_alloc, ho.mono hle⟩)
  rw [hof] at this
  exact ⟨rfl, this⟩

theorem op_makeMap (h : R G base w0 ρ H w) {t : TypeId} (ho : o.op = .makeMap t none) (hq : aOp P o e H = some (v, H')) : OpRes P G base w0 ρ H w (execOp e' o) v H' := by
  simp only [aOp, ho] at hq
  cases hb : Nat.blt H.next 16000 with
  | false => simp [hb] at hq
  | true =>
    simp only [hb, cond_true, Option.some.injEq, Prod.mk.injEq] at hq
    obtain ⟨rfl, rfl⟩ := hq
    obtain ⟨e1, e2, e3⟩ := obj_run (P := P) h (ob := .map #[] 0) (ob' := .map #[] 0) hb ⟨#[], rfl, trivial⟩ rfl
    refine ⟨_, .map (some w.heap.size), _, .inl ?_, e3, e2, VRel.map.2 ⟨_, Ren.add_same, rfl, rfl⟩⟩
    simp [execOp, ho, Instr.makeMap, e1]

theorem op_fieldAddr (h : R G base w0 ρ H w) {s : TypeId} {x : Operand} {f : Nat} (ho : o.op = .fieldAddr s x f) (hx : VRel ρ (e x) (e' x)) (hq : aOp P o e H = some (v, H')) : OpSame P ρ H w (execOp e' o) v H' := by
  simp only [aOp, ho] at hq
  split at hq
  · rename_i a hb
    rw [hb] at hx
    obtain ⟨a', ha, e1⟩ := VRel.ptr.1 hx
    split at hq
    · rename_i fields hu
      cases hf : fields[f]? with
      | none => simp [hf] at hq
      | some g =>
        simp only [hf] at hq
        cases hi : P.info? g.type with
        | none => simp [hi] at hq
        | some i =>
          simp only [hi] at hq
          cases hz : Nat.beq i.size 0 with
          | true => simp only [hz, cond_true] at hq; cases hq
          | false =>
            simp only [hz, cond_false, Option.some.injEq, Prod.mk.injEq] at hq
            obtain ⟨rfl, rfl⟩ := hq
            have hne : i.size ≠ 0 := fun h0 => by rw [h0] at hz; cases hz
            refine OpSame.same h (v' := .pointer (some (a'.add g.offset))) ?_ (VRel.ptr.2 ⟨_, ha.add _, rfl⟩)
            simp [execOp, ho, Instr.fieldAt, e1, Instr.sureAddr, runder hu, hf, Go.fieldPlace, rsize hi, hne]
    · cases hq
  · cases hq

theorem op_indexAddr (h : R G base w0 ρ H w) {t : TypeId} {x y : Operand} (ho : o.op = .indexAddr t x y) (hx : VRel ρ (e x) (e' x)) (hy : VRel ρ (e y) (e' y)) (hq : aOp P o e H = some (v, H')) : OpSame P ρ H w (execOp e' o) v H' := by
  simp only [aOp, ho] at hq
  cases hn : aInt (e y) with
  | none => simp [hn] at hq
  | some n =>
    simp only [hn] at hq
    obtain ⟨k, hk⟩ : ∃ k, e y = .int k n := by
      cases hey : e y <;> simp [hey, aInt] at hn
      exact ⟨_, by rw [hn]⟩
    rw [hk] at hy
    have ey := VRel.int.1 hy
    split at hq
    · rename_i a len cap hb
      rw [hb] at hx
      obtain ⟨a', c', hs, e1⟩ := VRel.sl.1 hx
      split at hq
      · rename_i el hu
        cases hi : P.info? el with
        | none => simp [hi] at hq
        | some i =>
          simp only [hi] at hq
          cases hd : decide (0 ≤ n ∧ n < (len : Int)) with
          | false => simp only [hd, cond_false] at hq; cases hq
          | true =>
            simp only [hd, cond_true, Option.some.injEq, Prod.mk.injEq] at hq
            obtain ⟨rfl, rfl⟩ := hq
            have hd := of_decide_eq_true hd
            have ha : ARel ρ a a' := hs.addr (by omega)
            refine OpSame.same h (v' := .pointer (some (a'.add (n.toNat * i.size)))) ?_ (VRel.ptr.2 ⟨_, ha.add _, rfl⟩)
            simp [execOp, ho, Instr.indexAt, e1, ey, asIntOf, runder hu, rsize hi, hd]
      · cases hq
    · rename_i a hb
      rw [hb] at hx
      obtain ⟨a', ha, e1⟩ := VRel.ptr.1 hx
      split at hq
      · rename_i len el hu
        cases hi : P.info? el with
        | none => simp [hi] at hq
        | some i =>
          simp only [hi] at hq
          cases hd : decide (0 ≤ n ∧ n < (len : Int)) with
          | false => simp only [hd, cond_false] at hq; cases hq
          | true =>
            simp only [hd, cond_true, Option.some.injEq, Prod.mk.injEq] at hq
            obtain ⟨rfl, rfl⟩ := hq
            have hd := of_decide_eq_true hd
            refine OpSame.same h (v' := .pointer (some (a'.add (n.toNat * i.size)))) ?_ (VRel.ptr.2 ⟨_, ha.add _, rfl⟩)
            simp [execOp, ho, Instr.indexAt, e1, ey, asIntOf, Instr.sureAddr, runder hu, rsize hi, hd]
      · cases hq
    · cases hq
end

section
variable {P : Program} {G base : Nat} {w0 : World} {ρ : Ren} {H H' : AH} {w : World}
variable {o : Oper} {e e' : Operand → Value} {v : Value}

theorem LRel.drop {l m : List Value} : ∀ (n : Nat), LRel ρ l m → LRel ρ (l.drop n) (m.drop n) := by
  intro n h
  induction n generalizing l m with
  | zero => exact h
  | succ n ih =>
    match l, m, h with
    | [], [], _ => trivial
    | _ :: _, _ :: _, h => exact ih h.2
theorem LRel.take {l m : List Value} : ∀ (n : Nat), LRel ρ l m → LRel ρ (l.take n) (m.take n) := by
  intro n h
  induction n generalizing l m with
  | zero => simp; trivial
  | succ n ih =>
    match l, m, h with
    | [], [], _ => trivial
    | _ :: _, _ :: _, h => exact ⟨h.1, ih h.2⟩

theorem op_field (h : R G base w0 ρ H w) {t : TypeId} {x : Operand} {f : Nat} (ho : o.op = .field t x f) (hx : VRel ρ (e x) (e' x)) (hq : aOp P o e H = some (v, H')) : OpSame P ρ H w (execOp e' o) v H' := by
  simp only [aOp, ho] at hq
  split at hq
  · rename_i cs hb
    rw [hb] at hx
    obtain ⟨cs', hl, e1⟩ := VRel.agg.1 hx
    split at hq
    · rename_i fields hu
      cases hf : fields[f]? with
      | none => simp [hf] at hq
      | some g =>
        simp only [hf] at hq
        have agg : ∀ (i : TypeInfo) (d : TypeDesc), P.underlying g.type = some d → P.info? g.type = some i → aggD d = true →
            some (Value.agg (((cs.toList.drop g.offset).take i.size).toArray), H) = some (v, H') → OpSame P ρ H w (execOp e' o) v H' := by
          intro i d hd hi hb hq
          simp only [Option.some.injEq, Prod.mk.injEq] at hq
          obtain ⟨rfl, rfl⟩ := hq
          refine OpSame.same h (v' := .agg (((cs'.toList.drop g.offset).take i.size).toArray)) ?_ (VRel.agg.2 ⟨_, by simpa using (hl.drop g.offset).take i.size, rfl⟩)
          have hext : cs'.extract g.offset (g.offset + i.size) = ((cs'.toList.drop g.offset).take i.size).toArray := by
            apply Array.toList_inj.1
            simp [List.extract_eq_take_drop]
          simp [execOp, ho, Instr.field, e1, asAgg, runder hu, hf, Go.part, ragg hd, hb, rsize hi, hext]
        split at hq
        · rename_i f' i hu' hi; exact agg i _ hu' hi rfl hq
        · rename_i n el i hu' hi; exact agg i _ hu' hi rfl hq
        · rename_i d hu' h1 h2
          cases hc : cs[g.offset]? with
          | none => simp [hc] at hq
          | some u =>
            simp only [hc, Option.some.injEq, Prod.mk.injEq] at hq
            obtain ⟨rfl, rfl⟩ := hq
            obtain ⟨u', hu2, hrel⟩ := hl.get (i := g.offset) (x := u) (by simpa using hc)
            have hu3 : cs'[g.offset]? = some u' := by simpa using hu2
            have hb : aggD d = false := by
              cases d with
              | struct f => cases hI : P.info? g.type with
                | none => simp [Program.underlying, hI] at hu'
                | some i => exact (h1 f i hI rfl).elim
              | array n el => cases hI : P.info? g.type with
                | none => simp [Program.underlying, hI] at hu'
                | some i => exact (h2 n el i hI rfl).elim
              | _ => rfl
            refine OpSame.same h (v' := u') ?_ hrel
            simp [execOp, ho, Instr.field, e1, asAgg, runder hu, hf, Go.part, ragg hu', hb, hu3]
        · cases hq
    · cases hq
  · cases hq

theorem op_extract (h : R G base w0 ρ H w) {x : Operand} {f : Nat} (ho : o.op = .extract x f) (hx : VRel ρ (e x) (e' x)) (hq : aOp P o e H = some (v, H')) : OpSame P ρ H w (execOp e' o) v H' := by
  simp only [aOp, ho] at hq
  split at hq
  · rename_i cs hb
    rw [hb] at hx
    obtain ⟨cs', hl, e1⟩ := VRel.tuple.1 hx
    cases hc : cs[f]? with
    | none => simp [hc] at hq
    | some u =>
      simp only [hc, Option.some.injEq, Prod.mk.injEq] at hq
      obtain ⟨rfl, rfl⟩ := hq
      obtain ⟨u', hu2, hrel⟩ := hl.get (i := f) (x := u) (by simpa using hc)
      have hu3 : cs'[f]? = some u' := by simpa using hu2
      exact OpSame.same h (v' := u') (by simp [execOp, ho, e1, Instr.extract, hu3]) hrel
  · cases hq

/-- a slice's form -/
theorem VRel.slAny {a : Option Addr} {l c : Nat} {v' : Value} (h : VRel ρ (.slice a l c) v') : ∃ a' c', v' = .slice a' l c' ∧ (c < BIG → c' = c) := by
  cases a with
  | none => exact ⟨_, _, VRel.slNil.1 h, fun _ => rfl⟩
  | some a =>
    obtain ⟨a', c', hs, rfl⟩ := VRel.sl.1 h
    refine ⟨_, _, rfl, fun hc => ?_⟩
    obtain ⟨_, r, _, ⟨_, e, _⟩ | ⟨h1, _⟩⟩ := hs
    · exact e
    · omega

theorem op_cap (h : R G base w0 ρ H w) {c : Call} (ho : o.op = .call c) (hc : c.callee = .builtin .cap) (hE : ∀ x ∈ o.op.operands, VRel ρ (e x) (e' x)) (hq : aOp P o e H = some (v, H')) : OpSame P ρ H w (execOp e' o) v H' := by
  simp only [aOp, ho, hc] at hq
  split at hq
  · rename_i x hargs
    have hmem : x ∈ o.op.operands := by
      have : x ∈ c.args.toList := by rw [hargs]; simp
      simp [ho, Op.operands, Call.operands, hc]; simpa using this
    have hx := hE x hmem
    have hargs' : c.args = #[x] := Array.toList_inj.1 (by simpa using hargs)
    split at hq
    · rename_i a n m hb
      rw [hb] at hx
      obtain ⟨a', m', e1, e2⟩ := hx.slAny
      split at hq
      · rename_i el hu
        cases hm : Nat.blt m BIG with
        | false => simp only [hm, cond_false] at hq; cases hq
        | true =>
          have hm' : m < BIG := by simpa using hm
          simp only [hm, cond_true, Option.some.injEq, Prod.mk.injEq] at hq
          obtain ⟨rfl, rfl⟩ := hq
          cases ht : c.argTypes[0]? with
          | none => simp [ht] at hu
          | some t =>
            simp only [ht, Option.bind_some] at hu
            refine OpSame.same h (v' := .int .i64 m) ?_ (VRel.int.2 rfl)
            simp [execOp, ho, resolve, hc, hargs', invoke, builtin, Builtin.cap_, ht, e1, e2 hm', runder hu, goInt]
      · cases hq
    · cases hq
  · cases hq

theorem wrap_small (n : Int) (h0 : 0 ≤ n) (h1 : n < 4611686018427387904) : IntKind.i64.wrap n = n := by
  simp [IntKind.wrap, IntKind.bits, IntKind.signed]
  omega

theorem copies_length (l : List Value) : ∀ (m : Nat), (copies l m).length = m * l.length
  | 0 => by simp [copies]
  | m + 1 => by simp [copies, copies_length l m, Nat.add_mul]; omega

theorem copies_get (l : List Value) : ∀ (m i : Nat), i < m * l.length → (copies l m)[i]? = l[i % l.length]?
  | 0, i, h => by simp at h
  | m + 1, i, h => by
    simp only [copies]
    rw [Nat.add_mul] at h
    by_cases hi : i < l.length
    · rw [List.getElem?_append_left hi, Nat.mod_eq_of_lt hi]
    · rw [List.getElem?_append_right (by omega), copies_get l m (i - l.length) (by omega)]
      congr 1
      exact (Nat.mod_eq_sub_mod (by omega)).symm

theorem range_copies (z : Array Value) (m : Nat) : ((Array.range (m * z.size)).map (z[· % z.size]!)) = (copies z.toList m).toArray := by
  apply Array.toList_inj.1
  apply List.ext_getElem?
  intro i
  by_cases hi : i < m * z.size
  · have h0 : 0 < z.size := by rcases Nat.eq_zero_or_pos z.size with h | h; · rw [h] at hi; simp at hi
                               · exact h
    have hlt : i % z.size < z.size := Nat.mod_lt _ h0
    have := copies_get z.toList m i (by simpa using hi)
    simp only [Array.toList_map, Array.toList_range, List.getElem?_map]
    rw [this]
    simp [hi, hlt]
  · have h1 : ((Array.range (m * z.size)).map (z[· % z.size]!)).toList.length ≤ i := by simp; omega
    have h2 : (copies z.toList m).toArray.toList.length ≤ i := by simp [copies_length]; omega
    rw [List.getElem?_eq_none h1, List.getElem?_eq_none h2]

theorem LRel.copies {l m : List Value} (h : LRel ρ l m) : ∀ n, LRel ρ (Rx.copies l n) (Rx.copies m n)
  | 0 => trivial
  | n + 1 => LRel.append h (LRel.copies h n)

theorem op_makeSlice (h : R G base w0 ρ H w) {t : TypeId} {x y : Operand} (ho : o.op = .makeSlice t x y) (hx : VRel ρ (e x) (e' x)) (hy : VRel ρ (e y) (e' y)) (hq : aOp P o e H = some (v, H')) : OpRes P G base w0 ρ H w (execOp e' o) v H' := by
  simp only [aOp, ho] at hq
  split at hq
  · rename_i el hu
    split at hq
    · rename_i i n m hi hn hm
      obtain ⟨k, hk⟩ : ∃ k, e x = .int k n := by
        cases hey : e x <;> simp [hey, aInt] at hn
        exact ⟨_, by rw [hn]⟩
      obtain ⟨k', hk'⟩ : ∃ k, e y = .int k m := by
        cases hey : e y <;> simp [hey, aInt] at hm
        exact ⟨_, by rw [hm]⟩
      rw [hk] at hx
      rw [hk'] at hy
      have ex := VRel.int.1 hx
      have ey := VRel.int.1 hy
      cases hd : decide (0 ≤ n ∧ n ≤ m ∧ m < 2 ^ 40 ∧ m * i.bytes < 2 ^ 40) with
      | false => simp only [hd, cond_false] at hq; cases hq
      | true =>
        simp only [hd, cond_true] at hq
        have hd := of_decide_eq_true hd
        cases hzo : zeroOf i with
        | none => simp [hzo] at hq
        | some z =>
          have hzz := (zeroOf_zero hzo).1
          simp only [hzo] at hq
          cases hsz : Nat.beq z.cells.toList.length i.size with
          | false => simp only [hsz, cond_false] at hq; cases hq
          | true =>
            simp only [hsz, cond_true] at hq
            have hsz : z.cells.size = i.size := by simpa using Nat.eq_of_beq_eq_true hsz
            cases hr : aRow el (copies z.cells.toList m.toNat) H with
            | none => simp [hr] at hq
            | some p =>
              obtain ⟨b, H1⟩ := p
              simp only [hr, Option.some.injEq, Prod.mk.injEq] at hq
              obtain ⟨rfl, rfl⟩ := hq
              have hzr : LRel ρ z.cells.toList z.cells.toList := (plain_rel 4 z (zeroOf_zero hzo).2 : VRel ρ z z).cells
              obtain ⟨e1, rfl, e3, e4⟩ := row_run (P := P) (c' := (copies z.cells.toList m.toNat).toArray) h (by simpa using hzr.copies m.toNat) hr
              refine ⟨_, _, _, .inl ?_, e4, e3, sl_new (l := n.toNat) (c := m.toNat) (by unfold BIG; omega)⟩
              have hn1 := wrap_small n hd.1 (by omega)
              have hm1 := wrap_small m (by omega) (by omega)
              have hmb : ¬ ((i.bytes : Int) * m > 281474976710656) := by rw [Int.mul_comm]; omega
              have hroom : (askRoom (m.toNat * i.bytes)).run P w = .ok () w := by
                unfold askRoom
                rw [if_neg]
                · rfl
                · unfold roomBytes
                  have : ((m.toNat * i.bytes : Nat) : Int) = m * i.bytes := by rw [Int.natCast_mul, Int.toNat_of_nonneg (by omega)]
                  omega
              have hrow : ∀ (z0 : Array Value), (m.toNat * i.size ≠ 0 → z0 = z.cells) → (Array.range (m.toNat * i.size)).map (z0[· % z0.size]!) = (copies z.cells.toList m.toNat).toArray := by
                intro z0 h0
                by_cases hz0 : m.toNat * i.size = 0
                · rw [hz0]
                  have : copies z.cells.toList m.toNat = [] := by
                    apply List.eq_nil_of_length_eq_zero
                    rw [copies_length]; simpa [hsz] using hz0
                  simp [this]
                · rw [h0 hz0, ← hsz]; exact range_copies z.cells m.toNat
              simp only [execOp, ho, Instr.makeSlice, ex, ey, Sem.run_bind, runder hu, rthen, asInt, asIntOf, rpure, rinfo hi, hn1, hm1]
              have c1 : (decide (m < 0) || decide ((i.bytes : Int) * m > 2 ^ 48)) = false := by
                simp only [Bool.or_eq_false_iff, decide_eq_false_iff_not]
                exact ⟨by omega, by simpa using hmb⟩
              have c2 : (decide (n < 0)) = false := by simp; omega
              have c3 : (decide (n > m)) = false := by simp; omega
              simp only [c1, c2, c3, Bool.or_self, Bool.false_eq_true, if_false, Sem.run_bind, hroom, rthen, rsize hi]
              by_cases hz0 : m.toNat * i.size = 0
              · simp only [hz0, if_true, Sem.run_bind, rpure, rthen]
                have := hrow #[] (fun h0 => absurd hz0 h0)
                rw [hz0] at this
                rw [this, e1]
                rfl
              · simp only [hz0, if_false, Sem.run_bind, rzero hi hzz, rpure, rthen]
                rw [hrow z.cells (fun _ => rfl), e1]
                rfl
    · cases hq
  · cases hq
end

section
variable {P : Program} {G base : Nat} {w0 : World} {ρ : Ren} {H H' : AH} {w : World}
variable {o : Oper} {e e' : Operand → Value} {v : Value}

theorem BIG_pos : 0 < BIG := by unfold BIG; omega
theorem beq_ne {m l : Nat} (h : m ≠ l) : Nat.beq m l = false := by
  cases hb : Nat.beq m l with
  | false => rfl
  | true => exact absurd (Nat.eq_of_beq_eq_true hb) h
theorem blt_ge {a b : Nat} (h : Nat.blt a b = false) : b ≤ a := by
  rcases Nat.lt_or_ge a b with h1 | h1
  · have : Nat.blt a b = true := by simpa using h1
    rw [this] at h; cases h
  · exact h1

theorem aInt_int {x : Value} {n : Int} (h : aInt x = some n) : ∃ k, x = .int k n := by
  cases x <;> simp [aInt] at h
  exact ⟨_, by rw [h]⟩

theorem bound_run {x : Value} {n : Int} (h : aInt x = some n) {y : Nat} (h0 : 0 ≤ n) (h1 : n ≤ (y : Int)) (c : BoundsCode) : (Instr.sliceBound x y c).run P w = .ok n.toNat w := by
  obtain ⟨k, rfl⟩ := aInt_int h
  simp [Instr.sliceBound, asIntOf, h0, h1]

theorem aBound_some {x : Value} {d : Option Nat} {top n : Nat} (h : aBound (some x) d top = some n) : ∃ m, aInt x = some m ∧ 0 ≤ m ∧ m ≤ (top : Int) ∧ n = m.toNat := by
  simp only [aBound] at h
  cases hx : aInt x with
  | none => simp [hx] at h
  | some m =>
    simp only [hx] at h
    cases hd : decide (0 ≤ m ∧ m ≤ (top : Int)) with
    | false => simp only [hd, cond_false] at h; cases h
    | true =>
      simp only [hd, cond_true, Option.some.injEq] at h
      have := of_decide_eq_true hd
      exact ⟨m, rfl, this.1, this.2, h.symm⟩

theorem cut_run {len cap t cap' : Nat} {lo hi mx : Option Value} {l h m : Nat} (ht : t ≤ cap')
    (hq : aCut len cap t lo hi mx = some (l, h, m)) :
    ∃ m', (Instr.sliceBounds true len cap' lo hi mx).run P w = .ok (l, h, m') w ∧ (mx = none → m = cap ∧ m' = cap') ∧ (mx ≠ none → m' = m ∧ m ≤ t) ∧ l ≤ h ∧ (h ≤ t ∨ h = len) := by
  unfold aCut at hq
  cases hm : aBound mx (some cap) t with
  | none => simp [hm] at hq
  | some m0 =>
    simp only [hm] at hq
    cases hh : aBound hi (bif mx.isSome then none else some len) (min t m0) with
    | none => simp [hh] at hq
    | some h0 =>
      simp only [hh] at hq
      cases hl : aBound lo (some 0) h0 with
      | none => simp [hl] at hq
      | some l0 =>
        simp only [hl, Option.some.injEq, Prod.mk.injEq] at hq
        obtain ⟨rfl, rfl, rfl⟩ := hq
        cases mx with
        | none =>
          simp only [aBound, Option.some.injEq] at hm
          subst hm
          cases hi with
          | none =>
            simp only [aBound, Option.isSome_none, cond_false, Option.some.injEq] at hh
            subst hh
            cases lo with
            | none =>
              simp only [aBound, Option.some.injEq] at hl
              subst hl
              exact ⟨cap', by simp [Instr.sliceBounds], fun _ => ⟨rfl, rfl⟩, fun h => absurd rfl h, Nat.zero_le _, .inr rfl⟩
            | some z =>
              obtain ⟨n, h1, h2, h3, rfl⟩ := aBound_some hl
              exact ⟨cap', by simp [Instr.sliceBounds, bound_run h1 h2 h3], fun _ => ⟨rfl, rfl⟩, fun h => absurd rfl h, by omega, .inr rfl⟩
          | some x =>
            obtain ⟨n', g1, g2, g3, rfl⟩ := aBound_some hh
            have b1 := fun c => bound_run (P := P) (w := w) g1 g2 (show n' ≤ (cap' : Int) by omega) c
            cases lo with
            | none =>
              simp only [aBound, Option.some.injEq] at hl
              subst hl
              exact ⟨cap', by simp [Instr.sliceBounds, b1], fun _ => ⟨rfl, rfl⟩, fun h => absurd rfl h, Nat.zero_le _, .inl (by omega)⟩
            | some z =>
              obtain ⟨n, h1, h2, h3, rfl⟩ := aBound_some hl
              exact ⟨cap', by simp [Instr.sliceBounds, b1, bound_run h1 h2 h3], fun _ => ⟨rfl, rfl⟩, fun h => absurd rfl h, by omega, .inl (by omega)⟩
        | some y =>
          obtain ⟨n2, k1, k2, k3, rfl⟩ := aBound_some hm
          cases hi with
          | none => simp [aBound] at hh
          | some x =>
            obtain ⟨n', g1, g2, g3, rfl⟩ := aBound_some hh
            have b0 := fun c => bound_run (P := P) (w := w) k1 k2 (show n2 ≤ (cap' : Int) by omega) c
            have b1 := fun c => bound_run (P := P) (w := w) g1 g2 (show n' ≤ ((n2.toNat : Nat) : Int) by omega) c
            cases lo with
            | none =>
              simp only [aBound, Option.some.injEq] at hl
              subst hl
              exact ⟨n2.toNat, by simp [Instr.sliceBounds, b0, b1], (fun h => by cases h), fun _ => ⟨rfl, by omega⟩, Nat.zero_le _, .inl (by omega)⟩
            | some z =>
              obtain ⟨n, h1, h2, h3, rfl⟩ := aBound_some hl
              exact ⟨n2.toNat, by simp [Instr.sliceBounds, b0, b1, bound_run h1 h2 h3], (fun h => by cases h), fun _ => ⟨rfl, by omega⟩, by omega, .inl (by omega)⟩

theorem map_same {x : Option Operand} (h : ∀ y, x = some y → VRel ρ (e y) (e' y)) {d : Option Nat} {top n : Nat} (hb : aBound (x.map e) d top = some n) : x.map e' = x.map e := by
  cases x with
  | none => rfl
  | some y =>
    obtain ⟨m, h1, _⟩ := aBound_some hb
    obtain ⟨k, hk⟩ := aInt_int h1
    have := h y rfl
    rw [hk] at this
    simp [VRel.int.1 this, hk]

theorem cut_same {lo hi mx : Option Operand} (hlo : ∀ y, lo = some y → VRel ρ (e y) (e' y)) (hhi : ∀ y, hi = some y → VRel ρ (e y) (e' y)) (hmx : ∀ y, mx = some y → VRel ρ (e y) (e' y))
    {len cap t : Nat} {r : Nat × Nat × Nat} (hq : aCut len cap t (lo.map e) (hi.map e) (mx.map e) = some r) : lo.map e' = lo.map e ∧ hi.map e' = hi.map e ∧ mx.map e' = mx.map e := by
  unfold aCut at hq
  cases hm : aBound (mx.map e) (some cap) t with
  | none => simp [hm] at hq
  | some m0 =>
    simp only [hm, Option.isSome_map] at hq
    cases hh : aBound (hi.map e) (bif mx.isSome then none else some len) (min t m0) with
    | none => simp [hh] at hq
    | some h0 =>
      simp only [hh] at hq
      cases hl : aBound (lo.map e) (some 0) h0 with
      | none => simp [hl] at hq
      | some l0 => exact ⟨map_same hlo hl, map_same hhi hh, map_same hmx hm⟩

theorem op_slice (h : R G base w0 ρ H w) {t : TypeId} {x : Operand} {lo hi mx : Option Operand} (ho : o.op = .slice t x lo hi mx) (hE : ∀ x ∈ o.op.operands, VRel ρ (e x) (e' x)) (hq : aOp P o e H = some (v, H')) : OpSame P ρ H w (execOp e' o) v H' := by
  simp only [aOp, ho] at hq
  have hx : VRel ρ (e x) (e' x) := hE x (by simp [ho, Op.operands])
  have hlo : ∀ y, lo = some y → VRel ρ (e y) (e' y) := fun y hy => hE y (by simp [ho, Op.operands, hy])
  have hhi : ∀ y, hi = some y → VRel ρ (e y) (e' y) := fun y hy => hE y (by simp [ho, Op.operands, hy])
  have hmx : ∀ y, mx = some y → VRel ρ (e y) (e' y) := fun y hy => hE y (by simp [ho, Op.operands, hy])
  split at hq
  · rename_i a len cap hb
    rw [hb] at hx
    split at hq
    · rename_i el hu
      cases hi' : P.info? el with
      | none => simp [hi'] at hq
      | some i =>
        simp only [hi'] at hq
        -- what memory does
        have run : ∀ (a' : Option Addr) (cap' l h' m' : Nat), e' x = .slice a' len cap' → lo.map e' = lo.map e ∧ hi.map e' = hi.map e ∧ mx.map e' = mx.map e →
            (Instr.sliceBounds true len cap' (lo.map e) (hi.map e) (mx.map e)).run P w = .ok (l, h', m') w →
            (execOp e' o).run P w = .ok (.value (.slice (if m' = l then a' else a'.map (·.add (l * i.size))) (h' - l) (m' - l))) w := by
          intro a' cap' l h' m' e1 e2 e3
          simp [execOp, ho, Instr.sliceAt, Instr.slice, e1, e2.1, e2.2.1, e2.2.2, runder hu, e3, rsize hi']
        cases hc : Nat.blt cap BIG with
        | true =>
          have hc' : cap < BIG := by simpa using hc
          simp only [hc, cond_true] at hq
          split at hq
          · cases hq
          · rename_i l h' m hcut
            simp only [Option.some.injEq, Prod.mk.injEq] at hq
            obtain ⟨rfl, rfl⟩ := hq
            have hs := cut_same hlo hhi hmx hcut
            obtain ⟨a', cap', e1, e2⟩ := hx.slAny
            have e2 := e2 hc'
            subst e2
            obtain ⟨m', r1, r2, r3, r4, r5⟩ := cut_run (P := P) (w := w) (Nat.le_refl _) hcut
            have hm' : m' = m := by
              cases hmx' : mx.map e with
              | none => have := r2 hmx'; omega
              | some z => exact (r3 (by rw [hmx']; simp)).1
            subst hm'
            have hmc : m' ≤ cap' := by
              cases hmx' : mx.map e with
              | none => have := r2 hmx'; omega
              | some z => exact (r3 (by rw [hmx']; simp)).2
            refine OpSame.same h (run a' cap' l h' m' e1 hs r1) ?_
            have hbeq : (bif Nat.beq m' l then a else a.map (·.add (l * i.size))) = if m' = l then a else a.map (·.add (l * i.size)) := by
              by_cases hml : m' = l
              · simp [hml]
              · have : Nat.beq m' l = false := beq_ne hml
                simp [this, hml]
            rw [hbeq]
            cases a with
            | none =>
              have := VRel.slNil.1 hx
              rw [e1] at this
              cases this
              simp only [Option.map_none, ite_self]
              exact VRel.slNil.2 rfl
            | some a =>
              obtain ⟨a2, c2, hsr, e3⟩ := VRel.sl.1 hx
              rw [e1] at e3
              cases e3
              obtain ⟨s0, r, hr, ⟨_, _, ha⟩ | ⟨hbig, _⟩⟩ := hsr
              · have hA : ARel ρ a a2 := ⟨s0, r, hr, ha⟩
                by_cases hml : m' = l
                · simp only [hml, if_true]
                  exact VRel.sl.2 ⟨_, _, ⟨s0, r, hr, .inl ⟨by omega, rfl, ha⟩⟩, rfl⟩
                · simp only [hml, if_false, Option.map_some]
                  obtain ⟨s1, r1, hr1, ha1⟩ := hA.add (l * i.size)
                  exact VRel.sl.2 ⟨_, _, ⟨s1, r1, hr1, .inl ⟨by omega, rfl, ha1⟩⟩, rfl⟩
              · omega
        | false =>
          have hc' : BIG ≤ cap := blt_ge hc
          have hB := BIG_pos
          simp only [hc, cond_false] at hq
          cases hok : cutOk H a cap i.size (mx.map e) with
          | false => simp only [hok, cond_false] at hq; cases hq
          | true =>
            simp only [hok, cond_true] at hq
            split at hq
            · cases hq
            · rename_i l h' m hcut
              simp only [Option.some.injEq, Prod.mk.injEq] at hq
              obtain ⟨rfl, rfl⟩ := hq
              have hs := cut_same hlo hhi hmx hcut
              cases a with
              | none => simp [cutOk] at hok
              | some a =>
                obtain ⟨a2, c2, hsr, e3⟩ := VRel.sl.1 hx
                obtain ⟨s0, r, hr, ⟨hlt, _⟩ | ⟨hbig, hlen, hcap, hblk, hspot, hoff, hsh, hroom⟩⟩ := hsr
                · omega
                · obtain ⟨m', r1, r2, r3, r4, r5⟩ := cut_run (P := P) (w := w) (cap' := c2) hcap hcut
                  have hsz : r.esz = i.size ∧ (mx.map e = none ∨ (BIG < cap ∧ cap - BIG < BIG)) := by
                    simp only [cutOk] at hok
                    cases hg : H.get a.block with
                    | none => simp [hg] at hok
                    | some ob =>
                      simp only [hg, Bool.and_eq_true, Bool.or_eq_true] at hok
                      have hk1 : ob.kind = 1 := Nat.eq_of_beq_eq_true hok.1.1
                      have hk := h.blk _ _ _ hr hg
                      unfold BRel at hk
                      simp only [hk1] at hk
                      obtain ⟨_, _, _, _, _, hez, _⟩ := hk
                      refine ⟨hez.trans (Nat.eq_of_beq_eq_true hok.1.2), hok.2.imp (fun h => by simpa using h) (fun h => by simpa using h)⟩
                  refine OpSame.same h (run (some a2) c2 l h' m' e3 hs r1) ?_
                  have hl0 : h' ≤ cap - BIG := by rcases r5 with h5 | h5 <;> omega
                  cases hmx' : mx.map e with
                  | none =>
                    obtain ⟨rfl, rfl⟩ := r2 hmx'
                    have hne : Nat.beq m l = false := by
                      exact beq_ne (by omega)
                    simp only [hne, cond_false, Option.map_some]
                    refine VRel.sl.2 ?_
                    by_cases hml : m' = l
                    · simp only [hml, if_true]
                      refine ⟨_, _, ⟨?_, r, ?_, .inr ⟨by omega, by omega, by omega, hblk, hspot, fun hx => ?_, hsh, ?_⟩⟩, rfl⟩
                      · unfold Addr.add; split <;> simp [s0]
                      · have : (a.add (l * i.size)).block = a.block := by unfold Addr.add; split <;> rfl
                        rw [this]; exact hr
                      · exfalso; apply hx; omega
                      · have h1 : 0 ≤ m' * r.esz := Nat.zero_le _
                        simp; omega
                    · simp only [hml, if_false]
                      refine ⟨_, _, ⟨?_, r, ?_, .inr ⟨by omega, by omega, by omega, ?_, ?_, fun hx => ?_, ?_, ?_⟩⟩, rfl⟩
                      · unfold Addr.add; split <;> simp [s0]
                      · have : (a.add (l * i.size)).block = a.block := by unfold Addr.add; split <;> rfl
                        rw [this]; exact hr
                      · unfold Addr.add; split <;> simp [hblk]
                      · unfold Addr.add; split <;> simp [hspot]
                      · have h2 : m ≠ BIG := by intro h0; apply hx; omega
                        have h3 := hoff h2
                        have e1 : (a2.add (l * i.size)).off = a2.off + l * i.size := by unfold Addr.add; split <;> simp_all
                        have e2 : (a.add (l * i.size)).off = a.off + l * i.size := by unfold Addr.add; split <;> simp_all
                        rw [e1, e2, h3]; omega
                      · have e1 : (a2.add (l * i.size)).off = a2.off + l * i.size := by unfold Addr.add; split <;> simp_all
                        omega
                      · have e1 : (a2.add (l * i.size)).off = a2.off + l * i.size := by unfold Addr.add; split <;> simp_all
                        rw [e1, hsz.1] at *
                        have : l * i.size + (m' - l) * i.size = m' * i.size := by rw [← Nat.add_mul]; congr 1; omega
                        omega
                  | some z =>
                    obtain ⟨rfl, hmt⟩ := r3 (by rw [hmx']; simp)
                    have hbig' : BIG < cap ∧ cap - BIG < BIG := hsz.2.resolve_left (by rw [hmx']; simp)
                    have hA : ARel ρ a a2 := by
                      refine ⟨s0, r, hr, ?_⟩
                      have := hoff (by omega)
                      obtain ⟨b, f, p⟩ := a2
                      simp only at hblk hspot this
                      rw [hblk, hspot, this]
                    have hmb : m' < BIG := by omega
                    have hbeq : (bif Nat.beq m' l then some a else (some a).map (·.add (l * i.size))) = if m' = l then some a else (some a).map (·.add (l * i.size)) := by
                      by_cases hml : m' = l
                      · simp [hml]
                      · have : Nat.beq m' l = false := beq_ne hml
                        simp [this, hml]
                    rw [hbeq]
                    by_cases hml : m' = l
                    · simp only [hml, if_true]
                      obtain ⟨s1, r1, hr1, ha1⟩ := hA
                      exact VRel.sl.2 ⟨_, _, ⟨s1, r1, hr1, .inl ⟨by omega, rfl, ha1⟩⟩, rfl⟩
                    · simp only [hml, if_false, Option.map_some]
                      obtain ⟨s1, r1, hr1, ha1⟩ := hA.add (l * i.size)
                      exact VRel.sl.2 ⟨_, _, ⟨s1, r1, hr1, .inl ⟨by omega, rfl, ha1⟩⟩, rfl⟩
    · cases hq
  · exact op_quiet h hE (by rw [ho]; simp) hq
end

section
variable {P : Program} {G base : Nat} {w0 : World} {ρ : Ren} {H H' : AH} {w : World}
variable {o : Oper} {e e' : Operand → Value} {v : Value}

theorem eq_pn {t : TypeId} {el : TypeId} {a : Addr} (hu : P.underlying t = some (.pointer el)) : (Op.equal t (.pointer none) (.pointer (some a))).run P w = .ok false w := by
  have key : ∀ n0, (Op.equalIn (n0 + 1) t (.pointer none) (.pointer (some a))).run P w = .ok false w := fun n0 => by
    rw [Op.equalIn]; simp [runder hu]
  exact key 9999
theorem eq_np {t : TypeId} {el : TypeId} {a : Addr} (hu : P.underlying t = some (.pointer el)) : (Op.equal t (.pointer (some a)) (.pointer none)).run P w = .ok false w := by
  have key : ∀ n0, (Op.equalIn (n0 + 1) t (.pointer (some a)) (.pointer none)).run P w = .ok false w := fun n0 => by
    rw [Op.equalIn]; simp [runder hu]
  exact key 9999
theorem eq_sn {t : TypeId} {el : TypeId} {a : Addr} {l c m d : Nat} (hu : P.underlying t = some (.slice el)) : (Op.equal t (.slice none l c) (.slice (some a) m d)).run P w = .ok false w := by
  have key : ∀ n0, (Op.equalIn (n0 + 1) t (.slice none l c) (.slice (some a) m d)).run P w = .ok false w := fun n0 => by
    rw [Op.equalIn]; simp [runder hu]
  exact key 9999
theorem eq_ns {t : TypeId} {el : TypeId} {a : Addr} {l c m d : Nat} (hu : P.underlying t = some (.slice el)) : (Op.equal t (.slice (some a) m d) (.slice none l c)).run P w = .ok false w := by
  have key : ∀ n0, (Op.equalIn (n0 + 1) t (.slice (some a) m d) (.slice none l c)).run P w = .ok false w := fun n0 => by
    rw [Op.equalIn]; simp [runder hu]
  exact key 9999
theorem eq_mn {t : TypeId} {k el : TypeId} {a : Nat} (hu : P.underlying t = some (.map k el)) : (Op.equal t (.map none) (.map (some a))).run P w = .ok false w := by
  have key : ∀ n0, (Op.equalIn (n0 + 1) t (.map none) (.map (some a))).run P w = .ok false w := fun n0 => by
    rw [Op.equalIn]; simp [runder hu]
  exact key 9999
theorem eq_nm {t : TypeId} {k el : TypeId} {a : Nat} (hu : P.underlying t = some (.map k el)) : (Op.equal t (.map (some a)) (.map none)).run P w = .ok false w := by
  have key : ∀ n0, (Op.equalIn (n0 + 1) t (.map (some a)) (.map none)).run P w = .ok false w := fun n0 => by
    rw [Op.equalIn]; simp [runder hu]
  exact key 9999
theorem eq_fn {t : TypeId} {k el : Array TypeId} {f : Fn} {x y : Array Value} {va : Bool} (hu : P.underlying t = some (.func k el va)) : (Op.equal t (.nilFunc) (.func f x y)).run P w = .ok false w := by
  have key : ∀ n0, (Op.equalIn (n0 + 1) t (.nilFunc) (.func f x y)).run P w = .ok false w := fun n0 => by
    rw [Op.equalIn]; simp [runder hu]
  exact key 9999
theorem eq_nf {t : TypeId} {k el : Array TypeId} {f : Fn} {x y : Array Value} {va : Bool} (hu : P.underlying t = some (.func k el va)) : (Op.equal t (.func f x y) (.nilFunc)).run P w = .ok false w := by
  have key : ∀ n0, (Op.equalIn (n0 + 1) t (.func f x y) (.nilFunc)).run P w = .ok false w := fun n0 => by
    rw [Op.equalIn]; simp [runder hu]
  exact key 9999
theorem eq_xn {t : TypeId} {ms : Array (String × TypeId)} {f : TypeId} {x : Value} (hu : P.underlying t = some (.interface ms)) : (Op.equal t (.nilIface) (.iface f x)).run P w = .ok false w := by
  have key : ∀ n0, (Op.equalIn (n0 + 1) t (.nilIface) (.iface f x)).run P w = .ok false w := fun n0 => by
    rw [Op.equalIn]; simp [runder hu]
  exact key 9999
theorem eq_nx {t : TypeId} {ms : Array (String × TypeId)} {f : TypeId} {x : Value} (hu : P.underlying t = some (.interface ms)) : (Op.equal t (.iface f x) (.nilIface)).run P w = .ok false w := by
  have key : ∀ n0, (Op.equalIn (n0 + 1) t (.iface f x) (.nilIface)).run P w = .ok false w := fun n0 => by
    rw [Op.equalIn]; simp [runder hu]
  exact key 9999

theorem op_nilcmp (h : R G base w0 ρ H w) {op : BinOp} {t u : TypeId} {x y : Operand} (ho : o.op = .binOp op t x y u) (hE : ∀ x ∈ o.op.operands, VRel ρ (e x) (e' x)) (hq : aOp P o e H = some (v, H')) : OpSame P ρ H w (execOp e' o) v H' := by
  simp only [aOp, ho] at hq
  have hx : VRel ρ (e x) (e' x) := hE x (by simp [ho, Op.operands])
  have hy : VRel ρ (e y) (e' y) := hE y (by simp [ho, Op.operands])
  have key : aNilB P t (e x) (e y) = true → ((execOp e' o).run P w = (match op with | .eql => .ok (.value (.bool false)) w | .neq => .ok (.value (.bool true)) w | _ => (execOp e' o).run P w)) := by
    intro hn
    unfold aNilB at hn
    split at hn
    · rename_i a e1 e2
      rw [e1] at hx; rw [e2] at hy
      have e3 := VRel.ptrNil.1 hx
      obtain ⟨a', _, e4⟩ := VRel.ptr.1 hy
      unfold isPtr at hn
      split at hn
      · rename_i el hu
        cases op <;> first | rfl | (simp [execOp, ho, eqGuard, binOp, e3, e4, eq_pn hu])
      · cases hn
    · rename_i a e1 e2
      rw [e1] at hx; rw [e2] at hy
      have e3 := VRel.ptrNil.1 hy
      obtain ⟨a', _, e4⟩ := VRel.ptr.1 hx
      unfold isPtr at hn
      split at hn
      · rename_i el hu
        cases op <;> first | rfl | (simp [execOp, ho, eqGuard, binOp, e3, e4, eq_np hu])
      · cases hn
    · rename_i l1 c1 a l2 c2 e1 e2
      rw [e1] at hx; rw [e2] at hy
      have e3 := VRel.slNil.1 hx
      obtain ⟨a', c', _, e4⟩ := VRel.sl.1 hy
      unfold isSl at hn
      split at hn
      · rename_i el hu
        cases op <;> first | rfl | (simp [execOp, ho, eqGuard, binOp, e3, e4, eq_sn hu])
      · cases hn
    · rename_i a l1 c1 l2 c2 e1 e2
      rw [e1] at hx; rw [e2] at hy
      have e3 := VRel.slNil.1 hy
      obtain ⟨a', c', _, e4⟩ := VRel.sl.1 hx
      unfold isSl at hn
      split at hn
      · rename_i el hu
        cases op <;> first | rfl | (simp [execOp, ho, eqGuard, binOp, e3, e4, eq_ns hu])
      · cases hn
    · rename_i a e1 e2
      rw [e1] at hx; rw [e2] at hy
      have e3 := VRel.mapNil.1 hx
      obtain ⟨a', _, _, e4⟩ := VRel.map.1 hy
      unfold isMap at hn
      split at hn
      · rename_i k el hu
        cases op <;> first | rfl | (simp [execOp, ho, eqGuard, binOp, e3, e4, eq_mn hu])
      · cases hn
    · rename_i a e1 e2
      rw [e1] at hx; rw [e2] at hy
      have e3 := VRel.mapNil.1 hy
      obtain ⟨a', _, _, e4⟩ := VRel.map.1 hx
      unfold isMap at hn
      split at hn
      · rename_i k el hu
        cases op <;> first | rfl | (simp [execOp, ho, eqGuard, binOp, e3, e4, eq_nm hu])
      · cases hn
    · rename_i f a b e1 e2
      rw [e1] at hx; rw [e2] at hy
      have e3 := VRel.nilFunc.1 hx
      obtain ⟨f', a', b', _, _, _, e4⟩ := VRel.func.1 hy
      unfold isFunc at hn
      split at hn
      · rename_i k el va hu
        cases op <;> first | rfl | (simp [execOp, ho, eqGuard, binOp, e3, e4, eq_fn hu])
      · cases hn
    · rename_i f a b e1 e2
      rw [e1] at hx; rw [e2] at hy
      have e3 := VRel.nilFunc.1 hy
      obtain ⟨f', a', b', _, _, _, e4⟩ := VRel.func.1 hx
      unfold isFunc at hn
      split at hn
      · rename_i k el va hu
        cases op <;> first | rfl | (simp [execOp, ho, eqGuard, binOp, e3, e4, eq_nf hu])
      · cases hn
    · rename_i f a e1 e2
      rw [e1] at hx; rw [e2] at hy
      have e3 := VRel.nilIface.1 hx
      obtain ⟨a', _, e4⟩ := VRel.iface.1 hy
      unfold isIface at hn
      split at hn
      · rename_i el hu
        cases op <;> first | rfl | (simp [execOp, ho, eqGuard, binOp, e3, e4, eq_xn hu])
      · cases hn
    · rename_i f a e1 e2
      rw [e1] at hx; rw [e2] at hy
      have e3 := VRel.nilIface.1 hy
      obtain ⟨a', _, e4⟩ := VRel.iface.1 hx
      unfold isIface at hn
      split at hn
      · rename_i el hu
        cases op <;> first | rfl | (simp [execOp, ho, eqGuard, binOp, e3, e4, eq_nx hu])
      · cases hn
    · cases hn
  have hsel : ∀ cs b, o.op ≠ .select cs b := by rw [ho]; simp
  cases op with
  | eql =>
    simp only [] at hq key
    cases hn : aNilB P t (e x) (e y) with
    | true =>
      simp only [hn, cond_true, Option.some.injEq, Prod.mk.injEq] at hq
      obtain ⟨rfl, rfl⟩ := hq
      exact OpSame.same h (key hn) (VRel.bool.2 rfl)
    | false => simp only [hn, cond_false] at hq; exact op_quiet h hE hsel hq
  | neq =>
    simp only [] at hq key
    cases hn : aNilB P t (e x) (e y) with
    | true =>
      simp only [hn, cond_true, Option.some.injEq, Prod.mk.injEq] at hq
      obtain ⟨rfl, rfl⟩ := hq
      exact OpSame.same h (key hn) (VRel.bool.2 rfl)
    | false => simp only [hn, cond_false] at hq; exact op_quiet h hE hsel hq
  | _ => exact op_quiet h hE hsel hq
end

section
variable {P : Program} {G base : Nat} {w0 : World} {ρ : Ren} {H H' : AH} {w : World}
variable {o : Oper} {e e' : Operand → Value} {v : Value}

/-- the first elements of a slice -/
theorem sl_first (h : R G base w0 ρ H w) {a : Addr} {len c n size : Nat} {v' : Value} {l : List Value} (hv : VRel ρ (.slice (some a) len c) v') (hn : n ≤ len) (hl : firstN H a (n * size) = some l) :
    ∃ a' c' l', v' = .slice (some a') len c' ∧ LRel ρ l l' ∧ (loadCells a' (n * size)).run P w = .ok l'.toArray w := by
  obtain ⟨a', c', hs, rfl⟩ := VRel.sl.1 hv
  rcases Nat.eq_zero_or_pos len with h0 | h0
  · have : n = 0 := by omega
    subst this
    simp only [Nat.zero_mul, firstN, Option.some.injEq] at hl
    subst hl
    exact ⟨a', c', [], rfl, trivial, by simp [loadCells, loadCellsFrom]⟩
  · obtain ⟨l', h1, h2⟩ := first_all (P := P) h (hs.addr h0) hl
    exact ⟨a', c', l', rfl, h1, h2⟩

theorem aBytes_spec : ∀ {l : List Value} {bs : List UInt8}, aBytes l = some bs → ∃ ns : List Int, l = ns.map (Value.int .u8) ∧ bs = ns.map (fun n => UInt8.ofNat n.toNat)
  | [], bs, h => by simp [aBytes] at h; subst h; exact ⟨[], rfl, rfl⟩
  | x :: l, bs, h => by
    unfold aBytes at h
    split at h
    · cases ‹_ :: _ = []›
    · rename_i n l' heq
      cases heq
      cases hb : aBytes l with
      | none => simp [hb] at h
      | some b =>
        simp only [hb, Option.some.injEq] at h
        obtain ⟨ns, e1, e2⟩ := aBytes_spec hb
        exact ⟨n :: ns, by simp [e1], by simp [← h, e2]⟩
    · cases h

theorem LRel.bytes : ∀ {ns : List Int} {l' : List Value}, LRel ρ (ns.map (Value.int .u8)) l' → l' = ns.map (Value.int .u8)
  | [], [], _ => rfl
  | n :: ns, y :: l', h => by
    have := VRel.int.1 h.1
    rw [this, LRel.bytes (ns := ns) h.2]; rfl

theorem foldl_push (ns : List Int) : ∀ (b : ByteArray), ns.foldl (fun r n => r.push (UInt8.ofNat n.toNat)) b = ⟨b.data ++ (ns.map (fun n => UInt8.ofNat n.toNat)).toArray⟩ := by
  induction ns with
  | nil => intro b; simp
  | cons n ns ih => intro b; simp only [List.foldl_cons, ih]; congr 1; apply Array.toList_inj.1; simp [ByteArray.push]

theorem op_convert (h : R G base w0 ρ H w) {src dst : TypeId} {x : Operand} (ho : o.op = .convert src dst x) (hE : ∀ x ∈ o.op.operands, VRel ρ (e x) (e' x)) (hq : aOp P o e H = some (v, H')) : OpSame P ρ H w (execOp e' o) v H' := by
  simp only [aOp, ho] at hq
  have hx : VRel ρ (e x) (e' x) := hE x (by simp [ho, Op.operands])
  split at hq
  · rename_i a len c hb
    rw [hb] at hx
    split at hq
    · rename_i el hs hd
      split at hq
      · rename_i l he hl
        cases hbs : aBytes l with
        | none => simp [hbs] at hq
        | some bs =>
          simp only [hbs, Option.some.injEq, Prod.mk.injEq] at hq
          obtain ⟨rfl, rfl⟩ := hq
          obtain ⟨ns, rfl, rfl⟩ := aBytes_spec hbs
          obtain ⟨a', c', l', e1, hrel, hrun⟩ := sl_first (P := P) (n := len) (size := 1) h hx (Nat.le_refl _) (by rw [Nat.mul_one]; exact hl)
          rw [Nat.mul_one] at hrun
          have := hrel.bytes
          subst this
          refine OpSame.same h (v' := .string ⟨(ns.map (fun n => UInt8.ofNat n.toNat)).toArray⟩) ?_ (VRel.string.2 rfl)
          simp only [execOp, ho, e1, Sem.run_bind, run_convert_bytes_string w src dst el _ _ _ hs he hd, run_bytesToString w a' len c' ns hrun, rthen, rpure, foldl_push]
          simp [ByteArray.empty, ByteArray.emptyWithCapacity]
          rfl
      · cases hq
    · cases hq
  · exact op_quiet h hE (by rw [ho]; simp) hq

theorem fold_set (off : Nat) : ∀ (l : List Value) (k : Nat) (cs : Array Value), off + k + l.length ≤ cs.size →
    ((l.zipIdx k).foldl (fun (cs : Array Value) p => cs.setIfInBounds (off + p.2) p.1) cs).toList = cs.toList.take (off + k) ++ l ++ cs.toList.drop (off + k + l.length)
  | [], k, cs, _ => by simp
  | x :: l, k, cs, h => by
    simp only [List.zipIdx_cons, List.foldl_cons, List.length_cons] at h ⊢
    rw [fold_set off l (k + 1) _ (by simp; omega)]
    have hk : off + k < cs.toList.length := by simp; omega
    simp only [Array.toList_setIfInBounds]
    have e1 : (cs.toList.set (off + k) x).take (off + (k + 1)) = cs.toList.take (off + k) ++ [x] := by
      rw [← Nat.add_assoc, List.take_add_one, List.getElem?_set_self hk, List.take_set]
      simp
      rw [List.set_eq_of_length_le (by simp; omega)]
    have e2 : (cs.toList.set (off + k) x).drop (off + (k + 1) + l.length) = cs.toList.drop (off + k + (l.length + 1)) := by
      rw [List.drop_set_of_lt (by omega)]
      congr 1; omega
    rw [e1, e2]
    simp

theorem fill_rel {place : Nat → Option (Nat × Nat)} : ∀ (ps ps' : List (Nat × Value)) (cs : List Value) (cs' : Array Value) (out : List Value),
    ps.map (·.1) = ps'.map (·.1) → LRel ρ (ps.map (·.2)) (ps'.map (·.2)) → LRel ρ cs cs'.toList → fillL place cs ps = some out →
    ∃ out', Instr.fill place cs' ps' = some out' ∧ LRel ρ out out'.toList
  | [], [], cs, cs', out, _, _, hc, hf => by
    simp only [fillL, Option.some.injEq] at hf
    subst hf
    exact ⟨cs', by simp [Instr.fill], hc⟩
  | (i, x) :: ps, (i', x') :: ps', cs, cs', out, hi, hv, hc, hf => by
    simp only [List.map_cons, List.cons.injEq] at hi
    obtain ⟨rfl, hi⟩ := hi
    simp only [fillL] at hf
    cases hp : place i with
    | none => simp [hp] at hf
    | some p =>
      obtain ⟨off, size⟩ := p
      simp only [hp] at hf
      cases hb : (Nat.beq x.cells.toList.length size && Nat.ble (off + x.cells.toList.length) cs.length) with
      | false => simp only [hb, cond_false] at hf; cases hf
      | true =>
        simp only [hb, cond_true] at hf
        simp only [Bool.and_eq_true] at hb
        have h1 := Nat.eq_of_beq_eq_true hb.1
        have h2 := Nat.le_of_ble_eq_true hb.2
        have hxc := VRel.cells hv.1
        have hlen := hxc.length
        have hclen := hc.length
        have hsz : x'.cells.size = size := by simp at hlen h1; omega
        have hle : off + x'.cells.size ≤ cs'.size := by simp at hlen hclen h1 h2; omega
        have heq : (x'.cells.zipIdx.foldl (fun cs (c, j) => cs.setIfInBounds (off + j) c) cs').toList = cs'.toList.take off ++ x'.cells.toList ++ cs'.toList.drop (off + x'.cells.toList.length) := by
          rw [← Array.foldl_toList, Array.toList_zipIdx]
          have := fold_set off x'.cells.toList 0 cs' (by simpa using hle)
          simpa using this
        obtain ⟨out', e1, e2⟩ := fill_rel ps ps' _ (x'.cells.zipIdx.foldl (fun cs (c, j) => cs.setIfInBounds (off + j) c) cs') out hi hv.2 (by
          rw [heq]
          have := (hc.take off).append (hxc.append (hc.drop (off + x.cells.toList.length)))
          rw [hlen] at this
          simpa [List.append_assoc, hlen] using this) hf
        refine ⟨out', ?_, e2⟩
        simp only [Instr.fill, hp]
        rw [if_neg (by simp; omega)]
        exact e1

theorem parts_rel {parts : Array (Nat × Operand)} (h : ∀ p ∈ parts.toList, VRel ρ (e p.2) (e' p.2)) :
    (parts.toList.map fun p => (p.1, e p.2)).map (·.1) = (parts.toList.map fun p => (p.1, e' p.2)).map (·.1) ∧ LRel ρ ((parts.toList.map fun p => (p.1, e p.2)).map (·.2)) ((parts.toList.map fun p => (p.1, e' p.2)).map (·.2)) := by
  refine ⟨by simp, ?_⟩
  simp only [List.map_map]
  revert h
  generalize parts.toList = l
  intro h
  induction l with
  | nil => trivial
  | cons x l ih => exact ⟨h x (by simp), ih fun p hp => h p (by simp [hp])⟩

theorem op_build (h : R G base w0 ρ H w) {t : TypeId} {parts : Array (Nat × Operand)} (ho : o.op = .build t parts) (hE : ∀ x ∈ o.op.operands, VRel ρ (e x) (e' x)) (hq : aOp P o e H = some (v, H')) : OpSame P ρ H w (execOp e' o) v H' := by
  simp only [aOp, ho] at hq
  have hp : ∀ p ∈ parts.toList, VRel ρ (e p.2) (e' p.2) := fun p hp => hE _ (by simp [ho, Op.operands]; exact ⟨p.1, by simpa using hp⟩)
  obtain ⟨hp1, hp2⟩ := parts_rel hp
  split at hq
  · rename_i place i hpl hi
    cases hzo : zeroOf i with
    | none => simp [hzo] at hq
    | some z =>
      have hzz := (zeroOf_zero hzo).1
      simp only [hzo] at hq
      cases hf : fillL place z.cells.toList (parts.toList.map fun p => (p.1, e p.2)) with
      | none => simp [hf] at hq
      | some cs =>
        simp only [hf, Option.some.injEq, Prod.mk.injEq] at hq
        obtain ⟨rfl, rfl⟩ := hq
        obtain ⟨out', e1, e2⟩ := fill_rel _ _ _ z.cells _ hp1 hp2 (plain_rel 4 z (zeroOf_zero hzo).2 : VRel ρ z z).cells hf
        refine OpSame.same h (v' := .agg out') ?_ (VRel.agg.2 ⟨_, by simpa using e2, rfl⟩)
        unfold aPlace at hpl
        have emap : (parts.map fun (i, x) => (i, e' x)).toList = parts.toList.map fun p => (p.1, e' p.2) := by simp
        split at hpl
        · rename_i fields hu
          split at hpl
          · cases hpl
          · rename_i places K hpm
            cases hpl
            simp only [execOp, ho, Instr.build, Sem.run_bind, rzero hi hzz, rthen, runder hu, noMem_run _ hpm w, emap, e1, rpure]
        · rename_i n el hu
          cases hI : P.info? el with
          | none => simp [hI] at hpl
          | some n =>
            simp only [hI, Option.some.injEq] at hpl
            subst hpl
            simp only [execOp, ho, Instr.build, Sem.run_bind, rzero hi hzz, rthen, runder hu, rsize hI, emap, e1, rpure]
        · cases hpl
  · cases hq

theorem op_buildSlice (h : R G base w0 ρ H w) {t : TypeId} {len : Nat} {parts : Array (Nat × Operand)} (ho : o.op = .buildSlice t len parts) (hE : ∀ x ∈ o.op.operands, VRel ρ (e x) (e' x)) (hq : aOp P o e H = some (v, H')) : OpRes P G base w0 ρ H w (execOp e' o) v H' := by
  simp only [aOp, ho] at hq
  have hp : ∀ p ∈ parts.toList, VRel ρ (e p.2) (e' p.2) := fun p hp => hE _ (by simp [ho, Op.operands]; exact ⟨p.1, by simpa using hp⟩)
  obtain ⟨hp1, hp2⟩ := parts_rel hp
  have emap : (parts.map fun (i, x) => (i, e' x)).toList = parts.toList.map fun p => (p.1, e' p.2) := by simp
  split at hq
  · rename_i el hu
    cases hi : P.info? el with
    | none => simp [hi] at hq
    | some i =>
      simp only [hi] at hq
      cases hzo : zeroOf i with
      | none => simp [hzo] at hq
      | some z =>
        have hzz := (zeroOf_zero hzo).1
        simp only [hzo] at hq
        cases hb : (Nat.ble (len * i.size) 1000000 && Nat.blt len 1000000 && Nat.beq z.cells.toList.length i.size) with
        | false => simp only [hb, cond_false] at hq; cases hq
        | true =>
          simp only [hb, cond_true] at hq
          simp only [Bool.and_eq_true] at hb
          have h1 := Nat.le_of_ble_eq_true hb.1.1
          have h3 : len < 1000000 := by simpa using hb.1.2
          have hsz : z.cells.size = i.size := by simpa using Nat.eq_of_beq_eq_true hb.2
          have hzr : LRel ρ z.cells.toList z.cells.toList := (plain_rel 4 z (zeroOf_zero hzo).2 : VRel ρ z z).cells
          cases hf : fillL (fun k => some (k * i.size, i.size)) (copies z.cells.toList len) (parts.toList.map fun p => (p.1, e p.2)) with
          | none => simp [hf] at hq
          | some cs =>
            simp only [hf] at hq
            cases hr : aRow el cs H with
            | none => simp [hr] at hq
            | some p =>
              obtain ⟨b, H1⟩ := p
              simp only [hr, Option.some.injEq, Prod.mk.injEq] at hq
              obtain ⟨rfl, rfl⟩ := hq
              obtain ⟨out', e1, e2⟩ := fill_rel _ _ _ (copies z.cells.toList len).toArray _ hp1 hp2 (by simpa using hzr.copies len) hf
              obtain ⟨r1, rfl, r3, r4⟩ := row_run (P := P) (c' := out') h e2 hr
              refine ⟨_, _, _, .inl ?_, r4, r3, sl_new (l := len) (c := len) (by unfold BIG; omega)⟩
              have hgt : ¬ (len * i.size > 2 ^ 24) := by omega
              simp only [execOp, ho, Instr.buildSlice, Sem.run_bind, runder hu, rthen, rsize hi, hgt, if_false]
              by_cases hz0 : len * i.size = 0
              · have hnil : copies z.cells.toList len = [] := by
                  apply List.eq_nil_of_length_eq_zero
                  rw [copies_length]; simpa [hsz] using hz0
                rw [hnil] at e1
                have e0 : (Array.range 0).map (fun x => (#[] : Array Value)[x % (#[] : Array Value).size]!) = #[] := by simp
                simp only [hz0, if_true, rpure, rthen, Sem.run_bind, e0, emap, e1, r1]
              · have e0 : (Array.range (len * i.size)).map (fun x => z.cells[x % z.cells.size]!) = (copies z.cells.toList len).toArray := by rw [← hsz]; exact range_copies z.cells len
                simp only [hz0, if_false, Sem.run_bind, rzero hi hzz, rpure, rthen, e0, emap, e1, r1]
  · cases hq
end

section
variable {P : Program} {G base : Nat} {w0 : World} {ρ : Ren} {H H' : AH} {w : World}
variable {o : Oper} {e e' : Operand → Value} {v : Value}

theorem EsRel.length : ∀ {l m : List MapEntry}, EsRel ρ l m → l.length = m.length
  | [], [], _ => rfl
  | _ :: _, _ :: _, h => by simp [EsRel.length h.2]

/-- what is found: the same entry, whatever the entries bear -/
def FndRel (ρ : Ren) (r r' : Option (Nat × Value)) : Prop :=
  match r with
  | none => r' = none
  | some (i, x) => ∃ x', r' = some (i, x') ∧ VRel ρ x x'

theorem findNow_rel {d : TypeDesc} {k : Value} : ∀ {l m : List MapEntry} (i : Nat), EsRel ρ l m →
    (Instr.findNow d k l i = none ∧ Instr.findNow d k m i = none) ∨ (∃ r r', Instr.findNow d k l i = some r ∧ Instr.findNow d k m i = some r' ∧ FndRel ρ r r')
  | [], [], i, _ => .inr ⟨none, none, rfl, rfl, rfl⟩
  | x :: l, y :: m, i, h => by
    simp only [Instr.findNow, h.1.2.1]
    cases hs : Instr.sameNow d k x.key with
    | none => exact .inl ⟨rfl, rfl⟩
    | some b =>
      cases b with
      | true => exact .inr ⟨_, _, rfl, rfl, _, rfl, h.1.2.2.1⟩
      | false => exact findNow_rel (i + 1) h.2

theorem noMem_same {α : Type} (m : Sem α) : ∀ {x : α} {K : AH}, arun P m noMem = some (x, K) → K = noMem := by
  induction m with
  | pure a => intro x K h; simp [arun] at h; exact h.2.symm
  | load m a k ih => intro x H' h; simp only [arun, AH.cell, noMem_get] at h; cases ha : a.spot <;> simp [ha] at h
  | store m a v k ih => intro x H' h; simp only [arun, AH.store, noMem_get] at h; cases ha : a.spot <;> cases ho : one v <;> simp [ha, ho] at h
  | new o k ih => intro x H' h; rw [arun, show Nat.blt noMem.next 16000 = false from rfl] at h; cases h
  | shape r k ih => intro x H' h; simp [arun] at h
  | freeze a n k ih => intro x H' h; simp [arun] at h
  | frozen a k ih => intro x H' h; simp [arun] at h
  | getObj r k ih => intro x H' h; simp [arun, noMem_get] at h
  | setObj r o k ih => intro x H' h; simp [arun, noMem_get] at h
  | choose q k ih =>
    intro x H' h
    simp only [arun] at h
    cases hq : q.forced with
    | false => simp [hq] at h
    | true => simp only [hq] at h; exact ih 0 h
  | sys c k ih => intro x H' h; simp [arun] at h
  | program k ih => intro x H' h; simp only [arun] at h; exact ih P h
  | mark m k ih => intro x H' h; simp only [arun] at h; exact ih h
  | halt e => intro x H' h; simp [arun] at h


theorem arun_noMem_bind {α β : Type} {m : Sem α} {f : α → Sem β} {y : β} {K : AH} (h : arun P (m >>= f) noMem = some (y, K)) :
    ∃ x, arun P m noMem = some (x, noMem) ∧ arun P (f x) noMem = some (y, K) := by
  rw [arun_bind] at h
  cases hm : arun P m noMem with
  | none => simp [hm] at h
  | some p =>
    obtain ⟨x, K1⟩ := p
    simp only [hm] at h
    have : K1 = noMem := noMem_same m hm
    subst this
    exact ⟨x, rfl, h⟩

theorem findAsking_rel {kt : TypeId} {k : Value} : ∀ {l m : List MapEntry} (i : Nat) {r : Option (Nat × Value)} {K : AH}, EsRel ρ l m → arun P (Instr.findAsking kt k l i) noMem = some (r, K) →
    ∃ r', (Instr.findAsking kt k m i).run P w = .ok r' w ∧ FndRel ρ r r'
  | [], [], i, r, K, _, hq => by
    simp [Instr.findAsking, Pure.pure, arun] at hq
    rw [← hq.1]
    exact ⟨none, rfl, rfl⟩
  | x :: l, y :: m, i, r, K, h, hq => by
    unfold Instr.findAsking at hq
    obtain ⟨b, hb, hq⟩ := arun_noMem_bind hq
    have hrun := noMem_run _ hb w
    unfold Instr.findAsking
    rw [h.1.2.1, Sem.run_bind, hrun, rthen]
    cases b with
    | true =>
      simp only [if_true, Pure.pure, arun, Option.some.injEq, Prod.mk.injEq] at hq
      simp only [if_true]
      rw [← hq.1]
      exact ⟨_, rfl, _, rfl, h.1.2.2.1⟩
    | false =>
      simp only [Bool.false_eq_true, if_false] at hq ⊢
      exact findAsking_rel (i + 1) h.2 hq

theorem findKey_rel {kt : TypeId} {k : Value} {l m : List MapEntry} {r : Option (Nat × Value)} {K : AH} (h : EsRel ρ l m) (hq : arun P (Instr.findKey kt k l) noMem = some (r, K)) :
    ∃ r', (Instr.findKey kt k m).run P w = .ok r' w ∧ FndRel ρ r r' := by
  unfold Instr.findKey at hq
  obtain ⟨d, hd, hq⟩ := arun_noMem_bind hq
  have hrun := noMem_run _ hd w
  unfold Instr.findKey
  rw [Sem.run_bind, hrun, rthen]
  rcases findNow_rel (d := d) (k := k) 0 h with ⟨e1, e2⟩ | ⟨r1, r2, e1, e2, e3⟩
  · rw [e1] at hq
    rw [e2]
    exact findAsking_rel 0 h hq
  · rw [e1] at hq
    rw [e2]
    simp only [Pure.pure, arun, Option.some.injEq, Prod.mk.injEq] at hq
    exact ⟨r2, rfl, by rw [← hq.1]; exact e3⟩

theorem map_there (h : R G base w0 ρ H w) {b : Nat} {r : REnt} {es : Array MapEntry} {clock : Nat} {x1 : List Value} {x2 : TypeId} {x3 : Nat} (hr : ρ b = some r) (hg : H.get b = some ⟨0, x1, x2, some (.map es clock), none, x3⟩) :
    base ≤ r.blk ∧ r.sh = 0 ∧ ∃ es', w.heap[r.blk]? = some (.map es' clock) ∧ EsRel ρ es.toList es'.toList := by
  have hk := h.blk _ _ _ hr hg
  obtain ⟨hb, hsh, _, ob', hob, hrel⟩ := hk
  obtain ⟨es', rfl, hes⟩ := hrel
  exact ⟨hb, hsh, es', hob, hes⟩

theorem getObj_run {r : Nat} {es : Array MapEntry} {clock : Nat} (h : w.heap[r]? = some (.map es clock)) : (getObj r).run P w = .ok (.map es clock) w := by
  simp [Go.getObj, Sem.run, h]

theorem op_lookup (h : R G base w0 ρ H w) {t : TypeId} {x k : Operand} {ok : Bool} (ho : o.op = .lookup t x k ok) (hE : ∀ x ∈ o.op.operands, VRel ρ (e x) (e' x)) (hq : aOp P o e H = some (v, H')) : OpSame P ρ H w (execOp e' o) v H' := by
  simp only [aOp, ho] at hq
  have hx : VRel ρ (e x) (e' x) := hE x (by simp [ho, Op.operands])
  have hk : VRel ρ (e k) (e' k) := hE k (by simp [ho, Op.operands])
  split at hq
  · cases hq
  · rename_i b hb
    rw [hb] at hx
    obtain ⟨r, hr, _, e1⟩ := VRel.map.1 hx
    split at hq
    · rename_i kt et c1 c2 es clock c3 hu hg
      cases hp : plainN 4 (e k) with
      | false => simp [hp] at hq
      | true =>
        simp only [hp, cond_true] at hq
        have ek := plain_eq 4 _ _ hp hk
        obtain ⟨_, _, es', hes, hrel⟩ := map_there h hr hg
        have hemp : es'.isEmpty = es.isEmpty := by
          have := hrel.length
          have h2 : es.size = es'.size := by simpa using this
          unfold Array.isEmpty
          rw [h2]
        have head : ∀ (K : Unit × AH) (r' : Option (Nat × Value)), arun P (Instr.checkKey es.isEmpty 10000 kt (e k)) noMem = some K → (Instr.findKey kt (e k) es'.toList).run P w = .ok r' w →
            (execOp e' o).run P w = ((match r' with | some (_, v) => pure (v, true) | none => do pure (← zeroValue et, false) : Sem (Value × Bool)).run P w).andThen fun p w' => .ok (.value (if ok then .tuple #[p.1, .bool p.2] else p.1)) w' := by
          intro K r' hck hfk
          have hck := noMem_run (x := K.1) (H' := K.2) _ (by simpa using hck) w
          simp only [execOp, ho, Instr.lookup, e1, ek, Sem.run_bind, runder hu, rthen, getObj_run hes, rpure, hemp, hck, hfk]
          cases r' with
          | none => simp only [Sem.run_bind, rpure]; cases (zeroValue et).run P w <;> rfl
          | some p => rfl
        split at hq
        · rename_i K1 i1 u1 K2 hck hfk
          simp only [Option.some.injEq, Prod.mk.injEq] at hq
          obtain ⟨rfl, rfl⟩ := hq
          obtain ⟨r', hr', hf'⟩ := findKey_rel (w := w) hrel hfk
          obtain ⟨x', rfl, hv⟩ := hf'
          have hrun := head _ _ hck hr'
          simp only [rpure, rthen] at hrun
          cases ok with
          | true => exact OpSame.same h hrun (VRel.tuple.2 ⟨#[x', .bool true], ⟨hv, VRel.bool.2 rfl, trivial⟩, rfl⟩)
          | false => exact OpSame.same h hrun hv
        · rename_i K1 K2 hck hfk
          cases hi : P.info? et with
          | none => simp [hi] at hq
          | some i =>
            simp only [hi] at hq
            cases hzo : zeroOf i with
            | none => simp [hzo] at hq
            | some z =>
              have hzz := (zeroOf_zero hzo).1
              simp only [hzo, Option.some.injEq, Prod.mk.injEq] at hq
              obtain ⟨rfl, rfl⟩ := hq
              obtain ⟨r', hr', hf'⟩ := findKey_rel (w := w) hrel hfk
              subst hf'
              have hrun := head _ _ hck hr'
              simp only [Sem.run_bind, rzero hi hzz, rpure, rthen] at hrun
              have hzr : VRel ρ z z := plain_rel 4 z (zeroOf_zero hzo).2
              cases ok with
              | true => exact OpSame.same h hrun (VRel.tuple.2 ⟨#[z, .bool false], ⟨hzr, VRel.bool.2 rfl, trivial⟩, rfl⟩)
              | false => exact OpSame.same h hrun hzr
        · cases hq
    · cases hq
  · cases hq

theorem EsRel.modify {k x x' : Value} (hp : plainN 4 k = true) (hx : VRel ρ x x') : ∀ {l m : List MapEntry} (i : Nat), EsRel ρ l m →
    EsRel ρ (l.modify i fun n => { n with key := k, val := x }) (m.modify i fun n => { n with key := k, val := x' })
  | [], [], i, _ => by cases i <;> trivial
  | a :: l, b :: m, 0, h => ⟨⟨hp, rfl, hx, h.1.2.2.2⟩, h.2⟩
  | a :: l, b :: m, i + 1, h => ⟨h.1, EsRel.modify hp hx i h.2⟩

theorem EsRel.push {x y : MapEntry} (hp : plainN 4 x.key = true) (hk : y.key = x.key) (hv : VRel ρ x.val y.val) (hb : y.born = x.born) : ∀ {l m : List MapEntry}, EsRel ρ l m → EsRel ρ (l ++ [x]) (m ++ [y])
  | [], [], _ => ⟨⟨hp, hk, hv, hb⟩, trivial⟩
  | _a :: _l, _b :: _m, h => ⟨h.1, EsRel.push hp hk hv hb h.2⟩

theorem EsRel.keyAt : ∀ {l m : List MapEntry} (i : Nat), EsRel ρ l m → (m[i]?).map (·.key) = (l[i]?).map (·.key)
  | [], [], i, _ => rfl
  | a :: l, b :: m, 0, h => by simp [h.1.2.1]
  | a :: l, b :: m, i + 1, h => by simpa using EsRel.keyAt i h.2

theorem op_update (h : R G base w0 ρ H w) {t : TypeId} {m k x : Operand} (ho : o.op = .mapUpdate t m k x ∨ o.op = .insert t m k x) (hE : ∀ x ∈ o.op.operands, VRel ρ (e x) (e' x)) (hq : aOp P o e H = some (v, H')) : OpRes P G base w0 ρ H w (execOp e' o) v H' := by
  have hq' : aOp.aUpd P e H t m k x = some (v, H') := by rcases ho with ho | ho <;> simpa only [aOp, ho] using hq
  have hm : VRel ρ (e m) (e' m) := hE m (by rcases ho with ho | ho <;> simp [ho, Op.operands])
  have hk : VRel ρ (e k) (e' k) := hE k (by rcases ho with ho | ho <;> simp [ho, Op.operands])
  have hx : VRel ρ (e x) (e' x) := hE x (by rcases ho with ho | ho <;> simp [ho, Op.operands])
  have hexec : execOp e' o = (Instr.mapUpdate t (e' m) (e' k) (e' x) >>= fun _ => pure Next.skip) := by rcases ho with ho | ho <;> simp only [execOp, ho]
  clear hq
  unfold aOp.aUpd at hq'
  split at hq'
  · rename_i b hb
    rw [hb] at hm
    obtain ⟨r, hr, _, e1⟩ := VRel.map.1 hm
    split at hq'
    · rename_i kt et c1 c2 es clock c3 hu hg
      cases hp : plainN 4 (e k) with
      | false => simp [hp] at hq'
      | true =>
        simp only [hp, cond_true] at hq'
        have ek := plain_eq 4 _ _ hp hk
        obtain ⟨hbase, hsh, es', hes, hrel⟩ := map_there h hr hg
        have hlt := (Array.getElem?_eq_some_iff.1 hes).1
        have fin : ∀ (ns ns' : Array MapEntry) (cl : Nat), EsRel ρ ns.toList ns'.toList → (setObj r.blk (.map ns' cl)).run P w = .ok () { w with heap := w.heap.setIfInBounds r.blk (.map ns' cl) } ∧
            R G base w0 ρ (H.put b ⟨0, [], 0, some (.map ns cl), none, 0⟩) { w with heap := w.heap.setIfInBounds r.blk (.map ns' cl) } ∧ Ext ρ H ρ (H.put b ⟨0, [], 0, some (.map ns cl), none, 0⟩) := by
          intro ns ns' cl hn
          refine ⟨by simp [Go.setObj, Sem.run, hes], ?_⟩
          exact h.turn (w' := { w with heap := w.heap.setIfInBounds r.blk (.map ns' cl) }) hr hg (.inl rfl) hbase (by simp) (fun k hne => by simp [Ne.symm hne])
            ⟨hbase, hsh, rfl, .map ns' cl, by simp [hlt], ns', rfl, hn⟩
        split at hq'
        · rename_i K1 i1 u1 K2 hck hfk
          cases hsb : Instr.sameBits 10000 (((es[i1]?).map (·.key)).getD (e k)) (e k) with
          | false => simp only [hsb, cond_false] at hq'; cases hq'
          | true =>
            simp only [hsb, cond_true, Option.some.injEq, Prod.mk.injEq] at hq'
            obtain ⟨rfl, rfl⟩ := hq'
            obtain ⟨r', hr', hf'⟩ := findKey_rel (w := w) hrel hfk
            obtain ⟨x', rfl, hv⟩ := hf'
            have hck := noMem_run (x := K1.1) (H' := K1.2) _ (by simpa using hck) w
            have hkey : (es'[i1]?).map (·.key) = (es[i1]?).map (·.key) := by simpa using hrel.keyAt i1
            obtain ⟨f1, f2, f3⟩ := fin (es.modify i1 fun n => { n with key := e k, val := e x }) (es'.modify i1 fun n => { n with key := e k, val := e' x }) clock (by simpa using hrel.modify hp hx i1)
            refine ⟨ρ, undef, _, .inr ⟨?_, rfl⟩, f3, f2, VRel.undef⟩
            rw [hexec]
            simp only [Instr.mapUpdate, e1, ek, Sem.run_bind, runder hu, rthen, getObj_run hes, hck, hr', Instr.keyThatStays, hkey, hsb, if_true, rpure, f1]
        · rename_i K1 K2 hck hfk
          simp only [Option.some.injEq, Prod.mk.injEq] at hq'
          obtain ⟨rfl, rfl⟩ := hq'
          obtain ⟨r', hr', hf'⟩ := findKey_rel (w := w) hrel hfk
          subst hf'
          have hck := noMem_run (x := K1.1) (H' := K1.2) _ (by simpa using hck) w
          obtain ⟨f1, f2, f3⟩ := fin (es.push { key := e k, val := e x, born := clock }) (es'.push { key := e k, val := e' x, born := clock }) (clock + 1) (by simpa using hrel.push (x := { key := e k, val := e x, born := clock }) (y := { key := e k, val := e' x, born := clock }) hp rfl hx rfl)
          refine ⟨ρ, undef, _, .inr ⟨?_, rfl⟩, f3, f2, VRel.undef⟩
          rw [hexec]
          simp only [Instr.mapUpdate, e1, ek, Sem.run_bind, runder hu, rthen, getObj_run hes, hck, hr', rpure, f1]
        · cases hq'
    · cases hq'
  · cases hq'
theorem op_len (h : R G base w0 ρ H w) {c : Call} (ho : o.op = .call c) (hc : c.callee = .builtin .len) (hE : ∀ x ∈ o.op.operands, VRel ρ (e x) (e' x)) (hq : aOp P o e H = some (v, H')) : OpSame P ρ H w (execOp e' o) v H' := by
  have hq0 := hq
  simp only [aOp, ho, hc] at hq
  split at hq
  · rename_i x hargs
    have hmem : x ∈ o.op.operands := by
      have : x ∈ c.args.toList := by rw [hargs]; simp
      simp [ho, Op.operands, Call.operands, hc]; simpa using this
    have hx := hE x hmem
    have hargs' : c.args = #[x] := Array.toList_inj.1 (by simpa using hargs)
    split at hq
    · rename_i a n m hb
      rw [hb] at hx
      obtain ⟨a', m', e1, _⟩ := hx.slAny
      split at hq
      · rename_i el hu
        simp only [Option.some.injEq, Prod.mk.injEq] at hq
        obtain ⟨rfl, rfl⟩ := hq
        cases ht : c.argTypes[0]? with
        | none => simp [ht] at hu
        | some t =>
          simp only [ht, Option.bind_some] at hu
          refine OpSame.same h (v' := .int .i64 n) ?_ (VRel.int.2 rfl)
          simp [execOp, ho, resolve, hc, hargs', invoke, builtin, Builtin.len_, ht, e1, runder hu, goInt]
      · cases hq
    · rename_i r0 hb
      rw [hb] at hx
      obtain ⟨r, hr, _, e1⟩ := VRel.map.1 hx
      split at hq
      · rename_i kt et c1 c2 es clock c3 hu hg
        simp only [Option.some.injEq, Prod.mk.injEq] at hq
        obtain ⟨rfl, rfl⟩ := hq
        obtain ⟨_, _, es', hes, hrel⟩ := map_there h hr hg
        have h2 : es.size = es'.size := by simpa using hrel.length
        cases ht : c.argTypes[0]? with
        | none => simp [ht] at hu
        | some t =>
          simp only [ht, Option.bind_some] at hu
          refine OpSame.same h (v' := .int .i64 es.size) ?_ (VRel.int.2 rfl)
          simp [execOp, ho, resolve, hc, hargs', invoke, builtin, Builtin.len_, ht, e1, runder hu, goInt, getObj_run hes, h2]
      · cases hq
    · exact op_quiet h hE (by rw [ho]; simp) hq
  · cases hq

theorem miss_run (h : R G base w0 ρ H w) {ok : Bool} {as : TypeId} (hq : aOp.aMiss P H ok as = some (v, H')) (hrun : ok = true → (execOp e' o).run P w = ((do pure (.value (.tuple #[← zeroValue as, .bool false])) : Sem Next).run P w)) : OpSame P ρ H w (execOp e' o) v H' := by
  unfold aOp.aMiss at hq
  cases ok with
  | false => simp only [cond_false] at hq; cases hq
  | true =>
    simp only [cond_true] at hq
    cases hi : P.info? as with
    | none => simp [hi] at hq
    | some i =>
      simp only [hi] at hq
      cases hz : zeroOf i with
      | none => simp [hz] at hq
      | some z =>
        simp only [hz, Option.some.injEq, Prod.mk.injEq] at hq
        obtain ⟨rfl, rfl⟩ := hq
        obtain ⟨hz1, hz2⟩ := zeroOf_zero hz
        refine OpSame.same h (v' := .tuple #[z, .bool false]) ?_ (VRel.tuple.2 ⟨#[z, .bool false], ⟨plain_rel 4 z hz2, VRel.bool.2 rfl, trivial⟩, rfl⟩)
        rw [hrun rfl]
        simp [rzero hi hz1]

theorem op_typeAssert (h : R G base w0 ρ H w) {x : Operand} {xt as : TypeId} {ok : Bool} (ho : o.op = .typeAssert x xt as ok) (hx : VRel ρ (e x) (e' x)) (hq : aOp P o e H = some (v, H')) : OpSame P ρ H w (execOp e' o) v H' := by
  simp only [aOp, ho] at hq
  split at hq
  · cases hq
  · cases hq
  · rename_i d hni hu
    split at hq
    · rename_i t u hb
      rw [hb] at hx
      obtain ⟨u', hrel, e1⟩ := VRel.iface.1 hx
      cases ht : Nat.beq t as with
      | true =>
        simp only [ht, cond_true, Option.some.injEq, Prod.mk.injEq] at hq
        obtain ⟨rfl, rfl⟩ := hq
        have ht := Nat.eq_of_beq_eq_true ht
        subst ht
        cases ok with
        | true =>
          refine OpSame.same h (v' := .tuple #[u', .bool true]) ?_ (VRel.tuple.2 ⟨#[u', .bool true], ⟨hrel, VRel.bool.2 rfl, trivial⟩, rfl⟩)
          cases d <;> first | exact (hni _ rfl).elim | simp [execOp, ho, Instr.typeAssert, e1, runder hu]
        | false =>
          refine OpSame.same h (v' := u') ?_ hrel
          cases d <;> first | exact (hni _ rfl).elim | simp [execOp, ho, Instr.typeAssert, e1, runder hu]
      | false =>
        simp only [ht, cond_false] at hq
        have hne : t ≠ as := fun hx => by rw [hx] at ht; simp at ht
        refine miss_run h hq fun hok => ?_
        subst hok
        cases d <;> first | exact (hni _ rfl).elim | (simp [execOp, ho, Instr.typeAssert, e1, runder hu, hne]; cases Sem.run P (zeroValue as) w <;> rfl)
    · rename_i hb
      rw [hb] at hx
      have e1 := VRel.nilIface.1 hx
      refine miss_run h hq fun hok => ?_
      subst hok
      cases d <;> first | exact (hni _ rfl).elim | (simp [execOp, ho, Instr.typeAssert, e1, runder hu]; cases Sem.run P (zeroValue as) w <;> rfl)
    · cases hq

end

section
variable {P : Program} {G base : Nat} {w0 : World} {ρ : Ren} {H H' : AH} {w : World}

/-- One number more, for a block that nobody else of the living is; some may be forgotten. -/
theorem R.adopt (h : R G base w0 ρ H w) {b : Nat} {r : REnt} {o : AO} {w' : World} (e : ρ b = none) (hbn : b < H'.next) (hH : H'.next ≤ 16000) (hn : H.next ≤ H'.next)
    (hg : H'.get b = some o) (hot : ∀ c, c ≠ b → c < H.next → H'.get c = H.get c ∨ H'.get c = some gone)
    (hb : base ≤ r.blk) (hs : w.heap.size ≤ w'.heap.size) (ho : ∀ k, k ≠ r.blk → k < w.heap.size → w'.heap[k]? = w.heap[k]?)
    (hf : ∀ c s p, c ≠ b → ρ c = some s → H'.get c = some p → live p → s.blk ≠ r.blk) (hB : BRel G base (ρ.add b r) w' r o) (hqt : w'.os = w.os ∧ w'.tape = w.tape ∧ w'.output = w.output := by exact ⟨rfl, rfl, rfl⟩) :
    R G base w0 (ρ.add b r) H' w' := by
  have hle : ρ.Le (ρ.add b r) := Ren.le_add e
  have lt : ∀ c s p, ρ c = some s → H.get c = some p → live p → s.blk < w.heap.size := by
    intro c s p hc hp hlp
    have hk := h.blk c s p hc hp
    unfold BRel at hk
    split at hk
    · obtain ⟨_, _, hk⟩ := hk
      split at hk
      · obtain ⟨_, ⟨_, hx, _⟩, _⟩ := hk; exact (Array.getElem?_eq_some_iff.1 hx).1
      · obtain ⟨_, _, hx, _⟩ := hk; exact (Array.getElem?_eq_some_iff.1 hx).1
      · obtain ⟨_, _, hx, _⟩ := hk; exact (Array.getElem?_eq_some_iff.1 hx).1
    · obtain ⟨_, _, _, _, ⟨_, hx, _⟩, _⟩ := hk; exact (Array.getElem?_eq_some_iff.1 hx).1
    · rename_i h2; rcases hlp with h0 | h0 <;> rw [h2] at h0 <;> cases h0
    · rename_i h0 h1 _; exact hlp.elim (fun h2 => absurd h2 h0) (fun h2 => absurd h2 h1)
  have ngone : ¬ live gone := by rintro (h0 | h0) <;> cases h0
  have old : ∀ c p, c ≠ b → c < H.next → H'.get c = some p → live p → H.get c = some p := by
    intro c p hcb hcl hp hlp
    rcases hot c hcb hcl with h1 | h1
    · rw [← h1]; exact hp
    · rw [h1] at hp; cases hp; exact absurd hlp ngone
  refine ⟨hH, fun c hc => ?_, ?_, ?_, ?_, Nat.le_trans h.size hs, fun k hk => (ho k (by omega) (Nat.lt_of_lt_of_le hk h.size)).trans (h.frame k hk), ⟨hqt.1.trans h.quiet.1, hqt.2.1.trans h.quiet.2.1, hqt.2.2.trans h.quiet.2.2⟩⟩
  · rw [Ren.add_other (by omega)]; exact h.fresh c (by omega)
  · intro c s p hc hp
    by_cases hcb : c = b
    · subst hcb
      rw [Ren.add_same] at hc; cases hc
      rw [hg] at hp; cases hp
      exact hB
    · rw [Ren.add_other hcb] at hc
      rcases hot c hcb (h.lt hc) with h1 | h1
      · have hp0 := hp
        rw [h1] at hp
        have hk := h.blk c s p hc hp
        refine BRel.mono hle ?_
        by_cases hlp : live p
        · exact hk.of_same (ho _ (hf c s p hcb hc hp0 hlp) (lt c s p hc hp hlp))
        · unfold BRel at hk ⊢
          split at hk
          · rename_i hk0; exact absurd (.inl hk0) hlp
          · rename_i hk0; exact absurd (.inr hk0) hlp
          · have : w'.heap[s.blk]? = w.heap[s.blk]? := ho _ (by have := hk.1; omega) (by have := hk.1; have := h.size; omega)
            refine ⟨hk.1, fun i v hv => ?_⟩
            obtain ⟨v', e1, e2⟩ := hk.2 i v hv
            exact ⟨v', by simp only [World.cell?, this] at e1 ⊢; exact e1, e2⟩
          · exact hk
      · rw [h1] at hp; cases hp
        exact ⟨rfl, rfl, rfl⟩
  · intro c d s t p q hc hd hp hq hlp hlq hne
    by_cases hcb : c = b
    · have hdb : d ≠ b := fun hx => hne (hcb.trans hx.symm)
      subst hcb
      rw [Ren.add_same] at hc; cases hc
      rw [Ren.add_other hdb] at hd
      exact fun hx => hf d t q hdb hd hq hlq hx.symm
    · rw [Ren.add_other hcb] at hc
      by_cases hdb : d = b
      · subst hdb
        rw [Ren.add_same] at hd; cases hd
        exact hf c s p hcb hc hp hlp
      · rw [Ren.add_other hdb] at hd
        exact h.inj c d s t p q hc hd (old c p hcb (h.lt hc) hp hlp) (old d q hdb (h.lt hd) hq hlq) hlp hlq hne
  · intro g hg'
    obtain ⟨s, e1, e2⟩ := h.glob g hg'
    exact ⟨s, hle _ _ e1, e2⟩

/-- Cells stored into a block as it lies in memory. -/
theorem store_raw {b off : Nat} {t : TypeId} : ∀ (l : List Value) (i : Nat) (c : Array Value) (w : World), Loose w b c t → off + i + l.length ≤ c.size → (∀ x ∈ l, oneCell x) →
    ∃ w' c2, (storeCells ⟨b, off, none⟩ l i).run P w = .ok () w' ∧ Loose w' b c2 t ∧ c2.size = c.size ∧ w'.heap.size = w.heap.size ∧ (∀ k, k ≠ b → w'.heap[k]? = w.heap[k]?) ∧
      (∀ j, j < off + i → c2[j]? = c[j]?) ∧ (∀ j x, l[j]? = some x → c2[off + i + j]? = some x) ∧ (w'.os = w.os ∧ w'.tape = w.tape ∧ w'.output = w.output)
  | [], i, c, w, hw, _, _ => ⟨w, c, by simp [Go.storeCells], hw, rfl, rfl, fun _ _ => rfl, fun _ _ => rfl, fun j x hx => by simp at hx, rfl, rfl, rfl⟩
  | x :: l, i, c, w, hw, hsz, hone => by
    simp only [List.length_cons] at hsz
    have ha : (⟨b, off, none⟩ : Addr).add i = ⟨b, off + i, none⟩ := by unfold Addr.add; split <;> simp_all
    have hlt : off + i < c.size := by omega
    have hfz : w.frozen? ⟨b, off + i, none⟩ = false := hw.frozen hlt
    obtain ⟨fz, hw, hz⟩ := hw
    have hc : w.cell? ⟨b, off + i, none⟩ = some c[off + i] := by simp [World.cell?, hw, hlt]
    obtain ⟨w', c2, e1, e2, e3, e4, e5, e6, e7, e8⟩ := store_raw (off := off) l (i + 1) (c.setIfInBounds (off + i) x) (w.setCell ⟨b, off + i, none⟩ x) ⟨fz, heap_setCell hw, by simpa using hz⟩ (by simp; omega) (fun y hy => hone y (by simp [hy]))
    refine ⟨w', c2, ?_, e2, by simpa using e3, by rw [e4]; exact size_setCell, fun k hk => (e5 k hk).trans (heap_setCell_other hk), fun j hj => ?_, fun j y hy => ?_, e8⟩
    · simp only [Go.storeCells, Sem.run_bind, ha, run_store1 (hone x (by simp)) hc hfz, rthen, e1]
    · rw [e6 j (by omega), Array.getElem?_setIfInBounds_ne (by omega)]
    · cases j with
      | zero =>
        simp at hy; subst hy
        rw [show off + i + 0 = off + i from rfl, e6 (off + i) (by omega)]
        simp [hlt]
      | succ j =>
        have := e7 j y (by simpa using hy)
        rw [show off + i + (j + 1) = off + (i + 1) + j by omega]; exact this
end

section
variable {P : Program} {G base : Nat} {w0 : World} {ρ : Ren} {H H' : AH} {w : World}
variable {o : Oper} {e e' : Operand → Value} {v : Value}

theorem firstN_length : ∀ (n : Nat) (a : Addr) (l : List Value), firstN H a n = some l → l.length = n
  | 0, a, l, h => by simp [firstN] at h; simp [← h]
  | n + 1, a, l, h => by
    simp only [firstN] at h
    cases hc : H.cell a with
    | none => simp [hc] at h
    | some v =>
      simp only [hc] at h
      cases hf : firstN H (a.add 1) n with
      | none => simp [hf] at h
      | some m => simp only [hf, Option.some.injEq] at h; rw [← h]; simp [firstN_length n _ m hf]

theorem cells_run (h : R G base w0 ρ H w) {x x' : Value} {size n : Nat} {l : List Value} (hx : VRel ρ x x') (hn : ∀ a m c, x = .slice a m c → n ≤ m) (hq : cellsOf H size n x = some l) :
    ∃ l' : Array Value, LRel ρ l l'.toList ∧ (Builtin.firstCells size n x').run P w = .ok l' w := by
  cases x with
  | slice a m c =>
    cases a with
    | none =>
      simp only [cellsOf, Option.some.injEq] at hq
      subst hq
      rw [VRel.slNil.1 hx]
      exact ⟨#[], trivial, rfl⟩
    | some a =>
      obtain ⟨a', c', l', rfl, h1, h2⟩ := sl_first (P := P) h hx (hn _ _ _ rfl) hq
      exact ⟨l'.toArray, by simpa using h1, h2⟩
  | string s =>
    simp only [cellsOf, Option.some.injEq] at hq
    subst hq
    rw [VRel.string.1 hx]
    refine ⟨(s.extract 0 n).data.map fun b => .int .u8 b.toNat, ?_, rfl⟩
    rw [Array.toList_map]
    exact plain_rows (n := 0) (fun v hv => plain0_rel v hv) _ (List.all_eq_true.2 fun v hv => by obtain ⟨b, _, rfl⟩ := List.mem_map.1 hv; rfl)
  | _ => simp [cellsOf] at hq

theorem len_run {x x' : Value} (hx : VRel ρ x x') {n : Nat} (h : (∃ a c, x = .slice a n c) ∨ (∃ s : ByteArray, x = .string s ∧ n = s.size)) : (Builtin.lenOf x').run P w = .ok n w := by
  rcases h with ⟨a, c, rfl⟩ | ⟨s, rfl, rfl⟩
  · obtain ⟨a', c', e1, _⟩ := hx.slAny
    rw [e1]; rfl
  · rw [VRel.string.1 hx]; rfl

theorem op_copy (h : R G base w0 ρ H w) {c : Call} (ho : o.op = .call c) (hc : c.callee = .builtin .copy) (hE : ∀ x ∈ o.op.operands, VRel ρ (e x) (e' x)) (hq : aOp P o e H = some (v, H')) : OpRes P G base w0 ρ H w (execOp e' o) v H' := by
  simp only [aOp, ho, hc] at hq
  split at hq
  · rename_i x y el hargs hu
    have mem : ∀ z, z ∈ c.args.toList → VRel ρ (e z) (e' z) := fun z hz => hE z (by simp [ho, Op.operands, Call.operands, hc]; simpa using hz)
    have hx := mem x (by rw [hargs]; simp)
    have hy := mem y (by rw [hargs]; simp)
    have hargs' : c.args = #[x, y] := Array.toList_inj.1 (by simpa using hargs)
    cases ht : c.argTypes[0]? with
    | none => simp [ht] at hu
    | some t =>
      simp only [ht, Option.bind_some] at hu
      split at hq
      · rename_i i bs dl dc hi hb
        rw [hb] at hx
        have body : ∀ (n : Nat), ((∃ a c, e y = .slice a n c) ∨ (∃ s : ByteArray, e y = .string s ∧ n = s.size)) →
            (match cellsOf H i.size (Nat.min n dl) (e y) with
              | none => none
              | some cs => aPut bs cs (Nat.min n dl) H) = some (v, H') → OpRes P G base w0 ρ H w (execOp e' o) v H' := by
          intro n hn hq
          have hl := len_run (P := P) (w := w) hy hn
          cases hcs : cellsOf H i.size (Nat.min n dl) (e y) with
          | none => simp [hcs] at hq
          | some cs =>
            simp only [hcs] at hq
            obtain ⟨cs', hcr, hrun⟩ := cells_run (P := P) h hy (by
              intro a m c' hs
              rcases hn with ⟨a2, c2, h2⟩ | ⟨s, h2, _⟩
              · rw [hs] at h2; cases h2; exact Nat.min_le_left _ _
              · rw [hs] at h2; cases h2) hcs
            obtain ⟨a', dc', e1, _⟩ := hx.slAny
            have pre : ∀ (w' : World), (match a' with | some a => storeCells a cs'.toList | none => pure () : Sem Unit).run P w = .ok () w' → (execOp e' o).run P w = .ok (.value (.int .i64 (Nat.min n dl))) w' := by
              intro w' hs
              simp only [execOp, ho, resolve, hc, hargs', Sem.run_bind, rpure, rthen, invoke, builtin, Builtin.copy_, ht]
              simp [runder hu, e1, hl, rsize hi, hrun, goInt]
              cases a' with
              | none => simp [] at hs; simp [hs]
              | some a => simp only [] at hs; simp [hs]
            cases bs with
            | none =>
              have := VRel.slNil.1 hx
              rw [e1] at this; cases this
              simp only [aPut, Option.some.injEq, Prod.mk.injEq] at hq
              obtain ⟨rfl, rfl⟩ := hq
              exact OpRes.same h (pre w rfl) (VRel.int.2 rfl)
            | some a =>
              obtain ⟨a2, c2, hs, e3⟩ := VRel.sl.1 hx
              rw [e1] at e3; cases e3
              simp only [aPut] at hq
              cases hst : storeN H a cs with
              | none => simp [hst] at hq
              | some H1 =>
                simp only [hst, Option.some.injEq, Prod.mk.injEq] at hq
                obtain ⟨rfl, rfl⟩ := hq
                rcases Nat.eq_zero_or_pos dl with h0 | h0
                · have hcs0 : cs = [] := by
                    rw [h0, show Nat.min n 0 = 0 from Nat.min_zero n] at hcs
                    rcases hn with ⟨a3, c3, h3⟩ | ⟨s, h3, _⟩
                    · rw [h3] at hcs
                      cases a3 <;> simp [cellsOf, firstN] at hcs
                      · exact hcs
                      · exact hcs.symm ▸ rfl
                    · rw [h3] at hcs; simp [cellsOf] at hcs; exact hcs.symm ▸ by simp
                  subst hcs0
                  simp only [storeN, Option.some.injEq] at hst
                  subst hst
                  have hc0 : cs' = #[] := by
                    have := hcr.length
                    simpa using this.symm
                  exact OpRes.same h (pre w (by simp [hc0, Go.storeCells])) (VRel.int.2 rfl)
                · obtain ⟨w', r1, r2, r3⟩ := store_all (P := P) h (hs.addr h0) hcr hst
                  exact ⟨ρ, _, w', .inl (pre w' r1), r3, r2, VRel.int.2 rfl⟩
        split at hq
        · cases hq
        · rename_i n hn
          refine body n ?_ hq
          split at hn
          · rename_i a m c' hy'
            cases hn
            exact .inl ⟨a, c', hy'⟩
          · rename_i s hy'
            cases hn
            exact .inr ⟨s, hy', rfl⟩
          · cases hn
      · cases hq
  · cases hq
end

section
variable {P : Program} {w w' : World} {at_ : Array TypeId} {t u e ty : TypeId} {d : TypeDesc} {i : TypeInfo} {b : Option Addr} {sl c n : Nat} {x : Value} {news old : Array Value} {z : Value}

def stSem (b : Option Addr) (k : Nat) (l : List Value) : Sem Unit :=
  match b with
  | some a => storeCells (a.add k) l
  | none => pure ()

theorem growBy_le (need : Nat) : ∀ (r c : Nat), c < need → Builtin.growBy need r c ≤ 2 * need + 192
  | 0, c, h => by simp [Builtin.growBy]; omega
  | r + 1, c, h => by
    simp only [Builtin.growBy]
    split
    · omega
    · by_cases hc : c + (c + 768) / 4 < need
      · exact growBy_le need r _ hc
      · cases r with
        | zero => simp [Builtin.growBy]; omega
        | succ r => simp only [Builtin.growBy]; rw [if_pos (by omega)]; omega
theorem cap_le {need c : Nat} (h : c < need) : Builtin.nextslicecap need c ≤ 2 * need + 192 := by
  unfold Builtin.nextslicecap
  split
  · omega
  · split
    · omega
    · exact growBy_le need 4 c h

set_option maxHeartbeats 1000000 in
theorem append_fits0 (ht : at_[0]? = some t) (hu : at_[1]? = some u) (hte : P.underlying t = some (.slice e)) (hi : P.info? e = some i) (hud : P.underlying u = some d) (hd : ∀ k, d ≠ .int k)
    (hl : (Builtin.lenOf x).run P w = .ok n w) (hc : (Builtin.firstCells i.size n x).run P w = .ok news w) (hroom : sl + n ≤ c)
    (hst : (stSem b (sl * i.size) news.toList).run P w = .ok () w') :
    (Builtin.append_ at_ ty #[.slice b sl c, x]).run P w = .ok (.slice b (sl + n) c) w' := by
  have key : ∀ d, P.underlying u = some d → (∀ k, d ≠ .int k) → (Builtin.append_ at_ ty #[.slice b sl c, x]).run P w = .ok (.slice b (sl + n) c) w' := by
    intro d hud hd
    simp only [Builtin.append_, ht, hu]
    cases d <;> first | exact absurd rfl (hd _) | skip
    all_goals
      simp [runder hte, runder hud, rsize hi, hl, hroom, hc]
      cases b with
      | none => simp [stSem] at hst; simp [hst]
      | some a => simp only [stSem] at hst; simp [hst]
  exact key d hud hd

theorem append_fits1 {k : IntKind} {kx : IntKind} {m : Int} (ht : at_[0]? = some t) (hu : at_[1]? = some u) (hte : P.underlying t = some (.slice e)) (hi : P.info? e = some i) (hud : P.underlying u = some (.int k))
    (h0 : 0 ≤ m) (h1 : m < 2 ^ 40) (h2 : m * i.bytes ≤ 2 ^ 40) (hz : i.zero = some z) (hzs : z.cells.size = i.size) (hroom : sl + m.toNat ≤ c)
    (hst : (stSem b (sl * i.size) (copies z.cells.toList m.toNat)).run P w = .ok () w') :
    (Builtin.append_ at_ ty #[.slice b sl c, .int kx m]).run P w = .ok (.slice b (sl + m.toNat) c) w' := by
  have hw := wrap_small m h0 (by omega)
  have hneg : ¬ (m < 0) := by omega
  have hbig : ¬ (281474976710656 < m * (i.bytes : Int)) := by omega
  simp only [Builtin.append_, ht, hu]
  simp [runder hte, runder hud, rsize hi, asInt, asIntOf, hw, hneg, rinfo hi, hbig, hroom]
  by_cases hz0 : m.toNat * i.size = 0
  · have hnil : copies z.cells.toList m.toNat = [] := by
      apply List.eq_nil_of_length_eq_zero
      rw [copies_length]; simpa [hzs] using hz0
    rw [hnil] at hst
    cases b with
    | none => simp [stSem] at hst; simp [hz0, hst]
    | some a => simp only [stSem] at hst; simp [hz0, hst]
  · have hzc : Builtin.zeroCells z.cells m.toNat = (copies z.cells.toList m.toNat).toArray := range_copies z.cells m.toNat
    cases b with
    | none => simp [stSem] at hst; simp [hz0, hst, rzero hi hz]
    | some a => simp only [stSem] at hst; simp [hz0, hst, rzero hi hz, hzc]

def cutCap (w : World) (need c : Nat) (e : TypeId) : Nat := (Question.appendCap need c e).cut (w.tape w.drawn (.appendCap need c e))
theorem cutCap_ge (w : World) (need c : Nat) (e : TypeId) : need ≤ cutCap w need c e := by simp [cutCap, Question.cut]

theorem askRoom_run {n : Nat} : (askRoom n).run P w = .ok () w := by
  unfold askRoom; split <;> rfl

set_option maxHeartbeats 1000000 in
theorem append_grows0 (ht : at_[0]? = some t) (hu : at_[1]? = some u) (hte : P.underlying t = some (.slice e)) (hi : P.info? e = some i) (hud : P.underlying u = some d) (hd : ∀ k, d ≠ .int k)
    (hl : (Builtin.lenOf x).run P w = .ok n w) (hroom : ¬ (sl + n ≤ c)) (h63 : sl + n < 2 ^ 40) (hcap : Builtin.nextslicecap (sl + n) c * i.bytes ≤ 281474976710656) (hz : i.zero = some z)
    (ho : (Builtin.firstCells i.size sl (.slice b sl c)).run P w.drew = .ok old w.drew) (hc : (Builtin.firstCells i.size n x).run P w.drew = .ok news w.drew) :
    (Builtin.append_ at_ ty #[.slice b sl c, x]).run P w = .ok (.slice (some ⟨w.heap.size, 0, none⟩) (sl + n) (cutCap w (sl + n) c e))
      (w.drew.alloc (.cells (old ++ news ++ Builtin.zeroCells z.cells (cutCap w (sl + n) c e - (sl + n))) e)) := by
  have h63' : ¬ (((sl + n : Nat) : Int) > IntKind.i64.max) := by simp [IntKind.max, IntKind.bits, IntKind.signed]; omega
  have h63'' : ¬ (9223372036854775807 < (sl : Int) + (n : Int)) := by omega
  have hcap' : ¬ (281474976710656 < Builtin.nextslicecap (sl + n) c * i.bytes) := by omega
  have key : ∀ d, P.underlying u = some d → (∀ k, d ≠ .int k) → (Builtin.append_ at_ ty #[.slice b sl c, x]).run P w = .ok (.slice (some ⟨w.heap.size, 0, none⟩) (sl + n) (cutCap w (sl + n) c e))
      (w.drew.alloc (.cells (old ++ news ++ Builtin.zeroCells z.cells (cutCap w (sl + n) c e - (sl + n))) e)) := by
    intro d hud hd
    simp only [Builtin.append_, ht, hu]
    cases d <;> first | exact absurd rfl (hd _) | skip
    all_goals
      simp [runder hte, runder hud, rsize hi, hl, hroom, rinfo hi, h63'', hcap', Question.forced, ho, hc, rzero hi hz, Go.newRow, Go.newObj, Sem.run]
      exact ⟨rfl, rfl⟩
  exact key d hud hd

set_option maxHeartbeats 1000000 in
theorem append_grows1 {k : IntKind} {kx : IntKind} {m : Int} (ht : at_[0]? = some t) (hu : at_[1]? = some u) (hte : P.underlying t = some (.slice e)) (hi : P.info? e = some i) (hud : P.underlying u = some (.int k))
    (h0 : 0 ≤ m) (h1 : m < 2 ^ 40) (h2 : m * i.bytes ≤ 2 ^ 40) (hz : i.zero = some z) (hzs : z.cells.size = i.size)
    (hroom : ¬ (sl + m.toNat ≤ c)) (h63 : sl + m.toNat < 2 ^ 40) (hcap : Builtin.nextslicecap (sl + m.toNat) c * i.bytes ≤ 281474976710656)
    (ho : (Builtin.firstCells i.size sl (.slice b sl c)).run P w.drew = .ok old w.drew) :
    (Builtin.append_ at_ ty #[.slice b sl c, .int kx m]).run P w = .ok (.slice (some ⟨w.heap.size, 0, none⟩) (sl + m.toNat) (cutCap w (sl + m.toNat) c e))
      (w.drew.alloc (.cells (old ++ (copies z.cells.toList m.toNat).toArray ++ Builtin.zeroCells z.cells (cutCap w (sl + m.toNat) c e - (sl + m.toNat))) e)) := by
  have hw := wrap_small m h0 (by omega)
  have hneg : ¬ (m < 0) := by omega
  have hbig : ¬ (281474976710656 < m * (i.bytes : Int)) := by omega
  have h63' : ¬ (((sl + m.toNat : Nat) : Int) > IntKind.i64.max) := by simp [IntKind.max, IntKind.bits, IntKind.signed]; omega
  have h63'' : ¬ (9223372036854775807 < (sl : Int) + max m 0) := by omega
  have h63a : ¬ (9223372036854775807 < (sl : Int) + m) := by omega
  have hcap' : ¬ (281474976710656 < Builtin.nextslicecap (sl + m.toNat) c * i.bytes) := by omega
  have hzc : Builtin.zeroCells z.cells m.toNat = (copies z.cells.toList m.toNat).toArray := range_copies z.cells m.toNat
  simp only [Builtin.append_, ht, hu]
  simp [runder hte, runder hud, rsize hi, asInt, asIntOf, hw, hneg, rinfo hi, hbig, hroom, h63'', hcap', Question.forced, ho]
  by_cases hz0 : m.toNat * i.size = 0
  · have hnil : copies z.cells.toList m.toNat = [] := by
      apply List.eq_nil_of_length_eq_zero
      rw [copies_length]; simpa [hzs] using hz0
    simp [hz0, hnil, rzero hi hz, Go.newRow, Go.newObj, Sem.run]
    exact ⟨rfl, rfl⟩
  · simp [hz0, rzero hi hz, Go.newRow, Go.newObj, Sem.run, hzc]
    exact ⟨rfl, rfl⟩
end

section
variable {P : Program} {G base : Nat} {w0 : World} {ρ : Ren} {H H' : AH} {w : World}
variable {o : Oper} {e e' : Operand → Value} {v : Value}

theorem zeroCells_size (z : Array Value) (n : Nat) : (Builtin.zeroCells z n).size = n * z.size := by simp [Builtin.zeroCells]

theorem first_get {ob : AO} : ∀ (n : Nat) (a : Addr) (old : List Value), a.spot = none → H.get a.block = some ob → firstN H a n = some old → ∀ (j : Nat) (x : Value), old[j]? = some x → ob.cells[a.off + j]? = some x
  | 0, a, old, _, _, h, j, x, hx => by simp [firstN] at h; subst h; simp at hx
  | n + 1, a, old, hs, hg, h, j, x, hx => by
    simp only [firstN] at h
    cases hc : H.cell a with
    | none => simp [hc] at h
    | some v =>
      simp only [hc] at h
      cases hf : firstN H (a.add 1) n with
      | none => simp [hf] at h
      | some m =>
        simp only [hf, Option.some.injEq] at h
        subst h
        cases j with
        | zero =>
          simp at hx; subst hx
          simpa [AH.cell, hs, hg] using hc
        | succ j =>
          have := first_get n (a.add 1) m (by simp [Addr.add]) (by simpa [Addr.add] using hg) hf j x (by simpa using hx)
          simp [Addr.add] at this
          rw [← this]; congr 1; omega

/-- the row moves: a new block -/
theorem grow_newF (h : R G base w0 ρ H w) {fz : Nat × Nat} {el : TypeId} {i : TypeInfo} {z : Value} {_a : Option Addr} {sl _sc n cap : Nat} {old new : List Value} {old' new' : Array Value} {w1 : World} (hw1 : w1.heap = w.heap) (hqt : w1.os = w.os ∧ w1.tape = w.tape ∧ w1.output = w.output) (hn : H.next < 16000) (hzs : z.cells.size = i.size)
    (ho : LRel ρ old old'.toList) (hnw : LRel ρ new new'.toList) (lo : old.length = sl * i.size) (ln : new.length = n * i.size) (hcap : sl + n ≤ cap) (hfz : fz = (0, 0) ∨ cap * i.size ≤ fz.1)
    (hH : ∀ c, c ≠ H.next → c < H.next → H'.get c = H.get c ∨ H'.get c = some gone) (hg : H'.get H.next = some ⟨1, old ++ new, el, none, none, i.size⟩) (hnx : H'.next = H.next + 1) (hoff : ∀ b, b < H.next → ρ b = none → H'.get b = H.get b) :
    R G base w0 (ρ.add H.next ⟨w.heap.size, 0, cap * i.size, i.size⟩) H' (w1.alloc (.cells (old' ++ new' ++ Builtin.zeroCells z.cells (cap - (sl + n))) el fz)) ∧ Ext ρ H (ρ.add H.next ⟨w.heap.size, 0, cap * i.size, i.size⟩) H' ∧
    VRel (ρ.add H.next ⟨w.heap.size, 0, cap * i.size, i.size⟩) (.slice (some ⟨H.next, 0, none⟩) (sl + n) (BIG + (sl + n))) (.slice (some ⟨w.heap.size, 0, none⟩) (sl + n) cap) := by
  have e0 : ρ H.next = none := h.fresh _ (Nat.le_refl _)
  have hle : ρ.Le (ρ.add H.next ⟨w.heap.size, 0, cap * i.size, i.size⟩) := Ren.le_add e0
  have hs1 : old'.size = sl * i.size := by have := ho.length; simp at this; omega
  have hs2 : new'.size = n * i.size := by have := hnw.length; simp at this; omega
  have hmul : sl * i.size + n * i.size + (cap - (sl + n)) * i.size = cap * i.size := by
    rw [← Nat.add_mul, ← Nat.add_mul]; congr 1; omega
  refine ⟨h.adopt (r := ⟨w.heap.size, 0, cap * i.size, i.size⟩) e0 (by omega) (by omega) (by omega) hg hH h.size ?_ ?_ ?_ ?_ hqt, ⟨hle, by omega, fun b hb hbe => ⟨by rw [Ren.add_other (by omega)]; exact hbe, hoff b hb hbe⟩⟩, ?_⟩
  · show w.heap.size ≤ (w1.heap.push _).size; rw [hw1]; simp
  · intro k hk hlt
    show (w1.heap.push _)[k]? = _
    rw [hw1]; simp [Array.getElem?_push, Nat.ne_of_lt hlt]
  · intro c s p hcb hc hp hlp
    have hlt : s.blk < w.heap.size := by
      have hp' : H.get c = some p := by
        rcases hH c hcb (h.lt hc) with h1 | h1
        · rw [← h1]; exact hp
        · rw [h1] at hp; cases hp; rcases hlp with h0 | h0 <;> cases h0
      have hk := h.blk c s p hc hp'
      unfold BRel at hk
      split at hk
      · obtain ⟨_, _, hk⟩ := hk
        split at hk
        · obtain ⟨_, ⟨_, hx, _⟩, _⟩ := hk; exact (Array.getElem?_eq_some_iff.1 hx).1
        · obtain ⟨_, _, hx, _⟩ := hk; exact (Array.getElem?_eq_some_iff.1 hx).1
        · obtain ⟨_, _, hx, _⟩ := hk; exact (Array.getElem?_eq_some_iff.1 hx).1
      · obtain ⟨_, _, _, _, ⟨_, hx, _⟩, _⟩ := hk; exact (Array.getElem?_eq_some_iff.1 hx).1
      · rename_i h2; rcases hlp with h0 | h0 <;> rw [h2] at h0 <;> cases h0
      · rename_i h0 h1 _; exact hlp.elim (fun h2 => absurd h2 h0) (fun h2 => absurd h2 h1)
    show s.blk ≠ w.heap.size
    omega
  · unfold BRel
    refine ⟨h.size, rfl, rfl, old' ++ new' ++ Builtin.zeroCells z.cells (cap - (sl + n)), ?_, rfl, ?_, ?_, fun j x hx => ?_⟩
    · refine ⟨fz, ?_, ?_⟩
      · show (w1.heap.push _)[w.heap.size]? = _; rw [hw1]; simp
      · rcases hfz with h1 | h1
        · exact .inl h1
        · refine .inr (Nat.le_trans (Nat.le_of_eq ?_) h1)
          simp [zeroCells_size, hzs, hs1, hs2]; omega
    · simp [zeroCells_size, hzs, hs1, hs2]; omega
    · simp [lo, ln]
      have : (sl + n) * i.size ≤ cap * i.size := Nat.mul_le_mul_right _ hcap
      rw [Nat.add_mul] at this; omega
    · obtain ⟨y, hy, hrel⟩ := (ho.append hnw).get (i := j) (x := x) hx
      refine ⟨y, ?_, VRel.mono hle _ hrel⟩
      have hj : j < (old' ++ new').size := by
        have := (List.getElem?_eq_some_iff.1 hy).1; simpa using this
      rw [Nat.add_zero, Array.getElem?_append_left hj, ← Array.getElem?_toList, Array.toList_append]
      exact hy
  · exact VRel.sl.2 ⟨_, _, ⟨rfl, _, Ren.add_same, .inr ⟨by omega, by omega, by omega, rfl, rfl, fun _ => rfl, Nat.zero_le _, by simp⟩⟩, rfl⟩

/-- the row moves: a new block -/
theorem grow_new (h : R G base w0 ρ H w) {el : TypeId} {i : TypeInfo} {z : Value} {_a : Option Addr} {sl _sc n cap : Nat} {old new : List Value} {old' new' : Array Value} {w1 : World} (hw1 : w1.heap = w.heap) (hqt : w1.os = w.os ∧ w1.tape = w.tape ∧ w1.output = w.output) (hn : H.next < 16000) (hzs : z.cells.size = i.size)
    (ho : LRel ρ old old'.toList) (hnw : LRel ρ new new'.toList) (lo : old.length = sl * i.size) (ln : new.length = n * i.size) (hcap : sl + n ≤ cap)
    (hH : ∀ c, c ≠ H.next → c < H.next → H'.get c = H.get c ∨ H'.get c = some gone) (hg : H'.get H.next = some ⟨1, old ++ new, el, none, none, i.size⟩) (hnx : H'.next = H.next + 1) (hoff : ∀ b, b < H.next → ρ b = none → H'.get b = H.get b) :
    R G base w0 (ρ.add H.next ⟨w.heap.size, 0, cap * i.size, i.size⟩) H' (w1.alloc (.cells (old' ++ new' ++ Builtin.zeroCells z.cells (cap - (sl + n))) el)) ∧ Ext ρ H (ρ.add H.next ⟨w.heap.size, 0, cap * i.size, i.size⟩) H' ∧
    VRel (ρ.add H.next ⟨w.heap.size, 0, cap * i.size, i.size⟩) (.slice (some ⟨H.next, 0, none⟩) (sl + n) (BIG + (sl + n))) (.slice (some ⟨w.heap.size, 0, none⟩) (sl + n) cap) :=
  grow_newF h (_a := _a) (_sc := _sc) hw1 hqt hn hzs ho hnw lo ln hcap (.inl rfl) hH hg hnx hoff

/-- the row stays where there was room that was not known -/
theorem grow_stay (h : R G base w0 ρ H w) {el : TypeId} {i : TypeInfo} {a a' : Addr} {sl _sc cap' n : Nat} {r : REnt} {ob : AO} {old new : List Value} {new' : Array Value} (hn : H.next < 16000) (hr : ρ a.block = some r) (hgo : H.get a.block = some ob) (hk1 : ob.kind = 1) (hez : ob.esz = i.size)
    (hblk : a'.block = r.blk) (hspot : a'.spot = none) (hsh : r.sh ≤ a'.off) (hroom : a'.off + cap' * r.esz ≤ r.sh + r.room) (hA : 0 < sl → ARel ρ a a')
    (ho : firstN H a (sl * i.size) = some old) (hnw : LRel ρ new new'.toList) (hone : ∀ x ∈ new'.toList, oneCell x) (ln : new.length = n * i.size) (hcap : sl + n ≤ cap')
    (hH' : H' = (H.add ⟨1, old ++ new, el, none, none, i.size⟩).put a.block gone) (hel : ob.elem = el) :
    ∃ w', (storeCells (a'.add (sl * i.size)) new'.toList).run P w = .ok () w' ∧ R G base w0 (ρ.add H.next ⟨r.blk, a'.off, cap' * i.size, i.size⟩) H' w' ∧ Ext ρ H (ρ.add H.next ⟨r.blk, a'.off, cap' * i.size, i.size⟩) H' ∧
      VRel (ρ.add H.next ⟨r.blk, a'.off, cap' * i.size, i.size⟩) (.slice (some ⟨H.next, 0, none⟩) (sl + n) (BIG + (sl + n))) (.slice (some a') (sl + n) cap') := by
  have e0 : ρ H.next = none := h.fresh _ (Nat.le_refl _)
  have hle : ρ.Le (ρ.add H.next ⟨r.blk, a'.off, cap' * i.size, i.size⟩) := Ren.le_add e0
  have hlt : a.block < H.next := h.lt hr
  have hk := h.blk _ _ _ hr hgo
  unfold BRel at hk
  simp only [hk1] at hk
  obtain ⟨hb, _, _, c, hc, hrez, hcsz, hcl, hcells⟩ := hk
  have hesz : r.esz = i.size := hrez.trans hez
  rw [hesz] at hroom
  have lo := firstN_length _ _ _ ho
  have hs2 : new'.size = n * i.size := by have := hnw.length; simp at this; omega
  have hmul : sl * i.size + n * i.size ≤ cap' * i.size := by rw [← Nat.add_mul]; exact Nat.mul_le_mul_right _ hcap
  have hadd : a'.add (sl * i.size) = ⟨r.blk, a'.off + sl * i.size, none⟩ := by
    obtain ⟨b, f, p⟩ := a'
    simp only at hblk hspot
    subst hblk; subst hspot
    unfold Addr.add; split <;> simp_all
  obtain ⟨w', c2, s1, s2, s3, s4, s5, s6, s7, s8⟩ := store_raw (P := P) (off := a'.off + sl * i.size) new'.toList 0 c w hc (by simp; omega) hone
  refine ⟨w', by rw [hadd]; exact s1, ?_, ?_, ?_⟩
  · subst hH'
    have get1 : ∀ c, c < 16384 → c ≠ a.block → ((H.add ⟨1, old ++ new, el, none, none, i.size⟩).put a.block gone).get c = (H.add ⟨1, old ++ new, el, none, none, i.size⟩).get c := fun c hc hne =>
      AH.get_put_other _ _ (by omega) hc (Ne.symm hne)
    refine h.adopt (r := ⟨r.blk, a'.off, cap' * i.size, i.size⟩) (o := ⟨1, old ++ new, el, none, none, i.size⟩) e0 (by show H.next < H.next + 1; omega) (by show H.next + 1 ≤ 16000; omega) (by show H.next ≤ H.next + 1; omega) ?_ (fun c hcb hcl => ?_) hb (by omega) (fun k hk _ => s5 k hk) (fun c s p hcb hcs hp hlp => ?_) ?_ s8
    · rw [get1 _ (by omega) (by omega)]; exact AH.get_add H _
    · by_cases hca : c = a.block
      · subst hca; exact .inr (AH.get_put _ _)
      · rw [get1 c (by omega) hca]; exact .inl (AH.get_add_other H _ (by omega) (by omega) (Ne.symm hcb))
    · have hca : c ≠ a.block := fun hx => by
        subst hx; rw [AH.get_put] at hp; cases hp; rcases hlp with h0 | h0 <;> cases h0
      have hcl := h.lt hcs
      rw [get1 c (by omega) hca, AH.get_add_other H _ (by omega) (by omega) (Ne.symm hcb)] at hp
      exact h.inj c a.block s r p ob hcs hr hp hgo hlp (.inr hk1) hca
    · unfold BRel
      refine ⟨hb, rfl, rfl, c2, by rw [← hel]; exact s2, rfl, ?_, ?_, fun j x hx => ?_⟩
      · show a'.off + cap' * i.size ≤ c2.size; omega
      · show (old ++ new).length ≤ cap' * i.size; simp; omega
      · show ∃ v', c2[j + a'.off]? = some v' ∧ _
        by_cases hj : j < sl * i.size
        · have hsl : 0 < sl := by rcases Nat.eq_zero_or_pos sl with h0 | h0; · rw [h0] at hj; simp at hj
                                  · exact h0
          obtain ⟨hsp, r', hr', ha'⟩ := hA hsl
          rw [hr] at hr'; cases hr'
          rw [List.getElem?_append_left (by omega)] at hx
          have hcell : ob.cells[a.off + j]? = some x := first_get _ _ _ hsp hgo ho j x hx
          obtain ⟨y, hy, hrel⟩ := hcells _ _ hcell
          refine ⟨y, ?_, VRel.mono hle _ hrel⟩
          rw [s6 (j + a'.off) (by omega), ← hy]
          congr 1
          rw [ha']; simp; omega
        · rw [List.getElem?_append_right (by omega)] at hx
          obtain ⟨y, hy, hrel⟩ := hnw.get hx
          refine ⟨y, ?_, VRel.mono hle _ hrel⟩
          have := s7 _ y hy
          rw [← this]; congr 1; omega
  · subst hH'
    refine ⟨hle, by show H.next ≤ H.next + 1; omega, fun b hb hbe => ⟨by rw [Ren.add_other (by omega)]; exact hbe, ?_⟩⟩
    have hba : b ≠ a.block := fun hx => by subst hx; rw [hr] at hbe; cases hbe
    rw [AH.get_put_other _ _ (by omega) (by omega) (Ne.symm hba)]
    exact AH.get_add_other H _ (by omega) (by omega) (by omega)
  · refine VRel.sl.2 ⟨_, _, ⟨rfl, _, Ren.add_same, .inr ⟨by omega, by omega, by omega, hblk, hspot, fun _ => by simp, Nat.le_refl _, by simp⟩⟩, rfl⟩

/-- a string's bytes, as a new row whose room is not known -/
theorem bytes_rel (ρ : Ren) : ∀ l : List UInt8, LRel ρ (l.map fun b => Value.int .u8 b.toNat) (l.map fun b => Value.int .u8 b.toNat)
  | [] => trivial
  | _ :: l => ⟨VRel.int.2 rfl, bytes_rel ρ l⟩

theorem freeze_alloc {w1 : World} {c : Array Value} {el : TypeId} {n : Nat} : (w1.alloc (.cells c el)).freeze ⟨w1.heap.size, n, none⟩ 1 = w1.alloc (.cells c el (n, n + 1)) := by
  unfold World.freeze World.alloc
  simp only [Nat.one_ne_zero, if_false]
  congr 1
  apply Array.ext_getElem?
  intro k
  rw [Array.getElem?_modify]
  by_cases hk : w1.heap.size = k
  · subst hk; simp
  · simp [hk, Array.getElem?_push, Ne.symm hk]

theorem conv_step (h : R G base w0 ρ H w) {src dst : TypeId} {x : Operand} {b : ByteArray} (ho : o.op = .convert src dst x) (hx : e' x = .string b) (hs : (P.underlying src).isSome = true) (hq : aConvB P dst b H = some (v, H')) :
    ∃ ρ' v' w', (execOp e' o).run P w = .ok (.value v') w' ∧ Ext ρ H ρ' H' ∧ R G base w0 ρ' H' w' ∧ VRel ρ' v v' := by
  unfold aConvB at hq
  split at hq
  · rename_i el hd
    split at hq
    · rename_i i hel hi
      cases hb : (Nat.beq i.size 1 && Nat.blt H.next 16000) with
      | false => simp only [hb, cond_false] at hq; cases hq
      | true =>
        simp only [hb, cond_true, Option.some.injEq, Prod.mk.injEq] at hq
        obtain ⟨rfl, hH'⟩ := hq
        simp only [Bool.and_eq_true] at hb
        have h1 := Nat.eq_of_beq_eq_true hb.1
        have hn : H.next < 16000 := by have := hb.2; simpa using this
        obtain ⟨sd, hsd⟩ := Option.isSome_iff_exists.1 hs
        obtain ⟨t, ht⟩ : ∃ t, t = w.tape w.drawn (.appendCap b.size 0 el) := ⟨_, rfl⟩
        obtain ⟨cap, hcap⟩ : ∃ cap, cap = (Question.appendCap b.size 0 el).cut t := ⟨_, rfl⟩
        have hle : b.size ≤ cap := by rw [hcap]; exact Nat.le_add_right _ _
        obtain ⟨elems, helems⟩ : ∃ elems : Array Value, elems = b.data.map fun b => Value.int .u8 b.toNat := ⟨_, rfl⟩
        have hels : elems.size = b.size := by rw [helems, Array.size_map]; rfl
        rw [← helems] at hH'
        subst hH'
        have key := grow_newF h (fz := (cap, cap + 1)) (el := el) (i := i) (z := .int .u8 0) (_a := none) (_sc := 0) (sl := 0) (n := b.size) (cap := cap) (old := []) (new := elems.toList) (old' := #[]) (new' := elems)
          (H' := H.add ⟨1, elems.toList, el, none, none, i.size⟩) (w1 := { w with drawn := w.drawn + 1 }) rfl ⟨rfl, rfl, rfl⟩ hn (by rw [h1]; rfl) trivial (by rw [helems]; simpa using bytes_rel ρ b.data.toList) (by simp) (by rw [h1]; simp [hels]) (by omega)
          (.inr (by rw [h1]; simp)) (fun c hne hlt => .inl (AH.get_add_other H _ (by omega) (by omega) (Ne.symm hne))) (by simpa using AH.get_add H _) (AH.next_add H _) (fun b hb _ => AH.get_add_other H _ (by omega) (by omega) (by omega))
        obtain ⟨k1, k2, k3⟩ := key
        refine ⟨_, .slice (some ⟨w.heap.size, 0, none⟩) b.size cap, _, ?_, k2, k1, by simpa using k3⟩
        have hrow : elems ++ Array.replicate (cap - b.size) (Value.int .u8 0) = #[] ++ elems ++ Builtin.zeroCells #[Value.int .u8 0] (cap - (0 + b.size)) := by
          apply Array.ext'
          have : Builtin.zeroCells #[Value.int .u8 0] (cap - (0 + b.size)) = Array.replicate (cap - b.size) (Value.int .u8 0) := by
            apply Array.ext_getElem?
            intro k
            simp only [Builtin.zeroCells, Array.getElem?_map, Array.getElem?_range, Array.getElem?_replicate, Nat.zero_add]
            by_cases hk : k < cap - b.size
            · simp [hk, Nat.mod_one]
            · simp [hk]
          rw [this]; simp
        have hsz : (elems ++ Array.replicate (cap - b.size) (Value.int .u8 0)).size = cap := by simp [hels]; omega
        have hsz2 : (#[] ++ elems ++ Builtin.zeroCells #[Value.int .u8 0] (cap - (0 + b.size))).size = cap := by rw [← hrow]; exact hsz
        have hnew : ∀ (W : World) (ob : Obj), (newObj ob).run P W = .ok W.heap.size (W.alloc ob) := fun W ob => rfl
        have hchoose : (choose (.appendCap b.size 0 el)).run P w = .ok cap { w with drawn := w.drawn + 1 } := by
          rw [hcap, ht]; rfl
        have hmark : (markStringish ⟨w.heap.size, 0, none⟩).run P (({ w with drawn := w.drawn + 1 } : World).alloc (.cells (elems ++ Array.replicate (cap - b.size) (Value.int .u8 0)) el)) = .ok () (({ w with drawn := w.drawn + 1 } : World).alloc (.cells (elems ++ Array.replicate (cap - b.size) (Value.int .u8 0)) el (cap, cap + 1))) := by
          have hsh : (({ w with drawn := w.drawn + 1 } : World).alloc (.cells (elems ++ Array.replicate (cap - b.size) (Value.int .u8 0)) el)).shape? w.heap.size = some (el, cap) := by
            have := heap_alloc (w := { w with drawn := w.drawn + 1 }) (o := .cells (elems ++ Array.replicate (cap - b.size) (Value.int .u8 0)) el)
            simp only [World.shape?]
            rw [show (({ w with drawn := w.drawn + 1 } : World).alloc (.cells (elems ++ Array.replicate (cap - b.size) (Value.int .u8 0)) el)).heap[w.heap.size]? = _ from this]
            simp only [hsz]
          have hfr := freeze_alloc (w1 := { w with drawn := w.drawn + 1 }) (c := elems ++ Array.replicate (cap - b.size) (Value.int .u8 0)) (el := el) (n := cap)
          unfold markStringish
          simp only [Sem.run_bind, Go.shape, Sem.run, hsh, rthen, Go.freeze]
          rw [← hfr]
        have hrow2 : ∀ (W : World) (c : Array Value), (newRow el c).run P W = .ok ⟨W.heap.size, 0, none⟩ (W.alloc (.cells c el)) := fun W c => rfl
        rw [show (Value.int IntKind.u8 0).cells = #[Value.int IntKind.u8 0] from rfl, ← hrow]
        simp only [execOp, ho, hx, Go.convert, Sem.run_bind, runder hsd, runder hd, runder hel, rthen, Conv.stringToBytes, hchoose, hrow2, ← helems, hmark, rpure]
    · cases hq
  · cases hq

theorem Loose.freeze {w : World} {b : Nat} {c : Array Value} {e : TypeId} (h : Loose w b c e) : Loose (w.freeze ⟨b, c.size, none⟩ 1) b c e := by
  obtain ⟨⟨lo, hi⟩, h1, h2⟩ := h
  have h2' : (lo = 0 ∧ hi = 0) ∨ c.size ≤ lo := by
    rcases h2 with h2 | h2
    · cases h2; exact .inl ⟨rfl, rfl⟩
    · exact .inr h2
  refine ⟨if lo == hi then (c.size, c.size + 1) else (min lo c.size, max hi (c.size + 1)), ?_, .inr ?_⟩
  · simp only [World.freeze, Nat.one_ne_zero, if_false, Array.getElem?_modify, if_true, h1, Option.map_some]
  · rcases h2' with ⟨rfl, rfl⟩ | h2
    · simp
    · split
      · exact Nat.le_refl _
      · exact Nat.le_min.2 ⟨h2, Nat.le_refl _⟩

theorem mark_step (h : R G base w0 ρ H w) {src dst : TypeId} {x : Operand} {u : Value} (ho : o.op = .convert src dst x) (hx : VRel ρ u (e' x)) (hq : aMarkB P src dst u H = some (v, H')) :
    ∃ ρ' v' w', (execOp e' o).run P w = .ok (.value v') w' ∧ Ext ρ H ρ' H' ∧ R G base w0 ρ' H' w' ∧ VRel ρ' v v' := by
  unfold aMarkB at hq
  split at hq
  · rename_i a l c
    split at hq
    · rename_i e1 e2 hs hd
      split at hq
      · rename_i ob hel hg
        cases hb : (Nat.beq src dst && Nat.blt ob.kind 2 && ob.obj.isNone && ob.loop.isNone) with
        | false => simp only [hb, cond_false] at hq; cases hq
        | true =>
          simp only [hb, cond_true, Option.some.injEq, Prod.mk.injEq] at hq
          obtain ⟨rfl, rfl⟩ := hq
          simp only [Bool.and_eq_true] at hb
          obtain ⟨⟨⟨hb1, hb2⟩, hb3⟩, hb4⟩ := hb
          have hsd := Nat.eq_of_beq_eq_true hb1
          subst hsd
          have hk2 : ob.kind < 2 := by simpa using hb2
          have hob : ob.obj = none := by simpa using hb3
          have hlp : ob.loop = none := by simpa using hb4
          obtain ⟨a', c', hS, he⟩ := VRel.sl.1 hx
          obtain ⟨_, r, hr, hplace⟩ := hS
          have hblk : a'.block = r.blk := by
            rcases hplace with ⟨_, _, h9⟩ | ⟨_, _, _, h9, _⟩
            · rw [h9]
            · exact h9
          have hB := h.blk _ _ _ hr hg
          obtain ⟨hbase, cc, hL⟩ : base ≤ r.blk ∧ ∃ cc, Loose w r.blk cc ob.elem := by
            unfold BRel at hB
            split at hB
            · refine ⟨hB.1, ?_⟩
              have h3 := hB.2.2
              rw [hob, hlp] at h3
              obtain ⟨cc, h4, _⟩ := h3
              exact ⟨cc, h4⟩
            · obtain ⟨h1, _, _, cc, h4, _⟩ := hB
              exact ⟨h1, cc, h4⟩
            · rename_i h9; omega
            · rename_i h9 h10 _
              rcases (by omega : ob.kind = 0 ∨ ob.kind = 1) with h11 | h11
              · exact (h9 h11).elim
              · exact (h10 h11).elim
          have hfs : (w.freeze ⟨r.blk, cc.size, none⟩ 1).heap.size = w.heap.size := by simp [World.freeze]
          have hfo : ∀ k, k ≠ r.blk → (w.freeze ⟨r.blk, cc.size, none⟩ 1).heap[k]? = w.heap[k]? := fun k hk => by simp [World.freeze, Array.getElem?_modify, Ne.symm hk]
          have hmark : (markStringish a').run P w = .ok () (w.freeze ⟨r.blk, cc.size, none⟩ 1) := by
            obtain ⟨fz, hw, _⟩ := hL
            have hsh : w.shape? r.blk = some (ob.elem, cc.size) := by simp only [World.shape?, hw]
            unfold markStringish
            simp only [Sem.run_bind, Go.shape, Sem.run, hblk, hsh, rthen, Go.freeze]
          have hnew : BRel G base ρ (w.freeze ⟨r.blk, cc.size, none⟩ 1) r ob := by
            unfold BRel at hB ⊢
            have hsame : ∀ c e, Loose w r.blk c e → c = cc := fun c e h5 => by
              obtain ⟨f1, q1, _⟩ := h5
              obtain ⟨f2, q2, _⟩ := hL
              rw [q1] at q2; cases q2; rfl
            split at hB
            · refine ⟨hB.1, hB.2.1, ?_⟩
              have h3 := hB.2.2
              rw [hob, hlp] at h3 ⊢
              obtain ⟨c1, h4, h5⟩ := h3
              have := hsame _ _ h4
              subst this
              exact ⟨c1, h4.freeze, h5⟩
            · obtain ⟨h1, h2, h3, c1, h4, h5⟩ := hB
              have := hsame _ _ h4
              subst this
              exact ⟨h1, h2, h3, c1, h4.freeze, h5⟩
            · rename_i h9; omega
            · exact hB
          have hlive : live ob := by
            unfold live; omega
          obtain ⟨t1, t2⟩ := h.turn (w' := w.freeze ⟨r.blk, cc.size, none⟩ 1) hr hg hlive hbase hfs hfo hnew
          refine ⟨ρ, .slice (some a') l c', _, ?_, t2, t1, VRel.sl.2 ⟨a', c', ⟨‹_›, r, hr, hplace⟩, rfl⟩⟩
          rw [hs] at hd
          cases hd
          simp [execOp, ho, he, Go.convert, runder hs, runder hel, hmark]
      · cases hq
    · cases hq
  · cases hq

theorem conv_all (h : R G base w0 ρ H w) {src dst : TypeId} {x : Operand} {u : Value} (ho : o.op = .convert src dst x) (hx : VRel ρ u (e' x)) (hq : aConv P src dst u H = some (v, H')) :
    ∃ ρ' v' w', (execOp e' o).run P w = .ok (.value v') w' ∧ Ext ρ H ρ' H' ∧ R G base w0 ρ' H' w' ∧ VRel ρ' v v' := by
  unfold aConv at hq
  split at hq
  · rename_i b
    cases hsr : (P.underlying src).isSome with
    | false => rw [hsr] at hq; cases hq
    | true =>
      rw [hsr] at hq
      simp only [cond_true] at hq
      exact conv_step h ho (VRel.string.1 hx) hsr hq
  · exact mark_step h ho hx hq
end

section
variable {P : Program} {G base : Nat} {w0 : World} {ρ : Ren} {H H' : AH} {w : World}
variable {o : Oper} {e e' : Operand → Value} {v : Value}

theorem R.sameHeap (h : R G base w0 ρ H w) {W : World} (hw : W.heap = w.heap) (hqt : W.os = w.os ∧ W.tape = w.tape ∧ W.output = w.output := by exact ⟨rfl, rfl, rfl⟩) : R G base w0 ρ H W :=
  ⟨h.top, h.fresh, fun b r o e g => (h.blk b r o e g).of_same (by rw [hw]), h.inj, h.glob, by rw [hw]; exact h.size, fun k hk => by rw [hw]; exact h.frame k hk, ⟨hqt.1.trans h.quiet.1, hqt.2.1.trans h.quiet.2.1, hqt.2.2.trans h.quiet.2.2⟩⟩

def SrcRel (P : Program) (w : World) (i : TypeInfo) (zf : Bool) (x' : Value) (n : Nat) (new' : Array Value) : Prop :=
  (zf = false ∧ (∀ W : World, (Builtin.lenOf x').run P W = .ok n W) ∧ (Builtin.firstCells i.size n x').run P w = .ok new' w) ∨
  (zf = true ∧ ∃ (kx : IntKind) (m : Int) (z : Value), x' = .int kx m ∧ 0 ≤ m ∧ m < 2 ^ 40 ∧ m * i.bytes ≤ 2 ^ 40 ∧ n = m.toNat ∧ i.zero = some z ∧ z.cells.size = i.size ∧ new' = (copies z.cells.toList n).toArray)

theorem src_spec (h : R G base w0 ρ H w) {x x' : Value} {el : TypeId} {i : TypeInfo} {zf : Bool} {n : Nat} {new : List Value} (hx : VRel ρ x x') (_hel : P.info? el = some i) (hq : aNew H i zf x = some (n, new)) :
    (n = 0 → new = []) ∧ ∃ new' : Array Value, LRel ρ new new'.toList ∧ SrcRel P w i zf x' n new' := by
  unfold aNew at hq
  split at hq
  · rename_i a m c
    cases hc : cellsOf H i.size m (.slice a m c) with
    | none => simp [hc] at hq
    | some l =>
      simp only [hc, Option.some.injEq, Prod.mk.injEq] at hq
      obtain ⟨rfl, rfl⟩ := hq
      refine ⟨fun h0 => ?_, ?_⟩
      · subst h0; cases a <;> simp [cellsOf, firstN] at hc
        · exact hc
        · exact hc.symm ▸ rfl
      · obtain ⟨l', h1, h2⟩ := cells_run (P := P) h hx (fun a2 m2 c2 hs => by cases hs; exact Nat.le_refl _) hc
        exact ⟨l', h1, .inl ⟨rfl, fun W => len_run hx (.inl ⟨a, c, rfl⟩), h2⟩⟩
  · rename_i s
    cases hc : cellsOf H i.size s.size (.string s) with
    | none => simp [hc] at hq
    | some l =>
      simp only [hc, Option.some.injEq, Prod.mk.injEq] at hq
      obtain ⟨rfl, rfl⟩ := hq
      refine ⟨fun h0 => ?_, ?_⟩
      · rw [h0] at hc; simp [cellsOf] at hc; exact hc.symm ▸ by simp
      · obtain ⟨l', h1, h2⟩ := cells_run (P := P) h hx (fun a2 m2 c2 hs => by cases hs) hc
        exact ⟨l', h1, .inl ⟨rfl, fun W => len_run hx (.inr ⟨s, rfl, rfl⟩), h2⟩⟩
  · rename_i k m
    cases hzo : zeroOf i with
    | none => simp [hzo] at hq
    | some z =>
      have hzz := (zeroOf_zero hzo).1
      simp only [hzo] at hq
      cases hb : (decide (0 ≤ m ∧ m < 2 ^ 40 ∧ m * i.bytes ≤ 2 ^ 40) && Nat.beq z.cells.toList.length i.size) with
      | false => simp only [hb, cond_false] at hq; cases hq
      | true =>
        simp only [hb, cond_true, Option.some.injEq, Prod.mk.injEq] at hq
        obtain ⟨rfl, rfl⟩ := hq
        simp only [Bool.and_eq_true] at hb
        have hd := of_decide_eq_true hb.1
        have hsz : z.cells.size = i.size := by simpa using Nat.eq_of_beq_eq_true hb.2
        have hzr : LRel ρ z.cells.toList z.cells.toList := (plain_rel 4 z (zeroOf_zero hzo).2 : VRel ρ z z).cells
        exact ⟨fun h0 => by rw [h0]; rfl, (copies z.cells.toList m.toNat).toArray, by simpa using hzr.copies m.toNat, .inr ⟨rfl, k, m, z, VRel.int.1 hx, hd.1, hd.2.1, hd.2.2, rfl, hzz, hsz, rfl⟩⟩
  · cases hq

theorem blt_lt {a b : Nat} (h : Nat.blt a b = true) : a < b := Nat.le_of_ble_eq_true h

theorem bif_le {x sc B : Nat} (h : x ≤ bif Nat.blt sc B then sc else sc - B) : (sc < B → x ≤ sc) ∧ (B ≤ sc → x ≤ sc - B) ∧ x ≤ sc := by
  cases hb : Nat.blt sc B with
  | true => rw [hb] at h; have := blt_lt hb; simp only [cond_true] at h; exact ⟨fun _ => h, fun h1 => by omega, h⟩
  | false => rw [hb] at h; have := blt_ge hb; simp only [cond_false] at h; exact ⟨fun h1 => by omega, fun _ => h, by omega⟩
theorem ble_gt {a b : Nat} (h : Nat.ble a b = false) : b < a := by
  rcases Nat.lt_or_ge b a with h1 | h1
  · exact h1
  · rw [Nat.ble_eq_true_of_le h1] at h; cases h
theorem bif_gt {x sc B : Nat} (h : Nat.ble x (bif Nat.blt sc B then sc else sc - B) = false) : (sc < B → sc < x) ∧ (B ≤ sc → sc - B < x) := by
  cases hb : Nat.blt sc B with
  | true => rw [hb] at h; have := blt_lt hb; simp only [cond_true] at h; exact ⟨fun _ => ble_gt h, fun h1 => by omega⟩
  | false => rw [hb] at h; have := blt_ge hb; simp only [cond_false] at h; exact ⟨fun h1 => by omega, fun _ => ble_gt h⟩

theorem zeros_spec {at_ : Array TypeId} {zf : Bool} (h : aZeros P at_ = some zf) : ∃ u d, at_[1]? = some u ∧ P.underlying u = some d ∧ (zf = true → ∃ k, d = .int k) ∧ (zf = false → ∀ k, d ≠ .int k) := by
  unfold aZeros at h
  split at h
  · cases h
  · rename_i u hu
    split at h
    · cases h
    · rename_i k hk; cases h; exact ⟨u, _, hu, hk, fun _ => ⟨k, rfl⟩, fun h0 => by cases h0⟩
    · rename_i d hni hk; cases h; exact ⟨u, d, hu, hk, (fun h0 => by cases h0), fun _ k hk0 => hni k hk0⟩

theorem app_exec {c : Call} {x y : Operand} (ho : o.op = .call c) (hc : c.callee = .builtin .append) (hargs : c.args = #[x, y]) {v' : Value} {w' : World}
    (hr : (Builtin.append_ c.argTypes o.type #[e' x, e' y]).run P w = .ok v' w') : (execOp e' o).run P w = .ok (.value v') w' := by
  simp [execOp, ho, resolve, hc, hargs, invoke, builtin, hr]

theorem one_rel : ∀ {l m : List Value}, LRel ρ l m → l.all one = true → ∀ x ∈ m, oneCell x
  | [], [], _, _, x, hx => by simp at hx
  | a :: l, b :: m, h, k, x, hx => by
    simp only [List.all_cons, Bool.and_eq_true] at k
    rcases List.mem_cons.1 hx with rfl | hx
    · refine h.1.oneCell ?_
      cases a <;> first | trivial | (exact absurd k.1 (by simp [one]))
    · exact one_rel h.2 k.2 x hx

theorem op_append (h : R G base w0 ρ H w) {c : Call} (ho : o.op = .call c) (hc : c.callee = .builtin .append) (hE : ∀ x ∈ o.op.operands, VRel ρ (e x) (e' x)) (hq : aOp P o e H = some (v, H')) : OpRes P G base w0 ρ H w (execOp e' o) v H' := by
  simp only [aOp, ho, hc] at hq
  split at hq
  · rename_i x y hargs
    have mem : ∀ z, z ∈ c.args.toList → VRel ρ (e z) (e' z) := fun z hz => hE z (by simp [ho, Op.operands, Call.operands, hc]; simpa using hz)
    have hx := mem x (by rw [hargs]; simp)
    have hy := mem y (by rw [hargs]; simp)
    have hargs' : c.args = #[x, y] := Array.toList_inj.1 (by simpa using hargs)
    unfold aAppend at hq
    split at hq
    · rename_i st zf ht hzf
      obtain ⟨u, d, hu, hud, hd1, hd0⟩ := zeros_spec hzf
      split at hq
      · rename_i el hte
        split at hq
        · rename_i i bs sl sc hi hb
          rw [hb] at hx
          split at hq
          · cases hq
          · rename_i n new hnew
            obtain ⟨hn0, new', hnr, hsrc⟩ := src_spec h hy hi hnew
            obtain ⟨bs', cap', e1, _⟩ := hx.slAny
            -- fits: the run in memory, from a store
            have fitsRun : ∀ (w' : World), sl + n ≤ cap' → (stSem bs' (sl * i.size) new'.toList).run P w = .ok () w' →
                (execOp e' o).run P w = .ok (.value (.slice bs' (sl + n) cap')) w' := by
              intro w' hr hst
              refine app_exec ho hc hargs' ?_
              rw [e1]
              rcases hsrc with ⟨rfl, hl, hcl⟩ | ⟨rfl, kx, m, z, e2, m0, m1, m2, rfl, hzz, hzs, rfl⟩
              · exact append_fits0 ht hu hte hi hud (hd0 rfl) (hl w) hcl hr hst
              · obtain ⟨k, rfl⟩ := hd1 rfl
                rw [e2]
                exact append_fits1 ht hu hte hi hud m0 m1 m2 hzz hzs hr (by simpa using hst)
            cases hble : Nat.ble (sl + n) (bif Nat.blt sc BIG then sc else sc - BIG) with
            | true =>
              have hle := bif_le (Nat.le_of_ble_eq_true hble)
              simp only [hble, cond_true] at hq
              unfold aFits at hq
              cases bs with
              | none =>
                simp only [Option.some.injEq, Prod.mk.injEq] at hq
                obtain ⟨rfl, rfl⟩ := hq
                have := VRel.slNil.1 hx
                rw [e1] at this; cases this
                refine OpRes.same h (fitsRun w ?_ rfl) (VRel.slNil.2 rfl)
                exact hle.2.2
              | some a =>
                obtain ⟨a2, c2, hs, e3⟩ := VRel.sl.1 hx
                rw [e1] at e3; cases e3
                have hs0 := hs
                obtain ⟨s0, r, hr, hcase⟩ := hs
                have hcap : sl + n ≤ cap' := by
                  rcases hcase with ⟨hlt, hcc, _⟩ | ⟨hbig, _, hge, _⟩
                  · rw [hcc]; exact hle.1 hlt
                  · exact Nat.le_trans (hle.2.1 hbig) hge
                have hres : SRel ρ a (sl + n) sc a2 cap' := by
                  refine ⟨s0, r, hr, ?_⟩
                  rcases hcase with h1 | ⟨hbig, h2, h3, h4⟩
                  · exact .inl h1
                  · exact .inr ⟨hbig, hle.2.1 hbig, h3, h4⟩
                simp only [] at hq
                cases hst : storeN H (a.add (sl * i.size)) new with
                | none => simp [hst] at hq
                | some H1 =>
                  simp only [hst, Option.some.injEq, Prod.mk.injEq] at hq
                  obtain ⟨rfl, rfl⟩ := hq
                  rcases Nat.eq_zero_or_pos n with hn | hn
                  · have hnil := hn0 hn
                    subst hnil
                    simp only [storeN, Option.some.injEq] at hst
                    subst hst
                    have hnil' : new' = #[] := by have := hnr.length; simpa using this.symm
                    exact OpRes.same h (fitsRun w hcap (by simp [stSem, hnil', Go.storeCells])) (VRel.sl.2 ⟨_, _, hres, rfl⟩)
                  · have hA : ARel ρ a a2 := hres.addr (by omega)
                    obtain ⟨w', r1, r2, r3⟩ := store_all (P := P) h (hA.add (sl * i.size)) hnr hst
                    exact ⟨ρ, _, w', .inl (fitsRun w' hcap r1), r3, r2, VRel.sl.2 ⟨_, _, hres, rfl⟩⟩
            | false =>
              simp only [hble, cond_false] at hq
              have hgt := bif_gt hble
              unfold aGrows at hq
              cases hzo : zeroOf i with
              | none => simp [hzo] at hq
              | some z =>
                have hzz := (zeroOf_zero hzo).1
                simp only [hzo] at hq
                cases hbb : (Nat.blt H.next 16000 && Nat.blt (sl + n) (2 ^ 40) && Nat.blt ((sl + n) * i.bytes) (2 ^ 40) && Nat.blt i.bytes (2 ^ 30) && Nat.beq z.cells.toList.length i.size) with
                | false => simp only [hbb, cond_false] at hq; cases hq
                | true =>
                  simp only [hbb, cond_true] at hq
                  simp only [Bool.and_eq_true] at hbb
                  obtain ⟨⟨⟨⟨b1, b2⟩, b3⟩, b4⟩, b5⟩ := hbb
                  have b1 : H.next < 16000 := blt_lt b1
                  have b2 : sl + n < 2 ^ 40 := blt_lt b2
                  have b3 : (sl + n) * i.bytes < 2 ^ 40 := blt_lt b3
                  have b4 : i.bytes < 2 ^ 30 := blt_lt b4
                  have b5 : z.cells.size = i.size := by simpa using Nat.eq_of_beq_eq_true b5
                  cases hold : cellsOf H i.size sl (.slice bs sl sc) with
                  | none => simp [hold] at hq
                  | some old =>
                    simp only [hold] at hq
                    cases hlen : (Nat.beq old.length (sl * i.size) && Nat.beq new.length (n * i.size) && new.all one) with
                    | false => simp only [hlen, cond_false] at hq; cases hq
                    | true =>
                      simp only [hlen, cond_true] at hq
                      simp only [Bool.and_eq_true] at hlen
                      have l1 := Nat.eq_of_beq_eq_true hlen.1.1
                      have l2 := Nat.eq_of_beq_eq_true hlen.1.2
                      -- the row moves
                      have moves : cap' < sl + n → ∀ (H'' : AH), (∀ c, c ≠ H.next → c < H.next → H''.get c = H.get c ∨ H''.get c = some gone) → H''.get H.next = some ⟨1, old ++ new, el, none, none, i.size⟩ → H''.next = H.next + 1 →
                          (∀ b, b < H.next → ρ b = none → H''.get b = H.get b) → OpRes P G base w0 ρ H w (execOp e' o) (.slice (some ⟨H.next, 0, none⟩) (sl + n) (BIG + (sl + n))) H'' := by
                        intro hcl H'' g1 g2 g3 g4
                        have hd : R G base w0 ρ H w.drew := h.sameHeap rfl
                        obtain ⟨_, new2, hnr2, hsrc2⟩ := src_spec hd hy hi hnew
                        obtain ⟨old', hor, horun⟩ := cells_run (P := P) hd hx (fun a m c hs => by cases hs; exact Nat.le_refl _) hold
                        have hcp : Builtin.nextslicecap (sl + n) cap' * i.bytes ≤ 281474976710656 := by
                          have h1 := cap_le (need := sl + n) hcl
                          have h2 : Builtin.nextslicecap (sl + n) cap' * i.bytes ≤ (2 * (sl + n) + 192) * i.bytes := Nat.mul_le_mul_right _ h1
                          have h3 : (2 * (sl + n) + 192) * i.bytes = 2 * ((sl + n) * i.bytes) + 192 * i.bytes := by rw [Nat.add_mul, Nat.mul_assoc]
                          omega
                        rw [e1] at horun
                        obtain ⟨q1, q2, q3⟩ := grow_new h (_a := none) (_sc := 0) (cap := cutCap w (sl + n) cap' el) (w1 := w.drew) rfl ⟨rfl, rfl, rfl⟩ b1 b5 hor hnr2 l1 l2 (cutCap_ge _ _ _ _) g1 g2 g3 g4
                        refine ⟨_, _, _, .inl (app_exec ho hc hargs' ?_), q2, q1, q3⟩
                        rw [e1]
                        rcases hsrc2 with ⟨rfl, hl, hcl2⟩ | ⟨rfl, kx, m, z', e2, m0, m1, m2, hnm, hzz', hzs, rfl⟩
                        · exact append_grows0 ht hu hte hi hud (hd0 rfl) (hl w) (by omega) b2 hcp hzz horun hcl2
                        · obtain ⟨k, rfl⟩ := hd1 rfl
                          rw [hzz] at hzz'; cases hzz'
                          subst hnm
                          rw [e2]
                          exact append_grows1 ht hu hte hi hud m0 m1 m2 hzz hzs (by omega) b2 hcp horun
                      have nx : ∀ c, c ≠ H.next → c < H.next → (H.add ⟨1, old ++ new, el, none, none, i.size⟩).get c = H.get c := fun c hne hlt => AH.get_add_other H _ (by omega) (by omega) (Ne.symm hne)
                      cases hbl : Nat.blt sc BIG with
                      | true =>
                        simp only [hbl, cond_true, Option.some.injEq, Prod.mk.injEq] at hq
                        obtain ⟨rfl, rfl⟩ := hq
                        have hlt : sc < BIG := blt_lt hbl
                        have hcc : cap' = sc := by
                          obtain ⟨a3, c3, e3, e4⟩ := hx.slAny
                          rw [e1] at e3; cases e3
                          exact e4 hlt
                        exact moves (by rw [hcc]; exact hgt.1 hlt) _ (fun c h1 h2 => .inl (nx c h1 h2)) (AH.get_add H _) rfl (fun b h1 h2 => nx b (by omega) h1)
                      | false =>
                        simp only [hbl, cond_false] at hq
                        cases bs with
                        | none => cases hq
                        | some a =>
                          simp only [] at hq
                          cases hgo : H.get a.block with
                          | none => simp [hgo] at hq
                          | some ob =>
                            simp only [hgo] at hq
                            cases hob : (Nat.beq ob.kind 1 && Nat.beq ob.esz i.size && Nat.beq ob.elem el) with
                            | false => simp only [hob, cond_false] at hq; cases hq
                            | true =>
                              simp only [hob, cond_true, Option.some.injEq, Prod.mk.injEq] at hq
                              obtain ⟨rfl, rfl⟩ := hq
                              simp only [Bool.and_eq_true] at hob
                              have k1 := Nat.eq_of_beq_eq_true hob.1.1
                              have k2 := Nat.eq_of_beq_eq_true hob.1.2
                              have k3 := Nat.eq_of_beq_eq_true hob.2
                              obtain ⟨a2, c2, hs, e3⟩ := VRel.sl.1 hx
                              rw [e1] at e3; cases e3
                              have hs0 := hs
                              obtain ⟨s0, r, hr, hcase⟩ := hs
                              have hbig : BIG ≤ sc := blt_ge hbl
                              rcases hcase with ⟨hlt, _⟩ | ⟨_, h2, h3, h4, h5, h6, h7, h8⟩
                              · omega
                              · have hab : a.block < H.next := h.lt hr
                                by_cases hfit : sl + n ≤ cap'
                                · obtain ⟨w', q1, q2, q3, q4⟩ := grow_stay (P := P) h (_sc := sc) b1 hr hgo k1 k2 h4 h5 h7 h8 (fun h0 => hs0.addr h0) hold hnr (one_rel hnr hlen.2) l2 hfit rfl k3
                                  exact ⟨_, _, w', .inl (fitsRun w' hfit q1), q3, q2, q4⟩
                                · refine moves (by omega) _ (fun c g1 g2 => ?_) ?_ rfl (fun b g1 g2 => ?_)
                                  · by_cases hca : c = a.block
                                    · subst hca; exact .inr (AH.get_put _ _)
                                    · rw [AH.get_put_other _ _ (by omega) (by omega) (Ne.symm hca)]; exact .inl (nx c g1 g2)
                                  · rw [AH.get_put_other _ _ (by omega) (by omega) (by omega)]; exact AH.get_add H _
                                  · have hba : b ≠ a.block := fun hx => by subst hx; rw [hr] at g2; cases g2
                                    rw [AH.get_put_other _ _ (by omega) (by omega) (Ne.symm hba)]; exact nx b (by omega) g1
        · cases hq
      · cases hq
    · cases hq
  · cases hq
end

section
variable {P : Program} {G base : Nat} {w0 : World} {ρ : Ren} {H H' : AH} {w : World}
variable {o : Oper} {e e' : Operand → Value} {v : Value}

theorem op_all (h : R G base w0 ρ H w) (hE : ∀ x ∈ o.op.operands, VRel ρ (e x) (e' x)) (hq : aOp P o e H = some (v, H')) : OpRes P G base w0 ρ H w (execOp e' o) v H' := by
  cases ho : o.op with
  | move x => exact (op_move h (.inl ho) (hE x (by simp [ho, Op.operands])) hq).res h
  | assign x => exact (op_move h (.inr ho) (hE x (by simp [ho, Op.operands])) hq).res h
  | pick c x y => exact (op_pick h ho (hE c (by simp [ho, Op.operands])) (hE x (by simp [ho, Op.operands])) (hE y (by simp [ho, Op.operands])) hq).res h
  | alloc t => exact op_alloc h ho hq
  | box t x => exact op_box h ho (hE x (by simp [ho, Op.operands])) hq
  | build t ps => exact (op_build h ho hE hq).res h
  | buildSlice t n ps => exact op_buildSlice h ho hE hq
  | load t x => exact (op_load h ho (hE x (by simp [ho, Op.operands])) hq).res h
  | store t x y => exact op_store h ho (hE x (by simp [ho, Op.operands])) (hE y (by simp [ho, Op.operands])) hq
  | nilCheck x => exact (op_nilCheck h ho (hE x (by simp [ho, Op.operands])) hq).res h
  | binOp op t x y u => exact (op_nilcmp h ho hE hq).res h
  | unOp op t x => simp only [aOp, ho] at hq; exact (op_quiet h hE (by rw [ho]; simp) hq).res h
  | index t x y => simp only [aOp, ho] at hq; exact (op_quiet h hE (by rw [ho]; simp) hq).res h
  | convert s d x => exact (op_convert h ho hE hq).res h
  | makeInterface t x => exact (op_makeInterface h ho (hE x (by simp [ho, Op.operands])) hq).res h
  | makeFunc fn a b =>
    cases fn with
    | func f => exact (op_makeFunc h ho hE hq).res h
    | _ => simp [aOp, ho] at hq
  | makeMap t r =>
    cases r with
    | none => exact op_makeMap h ho hq
    | some x => simp [aOp, ho] at hq
  | makeSlice t x y => exact op_makeSlice h ho (hE x (by simp [ho, Op.operands])) (hE y (by simp [ho, Op.operands])) hq
  | slice t x lo hi mx => exact (op_slice h ho hE hq).res h
  | fieldAddr s x f => exact (op_fieldAddr h ho (hE x (by simp [ho, Op.operands])) hq).res h
  | field t x f => exact (op_field h ho (hE x (by simp [ho, Op.operands])) hq).res h
  | indexAddr t x y => exact (op_indexAddr h ho (hE x (by simp [ho, Op.operands])) (hE y (by simp [ho, Op.operands])) hq).res h
  | lookup t x k ok => exact (op_lookup h ho hE hq).res h
  | mapUpdate t m k x => exact op_update h (.inl ho) hE hq
  | insert t m k x => exact op_update h (.inr ho) hE hq
  | extract x f => exact (op_extract h ho (hE x (by simp [ho, Op.operands])) hq).res h
  | typeAssert x xt as ok => exact (op_typeAssert h ho (hE x (by simp [ho, Op.operands])) hq).res h
  | call c =>
    cases hc : c.callee with
    | value f => simp [aOp, ho, hc] at hq
    | invoke f m => simp [aOp, ho, hc] at hq
    | builtin b =>
      cases b with
      | len => exact (op_len h ho hc hE hq).res h
      | cap => exact (op_cap h ho hc hE hq).res h
      | append => exact op_append h ho hc hE hq
      | copy => exact op_copy h ho hc hE hq
      | min => simp only [aOp, ho, hc] at hq; exact (op_quiet h hE (by rw [ho]; simp) hq).res h
      | max => simp only [aOp, ho, hc] at hq; exact (op_quiet h hE (by rw [ho]; simp) hq).res h
      | _ => simp [aOp, ho, hc] at hq
  | _ => simp [aOp, ho] at hq

theorem via_run (h : R G base w0 ρ H w) {s : FieldStep} {ptr : Bool} {t : TypeId} {u u' x : Value} (hu : VRel ρ u u') (hq : aVia P s ptr u H = some x) :
    ∃ (g : Field) (y : Addr) (x' : Value), (follow [s] t (.val u')).run P w = .ok (g.type, .var y) w ∧ (∀ wr, (receiverAt g.type (.var y) ptr wr).run P w = .ok x' w) ∧ VRel ρ x x' := by
  unfold aVia at hq
  split at hq
  · rename_i a fields hd hst
    obtain ⟨a', ha, e1⟩ := VRel.ptr.1 hu
    subst e1
    cases hf : fields[s.index]? with
    | none => simp [hf] at hq
    | some g =>
      simp only [hf] at hq
      split at hq
      · rename_i i d hi hd2
        cases hz : Nat.beq i.size 0 with
        | true => simp only [hz, cond_true] at hq; cases hq
        | false =>
          simp only [hz, cond_false] at hq
          have hne : i.size ≠ 0 := fun h0 => by rw [h0] at hz; cases hz
          have hfol : (follow [s] t (.val (.pointer (some a')))).run P w = .ok (g.type, .var (a'.add g.offset)) w := by
            simp [follow, runder hst, hf, hd, Place.get, asAddr, Go.fieldPlace, rsize hi, hne]
          split at hq
          · cases hq
          · rename_i hnp
            cases ptr with
            | true =>
              simp only [cond_true, Option.some.injEq] at hq
              subst hq
              refine ⟨g, _, .pointer (some (a'.add g.offset)), hfol, fun wr => ?_, VRel.ptr.2 ⟨_, ha.add _, rfl⟩⟩
              cases d <;> first | exact (hnp _ rfl).elim | simp [receiverAt, runder hd2]
            | false =>
              simp only [cond_false] at hq
              obtain ⟨x', hx', hrel⟩ := load_run (P := P) h (ha.add g.offset) hq
              refine ⟨g, _, x', hfol, fun wr => ?_, hrel⟩
              cases d <;> first | exact (hnp _ rfl).elim | simp [receiverAt, runder hd2, Place.get, hx']
      · cases hq
  · cases hq

/-- a method's function and receiver -/
theorem recv_run (h : R G base w0 ρ H w) {t : TypeId} {u u' x : Value} {name : String} {f : FuncId} (fuel : Nat) (hu : VRel ρ u u') (hq : aRecv P t u name H = some (f, x)) :
    ∃ x', (method (fuel + 1) t u' name).run P w = .ok (f, x') w ∧ VRel ρ x x' := by
  unfold aRecv at hq
  cases hi : P.info? t with
  | none => simp [hi] at hq
  | some i =>
    simp only [hi] at hq
    cases hm : i.methods.find? (·.name == name) with
    | none => simp [hm] at hq
    | some m =>
      simp only [hm] at hq
      cases hf : m.func with
      | none => simp [hf] at hq
      | some p =>
        obtain ⟨g, ptr⟩ := p
        simp only [hf] at hq
        split at hq
        · rename_i hpath
          split at hq
          · rename_i el hd
            simp only [Option.some.injEq, Prod.mk.injEq] at hq
            obtain ⟨rfl, rfl⟩ := hq
            exact ⟨u', by simp [method, rinfo hi, hm, hf, hpath, follow, receiverAt, runder hd, Place.get], hu⟩
          · rename_i el hd
            split at hq
            · rename_i p
              obtain ⟨p', hp, e1⟩ := VRel.ptr.1 hu
              subst e1
              cases hl : aLoad P el p H with
              | none => simp [hl] at hq
              | some y =>
                simp only [hl, Option.some.injEq, Prod.mk.injEq] at hq
                obtain ⟨rfl, rfl⟩ := hq
                obtain ⟨y', hy', hrel⟩ := load_run (P := P) h hp hl
                refine ⟨y', ?_, hrel⟩
                have hpe : m.path = #[] := Array.toList_inj.1 hpath
                have hw : ∀ (ts : Array TypeId) (nm : String), (Builtin.ssaWrapNilChk_ ts t #[.pointer (some p'), strVal "", strVal nm]).run P w = .ok (.pointer (some p')) w := fun _ _ => rfl
                simp [method, rinfo hi, hm, hf, hpe, follow, receiverAt, runder hd, Place.get, hw, asAddr, hy']
            · cases hq
          · rename_i d hnp hd
            simp only [Option.some.injEq, Prod.mk.injEq] at hq
            obtain ⟨rfl, rfl⟩ := hq
            refine ⟨u', ?_, hu⟩
            cases d <;> first | exact (hnp _ rfl).elim | simp [method, rinfo hi, hm, hf, hpath, follow, receiverAt, runder hd, Place.get]
          · cases hq
        · rename_i st hpath
          cases hv : aVia P st ptr u H with
          | none => simp [hv] at hq
          | some y =>
            simp only [hv, Option.some.injEq, Prod.mk.injEq] at hq
            obtain ⟨rfl, rfl⟩ := hq
            obtain ⟨gf, ya, x', h1, h2, h3⟩ := via_run (t := t) h hu hv
            exact ⟨x', by simp [method, rinfo hi, hm, hf, hpath, h1, h2], h3⟩
        · cases hq
end

end Go.Proofs.Ytbbfajbnklgncaa.Rx
