/- An evaluator of closed calls over an abstract memory, for the kernel to reckon with. -/
import Derived.RangeFuncLeaves
import Derived.Orders
import Derived.KernelRfl
namespace Go.Proofs.Ytbbfajbnklgncaa.Rx
structure Tri (α : Type) where
  val : Option α
  l : Option (Tri α)
  r : Option (Tri α)

def Tri.get {α : Type} : Nat → Option (Tri α) → Nat → Option α
  | 0, t, _ => Option.casesOn t none fun t => t.val
  | d + 1, t, n => Option.casesOn t none fun t => Bool.casesOn (Nat.beq (Nat.mod n 2) 0) (Tri.get d t.r (Nat.div n 2)) (Tri.get d t.l (Nat.div n 2))

def Tri.set {α : Type} : Nat → Option (Tri α) → Nat → α → Tri α
  | 0, _, _, x => ⟨some x, none, none⟩
  | d + 1, t, n, x => Bool.casesOn (Nat.beq (Nat.mod n 2) 0)
    ⟨none, Option.casesOn t none fun t => t.l, some (Tri.set d (Option.casesOn t none fun t => t.r) (Nat.div n 2) x)⟩
    ⟨none, some (Tri.set d (Option.casesOn t none fun t => t.l) (Nat.div n 2) x), Option.casesOn t none fun t => t.r⟩

def Tri.g0 {α : Type} (t : Option (Tri α)) (_ : Nat) : Option α := Option.casesOn t none fun t => t.val
def Tri.g1 {α : Type} (t : Option (Tri α)) (n : Nat) : Option α := Option.casesOn t none fun t => Bool.casesOn (Nat.beq (Nat.mod n 2) 0) (Tri.g0 t.r (Nat.div n 2)) (Tri.g0 t.l (Nat.div n 2))
def Tri.g2 {α : Type} (t : Option (Tri α)) (n : Nat) : Option α := Option.casesOn t none fun t => Bool.casesOn (Nat.beq (Nat.mod n 2) 0) (Tri.g1 t.r (Nat.div n 2)) (Tri.g1 t.l (Nat.div n 2))
def Tri.g3 {α : Type} (t : Option (Tri α)) (n : Nat) : Option α := Option.casesOn t none fun t => Bool.casesOn (Nat.beq (Nat.mod n 2) 0) (Tri.g2 t.r (Nat.div n 2)) (Tri.g2 t.l (Nat.div n 2))
def Tri.g4 {α : Type} (t : Option (Tri α)) (n : Nat) : Option α := Option.casesOn t none fun t => Bool.casesOn (Nat.beq (Nat.mod n 2) 0) (Tri.g3 t.r (Nat.div n 2)) (Tri.g3 t.l (Nat.div n 2))
def Tri.g5 {α : Type} (t : Option (Tri α)) (n : Nat) : Option α := Option.casesOn t none fun t => Bool.casesOn (Nat.beq (Nat.mod n 2) 0) (Tri.g4 t.r (Nat.div n 2)) (Tri.g4 t.l (Nat.div n 2))
def Tri.g6 {α : Type} (t : Option (Tri α)) (n : Nat) : Option α := Option.casesOn t none fun t => Bool.casesOn (Nat.beq (Nat.mod n 2) 0) (Tri.g5 t.r (Nat.div n 2)) (Tri.g5 t.l (Nat.div n 2))
def Tri.g7 {α : Type} (t : Option (Tri α)) (n : Nat) : Option α := Option.casesOn t none fun t => Bool.casesOn (Nat.beq (Nat.mod n 2) 0) (Tri.g6 t.r (Nat.div n 2)) (Tri.g6 t.l (Nat.div n 2))
def Tri.g8 {α : Type} (t : Option (Tri α)) (n : Nat) : Option α := Option.casesOn t none fun t => Bool.casesOn (Nat.beq (Nat.mod n 2) 0) (Tri.g7 t.r (Nat.div n 2)) (Tri.g7 t.l (Nat.div n 2))
def Tri.g9 {α : Type} (t : Option (Tri α)) (n : Nat) : Option α := Option.casesOn t none fun t => Bool.casesOn (Nat.beq (Nat.mod n 2) 0) (Tri.g8 t.r (Nat.div n 2)) (Tri.g8 t.l (Nat.div n 2))
def Tri.g10 {α : Type} (t : Option (Tri α)) (n : Nat) : Option α := Option.casesOn t none fun t => Bool.casesOn (Nat.beq (Nat.mod n 2) 0) (Tri.g9 t.r (Nat.div n 2)) (Tri.g9 t.l (Nat.div n 2))
def Tri.g11 {α : Type} (t : Option (Tri α)) (n : Nat) : Option α := Option.casesOn t none fun t => Bool.casesOn (Nat.beq (Nat.mod n 2) 0) (Tri.g10 t.r (Nat.div n 2)) (Tri.g10 t.l (Nat.div n 2))
def Tri.g12 {α : Type} (t : Option (Tri α)) (n : Nat) : Option α := Option.casesOn t none fun t => Bool.casesOn (Nat.beq (Nat.mod n 2) 0) (Tri.g11 t.r (Nat.div n 2)) (Tri.g11 t.l (Nat.div n 2))
def Tri.g13 {α : Type} (t : Option (Tri α)) (n : Nat) : Option α := Option.casesOn t none fun t => Bool.casesOn (Nat.beq (Nat.mod n 2) 0) (Tri.g12 t.r (Nat.div n 2)) (Tri.g12 t.l (Nat.div n 2))
def Tri.g14 {α : Type} (t : Option (Tri α)) (n : Nat) : Option α := Option.casesOn t none fun t => Bool.casesOn (Nat.beq (Nat.mod n 2) 0) (Tri.g13 t.r (Nat.div n 2)) (Tri.g13 t.l (Nat.div n 2))
def Tri.s0 {α : Type} (_ : Option (Tri α)) (_ : Nat) (x : α) : Tri α := ⟨some x, none, none⟩
def Tri.s1 {α : Type} (t : Option (Tri α)) (n : Nat) (x : α) : Tri α := Bool.casesOn (Nat.beq (Nat.mod n 2) 0) ⟨none, Option.casesOn t none fun t => t.l, some (Tri.s0 (Option.casesOn t none fun t => t.r) (Nat.div n 2) x)⟩ ⟨none, some (Tri.s0 (Option.casesOn t none fun t => t.l) (Nat.div n 2) x), Option.casesOn t none fun t => t.r⟩
def Tri.s2 {α : Type} (t : Option (Tri α)) (n : Nat) (x : α) : Tri α := Bool.casesOn (Nat.beq (Nat.mod n 2) 0) ⟨none, Option.casesOn t none fun t => t.l, some (Tri.s1 (Option.casesOn t none fun t => t.r) (Nat.div n 2) x)⟩ ⟨none, some (Tri.s1 (Option.casesOn t none fun t => t.l) (Nat.div n 2) x), Option.casesOn t none fun t => t.r⟩
def Tri.s3 {α : Type} (t : Option (Tri α)) (n : Nat) (x : α) : Tri α := Bool.casesOn (Nat.beq (Nat.mod n 2) 0) ⟨none, Option.casesOn t none fun t => t.l, some (Tri.s2 (Option.casesOn t none fun t => t.r) (Nat.div n 2) x)⟩ ⟨none, some (Tri.s2 (Option.casesOn t none fun t => t.l) (Nat.div n 2) x), Option.casesOn t none fun t => t.r⟩
def Tri.s4 {α : Type} (t : Option (Tri α)) (n : Nat) (x : α) : Tri α := Bool.casesOn (Nat.beq (Nat.mod n 2) 0) ⟨none, Option.casesOn t none fun t => t.l, some (Tri.s3 (Option.casesOn t none fun t => t.r) (Nat.div n 2) x)⟩ ⟨none, some (Tri.s3 (Option.casesOn t none fun t => t.l) (Nat.div n 2) x), Option.casesOn t none fun t => t.r⟩
def Tri.s5 {α : Type} (t : Option (Tri α)) (n : Nat) (x : α) : Tri α := Bool.casesOn (Nat.beq (Nat.mod n 2) 0) ⟨none, Option.casesOn t none fun t => t.l, some (Tri.s4 (Option.casesOn t none fun t => t.r) (Nat.div n 2) x)⟩ ⟨none, some (Tri.s4 (Option.casesOn t none fun t => t.l) (Nat.div n 2) x), Option.casesOn t none fun t => t.r⟩
def Tri.s6 {α : Type} (t : Option (Tri α)) (n : Nat) (x : α) : Tri α := Bool.casesOn (Nat.beq (Nat.mod n 2) 0) ⟨none, Option.casesOn t none fun t => t.l, some (Tri.s5 (Option.casesOn t none fun t => t.r) (Nat.div n 2) x)⟩ ⟨none, some (Tri.s5 (Option.casesOn t none fun t => t.l) (Nat.div n 2) x), Option.casesOn t none fun t => t.r⟩
def Tri.s7 {α : Type} (t : Option (Tri α)) (n : Nat) (x : α) : Tri α := Bool.casesOn (Nat.beq (Nat.mod n 2) 0) ⟨none, Option.casesOn t none fun t => t.l, some (Tri.s6 (Option.casesOn t none fun t => t.r) (Nat.div n 2) x)⟩ ⟨none, some (Tri.s6 (Option.casesOn t none fun t => t.l) (Nat.div n 2) x), Option.casesOn t none fun t => t.r⟩
def Tri.s8 {α : Type} (t : Option (Tri α)) (n : Nat) (x : α) : Tri α := Bool.casesOn (Nat.beq (Nat.mod n 2) 0) ⟨none, Option.casesOn t none fun t => t.l, some (Tri.s7 (Option.casesOn t none fun t => t.r) (Nat.div n 2) x)⟩ ⟨none, some (Tri.s7 (Option.casesOn t none fun t => t.l) (Nat.div n 2) x), Option.casesOn t none fun t => t.r⟩
def Tri.s9 {α : Type} (t : Option (Tri α)) (n : Nat) (x : α) : Tri α := Bool.casesOn (Nat.beq (Nat.mod n 2) 0) ⟨none, Option.casesOn t none fun t => t.l, some (Tri.s8 (Option.casesOn t none fun t => t.r) (Nat.div n 2) x)⟩ ⟨none, some (Tri.s8 (Option.casesOn t none fun t => t.l) (Nat.div n 2) x), Option.casesOn t none fun t => t.r⟩
def Tri.s10 {α : Type} (t : Option (Tri α)) (n : Nat) (x : α) : Tri α := Bool.casesOn (Nat.beq (Nat.mod n 2) 0) ⟨none, Option.casesOn t none fun t => t.l, some (Tri.s9 (Option.casesOn t none fun t => t.r) (Nat.div n 2) x)⟩ ⟨none, some (Tri.s9 (Option.casesOn t none fun t => t.l) (Nat.div n 2) x), Option.casesOn t none fun t => t.r⟩
def Tri.s11 {α : Type} (t : Option (Tri α)) (n : Nat) (x : α) : Tri α := Bool.casesOn (Nat.beq (Nat.mod n 2) 0) ⟨none, Option.casesOn t none fun t => t.l, some (Tri.s10 (Option.casesOn t none fun t => t.r) (Nat.div n 2) x)⟩ ⟨none, some (Tri.s10 (Option.casesOn t none fun t => t.l) (Nat.div n 2) x), Option.casesOn t none fun t => t.r⟩
def Tri.s12 {α : Type} (t : Option (Tri α)) (n : Nat) (x : α) : Tri α := Bool.casesOn (Nat.beq (Nat.mod n 2) 0) ⟨none, Option.casesOn t none fun t => t.l, some (Tri.s11 (Option.casesOn t none fun t => t.r) (Nat.div n 2) x)⟩ ⟨none, some (Tri.s11 (Option.casesOn t none fun t => t.l) (Nat.div n 2) x), Option.casesOn t none fun t => t.r⟩
def Tri.s13 {α : Type} (t : Option (Tri α)) (n : Nat) (x : α) : Tri α := Bool.casesOn (Nat.beq (Nat.mod n 2) 0) ⟨none, Option.casesOn t none fun t => t.l, some (Tri.s12 (Option.casesOn t none fun t => t.r) (Nat.div n 2) x)⟩ ⟨none, some (Tri.s12 (Option.casesOn t none fun t => t.l) (Nat.div n 2) x), Option.casesOn t none fun t => t.r⟩
def Tri.s14 {α : Type} (t : Option (Tri α)) (n : Nat) (x : α) : Tri α := Bool.casesOn (Nat.beq (Nat.mod n 2) 0) ⟨none, Option.casesOn t none fun t => t.l, some (Tri.s13 (Option.casesOn t none fun t => t.r) (Nat.div n 2) x)⟩ ⟨none, some (Tri.s13 (Option.casesOn t none fun t => t.l) (Nat.div n 2) x), Option.casesOn t none fun t => t.r⟩

structure ALoop where
  state : LoopState
  pending : Option Code
  T : Option (Tri Value)
  n : Nat
  params : Array Tmp
  assign : Code
  body : Code
  defers : Nat

/-- kind: 0 exact, 1 loose, 2 lent (read only), 3 forgotten -/
structure AO where
  kind : Nat
  cells : List Value
  elem : TypeId
  obj : Option Obj
  loop : Option ALoop
  esz : Nat := 0

structure AH where
  next : Nat
  t : Option (Tri AO)

def AH.get (h : AH) (b : Nat) : Option AO := Tri.g14 h.t b
def AH.put (h : AH) (b : Nat) (o : AO) : AH := AH.casesOn h fun n t => ⟨n, some (Tri.s14 t b o)⟩
def AH.add (h : AH) (o : AO) : AH := AH.casesOn h fun n t => ⟨Nat.succ n, some (Tri.s14 t n o)⟩

def AH.cell (h : AH) (a : Addr) : Option Value :=
  match a.spot with
  | some _ => none
  | none => match h.get a.block with
    | none => none
    | some o => o.cells[a.off]?

def AO.of : Obj → AO
  | .cells c e _ => ⟨0, c.toList, e, none, none, 0⟩
  | o => ⟨0, [], 0, some o, none, 0⟩

def setAt : List Value → Nat → Value → Option (List Value)
  | [], _, _ => none
  | _ :: l, 0, v => some (v :: l)
  | x :: l, n + 1, v => match setAt l n v with
    | none => none
    | some l' => some (x :: l')

def one : Value → Bool
  | .agg _ => false
  | .tuple _ => false
  | _ => true

def AH.store (h : AH) (a : Addr) (v : Value) : Option AH :=
  match a.spot with
  | some _ => none
  | none => bif one v then
      match h.get a.block with
      | none => none
      | some o => bif Nat.blt o.kind 2 then
          match setAt o.cells a.off v with
          | none => none
          | some cs => some (h.put a.block { o with cells := cs })
        else none
    else none

def arun (P : Program) {α : Type} : Sem α → AH → Option (α × AH)
  | .pure a, h => some (a, h)
  | .load _ a k, h => match h.cell a with
    | none => none
    | some v => arun P (k v) h
  | .store _ a v k, h => match h.store a v with
    | none => none
    | some h => arun P k h
  | .new o k, h => bif Nat.blt h.next 16000 then arun P (k h.next) (h.add (.of o)) else none
  | .shape .., _ => none
  | .freeze .., _ => none
  | .frozen .., _ => none
  | .getObj r k, h => match h.get r with
    | some ⟨0, _, _, some o, none, _⟩ => arun P (k o) h
    | _ => none
  | .setObj r o k, h => match h.get r with
    | some ⟨0, _, _, some _, none, _⟩ => arun P k (h.put r ⟨0, [], 0, some o, none, 0⟩)
    | _ => none
  | .choose q k, h => match q.forced with
    | true => arun P (k 0) h
    | false => none
  | .sys .., _ => none
  | .program k, h => arun P (k P) h
  | .mark _ k, h => arun P k h
  | .halt _, _ => none

def plain0 : Value → Bool
  | .bool _ | .int _ _ | .string _ | .pointer none | .slice none _ _ | .map none | .chan none | .nilFunc | .nilIface => true
  | .func (.func _) f c => f.toList.isEmpty && c.toList.isEmpty
  | _ => false

def plainN : Nat → Value → Bool
  | 0, v => plain0 v
  | n + 1, v => match v with
    | .agg cs => cs.toList.all (plainN n)
    | .tuple cs => cs.toList.all (plainN n)
    | v => plain0 v

/-- A type's zero value, where it is plain. -/
def zeroOf (i : TypeInfo) : Option Value := match i.zero with
  | none => none
  | some z => bif plainN 4 z then some z else none

theorem zeroOf_zero {i : TypeInfo} {z : Value} (h : zeroOf i = some z) : i.zero = some z ∧ plainN 4 z = true := by
  unfold zeroOf at h
  split at h
  · cases h
  · rename_i z' hz'
    cases hp : plainN 4 z' with
    | true => rw [hp] at h; cases h; exact ⟨hz', hp⟩
    | false => rw [hp] at h; cases h

/-- A memory in which nothing is, and nothing can be made. -/
def noMem : AH := ⟨16000, none⟩

/-- a deferred call, or the mark of a loop's deferred calls -/
structure ADef where
  mark : Option Nat
  fn : FuncId
  args : List Value

structure St where
  T : Option (Tri Value)
  n : Nat
  D : List ADef
  H : AH

def St.eval (s : St) : Operand → Value
  | .tmp t => (Tri.g9 s.T t).getD undef
  | .const v => v
  | .global g => .pointer (some ⟨g, 0, none⟩)
  | .func f => .func (.func f) #[] #[]

def St.put (s : St) (dst : Option Tmp) (v : Value) : St :=
  Option.casesOn dst s fun d => St.casesOn s fun T n D H => Bool.casesOn (Nat.blt d n) ⟨T, n, D, H⟩ ⟨some (Tri.s9 T d v), n, D, H⟩

/-- the memory another one, and a slot filled -/
def St.putH (s : St) (h : AH) (dst : Option Tmp) (v : Value) : St := St.casesOn s fun T n D _ => St.put ⟨T, n, D, h⟩ dst v

def St.yielded (ops : Array Oper) (s : St) (j : Nat) : Option Bool :=
  match (ops[j]?).bind (·.dst) with
  | none => none
  | some d => match Tri.g9 s.T d with
    | some (.bool b) => some b
    | _ => none

/-- call: whether it panics, what it returns or panics with; defd: a deferred call, and what is panicking -/
structure Hd where
  call : FuncId → List Value → AH → Option (Bool × Value × AH)
  round : Nat → List Value → AH → Option (Value × AH)
  defd : FuncId → List Value → Option Value → AH → Option (Option Value × AH)

/-- a call that returns -/
def Hd.enter (hd : Hd) (f : FuncId) (args : List Value) (h : AH) : Option (Value × AH) :=
  match hd.call f args h with
  | some (false, v, h) => some (v, h)
  | _ => none

def BIG : Nat := 2 ^ 62

/-- what a value's slice may be cut to -/
def firstN (h : AH) (a : Addr) : Nat → Option (List Value)
  | 0 => some []
  | n + 1 => match h.cell a with
    | none => none
    | some v => match firstN h (a.add 1) n with
      | none => none
      | some l => some (v :: l)

def storeN (h : AH) (a : Addr) : List Value → Option AH
  | [] => some h
  | v :: l => match h.store a v with
    | none => none
    | some h => storeN h (a.add 1) l

def cellsOf (h : AH) (size n : Nat) : Value → Option (List Value)
  | .slice (some a) _ _ => firstN h a (n * size)
  | .slice none _ _ => some []
  | .string s => some ((s.extract 0 n).data.toList.map fun b => .int .u8 b.toNat)
  | _ => none

def copies (z : List Value) : Nat → List Value
  | 0 => []
  | n + 1 => z ++ copies z n

def gone : AO := ⟨3, [], 0, none, none, 0⟩

/-- what is appended: how many elements, and their cells -/
def aNew (h : AH) (i : TypeInfo) (zeros : Bool) (x : Value) : Option (Nat × List Value) :=
  match zeros, x with
  | false, .slice a n c => match cellsOf h i.size n (.slice a n c) with
    | none => none
    | some l => some (n, l)
  | false, .string s => match cellsOf h i.size s.size (.string s) with
    | none => none
    | some l => some (s.size, l)
  | true, .int _ n => match zeroOf i with
    | none => none
    | some z => bif decide (0 ≤ n ∧ n < 2 ^ 40 ∧ n * i.bytes ≤ 2 ^ 40) && Nat.beq z.cells.toList.length i.size then some (n.toNat, copies z.cells.toList n.toNat) else none
  | _, _ => none

def aZeros (P : Program) (argTypes : Array TypeId) : Option Bool :=
  match argTypes[1]? with
  | none => none
  | some u => match P.underlying u with
    | none => none
    | some (.int _) => some true
    | some _ => some false

/-- the row is appended to where it lies -/
def aFits (base : Option Addr) (sl sc n size : Nat) (new : List Value) (h : AH) : Option (Value × AH) :=
  match base with
  | none => some (.slice none (sl + n) sc, h)
  | some a => match storeN h (a.add (sl * size)) new with
    | none => none
    | some h => some (.slice (some a) (sl + n) sc, h)

/-- the row moves, or may stay where more room is than is known -/
def aGrows (e : TypeId) (i : TypeInfo) (base : Option Addr) (sl sc n : Nat) (new : List Value) (h : AH) : Option (Value × AH) :=
  match zeroOf i with
  | none => none
  | some z =>
    bif Nat.blt h.next 16000 && Nat.blt (sl + n) (2 ^ 40) && Nat.blt ((sl + n) * i.bytes) (2 ^ 40) && Nat.blt i.bytes (2 ^ 30) && Nat.beq z.cells.toList.length i.size then
      match cellsOf h i.size sl (.slice base sl sc) with
      | none => none
      | some old =>
        bif Nat.beq old.length (sl * i.size) && Nat.beq new.length (n * i.size) && new.all one then
          let h' := h.add ⟨1, old ++ new, e, none, none, i.size⟩
          let r : Value := .slice (some ⟨h.next, 0, none⟩) (sl + n) (BIG + (sl + n))
          bif Nat.blt sc BIG then some (r, h')
          else match base with
            | none => none
            | some a => match h.get a.block with
              | none => none
              | some o => bif Nat.beq o.kind 1 && Nat.beq o.esz i.size && Nat.beq o.elem e then some (r, h'.put a.block gone) else none
        else none
    else none

def aAppend (P : Program) (argTypes : Array TypeId) (s x : Value) (h : AH) : Option (Value × AH) :=
  match argTypes[0]?, aZeros P argTypes with
  | some st, some z => match P.underlying st with
    | some (.slice e) => match P.info? e, s with
      | some i, .slice base sl sc =>
        match aNew h i z x with
        | none => none
        | some (n, new) =>
          bif Nat.ble (sl + n) (bif Nat.blt sc BIG then sc else sc - BIG) then aFits base sl sc n i.size new h
          else aGrows e i base sl sc n new h
      | _, _ => none
    | _ => none
  | _, _ => none

/-- a new row of cells -/
def aRow (e : TypeId) (cs : List Value) (h : AH) : Option (Nat × AH) :=
  bif Nat.blt h.next 16000 then some (h.next, h.add ⟨0, cs, e, none, none, 0⟩) else none

def aInt : Value → Option Int
  | .int _ n => some n
  | _ => none

def aBound (o : Option Value) (dflt : Option Nat) (top : Nat) : Option Nat :=
  match o with
  | none => dflt
  | some v => match aInt v with
    | none => none
    | some n => bif decide (0 ≤ n ∧ n ≤ (top : Int)) then some n.toNat else none

/-- the bounds of a cut: low, high, and what is left of the room -/
def aCut (len cap t : Nat) (lo hi mx : Option Value) : Option (Nat × Nat × Nat) :=
  match aBound mx (some cap) t with
  | none => none
  | some m => match aBound hi (bif mx.isSome then none else some len) (min t m) with
    | none => none
    | some h => match aBound lo (some 0) h with
      | none => none
      | some l => some (l, h, m)

/-- of a slice whose room is not known: its block's elements have this size, and something of it is known where the room is cut -/
def cutOk (h : AH) (a : Option Addr) (cap size : Nat) (mx : Option Value) : Bool :=
  match a with
  | none => false
  | some a => match h.get a.block with
    | none => false
    | some o => Nat.beq o.kind 1 && Nat.beq o.esz size && (mx.isNone || (Nat.blt BIG cap && Nat.blt (cap - BIG) BIG))

def aBytes : List Value → Option (List UInt8)
  | [] => some []
  | .int .u8 n :: l => match aBytes l with
    | none => none
    | some bs => some (UInt8.ofNat n.toNat :: bs)
  | _ => none

def fillL (place : Nat → Option (Nat × Nat)) (cs : List Value) : List (Nat × Value) → Option (List Value)
  | [] => some cs
  | (i, v) :: rest => match place i with
    | none => none
    | some (off, size) =>
      let vs := v.cells.toList
      bif Nat.beq vs.length size && Nat.ble (off + vs.length) cs.length then fillL place (cs.take off ++ vs ++ cs.drop (off + vs.length)) rest else none

def aPlace (P : Program) (t : TypeId) : Option (Nat → Option (Nat × Nat)) :=
  match P.underlying t with
  | some (.struct fields) => match arun P (fields.mapM fun f => do pure (f.offset, ← sizeOf f.type)) noMem with
    | none => none
    | some (places, _) => some fun i => places[i]?
  | some (.array _ e) => match P.info? e with
    | none => none
    | some n => some fun i => some (i * n.size, n.size)
  | _ => none

/-- an operation that looks at no memory, on values without places -/
def aQuiet (P : Program) (o : Oper) (e : Operand → Value) (h : AH) : Option (Value × AH) :=
  bif o.op.operands.toList.all (fun x => plainN 4 (e x)) then
    match arun P (execOp e o) noMem with
    | some (.value v, _) => bif plainN 4 v then some (v, h) else none
    | _ => none
  else none

def isPtr : Option TypeDesc → Bool
  | some (.pointer _) => true
  | _ => false
def isSl : Option TypeDesc → Bool
  | some (.slice _) => true
  | _ => false
def isMap : Option TypeDesc → Bool
  | some (.map _ _) => true
  | _ => false
def isFunc : Option TypeDesc → Bool
  | some (.func _ _ _) => true
  | _ => false
def isIface : Option TypeDesc → Bool
  | some (.interface _) => true
  | _ => false

/-- nil against what is not nil -/
def aNilB (P : Program) (t : TypeId) (x y : Value) : Bool :=
  match x, y with
  | .pointer none, .pointer (some _) => isPtr (P.underlying t)
  | .pointer (some _), .pointer none => isPtr (P.underlying t)
  | .slice none _ _, .slice (some _) _ _ => isSl (P.underlying t)
  | .slice (some _) _ _, .slice none _ _ => isSl (P.underlying t)
  | .map none, .map (some _) => isMap (P.underlying t)
  | .map (some _), .map none => isMap (P.underlying t)
  | .nilFunc, .func _ _ _ => isFunc (P.underlying t)
  | .func _ _ _, .nilFunc => isFunc (P.underlying t)
  | .nilIface, .iface _ _ => isIface (P.underlying t)
  | .iface _ _, .nilIface => isIface (P.underlying t)
  | _, _ => false

/-- what a variable holds -/
def aLoad (P : Program) (t : TypeId) (p : Addr) (h : AH) : Option Value :=
  match P.underlying t, P.info? t with
  | some (.struct _), some i | some (.array _ _), some i => match firstN h p i.size with
    | none => none
    | some l => some (.agg l.toArray)
  | some _, _ => h.cell p
  | none, _ => none

/-- cells put where a slice begins; their number -/
def aPut (base : Option Addr) (cs : List Value) (n : Nat) (h : AH) : Option (Value × AH) :=
  match base with
  | none => some (.int .i64 n, h)
  | some a => match storeN h a cs with
    | none => none
    | some h => some (.int .i64 n, h)

def aOp (P : Program) (o : Oper) (e : Operand → Value) (h : AH) : Option (Value × AH) :=
  match o.op with
  | .move x => some (e x, h)
  | .assign x => some (e x, h)
  | .pick c a b => match e c with
    | .bool true => some (e a, h)
    | .bool false => some (e b, h)
    | _ => none
  | .alloc t => match P.info? t with
    | none => none
    | some i => match zeroOf i with
      | none => none
      | some z => match aRow t z.cells.toList h with
        | none => none
        | some (b, h) => some (.pointer (some ⟨b, 0, none⟩), h)
  | .box t x => match aRow t (e x).cells.toList h with
    | none => none
    | some (b, h) => some (.pointer (some ⟨b, 0, none⟩), h)
  | .load t a => match e a with
    | .pointer (some p) => match aLoad P t p h with
      | none => none
      | some v => some (v, h)
    | _ => none
  | .store t a x => match e a with
    | .pointer (some p) => match P.info? t with
      | none => none
      | some i => let vs := (e x).cells.toList
        bif Nat.beq vs.length i.size then match storeN h p vs with
          | none => none
          | some h => some (undef, h)
        else none
    | _ => none
  | .nilCheck x => match e x with
    | .pointer (some a) => some (.pointer (some a), h)
    | .func (.func f) a b => some (.func (.func f) a b, h)
    | _ => none
  | .makeInterface t x => match P.underlying t with
    | none => none
    | some (.interface _) => none
    | some _ => some (.iface t (e x), h)
  | .makeFunc (.func f) first captured => some (.func (.func f) ((first.toList.map e).toArray) ((captured.toList.map e).toArray), h)
  | .makeMap _ none => bif Nat.blt h.next 16000 then some (.map (some h.next), h.add ⟨0, [], 0, some (.map #[] 0), none, 0⟩) else none
  | .makeSlice t l c => match P.underlying t with
    | some (.slice el) => match P.info? el, aInt (e l), aInt (e c) with
      | some i, some n, some m => bif decide (0 ≤ n ∧ n ≤ m ∧ m < 2 ^ 40 ∧ m * i.bytes < 2 ^ 40) then
          match zeroOf i with
          | none => none
          | some z => bif Nat.beq z.cells.toList.length i.size then match aRow el (copies z.cells.toList m.toNat) h with
              | none => none
              | some (b, h) => some (.slice (some ⟨b, 0, none⟩) n.toNat m.toNat, h)
            else none
        else none
      | _, _, _ => none
    | _ => none
  | .slice t x lo hi mx => match e x with
    | .slice a len cap => match P.underlying t with
      | some (.slice el) => match P.info? el with
        | none => none
        | some i => bif Nat.blt cap BIG then
            match aCut len cap cap (lo.map e) (hi.map e) (mx.map e) with
            | none => none
            | some (l, h', m) => some (.slice (bif Nat.beq m l then a else a.map (·.add (l * i.size))) (h' - l) (m - l), h)
          else bif cutOk h a cap i.size (mx.map e) then
            match aCut len cap (cap - BIG) (lo.map e) (hi.map e) (mx.map e) with
            | none => none
            | some (l, h', m) => some (.slice (bif Nat.beq m l then a else a.map (·.add (l * i.size))) (h' - l) (m - l), h)
          else none
      | _ => none
    | _ => aQuiet P o e h
  | .fieldAddr s x f => match e x with
    | .pointer (some a) => match P.underlying s with
      | some (.struct fields) => match fields[f]? with
        | none => none
        | some g => match P.info? g.type with
          | none => none
          | some i => bif Nat.beq i.size 0 then none else some (.pointer (some (a.add g.offset)), h)
      | _ => none
    | _ => none
  | .field t x f => match e x with
    | .agg cs => match P.underlying t with
      | some (.struct fields) => match fields[f]? with
        | none => none
        | some g => match P.underlying g.type, P.info? g.type with
          | some (.struct _), some i | some (.array _ _), some i => some (.agg (((cs.toList.drop g.offset).take i.size).toArray), h)
          | some _, _ => match cs[g.offset]? with
            | none => none
            | some v => some (v, h)
          | none, _ => none
      | _ => none
    | _ => none
  | .indexAddr t x i => match aInt (e i) with
    | none => none
    | some n => match e x with
      | .slice (some a) len _ => match P.underlying t with
        | some (.slice el) => match P.info? el with
          | none => none
          | some i => bif decide (0 ≤ n ∧ n < (len : Int)) then some (.pointer (some (a.add (n.toNat * i.size))), h) else none
        | _ => none
      | .pointer (some a) => match P.underlying t with
        | some (.array len el) => match P.info? el with
          | none => none
          | some i => bif decide (0 ≤ n ∧ n < (len : Int)) then some (.pointer (some (a.add (n.toNat * i.size))), h) else none
        | _ => none
      | _ => none
  | .typeAssert x _ as ok => match P.underlying as with
    | none => none
    | some (.interface _) => none
    | some _ => match e x with
      | .iface t u => bif Nat.beq t as then some (bif ok then .tuple #[u, .bool true] else u, h) else aMiss ok as
      | .nilIface => aMiss ok as
      | _ => none
  | .extract t i => match e t with
    | .tuple vs => match vs[i]? with
      | none => none
      | some v => some (v, h)
    | _ => none
  | .build t parts => match aPlace P t, P.info? t with
    | some place, some i => match zeroOf i with
      | none => none
      | some z => match fillL place z.cells.toList (parts.toList.map fun p => (p.1, e p.2)) with
        | none => none
        | some cs => some (.agg cs.toArray, h)
    | _, _ => none
  | .buildSlice t len parts => match P.underlying t with
    | some (.slice el) => match P.info? el with
      | none => none
      | some i => match zeroOf i with
        | none => none
        | some z => bif Nat.ble (len * i.size) 1000000 && Nat.blt len 1000000 && Nat.beq z.cells.toList.length i.size then
            match fillL (fun k => some (k * i.size, i.size)) (copies z.cells.toList len) (parts.toList.map fun p => (p.1, e p.2)) with
            | none => none
            | some cs => match aRow el cs h with
              | none => none
              | some (b, h) => some (.slice (some ⟨b, 0, none⟩) len len, h)
          else none
    | _ => none
  | .lookup t x k ok => match e x with
    | .map none => none
    | .map (some r) => match P.underlying t, h.get r with
      | some (.map kt et), some ⟨0, _, _, some (.map es _), none, _⟩ =>
        bif plainN 4 (e k) then
          match arun P (Instr.checkKey es.isEmpty 10000 kt (e k)) noMem, arun P (Instr.findKey kt (e k) es.toList) noMem with
          | some _, some (some (_, v), _) => some (bif ok then .tuple #[v, .bool true] else v, h)
          | some _, some (none, _) => match P.info? et with
            | none => none
            | some i => match zeroOf i with
              | none => none
              | some z => some (bif ok then .tuple #[z, .bool false] else z, h)
          | _, _ => none
        else none
      | _, _ => none
    | _ => none
  | .mapUpdate t m k x => aUpd t m k x
  | .insert t m k x => aUpd t m k x
  | .binOp op t x y _ => match op with
    | .eql => bif aNilB P t (e x) (e y) then some (.bool false, h) else aQuiet P o e h
    | .neq => bif aNilB P t (e x) (e y) then some (.bool true, h) else aQuiet P o e h
    | _ => aQuiet P o e h
  | .unOp .. => aQuiet P o e h
  | .index .. => aQuiet P o e h
  | .convert src dst x => match e x with
    | .slice (some a) len _ => match P.underlying src, P.underlying dst with
      | some (.slice el), some .string => match P.underlying el, firstN h a len with
        | some (.int .u8), some l => match aBytes l with
          | none => none
          | some bs => some (.string ⟨bs.toArray⟩, h)
        | _, _ => none
      | _, _ => none
    | _ => aQuiet P o e h
  | .call c => match c.callee with
    | .builtin .len => match c.args.toList with
      | [x] => match e x with
        | .slice _ n _ => match (c.argTypes[0]?).bind P.underlying with
          | some (.slice _) => some (.int .i64 n, h)
          | _ => none
        | .map (some r) => match (c.argTypes[0]?).bind P.underlying, h.get r with
          | some (.map _ _), some ⟨0, _, _, some (.map es _), none, _⟩ => some (.int .i64 es.size, h)
          | _, _ => none
        | _ => aQuiet P o e h
      | _ => none
    | .builtin .cap => match c.args.toList with
      | [x] => match e x with
        | .slice _ _ m => match (c.argTypes[0]?).bind P.underlying with
          | some (.slice _) => bif Nat.blt m BIG then some (.int .i64 m, h) else none
          | _ => none
        | _ => none
      | _ => none
    | .builtin .min => aQuiet P o e h
    | .builtin .max => aQuiet P o e h
    | .builtin .append => match c.args.toList with
      | [x, y] => aAppend P c.argTypes (e x) (e y) h
      | _ => none
    | .builtin .copy => match c.args.toList, (c.argTypes[0]?).bind P.underlying with
      | [x, y], some (.slice el) => match P.info? el, e x with
        | some i, .slice base dl _ => match (match e y with
            | .slice _ n _ => some n
            | .string s => some s.size
            | _ => none) with
          | none => none
          | some n => match cellsOf h i.size (Nat.min n dl) (e y) with
            | none => none
            | some cs => aPut base cs (Nat.min n dl) h
        | _, _ => none
      | _, _ => none
    | _ => none
  | _ => none
  where
  aMiss (ok : Bool) (as : TypeId) : Option (Value × AH) :=
    bif ok then match P.info? as with
      | none => none
      | some i => match zeroOf i with
        | none => none
        | some z => some (.tuple #[z, .bool false], h)
    else none
  aUpd (t : TypeId) (m k x : Operand) : Option (Value × AH) :=
    match e m with
    | .map (some r) => match P.underlying t, h.get r with
      | some (.map kt _), some ⟨0, _, _, some (.map es clock), none, _⟩ =>
        bif plainN 4 (e k) then
          match arun P (Instr.checkKey false 10000 kt (e k)) noMem, arun P (Instr.findKey kt (e k) es.toList) noMem with
          | some _, some (some (i, _), _) => bif Instr.sameBits 10000 (((es[i]?).map (·.key)).getD (e k)) (e k) then
              some (undef, h.put r ⟨0, [], 0, some (.map (es.modify i fun n => { n with key := e k, val := e x }) clock), none, 0⟩) else none
          | some _, some (none, _) => some (undef, h.put r ⟨0, [], 0, some (.map (es.push { key := e k, val := e x, born := clock }) (clock + 1)), none, 0⟩)
          | _, _ => none
        else none
      | _, _ => none
    | _ => none

def wants (ops : Array Oper) (s : St) (o : Oper) : Bool :=
  match o.guard with
  | none => true
  | some (j, want) => match s.yielded ops j with
    | some b => b == want
    | none => false

def fnOk (P : Program) (f : FuncId) : Bool :=
  match P.funcs[f]? with
  | some fn => fn.body.isSome
  | none => false

/-- the receiver that a field step leads to -/
def aVia (P : Program) (s : FieldStep) (ptr : Bool) (v : Value) (h : AH) : Option Value :=
  match s.deref, v, P.underlying s.struct with
  | true, .pointer (some a), some (.struct fields) => match fields[s.index]? with
    | none => none
    | some g => match P.info? g.type, P.underlying g.type with
      | some i, some d => bif Nat.beq i.size 0 then none else match d with
        | .pointer _ => none
        | _ => bif ptr then some (.pointer (some (a.add g.offset))) else aLoad P g.type (a.add g.offset) h
      | _, _ => none
  | _, _, _ => none

/-- the function that a method is, and its receiver -/
def aRecv (P : Program) (t : TypeId) (v : Value) (name : String) (h : AH) : Option (FuncId × Value) :=
  match P.info? t with
  | none => none
  | some i => match i.methods.find? (·.name == name) with
    | none => none
    | some m => match m.func with
      | none => none
      | some (f, ptr) => match m.path.toList with
        | [] => match P.underlying t, ptr with
          | some (.pointer _), true => some (f, v)
          | some (.pointer el), false => match v with
            | .pointer (some p) => match aLoad P el p h with
              | none => none
              | some u => some (f, u)
            | _ => none
          | some _, false => some (f, v)
          | _, _ => none
        | [st] => match aVia P st ptr v h with
          | none => none
          | some u => some (f, u)
        | _ => none

/-- a string's bytes, as a new row whose room is not known -/
def aConvB (P : Program) (dst : TypeId) (b : ByteArray) (h : AH) : Option (Value × AH) :=
  match P.underlying dst with
  | some (.slice el) => match P.underlying el, P.info? el with
    | some (.int .u8), some i => bif Nat.beq i.size 1 && Nat.blt h.next 16000 then
        some (.slice (some ⟨h.next, 0, none⟩) b.size (BIG + b.size), h.add ⟨1, (b.data.map fun b => Value.int .u8 b.toNat).toList, el, none, none, i.size⟩)
      else none
    | _, _ => none
  | _ => none

/-- bytes turned into bytes: no cell is touched -/
def aMarkB (P : Program) (src dst : TypeId) (v : Value) (h : AH) : Option (Value × AH) :=
  match v with
  | .slice (some a) l c => match P.underlying src, P.underlying dst with
    | some (.slice _), some (.slice e) => match P.underlying e, h.get a.block with
      | some (.int .u8), some o => bif Nat.beq src dst && Nat.blt o.kind 2 && o.obj.isNone && o.loop.isNone then some (.slice (some a) l c, h.put a.block o) else none
      | _, _ => none
    | _, _ => none
  | _ => none

/-- a conversion that makes or marks memory -/
def aConv (P : Program) (src dst : TypeId) (v : Value) (h : AH) : Option (Value × AH) :=
  match v with
  | .string b => bif (P.underlying src).isSome then aConvB P dst b h else none
  | v => aMarkB P src dst v h

def evOp (hd : Hd) (P : Program) (o : Oper) (s : St) : Option St :=
  match o.op with
  | .convert src dst x => match aConv P src dst (s.eval x) s.H with
    | some (v, h) => some (s.putH h o.dst v)
    | none => match aOp P o s.eval s.H with
      | none => none
      | some (v, h) => some (s.putH h o.dst v)
  | .call c => match c.callee with
    | .value f => match s.eval f with
      | .func (.func g) first captured => bif fnOk P g then
          match hd.enter g (first.toList ++ c.args.toList.map s.eval ++ captured.toList) s.H with
          | none => none
          | some (v, h) => some (s.putH h o.dst v)
        else none
      | .func (.yield l) first _ => match hd.round l (first.toList ++ c.args.toList.map s.eval) s.H with
          | none => none
          | some (v, h) => some (s.putH h o.dst v)
      | _ => none
    | .invoke r name => match s.eval r with
      | .iface t u => match aRecv P t u name s.H with
        | none => none
        | some (g, x) => bif fnOk P g then
            match hd.enter g (x :: c.args.toList.map s.eval) s.H with
            | none => none
            | some (v, h) => some (s.putH h o.dst v)
          else none
      | _ => none
    | .builtin _ => match aOp P o s.eval s.H with
      | none => none
      | some (v, h) => some (s.putH h o.dst v)
  | _ => match aOp P o s.eval s.H with
    | none => none
    | some (v, h) => some (s.putH h o.dst v)

/-- what a panic bears -/
def panV : Value → Bool
  | .iface _ u => plainN 4 u
  | _ => false

def wrapS : Option St → Option (Option Value × St)
  | none => none
  | some s => some (none, s)

/-- an operation that may panic: with what it does -/
def evOpX (hd : Hd) (P : Program) (o : Oper) (s : St) : Option (Option Value × St) :=
  match o.op with
  | .call c => match c.callee with
    | .value f => match s.eval f with
      | .func (.func g) first captured => bif fnOk P g then
          match hd.call g (first.toList ++ c.args.toList.map s.eval ++ captured.toList) s.H with
          | none => none
          | some (p, v, h) => bif p then some (some v, s.putH h none undef) else some (none, s.putH h o.dst v)
        else none
      | _ => wrapS (evOp hd P o s)
    | _ => wrapS (evOp hd P o s)
  | .panic x => bif panV (s.eval x) then some (some (s.eval x), s) else none
  | _ => wrapS (evOp hd P o s)

def evOps (hd : Hd) (P : Program) (ops : Array Oper) : List Nat → St → Option (Option Value × St)
  | [], s => some (none, s)
  | i :: l, s => match ops[i]? with
    | none => none
    | some o => bif wants ops s o then
        match evOpX hd P o s with
        | none => none
        | some (none, s) => evOps hd P ops l s
        | some (some v, s) => some (some v, s)
      else evOps hd P ops l (s.put o.dst undef)

/-- the same, over the operations themselves -/
def evOpsL (hd : Hd) (P : Program) (ops : Array Oper) : List Oper → St → Option (Option Value × St)
  | [], s => some (none, s)
  | o :: l, s => bif wants ops s o then
        match evOpX hd P o s with
        | none => none
        | some (none, s) => evOpsL hd P ops l s
        | some (some v, s) => some (some v, s)
      else evOpsL hd P ops l (s.put o.dst undef)

/-- the same, where a call may be deferred: the function that is, and what it is called with -/
def aDefer (P : Program) (o : Oper) (s : St) : Option (Option ADef) :=
  match o.op with
  | .defer c => match c.callee with
    | .value f => match s.eval f with
      | .func (.func g) first captured => bif fnOk P g then some (some ⟨none, g, first.toList ++ c.args.toList.map s.eval ++ captured.toList⟩) else some none
      | _ => some none
    | _ => some none
  | _ => none
def St.defer (s : St) (d : ADef) (dst : Option Tmp) : St := St.casesOn s fun T n D H => St.put ⟨T, n, d :: D, H⟩ dst undef

def evOpsD (hd : Hd) (P : Program) (ops : Array Oper) : List Oper → St → Option (Option Value × St)
  | [], s => some (none, s)
  | o :: l, s => bif wants ops s o then
        match aDefer P o s with
        | some none => none
        | some (some d) => evOpsD hd P ops l (s.defer d o.dst)
        | none => match evOpX hd P o s with
          | none => none
          | some (none, s) => evOpsD hd P ops l s
          | some (some v, s) => some (some v, s)
      else evOpsD hd P ops l (s.put o.dst undef)

def exitOf : Option Value → Exit
  | none => .normal
  | some v => .panic [{ v, recovered := false }]

/-- 0: hangs on its operands alone; 1: reads memory; 2: makes a block; 3: acts -/
def kindOf : Op → Nat
  | .move _ | .assign _ | .pick .. | .build .. | .nilCheck _ | .binOp .. | .unOp .. | .makeInterface .. | .makeFunc ..
  | .fieldAddr .. | .field .. | .indexAddr .. | .index .. | .extract .. | .typeAssert .. => 0
  | .call { callee := .builtin .len, .. } => 0
  | .call { callee := .builtin .cap, .. } => 0
  | .call { callee := .builtin .min, .. } => 0
  | .call { callee := .builtin .max, .. } => 0
  | .load .. | .lookup .. | .slice .. | .convert .. => 1
  | .alloc _ | .box .. | .buildSlice .. | .makeMap _ none | .makeSlice .. => 2
  | _ => 3

/-- whom an operation waits for -/
def predsOf (ops : Array Oper) (i : Nat) : List Nat :=
  match ops[i]? with
  | none => []
  | some o => (o.after.toList.filter (Region.binds .any ·)).map (·.on)
def looksOf (ops : Array Oper) (i : Nat) : List Tmp :=
  match ops[i]? with
  | none => []
  | some o => o.looksAt ops
def dstOf (ops : Array Oper) (i : Nat) : Option Tmp := (ops[i]?).bind (·.dst)
def inL (d : Option Tmp) (l : List Tmp) : Bool :=
  match d with
  | none => false
  | some d => l.contains d
def sameD (a b : Option Tmp) : Bool :=
  match a, b with
  | some x, some y => Nat.beq x y
  | _, _ => false

def sameL (f : Value → Value → Bool) : List Value → List Value → Bool
  | [], [] => true
  | x :: l, y :: m => f x y && sameL f l m
  | _, _ => false

def sameV : Nat → Value → Value → Bool
  | 0, _, _ => false
  | n + 1, x, y => match x, y with
    | .bool a, .bool b => a == b
    | .int k a, .int j b => decide (k = j) && decide (a = b)
    | .string a, .string b => decide (a = b)
    | .pointer a, .pointer b => decide (a = b)
    | .slice a l c, .slice b m d => decide (a = b) && Nat.beq l m && Nat.beq c d
    | .map a, .map b => decide (a = b)
    | .nilFunc, .nilFunc => true
    | .nilIface, .nilIface => true
    | .iface t u, .iface t' u' => Nat.beq t t' && sameV n u u'
    | .func f a b, .func g c d => decide (f = g) && sameL (sameV n) a.toList c.toList && sameL (sameV n) b.toList d.toList
    | .agg a, .agg b => sameL (sameV n) a.toList b.toList
    | .tuple a, .tuple b => sameL (sameV n) a.toList b.toList
    | _, _ => false

def valOf : Option (Value × AH) → Option Value
  | none => none
  | some (v, _) => some v

/-- what was read ahead is still so -/
def recheck (P : Program) (ops : Array Oper) (s : St) : List (Nat × Value) → Bool
  | [] => true
  | (i, v) :: l => (match ops[i]? with
    | none => false
    | some o => match valOf (aOp P o s.eval s.H) with
      | none => false
      | some u => sameV 6 u v) && recheck P ops s l

/-- a block that is made: what lies in it, and the value that bears its number -/
def aAlloc (P : Program) (o : Oper) (e : Operand → Value) : Option (AO × (Nat → Value)) :=
  match o.op with
  | .alloc t => match P.info? t with
    | none => none
    | some i => match zeroOf i with
      | none => none
      | some z => some (⟨0, z.cells.toList, t, none, none, 0⟩, fun b => .pointer (some ⟨b, 0, none⟩))
  | .box t x => some (⟨0, (e x).cells.toList, t, none, none, 0⟩, fun b => .pointer (some ⟨b, 0, none⟩))
  | .makeMap _ none => some (⟨0, [], 0, some (.map #[] 0), none, 0⟩, fun b => .map (some b))
  | .makeSlice t l c => match P.underlying t with
    | some (.slice el) => match P.info? el, aInt (e l), aInt (e c) with
      | some i, some n, some m => bif decide (0 ≤ n ∧ n ≤ m ∧ m < 2 ^ 40 ∧ m * i.bytes < 2 ^ 40) then
          match zeroOf i with
          | none => none
          | some z => bif Nat.beq z.cells.toList.length i.size then some (⟨0, copies z.cells.toList m.toNat, el, none, none, 0⟩, fun b => .slice (some ⟨b, 0, none⟩) n.toNat m.toNat) else none
        else none
      | _, _, _ => none
    | _ => none
  | .buildSlice t len parts => match P.underlying t with
    | some (.slice el) => match P.info? el with
      | none => none
      | some i => match zeroOf i with
        | none => none
        | some z => bif Nat.ble (len * i.size) 1000000 && Nat.blt len 1000000 && Nat.beq z.cells.toList.length i.size then
            match fillL (fun k => some (k * i.size, i.size)) (copies z.cells.toList len) (parts.toList.map fun p => (p.1, e p.2)) with
            | none => none
            | some cs => some (⟨0, cs, el, none, none, 0⟩, fun b => .slice (some ⟨b, 0, none⟩) len len)
          else none
    | _ => none
  | _ => none

/-- what is planned of a region's operations: which are done ahead of their time, and whom an operation comes behind -/
structure Zt where
  lz : Nat → Bool
  an : Nat → Nat → Bool
  sw : Nat → Nat → Bool

def still (l : Nat → Bool) (rd : List (Nat × Value)) : List (Nat × Value) := rd.filter fun p => !l p.1

/-- where something is stored -/
def storeAt (o : Oper) (s : St) : Option Nat :=
  match o.guard, o.dst, o.op with
  | none, none, .store _ a _ => match s.eval a with
    | .pointer (some p) => some p.block
    | _ => none
  | _, _, _ => none

/-- two that store into unlike blocks: the second could as well be first -/
def swapsOk (hd : Hd) (P : Program) (ops : Array Oper) (oi oj : Oper) (anj : Nat → Bool) (rd : List (Nat × Value)) (s : St) : Bool :=
  match storeAt oi s, storeAt oj s with
  | some b, some c => bif Nat.beq b c || !(Nat.blt b 16384) || !(Nat.blt c 16384) then false else match evOp hd P oj s with
    | none => false
    | some s' => recheck P ops s' (still anj rd)
  | _, _ => false

def swapFine (hd : Hd) (P : Program) (z : Zt) (ops : Array Oper) (i : Nat) (l : List Nat) (rd : List (Nat × Value)) (s : St) : Bool :=
  match l with
  | [] => true
  | j :: _ => bif z.sw i j then match ops[i]?, ops[j]? with
      | some oi, some oj => swapsOk hd P ops oi oj (z.an j) rd s
      | _, _ => false
    else true

def evPlan (hd : Hd) (P : Program) (z : Zt) (ops : Array Oper) : List Nat → List (Nat × Value) → St → Option St
  | [], _, s => some s
  | i :: l, rd, s => match ops[i]? with
    | none => none
    | some o => bif wants ops s o then
        match (bif z.lz i then kindOf o.op else 3) with
        | 0 => match valOf (aOp P o s.eval noMem) with
          | none => none
          | some v => evPlan hd P z ops l rd (s.put o.dst v)
        | 1 => match valOf (aOp P o s.eval s.H) with
          | none => none
          | some v => evPlan hd P z ops l ((i, v) :: rd) (s.put o.dst v)
        | 2 => match aAlloc P o s.eval with
          | none => none
          | some (c, mk) => bif Nat.blt s.H.next 16000 then
              let s' := s.putH (s.H.add c) o.dst (mk s.H.next)
              bif recheck P ops s' rd then evPlan hd P z ops l rd s' else none
            else none
        | _ => match evOp hd P o s with
          | none => none
          | some s' => bif recheck P ops s' (still (z.an i) rd) && swapFine hd P z ops i l rd s then evPlan hd P z ops l (still (z.an i) rd) s' else none
      else evPlan hd P z ops l rd (s.put o.dst undef)

/-- an operation ahead of another one in the plan -/
def pairOk (z : Zt) (ops : Array Oper) (a b : Nat) : Bool :=
  !(predsOf ops a).contains b && !Nat.beq a b &&
  (!z.lz a || (((!inL (dstOf ops b) (looksOf ops a) && !sameD (dstOf ops b) (dstOf ops a)) || (!z.lz b && z.an b a)) && (!inL (dstOf ops a) (looksOf ops b) || (predsOf ops b).contains a)))
def selfOk (z : Zt) (ops : Array Oper) (a : Nat) : Bool :=
  Nat.blt a ops.size && (predsOf ops a).all (Nat.blt · ops.size) && !(predsOf ops a).contains a && (!z.lz a || !inL (dstOf ops a) (looksOf ops a))
/-- a store that is always made -/
def isSto (o : Oper) : Bool :=
  match o.guard, o.dst, o.op with
  | none, none, .store _ _ _ => true
  | _, _, _ => false
def isStoAt (ops : Array Oper) (i : Nat) : Bool := match ops[i]? with
  | none => false
  | some o => isSto o
def waitOk (ops : Array Oper) (m : List Nat) (j : Nat) : Bool := (predsOf ops j).any (fun p => m.contains p)
/-- two that act and of which neither waits for the other, the second behind the first in the plan -/
def twoOk (z : Zt) (ops : Array Oper) (a : Nat) : List Nat → Bool
  | [] => false
  | b :: l => z.sw a b && !(z.sw b a) && !z.lz a && !z.lz b && isStoAt ops a && isStoAt ops b && pairOk z ops b a && l.all (waitOk ops (a :: b :: l)) && l.all (waitOk ops (a :: l)) &&
    (match l with
     | [] => true
     | c :: _ => !z.sw a c && !z.sw b c)
def orderW (z : Zt) (ops : Array Oper) : List Nat → Bool
  | [] => true
  | a :: l => selfOk z ops a && l.all (pairOk z ops a) && orderW z ops l
def orderOk (z : Zt) (ops : Array Oper) : List Nat → Bool
  | [] => true
  | a :: l => selfOk z ops a && l.all (pairOk z ops a) && (z.lz a || l.all (waitOk ops (a :: l)) || twoOk z ops a l) && orderOk z ops l

/-! the same, by numbers whose bits are sets -/
def tb (m d : Nat) : Bool := Nat.beq (Nat.mod (Nat.shiftRight m d) 2) 1
def maskOf : List Nat → Nat
  | [] => 0
  | i :: l => Nat.lor (Nat.shiftLeft 1 i) (maskOf l)
structure Pr where
  i : Nat
  o : Oper
  pm : Nat
  lm : Nat
  lz : Bool
  an : Nat
  sw : Nat
def dIn (d : Option Tmp) (m : Nat) : Bool := match d with
  | none => false
  | some d => tb m d
def afterOf (o : Oper) : List Nat := (o.after.toList.filter (Region.binds .any ·)).map (·.on)
def rowsOf (ops : Array Oper) : List Oper → Nat → List Pr
  | [], _ => []
  | o :: l, i => ⟨i, o, maskOf (afterOf o), maskOf (o.looksAt ops), Nat.blt (kindOf o.op) 3, 0, 0⟩ :: rowsOf ops l (Nat.succ i)
/-- nobody else writes its slot, and who looks at that waits for it -/
def alone (rows : List Pr) (r : Pr) : Bool := rows.all fun a => Nat.beq a.i r.i || (!sameD a.o.dst r.o.dst && (!dIn r.o.dst a.lm || tb a.pm r.i))
def lazied (rows : List Pr) : List Pr → List Pr
  | [] => []
  | r :: l => ⟨r.i, r.o, r.pm, r.lm, r.lz && alone rows r, 0, 0⟩ :: lazied rows l
def pickZ (z : Bool) (done : Nat) : List Pr → Option (Pr × List Pr)
  | [] => none
  | r :: l => bif Nat.beq (Nat.land r.pm done) r.pm && (z || r.lz) then some (r, l) else match pickZ z done l with
    | none => none
    | some (x, m) => some (x, r :: m)
def ancM (pm : Nat) : List Pr → Nat
  | [] => pm
  | q :: l => bif tb pm q.i then Nat.lor q.an (ancM pm l) else ancM pm l
def pickA (done : Nat) (rows : List Pr) : Option (Pr × List Pr) := match pickZ false done rows with
  | some x => some x
  | none => pickZ true done rows
def planned : Nat → Nat → List Pr → List Pr → Option (List Pr)
  | 0, _, _, _ => some []
  | n + 1, done, rows, acc => match pickA done rows with
    | none => none
    | some (r, rows) => match planned n (Nat.lor (Nat.shiftLeft 1 r.i) done) rows (⟨r.i, r.o, r.pm, r.lm, r.lz, ancM r.pm acc, 0⟩ :: acc) with
      | none => none
      | some l => some (⟨r.i, r.o, r.pm, r.lm, r.lz, ancM r.pm acc, 0⟩ :: l)
/-- which may change places with the next one -/
def swapped : List Pr → List Pr
  | [] => []
  | a :: l => ⟨a.i, a.o, a.pm, a.lm, a.lz, a.an, match l with
    | [] => 0
    | b :: _ => bif a.lz || b.lz || tb b.an a.i then 0 else Nat.succ b.i⟩ :: swapped l
def swF (a b : Pr) : Bool := Nat.beq a.sw (Nat.succ b.i)
def pairF (a b : Pr) : Bool :=
  !tb a.pm b.i && !Nat.beq a.i b.i && (!a.lz || (((!dIn b.o.dst a.lm && !sameD b.o.dst a.o.dst) || (!b.lz && tb b.an a.i)) && (!dIn a.o.dst b.lm || tb b.pm a.i)))
def selfF (n : Nat) (a : Pr) : Bool := Nat.blt a.i n && Nat.blt a.pm (Nat.shiftLeft 1 n) && !tb a.pm a.i && (!a.lz || !dIn a.o.dst a.lm)
def waitF (m : Nat) (j : Pr) : Bool := !Nat.beq (Nat.land j.pm m) 0
def maskP (l : List Pr) : Nat := maskOf (l.map (·.i))
def twoF (a : Pr) : List Pr → Bool
  | [] => false
  | b :: l => swF a b && !(swF b a) && !a.lz && !b.lz && isSto a.o && isSto b.o && pairF b a && l.all (waitF (maskP (a :: b :: l))) && l.all (waitF (maskP (a :: l))) &&
    (match l with
     | [] => true
     | c :: _ => !swF a c && !swF b c)
def orderF (n : Nat) : List Pr → Bool
  | [] => true
  | a :: l => selfF n a && l.all (pairF a) && (a.lz || l.all (waitF (maskP (a :: l))) || twoF a l) && orderF n l

/-- the plan of a region, where it is one -/
def thePlan (ops : Array Oper) : Option (List Pr) :=
  match planned ops.size 0 (lazied (rowsOf ops ops.toList 0) (rowsOf ops ops.toList 0)) [] with
  | none => none
  | some l => bif orderF ops.size (swapped l) && Nat.beq (swapped l).length ops.size && Nat.beq (maskP (swapped l)) (Nat.sub (Nat.shiftLeft 1 ops.size) 1) then some (swapped l) else none

def swapFineF (hd : Hd) (P : Program) (ops : Array Oper) (r : Pr) (l : List Pr) (rd : List (Nat × Value)) (s : St) : Bool :=
  match l with
  | [] => true
  | q :: _ => bif swF r q then swapsOk hd P ops r.o q.o (tb q.an) rd s else true

def evPlanF (hd : Hd) (P : Program) (ops : Array Oper) : List Pr → List (Nat × Value) → St → Option St
  | [], _, s => some s
  | r :: l, rd, s => bif wants ops s r.o then
        match (bif r.lz then kindOf r.o.op else 3) with
        | 0 => match valOf (aOp P r.o s.eval noMem) with
          | none => none
          | some v => evPlanF hd P ops l rd (s.put r.o.dst v)
        | 1 => match valOf (aOp P r.o s.eval s.H) with
          | none => none
          | some v => evPlanF hd P ops l ((r.i, v) :: rd) (s.put r.o.dst v)
        | 2 => match aAlloc P r.o s.eval with
          | none => none
          | some (c, mk) => bif Nat.blt s.H.next 16000 then
              let s' := s.putH (s.H.add c) r.o.dst (mk s.H.next)
              bif recheck P ops s' rd then evPlanF hd P ops l rd s' else none
            else none
        | _ => match evOp hd P r.o s with
          | none => none
          | some s' => bif recheck P ops s' (still (tb r.an) rd) && swapFineF hd P ops r l rd s then evPlanF hd P ops l (still (tb r.an) rd) s' else none
      else evPlanF hd P ops l rd (s.put r.o.dst undef)

def evDraw (hd : Hd) (P : Program) (ops : Array Oper) (s : St) : Option St :=
  match thePlan ops with
  | none => none
  | some l => evPlanF hd P ops l [] s

def iter (body : St → Option (Exit × St)) : Nat → St → Option (Exit × St)
  | 0, _ => none
  | n + 1, s => match body s with
    | some (.normal, s) => iter body n s
    | r => r

def loopO (lp : ALoop) : AO := ⟨0, [], 0, none, some lp, 0⟩

def AH.getLp (h : AH) (l : Nat) : Option ALoop :=
  match h.get l with
  | some ⟨0, _, _, _, some lp, _⟩ => some lp
  | _ => none

/-- the block for a loop's deferred calls, and the mark -/
def inLoop (ro : Option Nat) (h : AH) : Option (Nat × AH × List ADef) :=
  match ro with
  | none => some (h.next, h.add ⟨0, [], 0, some (.deferred (some [])), none, 0⟩, [⟨some h.next, 0, []⟩])
  | some l => match h.getLp l with
    | none => none
    | some lp => some (lp.defers, h, [])

def jumpOf (c : Option Code) (s : St) : Option (Exit × St) :=
  match c with
  | none => some (.normal, s)
  | some .ret => some (.ret, s)
  | some (.exit id) => some (.exit id, s)
  | _ => none

def evCode (hd : Hd) (P : Program) (ro : Option Nat) : Code → St → Option (Exit × St)
  | .skip, s => some (.normal, s)
  | .region _ ops draw, s => match draw with
    | false => match (match ro with
          | none => evOpsD hd P ops ops.toList s
          | some _ => evOpsL hd P ops ops.toList s) with
      | none => none
      | some (p, s) => some (exitOf p, s)
    | true => match evDraw hd P ops s with
      | none => none
      | some s => some (.normal, s)
  | .seq a b, s => match evCode hd P ro a s with
    | some (.normal, s) => evCode hd P ro b s
    | r => r
  | .cond c x y, s => match s.eval c with
    | .bool true => evCode hd P ro x s
    | .bool false => evCode hd P ro y s
    | _ => none
  | .block id c, s => match evCode hd P ro c s with
    | some (.exit i, s) => bif Nat.beq i id then some (.normal, s) else some (.exit i, s)
    | r => r
  | .loop c, s => iter (evCode hd P ro c) 100000 s
  | .rangeFunc f ps assign body, s =>
    match s.eval f with
    | .func (.func g) first captured =>
      bif fnOk P g && Nat.blt s.H.next 15998 then
        match inLoop ro s.H with
        | none => none
        | some (d, h, mark) =>
          match hd.enter g (first.toList ++ [.func (.yield h.next) #[] #[]] ++ captured.toList) (h.add (loopO ⟨.ready, none, s.T, s.n, ps, assign, body, d⟩)) with
          | none => none
          | some (_, h2) => match h2.getLp h.next with
            | none => none
            | some lp => bif lp.state == .busy then none
              else jumpOf lp.pending { s with D := mark ++ s.D, H := h2.put h.next (loopO { lp with state := .exhausted }) }
      else none
    | _ => none
  | .exit id, s => some (.exit id, s)
  | .scope c, s => match evCode hd P ro c s with
    | some (.goto _, _) => none
    | r => r
  | .label _, s => some (.normal, s)
  | .goto _, _ => none
  | .ret, s => some (.ret, s)
  | .refuse _, _ => none

def aresults (P : Program) (s : St) : List ResultVar → Option (List Value)
  | [] => some []
  | .tmp t :: l => match aresults P s l with
    | none => none
    | some vs => some (s.eval (.tmp t) :: vs)
  | .cell a t :: l => match s.eval (.tmp a) with
    | .pointer (some p) => match aLoad P t p s.H with
      | some v => match aresults P s l with
        | none => none
        | some vs => some (v :: vs)
      | none => none
    | _ => none

/-- a function is left: its deferred calls are made; what is panicking -/
def shut (hd : Hd) (p : Option Value) : List ADef → AH → Option (Option Value × AH)
  | [], h => some (p, h)
  | d :: l, h => match d.mark with
    | some b => match h.get b with
      | some ⟨0, _, _, some (.deferred (some [])), none, _⟩ => shut hd p l (h.put b ⟨0, [], 0, some (.deferred none), none, 0⟩)
      | _ => none
    | none => match hd.defd d.fn d.args p h with
      | none => none
      | some (p, h) => shut hd p l h

def isRecover (o : Oper) : Bool :=
  o.guard.isNone && match o.op with
    | .call c => match c.callee with
      | .builtin .recover => true
      | _ => false
    | _ => false

/-- what recover hands over -/
def recV : Option Value → Value
  | none => .nilIface
  | some v => v
def recOk : Option Value → Bool
  | none => true
  | some v => panV v

/-- the body of a function that is called as a deferred one: what is panicking, and may be recovered where a region opens with recover -/
def evDef (hd : Hd) (P : Program) : Code → Option Value → St → Option (Exit × Option Value × St)
  | .seq a b, p, s => match evDef hd P a p s with
    | some (.normal, p, s) => evDef hd P b p s
    | r => r
  | .cond c x y, p, s => match s.eval c with
    | .bool true => evDef hd P x p s
    | .bool false => evDef hd P y p s
    | _ => none
  | .region id ops false, p, s => match ops.toList with
    | o :: l => bif isRecover o then bif recOk p then match evOpsL hd P ops l (s.put o.dst (recV p)) with
        | some (none, s) => some (.normal, none, s)
        | _ => none
        else none
      else match evCode hd P none (.region id ops false) s with
        | none => none
        | some (e, s) => some (e, p, s)
    | [] => some (.normal, p, s)
  | c, p, s => match evCode hd P none c s with
    | none => none
    | some (e, s) => some (e, p, s)

def laidT : List Value → Nat → Option (Tri Value) → Option (Tri Value)
  | [], _, t => t
  | v :: l, i, t => laidT l (i + 1) (some (Tri.s9 t i v))

def putAll (n : Nat) : List (Tmp × Value) → Option (Tri Value) → Option (Tri Value)
  | [], t => t
  | (d, v) :: l, t => putAll n l (bif Nat.blt d n then some (Tri.s9 t d v) else t)

/-- how a round is left: at its end, or by a jump that waits -/
def endOf : Exit → Option (Option Code)
  | .normal => some none
  | .ret => some (some .ret)
  | .exit id => some (some (.exit id))
  | _ => none

def resV : List Value → Value
  | [v] => v
  | vs => .tuple vs.toArray

def endSt : Option Code → LoopState
  | none => .ready
  | some _ => .done

/-- what a call is known to do that only reads what it is given, whatever its blocks are called: its function and arguments, how many variables and blocks there are, what of them it reads; its answer, and of the new blocks those that are told -/
structure Sn where
  f : FuncId
  args : List Value
  gl : Nat
  next : Nat
  ins : List (Nat × List Value)
  v : Value
  next' : Nat
  out : List (Nat × AO)

def insH : List (Nat × List Value) → AH → AH
  | [], h => h
  | (b, cs) :: l, h => insH l (h.put b ⟨2, cs, 0, none, none, 0⟩)
/-- nothing is told of the blocks from a number on -/
def clearH (h : AH) : Nat → Nat → Bool
  | 0, _ => true
  | n + 1, b => (h.get b).isNone && clearH h n (Nat.succ b)
def outH : List (Nat × AO) → AH → AH
  | [], h => h
  | (b, o) :: l, h => outH l (h.put b o)
def lk : List (Nat × Nat) → Nat → Option Nat
  | [], _ => none
  | (x, y) :: l, b => bif Nat.beq x b then some y else lk l b
def simA (mp : Nat → Option Nat) (a b : Addr) : Bool :=
  a.spot.isNone && b.spot.isNone && Nat.beq a.off b.off && (match mp a.block with
    | some c => Nat.beq c b.block
    | none => false)
def simV (mp : Nat → Option Nat) : Nat → Value → Value → Bool
  | 0, _, _ => false
  | n + 1, x, y => match x, y with
    | .bool a, .bool b => a == b
    | .int k a, .int j b => decide (k = j) && decide (a = b)
    | .string a, .string b => decide (a = b)
    | .pointer none, .pointer none => true
    | .pointer (some a), .pointer (some b) => simA mp a b
    | .slice none l c, .slice none m d => Nat.beq l m && Nat.beq c d
    | .slice (some a) l c, .slice (some b) m d => simA mp a b && Nat.beq l m && Nat.beq c d
    | .map none, .map none => true
    | .nilFunc, .nilFunc => true
    | .nilIface, .nilIface => true
    | .iface t u, .iface t' u' => Nat.beq t t' && simV mp n u u'
    | .func (.func f) a b, .func (.func g) c d => Nat.beq f g && sameL (simV mp n) a.toList c.toList && sameL (simV mp n) b.toList d.toList
    | .agg a, .agg b => sameL (simV mp n) a.toList b.toList
    | .tuple a, .tuple b => sameL (simV mp n) a.toList b.toList
    | _, _ => false

def Sn.start (e : Sn) : AH := insH e.ins ⟨e.next, none⟩
def idP : Nat → List (Nat × Nat)
  | 0 => []
  | n + 1 => (n, n) :: idP n
def cA (a b : Addr) (m : List (Nat × Nat)) : List (Nat × Nat) := bif (lk m a.block).isSome then m else (a.block, b.block) :: m
def cL (f : Value → Value → List (Nat × Nat) → List (Nat × Nat)) : List Value → List Value → List (Nat × Nat) → List (Nat × Nat)
  | x :: l, y :: k, m => cL f l k (f x y m)
  | _, _, m => m
def cV : Nat → Value → Value → List (Nat × Nat) → List (Nat × Nat)
  | 0, _, _, m => m
  | n + 1, x, y, m => match x, y with
    | .pointer (some a), .pointer (some b) => cA a b m
    | .slice (some a) _ _, .slice (some b) _ _ => cA a b m
    | .iface _ u, .iface _ u' => cV n u u' m
    | .func _ a b, .func _ c d => cL (cV n) b.toList d.toList (cL (cV n) a.toList c.toList m)
    | .agg a, .agg b => cL (cV n) a.toList b.toList m
    | .tuple a, .tuple b => cL (cV n) a.toList b.toList m
    | _, _ => m
def cIns (h : AH) : List (Nat × List Value) → List (Nat × Nat) → List (Nat × Nat)
  | [], m => m
  | (b, cs) :: l, m => cIns h l (match lk m b with
    | none => m
    | some c => match h.get c with
      | none => m
      | some o => cL (cV 8) cs o.cells m)
def simP (mp : Nat → Option Nat) : List Value → List Value → Bool
  | [], _ => true
  | x :: l, y :: m => simV mp 8 x y && simP mp l m
  | _ :: _, [] => false
def insSim (mp : Nat → Option Nat) (h : AH) : List (Nat × List Value) → Bool
  | [] => true
  | (b, cs) :: l => (match mp b with
    | none => false
    | some c => match h.get c with
      | none => false
      | some o => Nat.blt o.kind 3 && o.obj.isNone && o.loop.isNone && simP mp cs o.cells) && insSim mp h l
def keysOk (n k : Nat) : List (Nat × Nat) → Bool
  | [] => true
  | (x, y) :: l => Nat.blt x n && Nat.blt y k && keysOk n k l
def idOk (m : List (Nat × Nat)) : Nat → Bool
  | 0 => true
  | g + 1 => (match lk m g with
    | none => false
    | some c => Nat.beq c g) && idOk m g
def Sn.mapOf (e : Sn) (args : List Value) (h : AH) : List (Nat × Nat) := cIns h e.ins (cL (cV 8) e.args args (idP e.gl))
def Sn.mp (e : Sn) (m : List (Nat × Nat)) (k : Nat) (b : Nat) : Option Nat := bif Nat.blt b e.next then lk m b else some (Nat.add (Nat.sub b e.next) k)
def renA (mp : Nat → Option Nat) (a : Addr) : Addr := match mp a.block with
  | some c => ⟨c, a.off, a.spot⟩
  | none => a
def renV (mp : Nat → Option Nat) : Nat → Value → Value
  | 0, v => v
  | n + 1, v => match v with
    | .pointer (some a) => .pointer (some (renA mp a))
    | .slice (some a) l c => .slice (some (renA mp a)) l c
    | .iface t u => .iface t (renV mp n u)
    | .func f a b => .func f ((a.toList.map (renV mp n)).toArray) ((b.toList.map (renV mp n)).toArray)
    | .agg a => .agg ((a.toList.map (renV mp n)).toArray)
    | .tuple a => .tuple ((a.toList.map (renV mp n)).toArray)
    | v => v
def renO (mp : Nat → Option Nat) (o : AO) : AO := ⟨o.kind, o.cells.map (renV mp 8), o.elem, none, none, o.esz⟩
def Sn.outR (e : Sn) (mp : Nat → Option Nat) (k : Nat) : List (Nat × AO) → List (Nat × AO)
  | [] => []
  | (b, o) :: l => (Nat.add (Nat.sub b e.next) k, renO mp o) :: e.outR mp k l
def outSim (mp : Nat → Option Nat) : List (Nat × AO) → Bool
  | [] => true
  | (_, o) :: l => sameL (simV mp 8) o.cells (renO mp o).cells && outSim mp l
def Sn.fits (e : Sn) (m : List (Nat × Nat)) (args : List Value) (h : AH) : Bool :=
  keysOk e.next h.next m && idOk m e.gl && sameL (simV (lk m) 8) e.args args && insSim (lk m) h e.ins && clearH h (Nat.sub e.next' e.next) h.next &&
  Nat.ble (Nat.add (Nat.sub e.next' e.next) h.next) 16000 && simV (e.mp m h.next) 8 e.v (renV (e.mp m h.next) 8 e.v) && outSim (e.mp m h.next) e.out
def Sn.use (e : Sn) (m : List (Nat × Nat)) (args : List Value) (h : AH) : Option (Value × AH) :=
  bif e.fits m args h then some (renV (e.mp m h.next) 8 e.v, outH (e.outR (e.mp m h.next) h.next e.out) ⟨Nat.add (Nat.sub e.next' e.next) h.next, h.t⟩) else none
def hitN : List Sn → FuncId → List Value → AH → Option (Value × AH)
  | [], _, _, _ => none
  | e :: l, f, args, h => bif Nat.beq e.f f then
      match e.use (e.mapOf args h) args h with
      | some r => some r
      | none => hitN l f args h
    else hitN l f args h

def sameAO (o p : AO) : Bool :=
  Nat.beq o.kind p.kind && sameL (sameV 8) o.cells p.cells && Nat.beq o.elem p.elem && o.obj.isNone && p.obj.isNone && o.loop.isNone && p.loop.isNone && Nat.beq o.esz p.esz
def outOk (e : Sn) (h : AH) : List (Nat × AO) → Bool
  | [] => true
  | (b, o) :: l => Nat.ble e.next b && Nat.blt b e.next' && Nat.blt o.kind 2 && (match h.get b with
    | none => false
    | some p => sameAO o p) && outOk e h l
def insB (n : Nat) : List (Nat × List Value) → Bool
  | [] => true
  | (b, _) :: l => Nat.blt b n && insB n l
/-- it is what the evaluator answers -/
def Sn.right (e : Sn) : Option (Value × AH) → Bool
  | none => false
  | some (v, h) => sameV 8 v e.v && Nat.beq h.next e.next' && Nat.ble e.next e.next' && Nat.ble e.next' 16000 && insB e.next e.ins && outOk e h e.out

/-- the end of a function: its deferred calls, and its results unless it panics -/
def evEnd (hd : Hd) (P : Program) (fn : Func) (p : Option Value) (s : St) : Option (Bool × Value × AH) :=
  match shut hd p s.D s.H with
  | none => none
  | some (some v, h) => some (true, v, h)
  | some (none, h) => match aresults P { s with H := h } fn.results.toList with
    | some vs => some (false, resV vs, h)
    | none => none

/-- how a body is left, where that is an end of it -/
def endsIn : Exit → Option (Option Value)
  | .normal => some none
  | .ret => some none
  | .panic [⟨v, false, false⟩] => some (some v)
  | _ => none

def evCall (hd : Hd) (P : Program) (K : List Sn) (f : FuncId) (args : List Value) (h : AH) : Option (Bool × Value × AH) :=
  match hitN K f args h with
  | some (v, h) => some (false, v, h)
  | none => match P.funcs[f]? with
    | none => none
    | some fn => match fn.body with
      | none => none
      | some c =>
        bif Nat.ble args.length fn.ntmps then match evCode hd P none c ⟨laidT args 0 none, fn.ntmps, [], h⟩ with
        | none => none
        | some (e, s) => match endsIn e with
          | none => none
          | some p => evEnd hd P fn p s
        else none

def evRound (hd : Hd) (P : Program) (l : Nat) (args : List Value) (h : AH) : Option (Value × AH) :=
  match h.getLp l with
  | none => none
  | some lp0 => bif Nat.beq args.length lp0.params.toList.length then
    match evCode hd P (some l) lp0.assign ⟨putAll lp0.n (lp0.params.toList.zip args) lp0.T, lp0.n, [], h⟩ with
    | some (.normal, s) =>
      match s.H.getLp l with
      | none => none
      | some lp => bif lp.state == .ready then
          match evCode hd P (some l) lp0.body { s with H := s.H.put l (loopO { lp with state := .busy }) } with
          | some (e, s2) =>
            match s2.H.getLp l with
            | none => none
            | some lp2 => match endOf e with
              | none => none
              | some j => bif s2.D.isEmpty then some (.bool j.isNone, s2.H.put l (loopO { lp2 with state := endSt j, pending := j })) else none
          | none => none
        else none
    | _ => none
    else none

def evDefd (hd : Hd) (P : Program) (f : FuncId) (args : List Value) (p : Option Value) (h : AH) : Option (Option Value × AH) :=
  match P.funcs[f]? with
  | none => none
  | some fn => match fn.body with
    | none => none
    | some c =>
      bif Nat.ble args.length fn.ntmps then match evDef hd P c p ⟨laidT args 0 none, fn.ntmps, [], h⟩ with
      | some (.normal, p, s) | some (.ret, p, s) => bif s.D.isEmpty then match aresults P s fn.results.toList with
          | some _ => some (p, s.H)
          | none => none
        else none
      | _ => none
      else none

def ev (P : Program) (K : List Sn) : Nat → Hd
  | 0 => ⟨fun _ _ _ => none, fun _ _ _ => none, fun _ _ _ _ => none⟩
  | d + 1 => ⟨evCall (ev P K d) P K, evRound (ev P K d) P, evDefd (ev P K d) P⟩

end Go.Proofs.Ytbbfajbnklgncaa.Rx
