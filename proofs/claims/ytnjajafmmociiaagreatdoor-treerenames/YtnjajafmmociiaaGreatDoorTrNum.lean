/- strconv.Atoi and Itoa where trees lie: what they answer, and that they only make memory. -/
import Derived.Test.YtnjajafmmociiaaGreatDoorTrSplit
import Derived.Lib.SmallJoins
namespace Go.Proofs.YtnjajafmmociiaaGreatDoor
open Go.RowKit Go.Shelf

/-- What the numbers' packages lean on. -/
structure NumAt (w : World) : Prop where
  syn : ∃ te pe, w.cell? ⟨1, 0, none⟩ = some (.iface te pe)
  rng : ∃ te pe, w.cell? ⟨2, 0, none⟩ = some (.iface te pe)
  tab : Lib.TabIs Tryz.prog w "internal/strconv.uint64pow10" .u64 Lib.pow10Tab
theorem Tryz.globPow : Tryz.prog.globalNamed "internal/strconv.uint64pow10" = some 6 := by kernel_rfl
theorem NumAt.kept {w w' : World} (h : NumAt w) (k : Kept [] w w') : NumAt w' := by
  obtain ⟨a, b, c1⟩ := h.syn
  obtain ⟨a', b', c2⟩ := h.rng
  exact ⟨⟨a, b, cell_kept0 k c1⟩, ⟨a', b', cell_kept0 k c2⟩, Go.Joins.tab_stays Tryz.globPow h.tab k.below (Nat.le_refl _)⟩

theorem kept_grow (w : World) (k : Nat) (os : Array Obj) : Kept [] w (Go.Sort.grow (w.drewN k) os) :=
  ⟨rfl, rfl, rfl, by simp [Go.Sort.grow, World.drewN], fun i hi _ => by
    show ((w.heap ++ os)[i]?) = _
    rw [Array.getElem?_append_left hi]⟩
theorem itoa_any (n : Int) (h0 : -9223372036854775808 ≤ n) (h1 : n ≤ 9223372036854775807) (w : World) (hN : NumAt w) :
    Calls Tryz.prog 76 #[.int .i64 n] w fun e w' => e = .returned (.string ⟨(Lib.itoa n).toArray⟩) ∧ Kept [] w w' := by
  refine (Any.strconv_Itoa Tryz.laysM171 n h0 h1 w hN.tab).mono ?_
  rintro e w' ⟨rfl, k, os, rfl⟩
  exact ⟨rfl, kept_grow w k os⟩
theorem atoi_ok (s : ByteArray) (hs : s.size ≤ 281474976710656) (v : Int) (h : Lib.atoiAll s.data.toList = .ok v) (w : World) :
    Calls Tryz.prog 75 #[.string s] w fun e w' => e = .returned (.tuple #[.int .i64 v, .nilIface]) ∧ Kept [] w w' := by
  refine (Any.strconv_Atoi_ok Tryz.laysC172 s (by omega) v h w).mono ?_
  rintro e w' ⟨rfl, rfl | ⟨t, rfl⟩⟩
  · exact ⟨rfl, Kept.refl [] _⟩
  · exact ⟨rfl, kept_of_below (Go.Joins.below_bytesWorld _ _ _ _ (Nat.le_refl _))⟩
theorem atoi_not (s : ByteArray) (hs : s.size ≤ 281474976710656) (h : ∀ v, Lib.atoiAll s.data.toList ≠ .ok v) (w : World) (hN : NumAt w) :
    Calls Tryz.prog 75 #[.string s] w fun e w' => ∃ n N, e = .returned (.tuple #[.int .i64 n, .iface 189 (.pointer (some ⟨N, 0, none⟩))]) ∧ Kept [] w w' := by
  cases hh : Lib.atoiAll s.data.toList with
  | ok v => exact absurd hh (h v)
  | «syntax» =>
    obtain ⟨te, pe, hc⟩ := hN.syn
    refine (Any.strconv_Atoi_syntax Tryz.laysC172 s hs hh _ w hc (.inr ⟨te, pe, rfl⟩)).mono ?_
    rintro e w' ⟨N, rfl, _, _, hb⟩
    exact ⟨_, N, rfl, kept_of_below hb⟩
  | range =>
    obtain ⟨te, pe, hc⟩ := hN.rng
    refine (Any.strconv_Atoi_range Tryz.laysC172 s hs hh _ w hc (.inr ⟨te, pe, rfl⟩)).mono ?_
    rintro e w' ⟨N, rfl, _, _, hb⟩
    exact ⟨_, N, rfl, kept_of_below hb⟩

/-- A step of a path: the number that it is written as. -/
def stepN (s : List UInt8) : Option Nat := match Lib.atoiAll s with
  | .ok v => if Lib.itoa v == s && decide (0 ≤ v) then some v.toNat else none
  | _ => none
def stepAt (s : List UInt8) (t : Tr) : Option Tr := (stepN s).bind fun i => t.kids[i]?
def goAt (t : Tr) (l : List (List UInt8)) : Option Tr := l.foldl (fun o s => o.bind (stepAt s)) (some t)
theorem goAt_snoc (t : Tr) (l : List (List UInt8)) (s : List UInt8) : goAt t (l ++ [s]) = (goAt t l).bind (stepAt s) := by simp [goAt]
theorem goAt_none (t : Tr) (l r : List (List UInt8)) (h : goAt t l = none) : goAt t (l ++ r) = none := by
  unfold goAt at *
  rw [List.foldl_append, h]
  clear h
  induction r with
  | nil => rfl
  | cons x r ih => rw [List.foldl_cons]; exact ih
/-- What stands at a path; 32 where nothing does. -/
def atT (t : Tr) (p : List UInt8) : Option Tr := if p.isEmpty then some t else goAt t (splitB 46 p)
theorem stepN_not {s : List UInt8} (h : ∀ v, Lib.atoiAll s ≠ .ok v) : stepN s = none := by
  unfold stepN; split
  · next v e => exact absurd e (h v)
  · rfl
theorem stepN_ok {s : List UInt8} {v : Int} (h : Lib.atoiAll s = .ok v) : stepN s = if Lib.itoa v == s && decide (0 ≤ v) then some v.toNat else none := by
  unfold stepN; rw [h]
end Go.Proofs.YtnjajafmmociiaaGreatDoor
