/- The chapter's example, as the laws make it. -/
import Derived.Test.YtnljjbpbgjgnkaaGreatDoorTrEx
namespace Go.Proofs.YtnljjbpbgjgnkaaGreatDoor
open Go.RowKit Go.Shelf

def leafT (s : ByteArray) : Tr := ⟨3, s, []⟩
def bP : ByteArray := ⟨#[112]⟩
def bQ : ByteArray := ⟨#[113]⟩
def nextT : Tr := ⟨9, ⟨#[]⟩, [leafT bP]⟩
def andT : Tr := ⟨5, ⟨#[]⟩, [leafT bQ, nextT]⟩
def exT : Tr := ⟨12, ⟨#[]⟩, [leafT bP, andT]⟩
/-- Such a tree with its kids at b. -/
def AtB (m : Nat) (w : World) (t : Tr) (b n : Nat) : Prop := IsN m w t (.slice (some ⟨b, 0, none⟩) n n)
theorem AtB.kept {m : Nat} {w w' : World} {t : Tr} {b n : Nat} (h : AtB m w t b n) (k : Kept [] w w') : AtB m w' t b n := IsN.kept h k
theorem leaf_at (n : Nat) (w : World) (s : ByteArray) : IsN n w (leafT s) (.slice none 0 0) := IsT.leaf _ _ rfl _ _

theorem exProp (s : ByteArray) (w W : World) (k : Kept [] w W) : Calls Tryz.prog 20 #[.string s] W fun e w' => e = .returned (.agg #[.int .u8 3, .string s, .slice none 0 0]) ∧ Kept [] w w' :=
  (lawProp_any s W).mono fun _ _ h => ⟨h.1, k.trans h.2 (by simp) (by simp)⟩
theorem exNext (w W : World) (k : Kept [] w W) : Calls Tryz.prog 19 #[.int .u8 9, .agg #[.int .u8 3, .string ⟨#[112]⟩, .slice none 0 0]] W fun e w' => ∃ b, e = .returned (.agg #[.int .u8 9, .string ⟨#[]⟩, .slice (some ⟨b, 0, none⟩) 1 1]) ∧ AtB w.heap.size w' nextT b 1 ∧ Kept [] w w' :=
  (lawOne_any w.heap.size 9 (leafT bP) _ W (leaf_at _ W bP) k.size).mono fun _ _ ⟨b, h1, h2, h3⟩ => ⟨b, h1, h2, k.trans h3 (by simp) (by simp)⟩
theorem exAnd (w W : World) (c : Nat) (hc : AtB w.heap.size W nextT c 1) (k : Kept [] w W) : Calls Tryz.prog 40 #[.int .u8 5, .agg #[.int .u8 3, .string ⟨#[113]⟩, .slice none 0 0], .agg #[.int .u8 9, .string ⟨#[]⟩, .slice (some ⟨c, 0, none⟩) 1 1]] W fun e w' => ∃ b, e = .returned (.agg #[.int .u8 5, .string ⟨#[]⟩, .slice (some ⟨b, 0, none⟩) 2 2]) ∧ AtB w.heap.size w' andT b 2 ∧ Kept [] w w' :=
  (lawTwo_any w.heap.size 5 (leafT bQ) nextT _ _ W (leaf_at _ W bQ) hc k.size).mono fun _ _ ⟨b, h1, h2, h3⟩ => ⟨b, h1, h2, k.trans h3 (by simp) (by simp)⟩
theorem exUntil (w W : World) (c : Nat) (hc : AtB w.heap.size W andT c 2) (k : Kept [] w W) : Calls Tryz.prog 40 #[.int .u8 12, .agg #[.int .u8 3, .string ⟨#[112]⟩, .slice none 0 0], .agg #[.int .u8 5, .string ⟨#[]⟩, .slice (some ⟨c, 0, none⟩) 2 2]] W fun e w' => ∃ b, e = .returned (.agg #[.int .u8 12, .string ⟨#[]⟩, .slice (some ⟨b, 0, none⟩) 2 2]) ∧ AtB w.heap.size w' exT b 2 ∧ Kept [] w w' :=
  (lawTwo_any w.heap.size 12 (leafT bP) andT _ _ W (leaf_at _ W bP) hc k.size).mono fun _ _ ⟨b, h1, h2, h3⟩ => ⟨b, h1, h2, k.trans h3 (by simp) (by simp)⟩
end Go.Proofs.YtnljjbpbgjgnkaaGreatDoor
