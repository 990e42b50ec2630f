/- strings.SplitSeq at the dot: the pieces of a text. -/
import Derived.Test.YtnjajafmmociiaaGreatDoorTrCopy
import Derived.Test.YtnjajafmmociiaaGreatDoorShelf
import Derived.Lib.IndexLaws
namespace Go.Proofs.YtnjajafmmociiaaGreatDoor
open Go.RowKit Go.Shelf

/-- The pieces between the bytes c. -/
def splitB (c : UInt8) : List UInt8 → List (List UInt8)
  | [] => [[]]
  | b :: r => if b = c then [] :: splitB c r else match splitB c r with
    | [] => [[b]]
    | p :: ps => (b :: p) :: ps
theorem splitB_ne (c : UInt8) : ∀ l, splitB c l ≠ []
  | [] => by simp [splitB]
  | b :: r => by
    unfold splitB; split
    · simp
    · split <;> simp
theorem splitB_none (c : UInt8) : ∀ l, (∀ k : Nat, l[k]? ≠ some c) → splitB c l = [l]
  | [], _ => rfl
  | b :: r, h => by
    have hb : b ≠ c := fun e => h 0 (by simp [e])
    rw [splitB, if_neg hb, splitB_none c r (fun k hk => h (k + 1) (by simpa using hk))]
theorem splitB_some (c : UInt8) : ∀ (l : List UInt8) (o : Nat), l[o]? = some c → (∀ k : Nat, k < o → l[k]? ≠ some c) → splitB c l = l.take o :: splitB c (l.drop (o + 1))
  | [], o, h, _ => by simp at h
  | b :: r, 0, h, _ => by
    have hb : b = c := by simpa using h
    rw [splitB, if_pos hb]; simp
  | b :: r, o + 1, h, hk => by
    have hb : b ≠ c := fun e => hk 0 (by omega) (by simp [e])
    rw [splitB, if_neg hb, splitB_some c r o (by simpa using h) (fun k hk' hh => hk (k + 1) (by omega) (by simpa using hh))]
    simp
def strSize (v : Option Value) : Nat := match v with
  | some (.string t) => t.size
  | _ => 0
/-- What the iterator leans on. -/
structure SplitAt (Be Bs Bv : Nat) (s : ByteArray) (W : World) : Prop where
  sep : Boxed W Be 9 (.string ⟨#[46]⟩)
  txt : Boxed W Bs 9 (.string s)
  save : Boxed W Bv 3 (.int .i64 0)
def splitX (Be Bs Bv k : Nat) : Prop := k = Be ∨ k = Bs ∨ k = Bv
def bytesV (x : ByteArray) : Array Value := #[.string x]
def bytesL (x : ByteArray) : List UInt8 := x.data.toList

set_option maxHeartbeats 400000 in
theorem splitSeq_any (s : ByteArray) (w : World) : Calls Tryz.prog 74 #[.string s, .string ⟨#[46]⟩] w fun e w' => e = .returned (.func (.func 120) #[] #[.pointer (some ⟨w.heap.size + 1, 0, none⟩), .pointer (some ⟨w.heap.size, 0, none⟩), .pointer (some ⟨w.heap.size + 1 + 1, 0, none⟩)]) ∧ SplitAt (w.heap.size + 1) w.heap.size (w.heap.size + 1 + 1) s w' ∧ w'.heap.size = w.heap.size + 3 ∧ Kept [] w w' := by
  have hin : ∀ W, Calls Tryz.prog 102 #[.string s, .string ⟨#[46]⟩, .int .i64 0] W fun e w' => e = .returned (.func (.func 120) #[] #[.pointer (some ⟨W.heap.size + 1, 0, none⟩), .pointer (some ⟨W.heap.size, 0, none⟩), .pointer (some ⟨W.heap.size + 1 + 1, 0, none⟩)]) ∧ SplitAt (W.heap.size + 1) W.heap.size (W.heap.size + 1 + 1) s w' ∧ w'.heap.size = W.heap.size + 3 ∧ Kept [] W w' := fun W => by
    go_enter Tryz.func102, Tryz.ntmps102
    go_wp2
    go_ret
    exact ⟨rfl, ⟨alUp (al1 _ _ _) _, alUp (alUp (al0 _ _) _) _, al2 _ _ _ _⟩, by simp, (((Kept.refl [] W).alloc _).alloc _).alloc _⟩
  have HIN : Hid _ := hin
  clear hin
  go_enter Tryz.func74, Tryz.ntmps74
  go_wp2_with (go_at_call 102; refine (HIN.out _).mono ?_; rintro e w' ⟨rfl, h1, h2, h3⟩)
  go_ret
  exact ⟨rfl, h1, h2, h3⟩

theorem SplitAt.kpx {X : Nat → Prop} {Be Bs Bv : Nat} {s : ByteArray} {W W' : World} (h : SplitAt Be Bs Bv s W) (k : KpX X W W') (hX : ∀ k, splitX Be Bs Bv k → X k) : SplitAt Be Bs Bv s W' :=
  ⟨k.own _ _ (hX _ (.inl rfl)) h.sep, k.own _ _ (hX _ (.inr (.inl rfl))) h.txt, k.own _ _ (hX _ (.inr (.inr rfl))) h.save⟩

set_option maxHeartbeats 1000000 in
set_option maxRecDepth 20000 in
theorem split_goes (m : Nat) (Be Bs Bv : Nat) (s : ByteArray) (hs : s.size ≤ 9223372036854775800) (w : World) (hP : SplitAt Be Bs Bv s w) (hn1 : Be ≠ Bs) (hn2 : Bv ≠ Bs) :
    GoesAt Fence.wide m Tryz.prog 120 #[.pointer (some ⟨Be, 0, none⟩), .pointer (some ⟨Bs, 0, none⟩), .pointer (some ⟨Bv, 0, none⟩)] bytesV (fun x _ => x.size ≤ s.size) (fun _ => False) (splitX Be Bs Bv) (fun ys => ys.map bytesL = splitB 46 s.data.toList) (fun pre => pre.map bytesL <+: splitB 46 s.data.toList) (splitB 46 s.data.toList).length w := by
  intro l J Jx X W hW hJ hJx hY h0 hX0 hX
  have hA : SplitAt Be Bs Bv s W := ⟨(hW.block _ hP.sep.lt).trans hP.sep, (hW.block _ hP.txt.lt).trans hP.txt, (hW.block _ hP.save.lt).trans hP.save⟩
  have ce := hA.sep.cell
  have HY : Hid _ := hY
  have HJ : Hid (Abide J) := hJ
  have HA : Hid (SplitAt Be Bs Bv s W) := hA
  have HX0 : Hid _ := hX0
  have HIX : Hid _ := fun (t : ByteArray) W' => Any.strings_Index_one Tryz.lays143 t 46 W'
  clear hY hJ hJx hW hP hA hX0
  refine callsIn_of_wp Tryz.func120 rfl trivial ?_ rfl
  simp only [Tryz.ntmps120, List.size_toArray, List.length_cons, List.length_nil, Nat.reduceAdd, Nat.reduceSub, Array.replicate_succ, Array.replicate_zero, List.push_toArray, List.append_toArray, List.nil_append, List.cons_append]
  gi_wp2
  gi_loopw [7] (fun _ wr => ∃ t : ByteArray, t.size ≤ s.size ∧ Hid (SplitAt Be Bs Bv t wr) ∧ Hid (∃ pre, J X pre wr ∧ (∀ k, X k → k < wr.heap.size) ∧ splitB 46 s.data.toList = pre.map bytesL ++ splitB 46 t.data.toList)) (fun _ wr => strSize (wr.cell? ⟨Bs, 0, none⟩))
  case atStart => exact ⟨s, Nat.le_refl _, HA, [], h0, hX, rfl⟩
  case round =>
    obtain ⟨t, hts, HAr, HJr⟩ := hrel
    have ce := HAr.out.sep.cell
    have ct := HAr.out.txt.cell
    have cv := HAr.out.save.cell
    have cf := HAr.out.txt.frozen
    obtain ⟨pre, hj, hXl, hpre⟩ := HJr.out
    have HPRE : Hid _ := hpre
    have HXL : Hid _ := hXl
    have hin : ∀ W', Calls Tryz.prog 122 #[.string t, .string ⟨#[46]⟩] W' fun e w' => e = .returned (.int .i64 (Lib.indexByte t.data.toList 46)) ∧ w' = W' := fun W' => HIX.out t W'
    have hge := Lib.indexByte_ge t.data.toList 46
    by_cases hneg : Lib.indexByte t.data.toList 46 = -1
    · rw [hneg] at hin
      have HIN : Hid _ := hin
      have hsp : splitB 46 t.data.toList = [t.data.toList] := splitB_none 46 _ (Lib.indexByte_none hneg)
      have HSP : Hid (splitB 46 s.data.toList = (pre ++ [t]).map bytesL) := by show splitB 46 s.data.toList = _; rw [HPRE.out, hsp]; simp [bytesL]
      obtain ⟨fn, tmps, assign, body, hy, hR⟩ := HY.out X pre t wr hj hts HXL.out (by rw [HPRE.out, hsp]; simp)
      dsimp only [bytesV] at hy
      clear hin hneg hsp hj hpre hXl hge
      gi_wp2_with (refine ⟨trivial, fun h => by simp [Fence.wide] at h, ?_⟩; gi_at_call 122; refine (callsIn_wide.2 (HIN.out _)).mono ?_; rintro e w' ⟨rfl, rfl⟩)
      refine ⟨fun h => by simp [Fence.wide] at h, hR.mono ?_⟩
      rintro e W3 (⟨rfl, hJ3, hk3⟩ | ⟨rfl, hJx3, hk3⟩)
      · gi_wp2
        go_end0
        exact ⟨⟨_, rfl⟩, .inl ⟨_, _, HSP.out.symm, hJ3⟩⟩
      · gi_wp2
        go_end0
        exact ⟨⟨_, rfl⟩, .inr ⟨_, _, by rw [HSP.out]; exact List.prefix_refl _, hJx3⟩⟩
    · obtain ⟨o, ho⟩ : ∃ o : Nat, Lib.indexByte t.data.toList 46 = (o : Int) := ⟨(Lib.indexByte t.data.toList 46).toNat, by omega⟩
      rw [ho] at hin
      have HIN : Hid _ := hin
      have hos := Lib.indexByte_some ho
      have hol : o < t.size := by
        rcases Nat.lt_or_ge o t.size with h | h
        · exact h
        · have := hos.1; rw [List.getElem?_eq_none (by rw [← Lib.size_eq]; exact h)] at this; cases this
      have hsp := splitB_some 46 t.data.toList o hos.1 hos.2
      obtain ⟨fr, hfr⟩ : ∃ fr, t.extract 0 o = fr := ⟨_, rfl⟩
      have hfl : fr.data.toList = t.data.toList.take o := by rw [← hfr]; simp
      have hfs : fr.size ≤ s.size := by rw [Lib.size_eq, hfl, List.length_take, ← Lib.size_eq]; omega
      obtain ⟨rs, hrs⟩ : ∃ rs, t.extract (o + 1) t.size = rs := ⟨_, rfl⟩
      have hrl : rs.data.toList = t.data.toList.drop (o + 1) := by rw [← hrs, Lib.extract_to_end]
      have hrz : rs.size = t.size - (o + 1) := by rw [Lib.size_eq, hrl, List.length_drop, ← Lib.size_eq]
      have HSP : Hid (splitB 46 s.data.toList = (pre ++ [fr]).map bytesL ++ splitB 46 rs.data.toList) := by show splitB 46 s.data.toList = _; rw [HPRE.out, hsp, hrl]; simp [bytesL, hfl]
      obtain ⟨fn, tmps, assign, body, hy, hR⟩ := HY.out X pre fr wr hj hfs HXL.out (by rw [HSP.out]; simp)
      dsimp only [bytesV] at hy
      have hoi : (o : Int) ≤ (t.size : Int) := by omega
      have hoi2 : (o : Int) + 1 ≤ (t.size : Int) := by omega
      have hti : (t.size : Int) ≤ 9223372036854775800 := by omega
      have HRZ : Hid _ := hrz
      clear hin hneg hsp hj hpre hXl hge hos hfl hrl ho hrz
      gi_wp2_with (refine ⟨trivial, fun h => by simp [Fence.wide] at h, ?_⟩; gi_at_call 122; refine (callsIn_wide.2 (HIN.out _)).mono ?_; rintro e w' ⟨rfl, rfl⟩)
      refine ⟨fun h => by simp [Fence.wide] at h, hR.mono ?_⟩
      rintro e W3 (⟨rfl, hJ3, hk3⟩ | ⟨rfl, hJx3, hk3⟩)
      · have HA3 : Hid (SplitAt Be Bs Bv t W3) := HAr.out.kpx hk3 (fun k h => .inl (HX0.out k h))
        have hz := hk3.size
        have HJ3 : Hid _ := hJ3
        have HC3 : Hid (w'.cell? ⟨Bs, 0, none⟩ = some (.string t)) := ct
        have ce3 := HA3.out.sep.cell
        have ct3 := HA3.out.txt.cell
        have cf3 := HA3.out.txt.frozen
        clear ce ct cv cf hJ3 hk3 HIN hR hy
        have hw1 : IntKind.i64.wrap ((o : Int) + 1) = ((o + 1 : Nat) : Int) := by rw [IntKind.wrap_i64]; omega
        gi_wp2
        refine ⟨⟨rs, ?_, ?_, _, ?_, ?_, HSP.out⟩, ?_⟩
        · have := HRZ.out; omega
        · exact ⟨HA3.out.sep.other hn1 _, Boxed.set _ HA3.out.txt, HA3.out.save.other hn2 _⟩
        · exact HJ.out.turn HJ3.out (grownBy_setCell' W3 Bs _) (fun r e => by cases e; exact HX0.out _ (.inr (.inl rfl)))
        · intro k hk
          have h1 := HXL.out k hk
          have h2 : (W3.setCell ⟨Bs, 0, none⟩ (.string rs)).heap.size = W3.heap.size := by simp [World.setCell]
          omega
        · rw [HC3.out, (Boxed.set (.string rs) HA3.out.txt).cell]
          have := HRZ.out
          simp only [strSize]; omega
      · clear ce ct cv cf hy HIN
        gi_wp2
        refine bodyPost_ret (results_none rfl _ _ _) rfl ?_
        exact ⟨⟨_, rfl⟩, .inr ⟨_, _, by rw [HSP.out]; exact List.prefix_append _ _, hJx3⟩⟩
end Go.Proofs.YtnjajafmmociiaaGreatDoor
