/- strings.TrimLeft at the four blanks, by the library's own text. -/
import Derived.Test.YtilgfnafkcjdgaaDoorLxSmall
import Derived.Deep.LoopGhost
import Derived.Deep.WholeRow
import Derived.Lib.AsciiSet
import Derived.Lib.SlTrimSet
import Derived.Laws.ResultCell
namespace Go.Proofs.YtilgfnafkcjdgaaDoor
open Go.RowKit

theorem wp_load {P : Program} {o : Oper} {t : TypeId} {p : Operand} {a : Act} {w : World} {K : Act → World → Prop} {Q : Exit → Act → World → Prop} {v : Value} (ho : o.op = .load t p) (h : (Instr.loadAt t (a.eval p)).run P w = .ok v w) (hk : K (a.put o.dst v) w) : o.wp P a w K Q := by
  unfold Oper.wp execOp
  rw [ho]
  simp only [Sem.run_bind, Sem.run_pure, Result.andThen, h]
  exact hk
theorem wp_store {P : Program} {o : Oper} {t : TypeId} {p x : Operand} {a : Act} {w w' : World} {K : Act → World → Prop} {Q : Exit → Act → World → Prop} (ho : o.op = .store t p x) (h : (Instr.storeAt t (a.eval p) (a.eval x)).run P w = .ok () w') (hk : K (a.put o.dst undef) w') : o.wp P a w K Q := by
  unfold Oper.wp execOp
  rw [ho]
  simp only [Sem.run_bind, Sem.run_pure, Result.andThen, h]
  exact hk

def blanksL : List UInt8 := [32, 9, 10, 13]
theorem Tryd.infoSet : (Tryd.prog.info? 121).map (·.size) = some 256 := by kernel_rfl

set_option maxHeartbeats 4000000 in
set_option maxRecDepth 1000000 in
theorem makeSet_any (w : World) :
    Calls Tryd.prog 70 #[.string ⟨#[32, 9, 10, 13]⟩] w fun e w' => e = .returned (.tuple #[.agg (Lib.setCells blanksL), .bool true]) ∧ w' = w.alloc (.cells (Lib.setCells blanksL) 121) := by
  obtain ⟨chars, hch⟩ : ∃ chars : ByteArray, chars = ⟨#[32, 9, 10, 13]⟩ := ⟨_, rfl⟩
  have hl : Hid (chars.data.toList = blanksL) := by rw [hch]; rfl
  rw [← hch]
  have HA : Hid (∀ (j : Nat) b, chars.data.toList[j]? = some b → b.toNat < 128) := fun j b hb => by
    rw [hl.out] at hb
    have := List.mem_of_getElem? hb
    simp [blanksL] at this
    rcases this with rfl | rfl | rfl | rfl <;> decide
  have hs : chars.size = 4 := by rw [hch]; rfl
  clear hch
  go_enter Tryd.func70, Tryd.ntmps70
  go_wp2
  rw [show Tryd.zeroCells121 = Lib.setCells [] from by kernel_rfl]
  go_loopg [4] chars.size (fun g s4 wx => ∃ i : Nat, i + g = chars.size ∧ s4 = .int .i64 i ∧ wx = w.alloc (.cells (Lib.setCells (chars.data.toList.take i)) 121))
  case atStart => exact ⟨0, by omega, rfl, rfl⟩
  case round =>
    obtain ⟨i, hig, rfl, rfl⟩ := hrel
    cases gk with
    | zero =>
      obtain rfl : i = chars.size := by omega
      have hiz : ¬ ((chars.size : Int) < (chars.size : Int)) := by omega
      rw [show chars.data.toList.take chars.size = chars.data.toList from List.take_of_length_le (by rw [← Lib.size_eq]; exact Nat.le_refl _)]
      rw [hl.out]
      have hla := run_loadAt_new (P := Tryd.prog) w 121 (Lib.setCells blanksL) 256 4 Tryd.underlying121 (by rw [Lib.setCells_size]; exact Tryd.infoSet)
      have hst := run_storeCells_new (P := Tryd.prog) w 121 (Lib.setCells blanksL) (Lib.setCells blanksL) (by rw [Lib.setCells_size]; exact Tryd.infoSet) rfl (Lib.setCells_one _)
      have HLA : Hid _ := hla
      have HST : Hid _ := hst
      clear hla hst
      have hld := run_loadVar_new (P := Tryd.prog) w 121 (Lib.setCells blanksL) 256 4 Tryd.underlying121 (by rw [Lib.setCells_size]; exact Tryd.infoSet)
      go_wp2
      refine wp_load rfl HLA.out ?_
      go_wp2
      rw [HST.out]
      simp only [Result.andThen]
      rw [Oper.upon_skip]
      go_wp2
      (try simp only [Exit.inBlock, Exit.then])
      refine bodyPost_ret (v := .tuple #[.agg (Lib.setCells blanksL), .bool true]) ?_ rfl ⟨rfl, rfl⟩
      rw [results_cell_tmp rfl]
      simp [asAddr, Result.andThen, hld]
    | succ g =>
      have hi : i < chars.size := by omega
      have hiz : (i : Int) < (chars.size : Int) := by omega
      obtain ⟨x, hx⟩ : ∃ x : UInt8, chars[i]'hi = x := ⟨_, rfl⟩
      have hxl : chars.data.toList[i]? = some x := by rw [← hx]; exact Lib.data_getElem? chars i hi
      have hx128 : ¬ ((128 : Int) ≤ (x.toNat : Int)) := by have := HA.out i x hxl; omega
      have hx256 : (x.toNat : Int) < 256 := by have := HA.out i x hxl; omega
      have hcell := Lib.setCells_at (chars.data.toList.take i) x
      have Hx : Hid (chars.data.toList[i]? = some x) := hxl
      clear hxl
      go_wp2
      go_roundg g
      case measure => omega
      case rel => exact ⟨i + 1, by omega, by first | rfl | simp, by rw [List.take_add_one, Hx.out]; simp only [Option.toList]; rw [Lib.setCells_snoc]⟩

set_option maxHeartbeats 2000000 in
theorem contains_any (b : Nat) (x : UInt8) (v : Bool) (w : World) (hc : w.cell? ⟨b, x.toNat, none⟩ = some (.bool v)) :
    Calls Tryd.prog 75 #[.pointer (some ⟨b, 0, none⟩), .int .u8 x.toNat] w fun e w' => e = .returned (.bool v) ∧ w' = w := by
  have hx256 : (x.toNat : Int) < 256 := by have := UInt8.toNat_lt x; omega
  go_enter Tryd.func75, Tryd.ntmps75
  go_wp2
  go_ret
  exact ⟨rfl, rfl⟩

set_option maxHeartbeats 2000000 in
theorem trimASCII_any (s : ByteArray) (b : Nat) (cs : List UInt8) (w : World) (hset : ∀ x : UInt8, w.cell? ⟨b, x.toNat, none⟩ = some (.bool (cs.contains x))) :
    Calls Tryd.prog 71 #[.string s, .pointer (some ⟨b, 0, none⟩)] w fun e w' => e = .returned (.string ⟨(Lib.trimLeftS s.data.toList cs).toArray⟩) ∧ w' = w := by
  have HS : Hid _ := hset
  clear hset
  go_enter Tryd.func71, Tryd.ntmps71
  go_wp2
  go_loop [0] (fun v => ∃ k : Nat, k ≤ s.size ∧ v = .string ⟨(s.data.toList.drop k).toArray⟩ ∧ Hid (∀ (j : Nat) b, j < k → s.data.toList[j]? = some b → cs.contains b = true)) (fun v => Lib.strSize v)
  case atStart => exact ⟨0, Nat.zero_le _, by simp, fun j b hj => absurd hj (Nat.not_lt_zero _)⟩
  case round =>
    obtain ⟨k, hk, rfl, hK⟩ := hrel
    have hts : (⟨(s.data.toList.drop k).toArray⟩ : ByteArray).size = s.size - k := by rw [Lib.size_mk, List.length_drop, ← Lib.size_eq]
    have hb0 : ∀ h, s.data.toList[k]? = some ((⟨(s.data.toList.drop k).toArray⟩ : ByteArray)[0]'h) := by
      intro h
      rw [← Lib.getElem_mk (s.data.toList.drop k) 0 h, List.getElem?_drop]
      rfl
    have hx1 : (⟨(s.data.toList.drop k).toArray⟩ : ByteArray).extract 1 (s.size - k) = ⟨(s.data.toList.drop (k + 1)).toArray⟩ := by
      rw [Lib.extract_mk, List.drop_drop, List.take_of_length_le (by simp; omega)]
    generalize ht : (⟨(s.data.toList.drop k).toArray⟩ : ByteArray) = t at hts hb0 hx1 ⊢
    have hK3 : Hid ((⟨(s.data.toList.drop k).toArray⟩ : ByteArray) = t) := ht
    clear ht
    have hkl : Hid (k ≤ s.data.toList.length) := by rw [← Lib.size_eq]; exact hk
    by_cases h0 : 0 < t.size
    · have hbk := hb0 h0
      clear hb0
      obtain ⟨x, hx⟩ : ∃ x : UInt8, t[0]'h0 = x := ⟨_, rfl⟩
      rw [hx] at hbk
      have hK2 : Hid (s.data.toList[k]? = some x) := hbk
      clear hbk
      have hcx := HS.out x
      cases hin : cs.contains x <;> rw [hin] at hcx
      · have HI : Hid (cs.contains x = false) := hin
        clear hin
        go_wp2_with (go_at_call 75; refine (contains_any _ x _ _ hcx).mono ?_; rintro e w' ⟨rfl, hw⟩; rw [hw])
        go_ret
        refine ⟨?_, rfl⟩
        show Ending.returned (Value.string t) = _
        rw [Lib.trimLeftS_drop s.data.toList cs k hkl hK.out (fun b hb => by
          rw [hK2.out] at hb
          rw [← Option.some.inj hb]
          exact HI), hK3.out]
      · have HI : Hid (cs.contains x = true) := hin
        clear hin
        go_wp2_with (go_at_call 75; refine (contains_any _ x _ _ hcx).mono ?_; rintro e w' ⟨rfl, hw⟩; rw [hw])
        go_round
        case rel => exact ⟨k + 1, by omega, rfl, okAll_succ (p := fun b => cs.contains b) hK.out hK2.out HI⟩
        case measure =>
          rw [Lib.strSize_string, Lib.strSize_string, Lib.size_mk, List.length_drop, ← Lib.size_eq]
          omega
    · clear hb0
      go_wp2
      go_ret
      refine ⟨?_, rfl⟩
      show Ending.returned (Value.string t) = _
      rw [Lib.trimLeftS_drop s.data.toList cs k hkl hK.out (fun b hb => by
        have : s.data.toList.length ≤ k := by rw [← Lib.size_eq]; omega
        simp [List.getElem?_eq_none this] at hb), hK3.out]

set_option maxHeartbeats 2000000 in
set_option maxRecDepth 1000000 in
theorem trimLeft_any (s : ByteArray) (w : World) :
    Calls Tryd.prog 65 #[.string s, .string ⟨#[32, 9, 10, 13]⟩] w fun e w' => e = .returned (.string ⟨(Lib.trimLeftS s.data.toList blanksL).toArray⟩) ∧ Kept [] w w' := by
  by_cases h0 : 0 < s.size
  · have hemps : s.toList.isEmpty = false := by
      rw [Lib.toList_data]
      cases h : s.data.toList with
      | nil => have := Lib.size_eq s; rw [h, List.length_nil] at this; omega
      | cons _ _ => rfl
    have hsc : (storeCells ⟨w.heap.size + 1, 0, none⟩ (Lib.setCells blanksL).toList 0).run Tryd.prog ((w.alloc (.cells (Lib.setCells blanksL) 121)).alloc (.cells Tryd.zeroCells121 121)) = .ok () ((w.alloc (.cells (Lib.setCells blanksL) 121)).alloc (.cells (Lib.setCells blanksL) 121)) := by
      have := run_storeCells_new (P := Tryd.prog) (w.alloc (.cells (Lib.setCells blanksL) 121)) 121 Tryd.zeroCells121 (Lib.setCells blanksL) (by rw [Lib.setCells_size]; exact Tryd.infoSet) (by rw [Lib.setCells_size, Tryd.zeroCells121_size]) (Lib.setCells_one _)
      simpa using this
    have HSC : Hid _ := hsc
    clear hsc
    have hT := trimASCII_any s (w.heap.size + 1) blanksL ((w.alloc (.cells (Lib.setCells blanksL) 121)).alloc (.cells (Lib.setCells blanksL) 121)) (fun x => by
      rw [World.cell?_alloc_at _ _ _ _ (by simp), Lib.setCells_at])
    generalize (⟨(Lib.trimLeftS s.data.toList blanksL).toArray⟩ : ByteArray) = r at hT ⊢
    go_enter Tryd.func65, Tryd.ntmps65
    go_wp2_with (go_at_call 70; refine (makeSet_any _).mono ?_; rintro e w' ⟨rfl, hw⟩; rw [hw])
    rw [HSC.out]
    simp only [Result.andThen]
    rw [Oper.upon_skip]
    clear HSC
    go_wp2_with (go_at_call 71; refine hT.mono ?_; rintro e w' ⟨rfl, hw⟩; rw [hw])
    go_ret
    exact ⟨rfl, ((Kept.refl [] w).alloc _).alloc _⟩
  · have hz : s.size = 0 := by omega
    have hn : s.data.toList = [] := List.length_eq_zero_iff.1 (by rw [← Lib.size_eq]; exact hz)
    have hr : Hid ((⟨(Lib.trimLeftS s.data.toList blanksL).toArray⟩ : ByteArray) = s) := by
      unfold Hid
      rw [hn, Lib.trimLeftS_nil, ← hn, Lib.mk_data]
    have hemps : s.toList.isEmpty = true := by rw [Lib.toList_data, hn]; rfl
    go_enter Tryd.func65, Tryd.ntmps65
    go_wp2
    go_ret
    rw [hr.out]
    exact ⟨rfl, Kept.refl [] w⟩

theorem trim_size (s : ByteArray) : (⟨(Lib.trimLeftS s.data.toList blanksL).toArray⟩ : ByteArray).size = s.size - blanksN s.data.toList ∧ blanksN s.data.toList ≤ s.size := by
  rw [Lib.size_mk, Lib.size_eq]
  have e : Lib.trimLeftS s.data.toList blanksL = s.data.toList.dropWhile isBlankB := rfl
  rw [e, ← drop_blanks, List.length_drop]
  exact ⟨rfl, blanksN_le _⟩
theorem blanks_any (s : ByteArray) (w : World) (hs : s.size ≤ 9223372036854775807) :
    Calls Tryd.prog 52 #[.string s] w fun e w' => e = .returned (.int .i64 (blanksN s.data.toList : Nat)) ∧ Kept [] w w' := by
  have hcon := trimLeft_any s w
  obtain ⟨h1, h2⟩ := trim_size s
  generalize (⟨(Lib.trimLeftS s.data.toList blanksL).toArray⟩ : ByteArray) = r at hcon h1
  generalize blanksN s.data.toList = k at h1 h2 ⊢
  go_enter Tryd.func52, Tryd.ntmps52
  go_wp2_with (go_at_call 65; refine hcon.mono ?_; rintro e w' ⟨rfl, hk⟩)
  go_ret
  exact ⟨ret_int (by omega), hk⟩
end Go.Proofs.YtilgfnafkcjdgaaDoor
