/- words.Read. -/
import Derived.Test.YtamfnefnaelgfaaDoorWdWord
namespace Go.Proofs.YtamfnefnaelgfaaDoor
open Go.RowKit
attribute [local go_sem ↓] Go.wp_at_zero Go.wp_at_succ

/-- What Read answers: the word, the error, the place. -/
def ReadEnds (w : World) (t : List UInt8) (e : Ending) (w' : World) : Prop :=
  ∃ a1 n1 c1 a2 n2 c2, e = .returned (.tuple #[.agg #[.slice a1 n1 c1, .slice a2 n2 c2], .int .i64 (if (readF t).1.isSome then 0 else 51), .int .i64 ((readF t).2 : Nat)]) ∧ Kept [] w w' ∧ NewW w.heap.size w' (.slice a1 n1 c1) (.slice a2 n2 c2) ((readF t).1.getD ⟨[], []⟩)
theorem results_word3 {fn : Func} {p u v : Tmp} (h : fn.results = #[.cell p 47, .tmp u, .tmp v]) (tmps : Array Value) (w : World) (g : Nat) (x y : Value) (hp : tmps.getD p undef = .pointer (some ⟨g, 0, none⟩)) (hg : Wd2 w g x y) :
    (results fn tmps).run Tryd.prog w = .ok (.tuple #[.agg #[x, y], tmps.getD u undef, tmps.getD v undef]) w := by
  have hp' : tmps[p]?.getD undef = .pointer (some ⟨g, 0, none⟩) := by simpa using hp
  have hl := run_loadVar_row (P := Tryd.prog) w g 47 47 #[x, y] _ _ hg Tryd.underlying47 rfl (by kernel_rfl)
  simp [results, h, hp', asAddr, hl]
theorem ret_word3 {fn : Func} {p u v : Tmp} {a : Act} {w : World} {g : Nat} {x y z z' : Value} {R : Ending → World → Prop} (h : fn.results = #[.cell p 47, .tmp u, .tmp v]) (hp : a.tmps.getD p undef = .pointer (some ⟨g, 0, none⟩)) (hv : a.tmps.getD u undef = z) (hv' : a.tmps.getD v undef = z') (hd : a.defers = []) (hg : Wd2 w g x y) (hR : R (.returned (.tuple #[.agg #[x, y], z, z'])) w) : bodyPost Tryd.prog fn R .ret a w :=
  bodyPost_ret (results_word3 h _ w g _ _ hp hg) hd (by rw [hv, hv']; exact hR)
set_option maxHeartbeats 400000 in
theorem read_long (s : ByteArray) (w : World) (hs : 65536 < s.size) :
    Calls Tryd.prog 14 #[.string s] w (ReadEnds w s.data.toList) := by
  have hF : readF s.data.toList = (none, 65536) := by unfold readF; rw [if_pos (by simpa using hs)]
  have HF : Hid (readF s.data.toList = (none, 65536)) := hF
  have b1 : (65536 : Int) < (s.size : Int) := by omega
  clear hF
  go_enter Tryd.func14, Tryd.ntmps14
  go_wp2
  refine ret_word3 rfl rfl rfl rfl rfl (one_new w _) ⟨none, 0, 0, none, 0, 0, ?_, (Kept.refl [] w).alloc _, ?_⟩
  · rw [HF.out]; rfl
  · rw [HF.out]; exact new_zero _ _
/-- What word leaves: the word's values, and the reader. -/
theorem word_at (R : Nat) (s : ByteArray) (w : World) (h : Rd w R s 0) (hs : s.size ≤ 65536) (o : Option Wd) (n : Nat) (he : wordF (rest s 0) = (o, n)) :
    Calls Tryd.prog 46 #[.pointer (some ⟨R, 0, none⟩)] w fun e w' => ∃ a1 n1 c1 a2 n2 c2, e = .returned (.tuple #[.agg #[.slice a1 n1 c1, .slice a2 n2 c2], .bool o.isSome]) ∧ Hid (Kept [R] w w') ∧ Hid (Rd w' R s n) ∧ Hid (∀ q, o = some q → NewW w.heap.size w' (.slice a1 n1 c1) (.slice a2 n2 c2) q) := by
  refine (word_any R s w h hs).mono ?_
  rintro e w' ⟨a1, n1, c1, a2, n2, c2, rfl, h1, h2, h3⟩
  rw [he] at h2 h3
  exact ⟨a1, n1, c1, a2, n2, c2, by rw [he], h1, h2, h3⟩
theorem Wd2.later {W : World} {B : Nat} {a b : Value} (h : Wd2 W B a b) : (∀ o, (W.alloc o).cell? ⟨B, 0, none⟩ = some a) ∧ (∀ o, (W.alloc o).cell? ⟨B, 1, none⟩ = some b) ∧ (∀ o, (W.alloc o).frozen? ⟨B, 0, none⟩ = false) ∧ ∀ o, (W.alloc o).frozen? ⟨B, 1, none⟩ = false :=
  ⟨fun o => (h.kept ((Kept.refl [] W).alloc o)).cells.1, fun o => (h.kept ((Kept.refl [] W).alloc o)).cells.2.1, fun o => (h.kept ((Kept.refl [] W).alloc o)).cells.2.2.1, fun o => (h.kept ((Kept.refl [] W).alloc o)).cells.2.2.2⟩
/-- Read's end. -/
theorem read_mem {w V W : World} {R : Nat} (kV : Kept [] w V) (hZ : Wd2 V w.heap.size (.slice none 0 0) (.slice none 0 0)) (hR : w.heap.size < R) (k : Kept [R] V W) (x y : Value) :
    Kept [] w ((W.setCell ⟨w.heap.size, 0, none⟩ x).setCell ⟨w.heap.size, 1, none⟩ y) ∧ Wd2 ((W.setCell ⟨w.heap.size, 0, none⟩ x).setCell ⟨w.heap.size, 1, none⟩ y) w.heap.size x y := by
  have kw : Kept [] w W := kV.trans k (by simp) (fun z hz => by simp at hz; right; omega)
  exact ⟨kept_set2 kw (Nat.le_refl _) _ _, (hZ.keptF k (by simp; omega)).set x y⟩
theorem rd_cell1 {W W' : World} {R Z p : Nat} {s : ByteArray} (h : Rd W R s p) (k : Kept [Z] W W') (hne : R ≠ Z) : W'.cell? ⟨R, 1, none⟩ = some (.int .i64 (p : Nat)) := (rd_cells h k hne).2
set_option maxHeartbeats 2000000 in
theorem read_short (s : ByteArray) (w : World) (hs : s.size ≤ 65536) :
    Calls Tryd.prog 14 #[.string s] w (ReadEnds w s.data.toList) := by
  have b1 : ¬ (65536 : Int) < (s.size : Int) := by omega
  have hN := two_new w (.cells #[.slice none 0 0, .slice none 0 0] 47) (.cells #[.string s, .int .i64 0] 90)
  obtain ⟨V, hV⟩ : ∃ V, ((w.alloc (.cells #[.slice none 0 0, .slice none 0 0] 47)).alloc (.cells #[.string s, .int .i64 0] 90)) = V := ⟨_, rfl⟩
  rw [hV] at hN
  have kV : Kept [] w V := by rw [← hV]; exact ((Kept.refl [] w).alloc _).alloc _
  have zV : V.heap.size = w.heap.size + 1 + 1 := by rw [← hV]; simp
  obtain ⟨o, n, hw⟩ : ∃ o n, wordF (rest s 0) = (o, n) := ⟨_, _, rfl⟩
  have hF : readF s.data.toList = (o, if o.isSome then 0 else n) := by
    unfold readF
    rw [if_neg (by simp; omega), show s.data.toList = rest s 0 from rfl, hw]
    cases o <;> rfl
  have HWd : Hid (Calls Tryd.prog 46 #[.pointer (some ⟨w.heap.size + 1, 0, none⟩)] V fun e w' => ∃ a1 n1 c1 a2 n2 c2, e = .returned (.tuple #[.agg #[.slice a1 n1 c1, .slice a2 n2 c2], .bool o.isSome]) ∧ Hid (Kept [w.heap.size + 1] V w') ∧ Hid (Rd w' (w.heap.size + 1) s n) ∧ Hid (∀ q, o = some q → NewW V.heap.size w' (.slice a1 n1 c1) (.slice a2 n2 c2) q)) := word_at (w.heap.size + 1) s V hN.2 hs o n hw
  have HZ : Hid (Wd2 V w.heap.size (.slice none 0 0) (.slice none 0 0)) := hN.1
  have HKV : Hid (Kept [] w V) := kV
  have HZV : Hid (V.heap.size = w.heap.size + 1 + 1) := zV
  have HV : Hid _ := hV
  clear hN kV hV zV hw
  cases o with
  | none =>
    have HF : Hid (readF s.data.toList = (none, n)) := hF
    simp only [Option.isSome_none] at HWd
    clear hF
    go_enter Tryd.func14, Tryd.ntmps14
    go_wp2_with (go_at_call 46; rw [HV.out]; refine HWd.out.mono ?_; rintro e w1 ⟨a1, n1, c1, a2, n2, c2, rfl, HK1, HR1, _⟩; have hzl : w.heap.size + 1 < w1.heap.size := lt_of HR1.out; have hz0 := HZ.out.keptF HK1.out (by simp); obtain ⟨z0, z1, z2, z3⟩ := hz0.later; have HZ0 : Hid (Wd2 w1 w.heap.size (.slice none 0 0) (.slice none 0 0)) := hz0; clear hz0; have y1 : ∀ o, (w1.alloc o).cell? ⟨w.heap.size + 1, 1, none⟩ = some (.int .i64 (n : Nat)) := (fun o => (HR1.out.kept ((Kept.refl [] w1).alloc o)).cells.2.1))
    have hne : w.heap.size + 1 ≠ w.heap.size := by omega
    go_region_held3 (fun w' => w'.cell? ⟨w.heap.size + 1, 1, none⟩ = some (.int .i64 (n : Nat)))
      ((refine rd_cell1 (Z := w.heap.size) HR1.out ?_ hne; (repeat (first | exact Kept.refl _ _ | refine Kept.drew ?_ | refine Kept.alloc ?_ _ | refine Kept.setCell ?_ (Or.inl (by simp)) _))))
      (fail)
    go_wp2
    obtain ⟨k9, w9⟩ := read_mem (R := w.heap.size + 1) (W := w1.alloc (.cells #[.slice a1 n1 c1, .slice a2 n2 c2] 47)) HKV.out HZ.out (by omega) (HK1.out.alloc _) (.slice none 0 0) (.slice none 0 0)
    refine ret_word3 rfl rfl rfl rfl rfl (w9.kept (Kept.refl [] _).drew) ⟨none, 0, 0, none, 0, 0, ?_, k9.drew, ?_⟩
    · rw [HF.out]; rfl
    · rw [HF.out]; exact new_zero _ _
  | some q =>
    have HF : Hid (readF s.data.toList = (some q, 0)) := hF
    simp only [Option.isSome_some] at HWd
    clear hF
    go_enter Tryd.func14, Tryd.ntmps14
    go_wp2_with (go_at_call 46; rw [HV.out]; refine HWd.out.mono ?_; rintro e w1 ⟨a1, n1, c1, a2, n2, c2, rfl, HK1, HR1, HN1⟩; have hzl : w.heap.size + 1 < w1.heap.size := lt_of HR1.out; have hz0 := HZ.out.keptF HK1.out (by simp); obtain ⟨z0, z1, z2, z3⟩ := hz0.later; have HZ0 : Hid (Wd2 w1 w.heap.size (.slice none 0 0) (.slice none 0 0)) := hz0; clear hz0)
    obtain ⟨k9, w9⟩ := read_mem (R := w.heap.size + 1) (W := w1.alloc (.cells #[.slice a1 n1 c1, .slice a2 n2 c2] 47)) HKV.out HZ.out (by omega) (HK1.out.alloc _) (.slice a1 n1 c1) (.slice a2 n2 c2)
    refine ret_word3 rfl rfl rfl rfl rfl w9 ⟨a1, n1, c1, a2, n2, c2, ?_, k9, ?_⟩
    · rw [HF.out]; rfl
    · rw [HF.out]
      have hn := (HN1.out q rfl).kept ((Kept.refl [] w1).alloc (.cells #[.slice a1 n1 c1, .slice a2 n2 c2] 47))
      exact (hn.keptF (F := [w.heap.size]) (((Kept.refl _ _).setCell (.inl (by simp)) _).setCell (.inl (by simp)) _) (by have := HZV.out; simp; omega)).low HKV.out.size

/-- words.Read, of whatever text. -/
theorem read_any (s : ByteArray) (w : World) : Calls Tryd.prog 14 #[.string s] w (ReadEnds w s.data.toList) := by
  rcases Nat.lt_or_ge 65536 s.size with h | h
  · exact read_long s w h
  · exact read_short s w h
end Go.Proofs.YtamfnefnaelgfaaDoor
