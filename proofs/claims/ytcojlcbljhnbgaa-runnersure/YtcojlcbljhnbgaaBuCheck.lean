/- package buchi: asGeneral, Check, goes. -/
import Derived.Test.YtcojlcbljhnbgaaBuRight
namespace Go.Proofs.Ytcojlcbljhnbgaa
open Go.RowKit Go.Shelf

/-- An automaton with final states, as one with one set. -/
def Gen.with (g : Gen) (fin : List Int) : Gen := { g with sets := [fin] }
theorem rowss_one {W : World} {B : Nat} {fv : Value} {fin : List Int} (hb : W.heap[B]? = some (.cells #[fv] 60 (0, 0))) (h : Ints W fv fin) : Rowss W (.slice (some ⟨B, 0, none⟩) 1 1) [fin] := by
  refine ⟨by simp, .inr ⟨B, 0, 1, rfl, by simp, by unfold maxLen; omega, fun i hi => ?_⟩⟩
  obtain rfl : i = 0 := by simpa using hi
  exact ⟨fv, by rw [cell_of hb]; rfl, h⟩
theorem ret_gen {fn : Func} {p : Tmp} {a : Act} {w : World} {g : Nat} {x1 x2 x3 x4 x5 : Value} {R : Ending → World → Prop} (h : fn.results = #[.cell p 105]) (hp : a.tmps.getD p undef = .pointer (some ⟨g, 0, none⟩)) (hd : a.defers = []) (hg : w.heap[g]? = some (.cells #[x1, x2, x3, x4, x5] 105 (0, 0))) (hR : R (.returned (.agg #[x1, x2, x3, x4, x5])) w) : bodyPost Try.prog fn R .ret a w :=
  bodyPost_ret (results_cell_row h _ w g 105 #[x1, x2, x3, x4, x5] _ _ hp hg Try.underlying105 rfl (by kernel_rfl)) hd hR
set_option maxHeartbeats 1000000 in
theorem asGeneral_any (pad iad ead fad : Option Addr) (pn pc n ic en ec fn fc : Nat) (st : Int) (w : World) :
    Calls Try.prog 56 #[.agg #[.slice pad pn pc, .int .i64 st, .slice iad n ic, .slice ead en ec, .slice fad fn fc]] w fun e w' => ∃ B, e = .returned (.agg #[.slice pad pn pc, .int .i64 st, .slice iad n ic, .slice ead en ec, .slice (some ⟨B, 0, none⟩) 1 1]) ∧ Hid (w'.heap[B]? = some (.cells #[.slice fad fn fc] 60 (0, 0))) ∧ Hid (Kept [] w w') := by
  go_enter Try.func56, Try.ntmps56
  go_wp2
  exact ret_gen rfl rfl rfl (alUp (al1 w _ _) _) ⟨_, rfl, al2 w _ _ _, (((Kept.refl [] w).alloc _).alloc _).alloc _⟩
/-- An automaton with final states in memory. -/
structure IsB (W : World) (pv iv ev fv : Value) (g : Gen) (fin : List Int) : Prop where
  ps : Strs W pv g.ps
  ini : Ints W iv g.ini
  es : Edgs W ev g.es
  fin : Ints W fv fin
  st : -9223372036854775808 ≤ g.st ∧ g.st ≤ 9223372036854775807
theorem IsB.kept {W W' : World} {pv iv ev fv : Value} {g : Gen} {fin : List Int} (h : IsB W pv iv ev fv g fin) (k : Kept [] W W') : IsB W' pv iv ev fv g fin := ⟨h.ps.kept k, h.ini.kept k, h.es.kept k, h.fin.kept k, h.st⟩
theorem IsB.gen {W : World} {pv iv ev fv : Value} {g : Gen} {fin : List Int} {B : Nat} (h : IsB W pv iv ev fv g fin) (hb : W.heap[B]? = some (.cells #[fv] 60 (0, 0))) : IsG W pv iv ev (.slice (some ⟨B, 0, none⟩) 1 1) (g.with fin) := ⟨h.ps, h.ini, h.es, rowss_one hb h.fin, h.st⟩
set_option maxHeartbeats 1000000 in
theorem check_anyB (pv iv ev fv : Value) (g : Gen) (fin : List Int) (w : World) (h : IsB w pv iv ev fv g fin) :
    Calls Try.prog 51 #[.agg #[pv, .int .i64 g.st, iv, ev, fv]] w fun e w' => e = .returned (.int .i64 (errG (g.with fin) : Nat)) ∧ Kept [] w w' := by
  obtain ⟨pad, pc, rfl, _, _⟩ := h.ps.form
  obtain ⟨iad, ic, rfl, _, _⟩ := h.ini.form
  obtain ⟨ead, ec, rfl, _, _⟩ := h.es.form
  obtain ⟨fad, fc, rfl, _, _⟩ := h.fin.form
  have HG : Hid (∀ W B, Kept [] w W → W.heap[B]? = some (.cells #[.slice fad fin.length fc] 60 (0, 0)) → Calls Try.prog 55 #[.agg #[.slice pad g.ps.length pc, .int .i64 g.st, .slice iad g.ini.length ic, .slice ead g.es.length ec, .slice (some ⟨B, 0, none⟩) 1 1]] W fun e w' => e = .returned (.int .i64 (errG (g.with fin) : Nat)) ∧ Kept [] W w') := fun W B k hb => checkG_any _ _ _ _ (g.with fin) W ((h.kept k).gen hb)
  obtain ⟨en, hen⟩ : ∃ en, errG (g.with fin) = en := ⟨_, rfl⟩
  rw [hen] at HG ⊢
  clear h hen
  go_enter Try.func51, Try.ntmps51
  go_wp2_with (first
    | (go_at_call 56; refine (asGeneral_any _ _ _ _ _ _ _ _ _ _ _ _ _ _).mono ?_; rintro e w1 ⟨B, rfl, HB, hk⟩; have HK : Hid (Kept [] w w1) := keptB ((Kept.refl [] w).alloc _) hk.out; clear hk)
    | (go_at_call 55; refine (HG.out w1 B HK.out HB.out).mono ?_; rintro e w2 ⟨rfl, hk2⟩; have HK2 : Hid (Kept [] w w2) := keptB HK.out hk2; clear hk2))
  go_ret
  exact ⟨rfl, HK2.out⟩
/-- Does an edge go with a letter. -/
def goesB (e : Edg) (c : Nat) : Bool := decide (c &&& e.mu = e.mu) && decide (c &&& e.no = 0)
end Go.Proofs.Ytcojlcbljhnbgaa
