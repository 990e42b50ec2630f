/- runner.All of any machine. -/
import Derived.Test.YtbbfajbnklgncaaRuItB
import Derived.Test.YtbbfajbnklgncaaHL
namespace Go.Proofs.Ytbbfajbnklgncaa
open Go.RowKit Go.Shelf Go.Maps

/-- What All leaves. -/
def AllEnd (fv : Value) (ps : List ByteArray) (next : List (List Int)) (out : List Nat) (b : Bool) (w : World) (e : Ending) (w' : World) : Prop :=
  Hid (Kept [] w w') ∧ (b = true → ∃ fb lb R lo N fin, e = .returned (.func (.func 45) #[] #[.pointer (some ⟨fb, 0, none⟩), .pointer (some ⟨lb, 0, none⟩)]) ∧ Hid (Boxed w' fb 32 (.pointer (some ⟨R, 0, none⟩)) ∧ Boxed w' lb 87 fv ∧ RunS w' lo N R ps next out fin 0 ∧ w.heap.size ≤ fb ∧ w.heap.size ≤ lb ∧ w.heap.size ≤ lo ∧ w.heap.size ≤ R ∧ R < w'.heap.size)) ∧
    (b = false → e = .returned (.func (.func 44) #[] #[]))
set_option maxHeartbeats 2000000 in
set_option maxRecDepth 10000 in
theorem allR_any (pv nv ov : Value) (gf : Nat) (cap : Array Value) (ps : List ByteArray) (next : List (List Int)) (out : List Nat) (w : World) (hp : Strs w pv ps) (hn : Rowss w nv next) (ho : Vds w ov out) (hf : out.length ≤ 1000000) (b : Bool) (hb : rightM ps next out = b) :
    Calls Try.prog 16 #[.agg #[pv, nv, ov], .func (.func gf) #[] cap] w (AllEnd (.func (.func gf) #[] cap) ps next out b w) := by
  unfold AllEnd
  obtain ⟨V1, hV1⟩ : ∃ V1, w.alloc (.cells #[pv, nv, ov] 26) = V1 := ⟨_, rfl⟩
  have k1 : Kept [] w V1 := by rw [← hV1]; exact (Kept.refl [] w).alloc _
  have hB : V1.heap[w.heap.size]? = some (.cells #[pv, nv, ov] 26 (0, 0)) := by rw [← hV1]; exact al0 _ _
  obtain ⟨V, hV⟩ : ∃ V, V1.alloc (.cells #[.func (.func gf) #[] cap] 87) = V := ⟨_, rfl⟩
  have k2 : Kept [] V1 V := by rw [← hV]; exact (Kept.refl [] V1).alloc _
  obtain ⟨lb, hlb⟩ : ∃ lb, V1.heap.size = lb := ⟨_, rfl⟩
  have hL : Boxed V lb 87 (.func (.func gf) #[] cap) := by rw [← hV, ← hlb]; exact al0 _ _
  have kV : Kept [] w V := keptB k1 k2
  have hBV := k2.at hB (by simp)
  have c0 : V.cell? ⟨w.heap.size, 0, none⟩ = some pv := (cell_of hBV 0).trans rfl
  have c1 : V.cell? ⟨w.heap.size, 1, none⟩ = some nv := (cell_of hBV 1).trans rfl
  have c2 : V.cell? ⟨w.heap.size, 2, none⟩ = some ov := (cell_of hBV 2).trans rfl
  have HNW : Hid (Calls Try.prog 9 #[.agg #[pv, nv, ov]] V (NewEnd ps next out b V)) := new_any pv nv ov ps next out V (hp.kept kV) (hn.kept kV) (ho.kept kV) hf b hb
  have HKV : Hid (Kept [] w V) := kV
  have HLB : Hid (Boxed V lb 87 (.func (.func gf) #[] cap) ∧ w.heap.size ≤ lb) := ⟨hL, by rw [← hlb]; exact k1.size⟩
  have hmf : ∀ (fn : Fn) (first cap : Array Value) (w : World), (Instr.makeFunc fn first cap).run Try.prog w = .ok (.func fn first cap) w := fun _ _ _ _ => rfl
  clear hp hn ho hb hf k1 k2 kV hB hBV hL
  cases b with
  | false =>
    go_enter Try.func16, Try.ntmps16
    go_wp2_with (go_at_call 9; refine Calls.mono HNW.out ?_; rintro e W1 ⟨HK1, _, hfa⟩; have e9 := hfa rfl; subst e9; clear hfa c0 c1 c2)
    go_ret
    exact ⟨keptB HKV.out (HK1.out.alloc _), (fun h => by cases h), fun _ => rfl⟩
  | true =>
    go_enter Try.func16, Try.ntmps16
    go_wp2_with (go_at_call 9; refine Calls.mono HNW.out ?_; rintro e W1 ⟨HK1, htr, _⟩; obtain ⟨R, lo, N, fin, rfl, HR, HL⟩ := htr rfl; clear htr c0 c1 c2)
    go_ret
    have k3 : Kept [] W1 (W1.alloc (.cells #[.pointer (some ⟨R, 0, none⟩)] 32)) := (Kept.refl [] W1).alloc _
    have s1 := HKV.out.size
    have s2 := HK1.out.size
    have hl := HL.out
    refine ⟨keptB HKV.out (keptB HK1.out k3), (fun _ => ⟨_, _, R, lo, N, fin, rfl, al0 _ _, (keptB HK1.out k3).at HLB.out.1 (by simp), HR.out.keptF k3 (by simp) (by simp), by omega, HLB.out.2, by omega, by omega, ?_⟩), fun h => by cases h⟩
    rw [World.size_alloc]
    omega
end Go.Proofs.Ytbbfajbnklgncaa
