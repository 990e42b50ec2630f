/- Proved: 'BitsAlgebra' answers true for every width and every three lists of numbers: sets of one width are a Boolean algebra, Len counts them, keys tell them apart, and Same is Within both ways. No condition. -/
import Derived.Test.YtjfhfdpbdjeedaaAlgWalk
import Derived.Test.YtjfhfdpbdjeedaaSlices
namespace Go.Proofs.Ytjfhfdpbdjeedaa
open Go.ChangeShapes Go.WideShapes Go.ChangeAt Go.WideMaps Go.WideElems Go.RowKit Go.Joins

theorem own : ownKnob Try.prog.godebug = none := by kernel_rfl
theorem laidOut : laidOutB Try.prog = true := by kernel_rfl

theorem bitsAlgebra_walk (c : Int) (hc : -9223372036854775808 ≤ c ∧ c ≤ 9223372036854775807) (aA aB aC : Option Addr) (cA cB cC : Nat) (zA zB zC : List Int) (w : World)
    (hA : IsSl w (.slice aA zA.length cA) zA) (hB : IsSl w (.slice aB zB.length cB) zB) (hC : IsSl w (.slice aC zC.length cC) zC) (lA : zA.length ≤ 17592186044416) (lB : zB.length ≤ 17592186044416) (lC : zC.length ≤ 17592186044416) :
    Calls Try.prog 3 #[.agg #[.int .i64 c, .slice aA zA.length cA, .slice aB zB.length cB, .slice aC zC.length cC]] w fun e w' => e = .returned (.bool true) ∧ Kept [] w w' := by
  by_cases h : zA.length + zB.length + zC.length ≤ 5000
  · exact algebra_few c hc aA aB aC cA cB cC zA zB zC w hA hB hC h
  · exact algebra_many c aA aB aC zA.length zB.length zC.length cA cB cC w lA lB lC (by omega)

set_option maxRecDepth 100000 in
theorem bitsAlgebra_lifted (os : Os) (started : os.Started) (H : Type) (enc : TypeId × Value → H) :
    ReturnsInHanded {} Try.checked os 3 .any (Rows.bitsAlgebraSpec.pre6 enc Try.prog Try.f3 Rows.bitsAlgebraRow.domain false) (Rows.bitsAlgebraSpec.post enc Try.prog Try.f3 false true false false) := by
  refine returnsInHanded_of_change_sized (C := Try.checked) own started (by kernel_rfl) Try.func3
    (ChangeSpec.witness6 (enc := enc) (C := Try.checked) false ⟨#[], #[.agg #[.int .i64 0, .slice none 0 0, .slice none 0 0, .slice none 0 0]], []⟩ 8 (by kernel_rfl) (by kernel_rfl) (by kernel_rfl) (by kernel_rfl)) ?_
  intro W base args ds gs before hval0 hW _ hsz0 _
  have hsz : (DataW.weightsEach Try.prog (Try.f3.params.toList ++ Rows.bitsAlgebraSpec.plain.varTypes Try.prog) (ds ++ gs)).all (· ≤ reachBytes) = true := hsz0
  clear hsz0
  have hval : ∀ (j : Nat) t v, Try.f3.params[j]? = some t → args[j]? = some v → Value.okWide Try.prog W .any base t v := hval0
  have hW' := hW
  obtain ⟨p, q, hA0, hV, rfl, _, _⟩ := hW
  have hA : DataW.TrodAll enc Try.prog W 0 (fun _ => true) true Try.f3.params.toList args.toList ds p := hA0
  rw [Try.params3] at hA hval hsz
  obtain ⟨v0, d0, rfl, rfl, h0⟩ := trodAll_one hA
  obtain ⟨rfl, rfl⟩ := trodVars_none hV
  have h0k := h0
  clear hA0 hval0
  simp only [List.append_nil] at hW'
  have hlt : ∀ x ∈ p, x.block < W.heap.size := fun x hx => by simpa using hW'.lt x hx
  have hargs : ∀ (W' : World), Below W.heap.size W W' → DataW.Trod enc Try.prog W' 0 (fun b => decide (b < W.heap.size)) true 24 v0 d0 p :=
    fun W' hn => Below.trod laidOut (by kernel_rfl) (of_decide_eq_true (by kernel_rfl)) h0k hn hlt
  obtain ⟨c0, c1, c2, c3, y0, y1, y2, y3, n, rfl, hd, _, hy0, hy1, hy2, hy3⟩ := open_agg4 Try.underlying24 (by kernel_rfl) (by kernel_rfl) (hval 0 24 v0 rfl rfl) h0
  obtain ⟨x, e0, _, wx⟩ := DataW.trod_int Try.underlying3 hy0
  simp at e0
  subst e0
  obtain ⟨aA, cA, zA, rfl, sA, mA, _⟩ := sl_of_trod hy1
  obtain ⟨aB, cB, zB, rfl, sB, mB, _⟩ := sl_of_trod hy2
  obtain ⟨aC, cC, zC, rfl, sC, mC, _⟩ := sl_of_trod hy3
  have hsz2 : (DataW.weightsEach Try.prog [3, 22, 22, 22] [y0.1, y1.1, y2.1, y3.1]).all (· ≤ reachBytes) = true := by
    rw [hd] at hsz
    simpa [DataW.weightsEach, DataW.weights, Try.underlying24] using hsz
  refine (bitsAlgebra_walk x (i64_bounds wx) aA aB aC cA cB cC zA zB zC W sA sB sC (sl_small hsz2 (j := 1) rfl rfl mA) (sl_small hsz2 (j := 2) rfl rfl mB) (sl_small hsz2 (j := 3) rfl rfl mC)).mono fun e W' ⟨he, hg⟩ => ?_
  subst he
  have hb := hg.below
  exact ⟨_, rfl, _, _, _, [], _, [], hW', trodAll_mk1 (shut_bool Try.underlying4 _), trodAll_mk1 (hargs _ hb), rfl, hb.frame _, fun h => by cases h⟩

theorem bitsAlgebra_holds : Rows.BitsAlgebraSaid :=
  OpenClaim.holds_of_wide 3 Try.f3 rfl rfl rfl rfl rfl rfl rfl ⟨rfl, rfl, rfl, rfl, rfl⟩ rfl rfl rfl rfl rfl (by kernel_rfl) Try.func3 (by kernel_rfl)
    (of_decide_eq_true (by kernel_rfl)) (by unfold Func.isWrapper; first | (rw [if_pos (by decide +kernel)]; kernel_rfl) | (rw [if_neg (by decide +kernel)]; exact ⟨rfl, rfl⟩))
    (fun os started H enc _ => bitsAlgebra_lifted os started H enc)
end Go.Proofs.Ytjfhfdpbdjeedaa
