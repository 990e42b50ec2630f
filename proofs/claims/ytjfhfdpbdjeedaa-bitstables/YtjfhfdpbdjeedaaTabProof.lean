/- Proved: 'BitsTables' answers true for every width and every list of lists of numbers: a table's numbers are 0 up to its Len, each of another set, under which it is found; sets that are handed to a table or told by it know nothing of it. No condition. -/
import Derived.Test.YtjfhfdpbdjeedaaTabWalk
import Derived.Test.YtjfhfdpbdjeedaaSlices
import Derived.Deep.Matrix
namespace Go.Proofs.Ytjfhfdpbdjeedaa
open Go.ChangeShapes Go.WideShapes Go.ChangeAt Go.WideMaps Go.WideElems Go.RowKit

theorem own : ownKnob Try.prog.godebug = none := by kernel_rfl
theorem laidOut : laidOutB Try.prog = true := by kernel_rfl

theorem mem_weightsAll {H : Type} {P : Program} {e : TypeId} {d : DataW H} {n : Nat} : ∀ {l : List (DataW H)}, d ∈ l → n ∈ d.weights P e → n ∈ DataW.weightsAll P e l
  | x :: l, hd, hn => by
    simp only [DataW.weightsAll, List.mem_append]
    rcases List.mem_cons.1 hd with h | h
    · subst h; exact Or.inl hn
    · exact Or.inr (mem_weightsAll h hn)
  | [], hd, _ => by simp at hd

theorem rows_of_trod {H : Type} {enc : TypeId × Value → H} {W : World} {fuel : Nat} {v : Value} {y : DataW H × List MemPlace} (h : DataW.trod enc Try.prog W 0 (fun _ => true) true fuel 34 [v] = some y)
    (hw : ∀ n ∈ y.1.weights Try.prog 34, n ≤ reachBytes) :
    ∃ (ad : Option Addr) (cap : Nat) (zss : List (List Int)), v = .slice ad zss.length cap ∧ IsRows W (.slice ad zss.length cap) zss ∧ zss.length ≤ 17592186044416 := by
  rcases Deep.open_int_rows Try.underlying34 Try.underlying22 Try.underlying3 (by kernel_rfl) Try.cellsI h with ⟨hcs, hx⟩ | ⟨a, len, cap, A, L, C, Z, hcs, _, hl, hm, hx, hall⟩
  · simp at hcs
    subst hcs
    exact ⟨none, 0, [], rfl, ⟨none, 0, rfl, Or.inl rfl⟩, by simp⟩
  · simp at hcs
    subst hcs
    have hb24 : Try.prog.bytesOf 22 = 24 := by kernel_rfl
    rw [hx] at hw
    have hlen : (((List.range len).map fun r => (Z r).take (L r)).length) = len := by simp
    have hw0 : len ≤ 17592186044416 := by
      have := hw ((len + (cap - len)) * 24) (by simp [DataW.weights, Try.underlying34, hb24])
      simp only [reachBytes] at this
      omega
    have hsmall : ∀ r, r < len → L r ≤ 17592186044416 := by
      intro r hr
      obtain ⟨_, h1, _, h3, _, h5, h6⟩ := hall r (by omega)
      cases hA : A r with
      | none => have := h5 hA; omega
      | some a' =>
        have hin : (Deep.intRow .i64 (A r) (L r) (Z r) : DataW H) ∈ (List.range len).map (fun r => Deep.intRow .i64 (A r) (L r) (Z r)) := List.mem_map.2 ⟨r, by simpa using hr, rfl⟩
        have hwr : (((Z r).take (L r)).length + ((Z r).drop (L r)).length) * 8 ∈ (Deep.intRow .i64 (A r) (L r) (Z r) : DataW H).weights Try.prog 22 := by
          rw [hA]
          simp [Deep.intRow, DataW.weights, Try.underlying22, Try.bytesI, lits]
        have := hw _ (by
          simp only [DataW.weights, Try.underlying34]
          exact List.mem_cons_of_mem _ (List.mem_append_left _ (mem_weightsAll hin hwr)))
        simp only [reachBytes, List.length_take, List.length_drop] at this
        omega
    refine ⟨some a, cap, (List.range len).map fun r => (Z r).take (L r), by rw [hlen], ⟨some a, cap, rfl, ?_⟩, by rw [hlen]; exact hw0⟩
    by_cases h0 : len = 0
    · left; subst h0; simp
    · right
      obtain ⟨b, off, spot⟩ := a
      have hspot : spot = none := by simpa [Addr.add] using World.cell?_spot ((hall 0 (by omega)).1)
      subst hspot
      have hplain : ∀ r, (⟨b, off, none⟩ : Addr).add r = ⟨b, off + r, none⟩ := fun r => Go.WideShapes.add_plain b off r
      refine ⟨b, off, rfl, ?_, fun i hi => ?_⟩
      · have := World.block_lt_of_cell? W _ ((hall 0 (by omega)).1)
        rw [hplain] at this
        exact this
      · have hi' : i < len := by simpa using hi
        obtain ⟨g1, g2, _, g4, _, g6, g7⟩ := hall i (by omega)
        rw [hplain] at g1
        have ez : ((List.range len).map fun r => (Z r).take (L r))[i] = (Z i).take (L i) := by simp
        have el : ((Z i).take (L i)).length = L i := by rw [List.length_take]; omega
        refine ⟨A i, C i, by rw [ez, el]; exact g1, ?_, by rw [ez, el]; exact hsmall i hi'⟩
        rw [ez]
        refine ⟨A i, C i, rfl, ?_⟩
        by_cases hL : L i = 0
        · left; rw [hL]; simp
        · right
          cases hA : A i with
          | none => have := g6 hA; omega
          | some a' =>
            obtain ⟨_, hc⟩ := g7 a' hA
            obtain ⟨b', off', rfl, hc'⟩ := ints_at (zs := Z i) (fun c hcc => hc c (by omega)) (by omega)
            refine ⟨b', off', rfl, World.block_lt_of_cell? W _ (hc' 0 (by omega)), fun j hj => ?_⟩
            have hj' : j < (Z i).length := by omega
            rw [hc' j hj', List.getElem_take, List.getD_eq_getElem?_getD, List.getElem?_eq_getElem hj']
            rfl

set_option maxRecDepth 100000 in
theorem bitsTables_lifted (os : Os) (started : os.Started) (H : Type) (enc : TypeId × Value → H) :
    ReturnsInHanded {} Try.checked os 4 .any (Rows.bitsTablesSpec.pre6 enc Try.prog Try.f4 Rows.bitsTablesRow.domain false) (Rows.bitsTablesSpec.post enc Try.prog Try.f4 false true false false) := by
  refine returnsInHanded_of_change_sized (C := Try.checked) own started (by kernel_rfl) Try.func4
    (ChangeSpec.witness6 (enc := enc) (C := Try.checked) false ⟨#[], #[.int .i64 0, .slice none 0 0], []⟩ 8 (by kernel_rfl) (by kernel_rfl) (by kernel_rfl) (by kernel_rfl)) ?_
  intro W base args ds gs before hval0 hW _ hsz0 _
  have hsz : (DataW.weightsEach Try.prog (Try.f4.params.toList ++ Rows.bitsTablesSpec.plain.varTypes Try.prog) (ds ++ gs)).all (· ≤ reachBytes) = true := hsz0
  clear hsz0
  have hval : ∀ (j : Nat) t v, Try.f4.params[j]? = some t → args[j]? = some v → Value.okWide Try.prog W .any base t v := hval0
  have hW' := hW
  obtain ⟨p, q, hA0, hV, rfl, _, _⟩ := hW
  have hA : DataW.TrodAll enc Try.prog W 0 (fun _ => true) true Try.f4.params.toList args.toList ds p := hA0
  rw [Try.params4] at hA hval hsz
  obtain ⟨v0, v1, d0, d1, p0, p1, rfl, rfl, rfl, h0, h1⟩ := trodAll_two hA
  obtain ⟨rfl, rfl⟩ := trodVars_none hV
  obtain ⟨x, rfl, rfl, rfl, wx⟩ := open_int Try.underlying3 (hval 0 3 v0 rfl rfl) h0
  obtain ⟨a1, l1, c1, rfl⟩ := okWide_slice Try.underlying34 (hval 1 34 v1 rfl rfl)
  have h1k := h1
  obtain ⟨fuel, hf⟩ := h1
  clear hA0 hval0
  simp only [List.append_nil] at hW'
  have hlt : ∀ x ∈ p1, x.block < W.heap.size := fun x hx => by simpa using hW'.lt x (by simpa using hx)
  have hargs : ∀ (W' : World), Below W.heap.size W W' → DataW.Trod enc Try.prog W' 0 (fun b => decide (b < W.heap.size)) true 34 (.slice a1 l1 c1) d1 p1 :=
    fun W' hn => Below.trod laidOut (by kernel_rfl) (of_decide_eq_true (by kernel_rfl)) h1k hn hlt
  obtain ⟨ad, cap, zss, hv, hrows, hl⟩ := rows_of_trod (v := .slice a1 l1 c1) (by simpa [Value.cells] using hf) (fun n hn => by
    have := List.all_eq_true.1 hsz n (DataW.weights_mem_each (j := 1) (t := 34) (d := d1) rfl rfl n hn)
    simpa using this)
  simp only [Value.slice.injEq] at hv
  obtain ⟨rfl, rfl, rfl⟩ := hv
  refine (tables_any x (i64_bounds wx) a1 c1 zss W hl hrows).mono fun e W' ⟨he, hg⟩ => ?_
  subst he
  have hb := hg.below
  exact ⟨_, rfl, _, _, _, [], _, [], hW', trodAll_mk1 (shut_bool Try.underlying4 _), trodAll_mk2 (shut_int Try.underlying3 wx) (hargs _ hb), rfl, hb.frame _, fun h => by cases h⟩

theorem bitsTables_holds : Rows.BitsTablesSaid :=
  OpenClaim.holds_of_wide 4 Try.f4 rfl rfl rfl rfl rfl rfl rfl ⟨rfl, rfl, rfl, rfl, rfl⟩ rfl rfl rfl rfl rfl (by kernel_rfl) Try.func4 (by kernel_rfl)
    (of_decide_eq_true (by kernel_rfl)) (by unfold Func.isWrapper; first | (rw [if_pos (by decide +kernel)]; kernel_rfl) | (rw [if_neg (by decide +kernel)]; exact ⟨rfl, rfl⟩))
    (fun os started H enc _ => bitsTables_lifted os started H enc)
end Go.Proofs.Ytjfhfdpbdjeedaa
