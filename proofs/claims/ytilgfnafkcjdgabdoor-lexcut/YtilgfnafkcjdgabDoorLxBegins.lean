/- begins: the tokens that All goes through. -/
import Derived.Test.YtilgfnafkcjdgabDoorLxWorks
import Derived.Test.YtilgfnafkcjdgabDoorLxTake
namespace Go.Proofs.YtilgfnafkcjdgabDoor
open Go.RowKit Go.Shelf
attribute [local go_sem] Oper.semAt_some

theorem own_form {W : World} {base : Nat} {e : TypeId} {size : Nat} {v : Value} {n : Nat} {xs : List Value} (h : W.ownsRow base e size v n xs) : ∃ ad cap, v = .slice ad n cap := by
  rcases h.2 with ⟨rfl, h0⟩ | ⟨g, cap, cur, rfl, _⟩
  · exact ⟨none, 0, by rw [h0]⟩
  · exact ⟨_, _, rfl⟩

set_option maxHeartbeats 1000000 in
set_option maxRecDepth 20000 in
theorem begins_any (s : ByteArray) (most : Nat) (w : World) (hs : s.size ≤ 1099511627776) (hm : (itemsOf s.data.toList).length ≤ most) :
    Calls Tryd.prog 6 #[.string s, .int .i64 (most : Nat)] w fun e w' => ∃ v, e = .returned v ∧ w'.ownsRow w.heap.size 31 3 v (toksOf s.data.toList).length (flatI (toksOf s.data.toList)) ∧ Below w.heap.size w w' := by
  refine (callsIn_wide (n := 9)).1 ?_
  refine callsIn_of_wp_marks Tryd.func6 rfl trivial ?_ rfl
  simp only [Tryd.ntmps6, List.size_toArray, List.length_cons, List.length_nil, Nat.reduceAdd, Nat.reduceSub, Array.replicate_succ, Array.replicate_zero, List.push_toArray, List.append_toArray, List.nil_append, List.cons_append]
  gi_wp2_with (refine ⟨trivial, ?_⟩; gi_at_call 10; refine (callsIn_wide.2 (all_any s _)).mono ?_; rintro e V ⟨Bs, Bt, Bb, rfl, hA, hBs, hBt, hBb, hk⟩; have HA : Hid _ := hA; have HKV : Hid _ := hk; clear hA hk)
  rw [eql_func_nil]
  simp only [Result.andThen]
  gi_wp2
  simp only [World.size_alloc] at hBs hBt hBb
  have HK : Hid (Kept [] w V) := (((Kept.refl [] w).alloc _).alloc _).trans HKV.out (by simp) (by simp)
  have b3 : Boxed V w.heap.size 3 (.int .i64 (most : Nat)) := HKV.out.at ((Boxed.new w _ _).alloc _) (by simp)
  have b5 : Boxed V (w.heap.size + 1) 23 (.slice none 0 0) := HKV.out.at (by have := Boxed.new (w.alloc (.cells #[.int .i64 (most : Nat)] 3)) 23 (.slice none 0 0); rw [World.size_alloc] at this; exact this) (by simp)
  have hN : (itemsOf s.data.toList).length ≤ s.size + 1 := by rw [Lib.size_eq]; exact items_le _ _ _
  have hX0 : ∀ k, allX Bs Bt Bb k → w.heap.size + 1 + 1 ≤ k := fun k h => by rcases h with rfl | rfl | rfl <;> assumption
  clear HKV
  refine rangeTok rfl (by omega) (gf := 16) (lb := #[.pointer (some ⟨Bs, 0, none⟩)]) rfl trivial (enters_of Tryd.func16 (by kernel_rfl) rfl)
    (all_goes (9 - 1) (by omega) Bs Bt Bb s (by omega) V HA.out) (fun k hk => HA.out.lt k hk) (fun _ => rfl)
    (fun X pre W => Coll w.heap.size (w.heap.size + 1) X pre W ∧ Bx1 w.heap.size 3 (.int .i64 (most : Nat)) X W ∧ Bw w.heap.size w X W)
    (fun _ _ _ _ => False)
    ⟨fun h hX => ⟨h.1.more hX, h.2.1.more hX, h.2.2.more hX⟩, fun h hg hr => ⟨h.1.turn hg hr, h.2.1.turn hg hr, h.2.2.turn hg hr⟩⟩
    (fun c => ⟨fun h _ => h, fun h _ _ => h⟩)
    ⟨⟨⟨_, b5, World.ownsRow_nil _ _ _ _, fun k _ h => by cases h⟩, fun h => by have := hX0 _ h; omega⟩, ⟨b3, fun h => by have := hX0 _ h; omega⟩, HK.out.below, HK.out.size, fun k h => by have := hX0 _ h; omega⟩ ?a1 ?assign ?body ?done ?stop
  case assign =>
    intro l x W Bx K hBx hK
    dsimp only [tokA, tokV]
    dsimp only [tokC] at hK
    gi_wp2
    exact hK
  case body =>
    rintro l' X pre x Bx W1 _ _ hXb ⟨⟨⟨v, bv, hown, hvX⟩, hX4⟩, c3, hB⟩ hBx hrow hlen
    obtain ⟨ad0, cap0, rfl⟩ := own_form hown
    have t0 : W1.cell? ⟨Bx, 0, none⟩ = some (.int .u8 (x.kind.val : Nat)) := (cell_of hrow 0).trans rfl
    have t1 : W1.cell? ⟨Bx, 1, none⟩ = some (.string ⟨x.text.toArray⟩) := (cell_of hrow 1).trans rfl
    have t2 : W1.cell? ⟨Bx, 2, none⟩ = some (.int .i64 (x.pos : Nat)) := (cell_of hrow 2).trans rfl
    have hcv := bv.cell
    have hfv := bv.frozen
    have hc3 := c3.1.cell
    have HV : Hid (Boxed W1 (w.heap.size + 1) 23 (.slice ad0 pre.length cap0)) := bv
    have HX : Hid (∀ k, X k → (Value.slice ad0 pre.length cap0).ownBlock ≠ some k) := hvX
    have HB : Hid (Bw w.heap.size w X W1) := hB
    have H3 : Hid (Bx1 w.heap.size 3 (.int .i64 (most : Nat)) X W1) := c3
    have HO : Hid _ := hown
    have hz1 := hB.2.1
    have hne : ¬ ((pre.length : Nat) : Int) = (most : Int) := by omega
    obtain ⟨i0, hi, hz0, hz1', hz2⟩ := info_parts Tryd.infoTok
    clear bv hvX hB c3 hrow
    gi_wp2_with (gi_at_builtin; refine append_in _ rfl _ _ 23 rfl w.heap.size 31 i0 _ 3 32 Tryd.underlying23 hi hz0 hz1' hz2 rfl (by decide) _ _ _ rfl (hown.alloc _) ⟨W1.heap.size, 0, none⟩ 1 1 [.int .u8 (x.kind.val : Nat), .string ⟨x.text.toArray⟩, .int .i64 (x.pos : Nat)] rfl rfl (World.news_of_block (cs := #[.int .u8 (x.kind.val : Nat), .string ⟨x.text.toArray⟩, .int .i64 (x.pos : Nat)]) (t := 31) (fr := (0, 0)) (heap_alloc_new W1 _)) (by simp [Value.oneCell']) (by omega) (by unfold maxLen; omega) (by omega) (by simp; omega) ?_; intro gr cap w1 hown' hgrow hat; obtain ⟨hv1, hv2, hr2, _, hb2⟩ := HV.out.appended (by decide) hown hz1 (by omega) hown' hgrow; have HG : Hid _ := hgrow; have HAT : Hid _ := hat; have HV1 : Hid _ := hv1; have HV2 : Hid _ := hv2; have HR2 : Hid _ := hr2; have HB2 : Hid _ := hb2; have hc1 := hv1.cell; have hf1 := hv1.frozen; clear hown' hgrow hat hv1 hv2 hr2 hb2)
    have k3 : Bx1 w.heap.size 3 (.int .i64 (most : Nat)) X (w1.setCell ⟨w.heap.size + 1, 0, none⟩ (.slice (some ⟨gr, 0, none⟩) (pre.length + 1) cap)) :=
      ⟨(Below.heap_setCell _ _ _ _ (by show w.heap.size ≠ w.heap.size + 1; omega)).trans ((H3.out.1.alloc _).kept HG.out (H3.out.1.not_row (by decide) HO.out)), H3.out.2⟩
    refine ⟨(KpX.of_kept ((Kept.refl [] W1).alloc _)).trans ((KpX.grown HG.out (fun r e hr => HX.out r hr e)).trans (KpX.setCell hX4 _)), ⟨⟨_, HV2.out, ?_, ?_⟩, hX4⟩, k3, HB.out.1.trans HB2.out, Nat.le_trans HB.out.2.1 HB2.out.size, HB.out.2.2⟩
    · rw [flatI_snoc, List.length_append]; exact HR2.out
    · intro k hk e
      have e' : gr = k := by simpa [Value.ownBlock] using e
      subst e'
      rcases HAT.out with h | h
      · exact HX.out _ hk h
      · have := hXb _ hk
        simp at h
        omega
  case done =>
    rintro D X xs W1 hD hXD rfl ⟨⟨⟨v, bv, hown, hvX⟩, hX4⟩, c3, hB⟩ hK
    have hcv := bv.cell
    have HO : Hid _ := hown
    have HB : Hid (Bw _ _ _ _) := hB
    have HKD : Hid _ := hK
    clear hown hB hK c3
    gi_wp2
    exact ⟨by simp, .inl ⟨_, _, rfl, run_takeDeferred HKD.out, ⟨_, results_tmp rfl _ _ _, _, rfl, ownsRow_putObj HO.out _ HKD.out rfl, HB.out.1.trans (belowK_b (w := w) (Nat.le_refl _) _ D _ _ (by have := HB.out.2.2 D hXD; omega) HKD.out rfl rfl)⟩⟩⟩
  case stop =>
    rintro D X c pre W1 _ _ _ h _
    exact h.elim
end Go.Proofs.YtilgfnafkcjdgabDoor
