/- The chapter's example: closed facts, and the calls at it. -/
import Derived.Test.YtondmjnagkldpaaDoorEvTHolds
import Derived.Test.YtondmjnagkldpaaDoorEvTrees
namespace Go.Proofs.YtondmjnagkldpaaDoor
open Go.RowKit Go.Shelf Go.Maps

def bP : ByteArray := ⟨#[112]⟩
def bQ : ByteArray := ⟨#[113]⟩
def bR : ByteArray := ⟨#[114]⟩
def b0 : ByteArray := ⟨#[]⟩
def tP : Tr := ⟨3, bP, []⟩
def tQ : Tr := ⟨3, bQ, []⟩
def tR : Tr := ⟨3, bR, []⟩
def tF : Tr := ⟨12, b0, [tP, tQ]⟩
def tE : Tr := ⟨10, b0, [tQ]⟩
def tA : Tr := ⟨11, b0, [tE]⟩
def tN : Tr := ⟨4, b0, [tP]⟩
def tM : Tr := ⟨13, b0, [tQ, tN]⟩
def exNames : List ByteArray := [bP, bQ]
def exWord : Wd := ⟨[1, 1], [2, 0]⟩

theorem has_pq (s : ByteArray) : hasN exNames s = ((bP.data.toList == s.data.toList) || (bQ.data.toList == s.data.toList)) := by
  unfold hasN exNames
  rw [List.any_cons, List.any_cons, List.any_nil, sameN_data, sameN_data, Bool.or_false]
theorem hasP : hasN exNames bP = true := by rw [has_pq]; decide
theorem hasQ : hasN exNames bQ = true := by rw [has_pq]; decide
theorem hasR : hasN exNames bR = false := by rw [has_pq]; decide
theorem ex_list : listBool exNames = true := by
  rw [listBool_iff]
  refine ⟨by decide, fun j hj _ => ?_⟩
  have hj' : j < 2 := hj
  match j, hj' with
  | 0, _ => exact ⟨show nameB bP.data.toList = true by decide, rfl⟩
  | 1, _ =>
    refine ⟨show nameB bQ.data.toList = true by decide, ?_⟩
    show hasN [bP] bQ = false
    unfold hasN
    rw [List.any_cons, List.any_nil, sameN_data]; decide
theorem ex_check : checkE exWord exNames.length = 0 := by decide
theorem ex_len : exWord.len = 4 := rfl
theorem leaf_all {q : Tr → Prop} {s : ByteArray} (h : q ⟨3, s, []⟩) : (⟨3, s, []⟩ : Tr).All q := (Tr.all_eq _).2 ⟨h, fun k hk => by cases hk⟩
theorem one_all {q : Tr → Prop} {o : Nat} {s : ByteArray} {t : Tr} (h : q ⟨o, s, [t]⟩) (ht : t.All q) : (⟨o, s, [t]⟩ : Tr).All q := (Tr.all_eq _).2 ⟨h, fun k hk => by rw [List.mem_singleton.1 hk]; exact ht⟩
theorem two_all {q : Tr → Prop} {o : Nat} {s : ByteArray} {t u : Tr} (h : q ⟨o, s, [t, u]⟩) (ht : t.All q) (hu : u.All q) : (⟨o, s, [t, u]⟩ : Tr).All q := (Tr.all_eq _).2 ⟨h, fun k hk => by
  rcases List.mem_cons.1 hk with e | hk
  · rw [e]; exact ht
  · rw [List.mem_singleton.1 hk]; exact hu⟩
theorem empty_list : b0.toList.isEmpty = true := by rw [ByteArray.toList_eq]; rfl
theorem formed_of {o : Nat} {ks : List Tr} (h1 : 1 ≤ o) (h2 : o ≤ 21) (h3 : o ≠ 3) (h4 : ks.length = kidsN o) : formedB ⟨o, b0, ks⟩ = true := by
  unfold formedB
  simp only [if_neg h3, empty_list, h1, h2, h4, decide_true, Bool.and_true, beq_self_eq_true]
theorem formed_leaf {s : ByteArray} (h : nameB s.data.toList = true) : formedB ⟨3, s, []⟩ = true := by
  unfold formedB
  simp [h, kidsN, kidsL]
theorem gP : tP.Good := leaf_all ⟨formed_leaf (by decide), by decide⟩
theorem gQ : tQ.Good := leaf_all ⟨formed_leaf (by decide), by decide⟩
theorem gR : tR.Good := leaf_all ⟨formed_leaf (by decide), by decide⟩
theorem gF : tF.Good := two_all ⟨formed_of (by decide) (by decide) (by decide) rfl, by decide⟩ gP gQ
theorem gE : tE.Good := one_all ⟨formed_of (by decide) (by decide) (by decide) rfl, by decide⟩ gQ
theorem gA : tA.Good := one_all ⟨formed_of (by decide) (by decide) (by decide) rfl, by decide⟩ gE
theorem gN : tN.Good := one_all ⟨formed_of (by decide) (by decide) (by decide) rfl, by decide⟩ gP
theorem gM : tM.Good := two_all ⟨formed_of (by decide) (by decide) (by decide) rfl, by decide⟩ gQ gN
theorem nP : tP.Named exNames := leaf_all (fun _ => hasP)
theorem nQ : tQ.Named exNames := leaf_all (fun _ => hasQ)
theorem nF : tF.Named exNames := two_all (fun h => absurd h (by decide)) nP nQ
theorem nE : tE.Named exNames := one_all (fun h => absurd h (by decide)) nQ
theorem nA : tA.Named exNames := one_all (fun h => absurd h (by decide)) nE
theorem nN : tN.Named exNames := one_all (fun h => absurd h (by decide)) nP
theorem nM : tM.Named exNames := two_all (fun h => absurd h (by decide)) nQ nN
theorem max_small {b : ByteArray} (h : b.size ≤ 1) : b.size ≤ maxLen := by unfold maxLen; omega
theorem fP : tP.Fine := leaf_all ⟨by decide, max_small (by decide)⟩
theorem fQ : tQ.Fine := leaf_all ⟨by decide, max_small (by decide)⟩
theorem fR : tR.Fine := leaf_all ⟨by decide, max_small (by decide)⟩
theorem fF : tF.Fine := two_all ⟨by decide, max_small (by decide)⟩ fP fQ
theorem fE : tE.Fine := one_all ⟨by decide, max_small (by decide)⟩ fQ
theorem fA : tA.Fine := one_all ⟨by decide, max_small (by decide)⟩ fE
theorem fN : tN.Fine := one_all ⟨by decide, max_small (by decide)⟩ fP
theorem fM : tM.Fine := two_all ⟨by decide, max_small (by decide)⟩ fQ fN
theorem sP : tP.size = 1 ∧ tP.depth = 1 := by unfold tP; rw [Tr.size_eq, Tr.depth_eq]; exact ⟨rfl, rfl⟩
theorem sQ : tQ.size = 1 ∧ tQ.depth = 1 := by unfold tQ; rw [Tr.size_eq, Tr.depth_eq]; exact ⟨rfl, rfl⟩
theorem sR : tR.size = 1 ∧ tR.depth = 1 := by unfold tR; rw [Tr.size_eq, Tr.depth_eq]; exact ⟨rfl, rfl⟩
theorem s_one (o : Nat) (s : ByteArray) (t : Tr) : (⟨o, s, [t]⟩ : Tr).size = 1 + t.size ∧ (⟨o, s, [t]⟩ : Tr).depth = 1 + t.depth := by rw [Tr.size_eq, Tr.depth_eq]; simp
theorem s_two (o : Nat) (s : ByteArray) (t u : Tr) : (⟨o, s, [t, u]⟩ : Tr).size = 1 + (t.size + u.size) ∧ (⟨o, s, [t, u]⟩ : Tr).depth = 1 + max t.depth u.depth := by rw [Tr.size_eq, Tr.depth_eq]; simp
theorem sF : tF.size = 3 ∧ tF.depth = 2 := by unfold tF; rw [(s_two _ _ _ _).1, (s_two _ _ _ _).2, sP.1, sQ.1, sP.2, sQ.2]; decide
theorem sE : tE.size = 2 ∧ tE.depth = 2 := by unfold tE; rw [(s_one _ _ _).1, (s_one _ _ _).2, sQ.1, sQ.2]; decide
theorem sA : tA.size = 3 ∧ tA.depth = 3 := by unfold tA; rw [(s_one _ _ _).1, (s_one _ _ _).2, sE.1, sE.2]; decide
theorem sN : tN.size = 2 ∧ tN.depth = 2 := by unfold tN; rw [(s_one _ _ _).1, (s_one _ _ _).2, sP.1, sP.2]; decide
theorem sM : tM.size = 4 ∧ tM.depth = 3 := by unfold tM; rw [(s_two _ _ _ _).1, (s_two _ _ _ _).2, sQ.1, sN.1, sQ.2, sN.2]; decide
theorem fits_of {t : Tr} {xs : List ByteArray} (h : t.Good) (hn : t.Named xs) (hs : t.size ≤ 1000) (hd : t.depth ≤ 100) : fitsN t xs = 0 := by
  unfold fitsN
  rw [if_neg (by simp [right_of_good h hs hd]), lack_of_named hn]; rfl
theorem along_of {t : Tr} (h : t.Good) (hn : t.Named exNames) (hs : t.size ≤ 1000) (hd : t.depth ≤ 100) : alongE t exNames exWord = 0 := by
  unfold alongE
  rw [if_neg (by simp [fits_of h hn hs hd]), if_neg (by simp [ex_list]), if_neg (by simp [ex_check])]
theorem along_R : alongE tR exNames exWord = 60 := by
  have h : fitsN tR exNames = 60 := by
    unfold fitsN
    rw [if_neg (by simp [right_of_good gR (by rw [sR.1]; omega) (by rw [sR.2]; omega)])]
    have : lackN tR.names exNames = true := by
      have e : tR.names = [bR] := by
        unfold Tr.names tR
        rw [Tr.parts_eq]
        rfl
      rw [e]
      unfold lackN
      rw [List.any_cons, hasR]; rfl
    rw [this]; rfl
  unfold alongE
  rw [if_pos (by rw [h]; decide), h]
theorem rowP : rowT exWord exNames tP = backR exWord false (fun i _ => bitB (exWord.at i) 0) := by unfold tP; rw [rowT_eq]; rfl
theorem rowQ : rowT exWord exNames tQ = backR exWord false (fun i _ => bitB (exWord.at i) 1) := by unfold tQ; rw [rowT_eq]; rfl
theorem row_one (o : Nat) (s : ByteArray) (t : Tr) (q : Wd) (xs : List ByteArray) : rowT q xs ⟨o, s, [t]⟩ = rowOp q xs o s (rowT q xs t) (rowT q xs t) := by rw [rowT_eq]; rfl
theorem row_two (o : Nat) (s : ByteArray) (t u : Tr) (q : Wd) (xs : List ByteArray) : rowT q xs ⟨o, s, [t, u]⟩ = rowOp q xs o s (rowT q xs t) (rowT q xs u) := by rw [rowT_eq]; rfl
theorem rowF : rowT exWord exNames tF 0 = true ∧ rowT exWord exNames tF 1 = true ∧ rowT exWord exNames tF 2 = true ∧ rowT exWord exNames tF 3 = false := by
  unfold tF
  rw [row_two, rowP, rowQ]
  exact ⟨by kernel_rfl, by kernel_rfl, by kernel_rfl, by kernel_rfl⟩
theorem rowA : rowT exWord exNames tA 0 = true := by
  unfold tA tE
  rw [row_one, row_one, rowQ]
  kernel_rfl
theorem rowM : rowT exWord exNames tM 2 = true := by
  unfold tM tN
  rw [row_two, row_one, rowP, rowQ]
  kernel_rfl

/-- The calls at the example. -/
theorem awk_along (W : World) (kv nv sv lv : Value) (hI : IsF W tF kv) (hN : Strs W nv exNames) (hW : IsW W sv lv exWord) (hT : KidsTab W) :
    Calls Tryd.prog 13 #[.agg #[.int .u8 12, .string ⟨#[]⟩, kv], nv, .agg #[sv, lv]] W fun e w' => ∃ b, e = .returned (.tuple #[.slice (some ⟨b, 0, none⟩) 4 4, .int .i64 0]) ∧ (w'.cell? ⟨b, 0, none⟩ = some (.bool true) ∧ w'.cell? ⟨b, 1, none⟩ = some (.bool true) ∧ w'.cell? ⟨b, 2, none⟩ = some (.bool true) ∧ w'.cell? ⟨b, 3, none⟩ = some (.bool false)) ∧ Kept [] W w' := by
  refine (along_ok tF kv nv sv lv exNames exWord W hI fF hN hW hT (by rw [sF.1]; omega) (by rw [sF.2]; omega) (along_of gF nF (by rw [sF.1]; omega) (by rw [sF.2]; omega))).mono ?_
  rintro e w' ⟨b, rfl, hr, k⟩
  obtain ⟨r0, r1, r2, r3⟩ := rowF
  refine ⟨b, rfl, ⟨?_, ?_, ?_, ?_⟩, k⟩
  · rw [hr.cell (i := 0) (by decide), r0]
  · rw [hr.cell (i := 1) (by decide), r1]
  · rw [hr.cell (i := 2) (by decide), r2]
  · rw [hr.cell (i := 3) (by decide), r3]
theorem awk_holds (W : World) (kv nv sv lv : Value) (hI : IsF W tA kv) (hN : Strs W nv exNames) (hW : IsW W sv lv exWord) (hT : KidsTab W) :
    Calls Tryd.prog 14 #[.agg #[.int .u8 11, .string ⟨#[]⟩, kv], nv, .agg #[sv, lv]] W fun e w' => e = .returned (.tuple #[.bool true, .int .i64 0]) ∧ Kept [] W w' := by
  have := holds_ok tA kv nv sv lv exNames exWord W hI fA hN hW hT (by rw [sA.1]; omega) (by rw [sA.2]; omega) (along_of gA nA (by rw [sA.1]; omega) (by rw [sA.2]; omega))
  rw [rowA] at this
  exact this
theorem awk_lacks (W : World) (nv sv lv : Value) (hN : Strs W nv exNames) (hW : IsW W sv lv exWord) (hT : KidsTab W) :
    Calls Tryd.prog 14 #[.agg #[.int .u8 3, .string ⟨#[114]⟩, .slice none 0 0], nv, .agg #[sv, lv]] W fun e w' => e = .returned (.tuple #[.bool false, .int .i64 60]) ∧ Kept [] W w' := by
  have := holds_bad tR (.slice none 0 0) nv sv lv exNames exWord W (leafF W bR) fR hN hW hT (by rw [sR.1]; omega) (by rw [sR.2]; omega) (by rw [along_R]; decide)
  rw [along_R] at this
  exact this
theorem awk_new (W : World) (nv sv lv : Value) (hN : Strs W nv exNames) (hW : IsW W sv lv exWord) (hT : KidsTab W) :
    Calls Tryd.prog 18 #[nv, .agg #[sv, lv]] W (NewPost W exWord exNames) := new_ok nv sv lv exNames exWord W hN hW hT ex_list ex_check
theorem awk_at (W w₁ : World) (n p m : Nat) (kv nv sv lv : Value) (hI : IsN n W tM kv) (hp : p < n) (hm : m < n) (hTb : TabIs w₁ W p m nv sv lv (.slice none 0 0) exWord exNames []) (hT : KidsTab W) :
    Calls Tryd.prog 19 #[.pointer (some ⟨p, 0, none⟩), .agg #[.int .u8 13, .string ⟨#[]⟩, kv], .int .i64 2] W fun e w' => ∃ rv' known', e = .returned (.tuple #[.bool true, .int .i64 0]) ∧ TabIs w₁ w' p m nv sv lv rv' exWord exNames known' ∧ Kept [p, m] W w' := by
  have hIX : IsT (fun k => k < W.heap.size ∧ n ≤ k) W tM kv := by
    have h1 := IsT.isF hI
    exact isT_both h1 hI
  have := tholds_ok tM (fun k => k < W.heap.size ∧ n ≤ k) kv 2 w₁ W p m nv sv lv (.slice none 0 0) exWord exNames [] (by decide) (by decide) fM hIX (fun k hk => ⟨hk.1, fun hin => ?_⟩) hTb hT (fits_of gM nM (by rw [sM.1]; omega) (by rw [sM.2]; omega)) (by simp) (by decide)
  · refine this.mono ?_
    rintro e w' ⟨rv', known', rfl, h1, h2, _⟩
    exact ⟨rv', known', by rw [rowM], h1, h2.mono (fun x hx => by simpa [FR, Value.ownBlock] using hx)⟩
  · simp [FR, Value.ownBlock] at hin
    omega
theorem awk_arg (W w₁ : World) (p m : Nat) (kv nv sv lv rv : Value) (known : List Tr) (hI : IsF W tF kv) (hTb : TabIs w₁ W p m nv sv lv rv exWord exNames known) (hT : KidsTab W) :
    Calls Tryd.prog 19 #[.pointer (some ⟨p, 0, none⟩), .agg #[.int .u8 12, .string ⟨#[]⟩, kv], .int .i64 4] W fun e w' => e = .returned (.tuple #[.bool false, .int .i64 1]) ∧ Kept [] W w' :=
  tholds_arg tF kv 4 w₁ W p m nv sv lv rv exWord exNames known (by decide) fF hI hTb hT (fits_of gF nF (by rw [sF.1]; omega) (by rw [sF.2]; omega)) (by decide)
theorem awk_places (W w₁ : World) (p m : Nat) (nv sv lv rv : Value) (known : List Tr) (hTb : TabIs w₁ W p m nv sv lv rv exWord exNames known) :
    Calls Tryd.prog 20 #[.pointer (some ⟨p, 0, none⟩)] W fun e w' => e = .returned (.int .i64 4) ∧ Kept [] W w' := tPlaces_any p nv sv lv rv (.map (some m)) exWord W hTb.tab hTb.isW (by decide)
end Go.Proofs.YtondmjnagkldpaaDoor
