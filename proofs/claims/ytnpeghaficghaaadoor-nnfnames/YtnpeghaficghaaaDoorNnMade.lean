/- nnf.made, nnf.Normal, nnf.Dual, nnf.Is. -/
import Derived.Test.YtnpeghaficghaaaDoorNnFold
import Derived.Test.YtnpeghaficghaaaDoorTrCmp2
namespace Go.Proofs.YtnpeghaficghaaaDoor
open Go.RowKit Go.Shelf

theorem mem_rows0 {β : Type} {p : List Nat} : ∀ {rs : List (List Nat → List β)} {i : Nat} {r : List Nat → List β}, r ∈ rs → ∃ qq, ∀ x ∈ r qq, x ∈ rowsFrom p i rs
  | [], _, _, h => by cases h
  | s :: rs, i, r, h => by
    rcases List.mem_cons.1 h with rfl | h
    · exact ⟨p ++ [i], fun x hx => by rw [rowsFrom]; exact List.mem_append_left _ hx⟩
    · obtain ⟨qq, hq⟩ := mem_rows0 (p := p) (i := i + 1) h
      exact ⟨qq, fun x hx => by rw [rowsFrom]; exact List.mem_append_right _ (hq x hx)⟩
theorem all_of_parts0 {q : Tr → Prop} (t : Tr) : ∀ p, (∀ x ∈ t.parts p, q x.2) → t.All q := by
  induction t using Tr.ind with
  | h t ih =>
    intro p h
    rw [Tr.parts_eq] at h
    refine (Tr.all_eq t).2 ⟨h (p, t) (by simp), fun k hk => ?_⟩
    obtain ⟨qq, hq⟩ := mem_rows0 (p := p) (i := 0) (List.mem_map.2 ⟨k, hk, rfl⟩ : k.parts ∈ t.kids.map Tr.parts)
    exact ih k hk qq (fun x hx => h x (List.mem_cons_of_mem _ (hq x hx)))
theorem good_of_right0 {t : Tr} (h : rightN pastB t = 0) : t.Good ∧ t.size ≤ 1000 ∧ t.depth ≤ 100 := by
  unfold rightN at h
  split at h
  · rename_i he
    split at h
    · rename_i hm
      rw [Bool.and_eq_true, decide_eq_true_eq, decide_eq_true_eq] at hm
      refine ⟨all_of_parts0 t [] (fun x hx => ?_), hm⟩
      unfold Tr.every at he
      rw [List.all_eq_true] at he
      have := he x hx
      simp only [rightQ, Bool.and_eq_true, Bool.not_eq_true', pastB, Bool.and_eq_false_iff, decide_eq_false_iff_not] at this
      refine ⟨this.1, ?_⟩
      have h1 := this.1
      simp only [formedB, Bool.and_eq_true, decide_eq_true_eq] at h1
      omega
    · cases h
  · cases h
theorem right_of_good0 {t : Tr} (h : t.Good) (hs : t.size ≤ 1000) (hd : t.depth ≤ 100) : rightN pastB t = 0 := by
  unfold rightN
  rw [if_pos, if_pos]
  · simp [hs, hd]
  · unfold Tr.every
    rw [List.all_eq_true]
    intro x hx
    have := Tr.All.part h hx
    simp only [rightQ, Bool.and_eq_true, Bool.not_eq_true', pastB, Bool.and_eq_false_iff, decide_eq_false_iff_not]
    exact ⟨this.1, .inl (by omega)⟩
/-- What Normal, Dual, Simple tell besides. -/
def madeE (t p : Tr) : Nat := if rightN pastB t ≠ 0 then 70 else if fitB p then 0 else 31
theorem bcellN {W w1 : World} (hb : Below W.heap.size W w1) : (∀ b o, b < W.heap.size → w1.cell? ⟨b, o, none⟩ = W.cell? ⟨b, o, none⟩) ∧ (∀ b o, b < W.heap.size → w1.frozen? ⟨b, o, none⟩ = W.frozen? ⟨b, o, none⟩) :=
  ⟨fun b o h => hb.cell (p := ⟨b, o, none⟩) h, fun b o h => hb.frozen (p := ⟨b, o, none⟩) h⟩
theorem drew_heapN (w : World) : w.drew.heap = w.heap := rfl
theorem results_fe {fn : Func} {p u : Tmp} (h : fn.results = #[.cell p 25, .tmp u]) (tmps : Array Value) (w : World) (g : Nat) (cs : Array Value) (fr : Nat × Nat) (hp : tmps.getD p undef = .pointer (some ⟨g, 0, none⟩)) (hg : w.heap[g]? = some (.cells cs 25 fr)) (hsz : cs.size = 3) :
    (results fn tmps).run Tryd.prog w = .ok (.tuple #[.agg cs, tmps.getD u undef]) w := by
  have hp' : tmps[p]?.getD undef = .pointer (some ⟨g, 0, none⟩) := by simpa using hp
  have hl := run_loadVar_row (P := Tryd.prog) w g 25 25 cs fr _ hg Tryd.underlying25 rfl (by rw [hsz]; kernel_rfl)
  simp [results, h, hp', asAddr, hl]
theorem ret_fe {fn : Func} {p u : Tmp} {a : Act} {w : World} {g : Nat} {x y z v : Value} {R : Ending → World → Prop} (h : fn.results = #[.cell p 25, .tmp u]) (hp : a.tmps.getD p undef = .pointer (some ⟨g, 0, none⟩)) (hv : a.tmps.getD u undef = v) (hd : a.defers = []) (hg : For3 w g x y z) (hR : R (.returned (.tuple #[.agg #[x, y, z], v])) w) : bodyPost Tryd.prog fn R .ret a w :=
  bodyPost_ret (results_fe h _ w g _ _ hp hg rfl) hd (by rw [hv]; exact hR)
/-- What picks one of two plans does. -/
def Picks (g : Nat) (pick : Tr × Tr → Tr) : Prop := ∀ (p : Tr × Tr) (X : Nat → Prop) (a1 : Option Addr) (a2 : Nat) (a3 : Option Addr) (a4 : Nat) (w : World), IsQ X w p.1 (.slice a1 p.1.kids.length a2) → IsQ X w p.2 (.slice a3 p.2.kids.length a4) →
  Calls Tryd.prog g #[prA p a1 a2 a3 a4] w fun e w' => ∃ b1 b2, e = .returned (plA (pick p) b1 b2) ∧ IsQ X w' (pick p) (.slice b1 (pick p).kids.length b2) ∧ Kept [] w w'
set_option maxHeartbeats 400000 in
theorem pick_n : Picks 59 Prod.fst := by
  intro p X a1 a2 a3 a4 w h1 h2
  have HI : Hid (∀ W, Kept [] w W → IsQ X W p.1 (.slice a1 p.1.kids.length a2)) := fun W k => h1.kept k
  simp only [prA, plA]
  clear h1 h2
  go_enter Tryd.func59, Tryd.ntmps59
  go_wp2
  exact ret_pl rfl rfl rfl (al1 w _ _) ⟨a1, a2, rfl, HI.out _ (((Kept.refl [] w).alloc _).alloc _), ((Kept.refl [] w).alloc _).alloc _⟩
set_option maxHeartbeats 400000 in
theorem pick_d : Picks 60 Prod.snd := by
  intro p X a1 a2 a3 a4 w h1 h2
  have HI : Hid (∀ W, Kept [] w W → IsQ X W p.2 (.slice a3 p.2.kids.length a4)) := fun W k => h2.kept k
  simp only [prA, plA]
  clear h1 h2
  go_enter Tryd.func60, Tryd.ntmps60
  go_wp2
  exact ret_pl rfl rfl rfl (al1 w _ _) ⟨a3, a4, rfl, HI.out _ (((Kept.refl [] w).alloc _).alloc _), ((Kept.refl [] w).alloc _).alloc _⟩
theorem x_pack {a b : Nat} {W : World} {p1 p2 : Tr} {u v : Value} (i1 : IsQ (fun k => a ≤ k ∧ k < b) W p1 u) (i2 : IsQ (fun k => a ≤ k ∧ k < b) W p2 v) : ∃ X : Nat → Prop, (∀ k, X k → a ≤ k ∧ k < b) ∧ IsQ X W p1 u ∧ IsQ X W p2 v := ⟨_, fun _ h => h, i1, i2⟩
theorem pl5_new {Wc : World} {q : Tr} {X : Nat → Prop} {kv x0 x1 x2 x3 x4 : Value} (h : IsQ X Wc q kv) : Pl5 (Wc.alloc (.cells #[x0, x1, x2, x3, x4] 93)) Wc.heap.size x0 x1 x2 x3 x4 ∧ IsP (Wc.alloc (.cells #[x0, x1, x2, x3, x4] 93)) q kv := ⟨al0 _ _, h.isP.kept ((Kept.refl [] Wc).alloc _)⟩
theorem pl5_set {Wc : World} {B : Nat} {q : Tr} {X : Nat → Prop} {kv x0 x1 x2 x3 x4 : Value} (h : IsQ X Wc q kv) (hB : ¬ X B) (z : Pl5 Wc B (.int .u8 0) (.string ⟨#[]⟩) (.slice none 0 0) (.int .i64 0) (.int .i64 0)) : Pl5 (((((Wc.setCell ⟨B, 0, none⟩ x0).setCell ⟨B, 1, none⟩ x1).setCell ⟨B, 2, none⟩ x2).setCell ⟨B, 3, none⟩ x3).setCell ⟨B, 4, none⟩ x4) B x0 x1 x2 x3 x4 ∧ IsP (((((Wc.setCell ⟨B, 0, none⟩ x0).setCell ⟨B, 1, none⟩ x1).setCell ⟨B, 2, none⟩ x2).setCell ⟨B, 3, none⟩ x3).setCell ⟨B, 4, none⟩ x4) q kv :=
  ⟨z.set _ _ _ _ _, (((((h.other hB _ _).other hB _ _).other hB _ _).other hB _ _).other hB _ _).isP⟩
/-- What made, Normal, Dual, Simple leave: a formula that lies in memory, or none. -/
def MadeAs (w : World) (err : Nat) (p : Tr) (e : Ending) (w' : World) : Prop :=
  (err ≠ 0 ∧ e = .returned (.tuple #[.agg #[.int .u8 0, .string ⟨#[]⟩, .slice none 0 0], .int .i64 (err : Nat)]) ∧ Kept [] w w') ∨
  (err = 0 ∧ ∃ kad kcap, e = .returned (.tuple #[.agg #[.int .u8 (p.op : Nat), .string p.name, .slice kad p.kids.length kcap], .int .i64 0]) ∧ IsT (fun b => w.heap.size ≤ b) w' p (.slice kad p.kids.length kcap) ∧ Kept [] w w')
set_option maxHeartbeats 2000000 in
set_option maxRecDepth 20000 in
theorem made_any (g : Nat) (pick : Tr × Tr → Tr) (hen : ∀ args w, (callFunc g args).run Tryd.prog w = .ok (.enter g args) w) (hp : Picks g pick) (t : Tr) (kv : Value) (w : World) (hI : IsF w t kv) (hs : t.size ≤ 1099511627776) (hd : t.depth ≤ 1099511627776) (hF : t.Fine) (hT : KidsTab w) :
    Calls Tryd.prog 58 #[.agg #[.int .u8 (t.op : Nat), .string t.name, kv], .func (.func g) #[] #[]] w (MadeAs w (madeE t (pick (nd t))) (pick (nd t))) := by
  obtain ⟨kad, kcap, rfl⟩ := hI.slice
  obtain ⟨V, hV⟩ : ∃ V, (w.alloc (.cells #[.int .u8 (t.op : Nat), .string t.name, .slice kad t.kids.length kcap] 25)).alloc (.cells #[.int .u8 0, .string ⟨#[]⟩, .slice none 0 0] 25) = V := ⟨_, rfl⟩
  have kV : Kept [] w V := by rw [← hV]; exact ((Kept.refl [] w).alloc _).alloc _
  have v0 : For3 V w.heap.size (.int .u8 (t.op : Nat)) (.string t.name) (.slice kad t.kids.length kcap) := by rw [← hV]; exact alUp (al0 _ _) _
  have v1 : For3 V (w.heap.size + 1) (.int .u8 0) (.string ⟨#[]⟩) (.slice none 0 0) := by rw [← hV]; exact al1 _ _ _
  have HRI : Hid (Calls Tryd.prog 20 #[.agg #[.int .u8 (t.op : Nat), .string t.name, .slice kad t.kids.length kcap]] V fun e w' => e = .returned (.int .i64 (rightN pastB t : Nat)) ∧ Kept [] V w') := right_any t _ V (hI.kept kV) hs hd hF (hT.kept kV)
  have HVV : Hid (_ = V) := hV
  have HV1 : Hid (For3 V (w.heap.size + 1) (.int .u8 0) (.string ⟨#[]⟩) (.slice none 0 0)) := v1
  have HV0 : Hid (For3 V w.heap.size (.int .u8 (t.op : Nat)) (.string t.name) (.slice kad t.kids.length kcap)) := v0
  have HKV : Hid (Kept [] w V) := kV
  rw [← hV] at HRI
  by_cases hr : rightN pastB t = 0
  · have hG := (good_of_right0 hr).1
    rw [hr] at HRI
    have hE : madeE t (pick (nd t)) = if fitB (pick (nd t)) then 0 else 31 := by unfold madeE; rw [if_neg (by simp [hr])]
    rw [hE]
    have HFO : Hid (∀ (W : World) y n a o u r, PlanBox W y n a o u r → Kept [] V W → Calls Tryd.prog 104 #[.agg #[.int .u8 (t.op : Nat), .string t.name, .slice kad t.kids.length kcap], .func (.func 105) #[] #[], .agg (planTab y n a o u r)] W fun e w' => ∃ u1 u2 u3 u4, e = .returned (prA (nd t) u1 u2 u3 u4) ∧ IsQ (fun k => W.heap.size ≤ k ∧ k < w'.heap.size) w' (nd t).1 (.slice u1 (nd t).1.kids.length u2) ∧ IsQ (fun k => W.heap.size ≤ k ∧ k < w'.heap.size) w' (nd t).2 (.slice u3 (nd t).2.kids.length u4) ∧ Kept [] W w') := fun W y n a o u r hB k => by
      refine (fold_any W y n a o u r hB t hG _ W ((hI.kept kV).kept k) (Kept.refl [] W)).mono ?_
      rintro e w' ⟨u1, u2, u3, u4, rfl, hR, k'⟩
      exact ⟨u1, u2, u3, u4, rfl, hR.1.cells (fun _ h l => ⟨h, l⟩) (fun _ _ _ _ c => c), hR.2.cells (fun _ h l => ⟨h, l⟩) (fun _ _ _ _ c => c), k'⟩
    have HPI : Hid (∀ (X : Nat → Prop) a1 a2 a3 a4 (W : World), IsQ X W (nd t).1 (.slice a1 (nd t).1.kids.length a2) → IsQ X W (nd t).2 (.slice a3 (nd t).2.kids.length a4) → Calls Tryd.prog g #[prA (nd t) a1 a2 a3 a4] W fun e w' => ∃ b1 b2, e = .returned (plA (pick (nd t)) b1 b2) ∧ IsQ X w' (pick (nd t)) (.slice b1 (pick (nd t)).kids.length b2) ∧ Kept [] W w') := hp (nd t)
    generalize hq : pick (nd t) = q at *
    generalize nd t = p at *
    obtain ⟨p1, p2⟩ := p
    clear hq
    simp only [prA, plA] at HFO HPI
    have HFI : Hid (∀ b1 b2 (W : World), Calls Tryd.prog 107 #[.agg #[.int .u8 (q.op : Nat), .string q.name, .slice b1 q.kids.length b2, .int .i64 (psz q : Nat), .int .i64 (pdp q : Nat)]] W fun e w' => e = .returned (.bool (fitB q)) ∧ Kept [] W w') := fun b1 b2 W => fitsP_any q b1 _ b2 W
    have HMK : Hid (∀ b1 b2 (W : World), IsP W q (.slice b1 q.kids.length b2) → fitB q = true → Calls Tryd.prog 108 #[.agg #[.int .u8 (q.op : Nat), .string q.name, .slice b1 q.kids.length b2, .int .i64 (psz q : Nat), .int .i64 (pdp q : Nat)]] W fun e w' => ∃ kad kcap, e = .returned (.agg #[.int .u8 (q.op : Nat), .string q.name, .slice kad q.kids.length kcap]) ∧ IsT (fun b => W.heap.size ≤ b) w' q (.slice kad q.kids.length kcap) ∧ Kept [] W w') := fun b1 b2 W h hf => formula_any q _ W h (by unfold fitB at hf; simp at hf; exact hf.1)
    clear hI hF hT hp kV v0 v1 hV hE hr
    obtain ⟨pz, epz⟩ : ∃ x, psz q = x := ⟨_, rfl⟩
    obtain ⟨pd, epd⟩ : ∃ x, pdp q = x := ⟨_, rfl⟩
    rw [epz, epd] at HPI HFI HMK
    clear epz epd
    have T0 : Hid True := trivial
    have T1 : Hid True := trivial
    have T2 : Hid True := trivial
    go_enter Tryd.func58, Tryd.ntmps58
    go_upto_region 3 with (go_at_call 20; refine HRI.out.mono ?_; rintro e W1 ⟨rfl, k1⟩; rw [HVV.out] at k1; have HK1 : Hid (Kept [] V W1) := k1; clear k1)
    have HL1 : Hid (w.heap.size + 1 < W1.heap.size) := Nat.lt_of_lt_of_le (lt_of HV1.out) HK1.out.size
    go_cut [6] from 7 to 21 (fun s6 wc => ∃ B b1 b2, s6 = .pointer (some ⟨B, 0, none⟩) ∧ Hid (W1.heap.size ≤ B ∧ (Pl5 wc B (.int .u8 (q.op : Nat)) (.string q.name) (.slice b1 q.kids.length b2) (.int .i64 (pz : Nat)) (.int .i64 (pd : Nat)) ∧ IsP wc q (.slice b1 q.kids.length b2)) ∧ Kept [] W1 wc))
    case first =>
      obtain ⟨c0, c1, c2, -⟩ := (HV0.out.kept HK1.out).cells
      have HS : Hid (∀ w', Kept [] W1 w' → w'.cell? ⟨w.heap.size, 0, none⟩ = some (.int .u8 (t.op : Nat)) ∧ w'.cell? ⟨w.heap.size, 1, none⟩ = some (.string t.name) ∧ w'.cell? ⟨w.heap.size, 2, none⟩ = some (.slice kad t.kids.length kcap)) := fun w' k => ⟨cell_kept0 k c0, cell_kept0 k c1, cell_kept0 k c2⟩
      go_region_held3 (fun w' => w'.cell? ⟨w.heap.size, 0, none⟩ = some (.int .u8 (t.op : Nat)) ∧ w'.cell? ⟨w.heap.size, 1, none⟩ = some (.string t.name) ∧ w'.cell? ⟨w.heap.size, 2, none⟩ = some (.slice kad t.kids.length kcap))
        ((refine HS.out _ ?_; (repeat (first | (with_reducible exact Kept.refl _ _) | (with_reducible refine Kept.drew ?_) | (with_reducible refine Kept.alloc ?_ _) | (with_reducible refine Kept.setCell ?_ (Or.inr (by dsimp only; omega)) _) | with_reducible refine Kept.trans (F := []) (G := []) (H := []) ?_ HA2.out (by simp) (by simp) | with_reducible refine Kept.trans (F := []) (G := []) (H := []) ?_ HA1.out (by simp) (by simp) | with_reducible refine Kept.trans (F := []) (G := []) (H := []) ?_ HA0.out (by simp) (by simp)))))
        (first
        | (clear T0; go_at_call 106; refine (plans_any _).mono ?_; rintro e U0 ⟨y, n, a, o, u, r, rfl, hB, k⟩; have HB : Hid (PlanBox U0 y n a o u r) := hB; obtain ⟨hc0, hf0⟩ := bcellN k.below; have hz0 := k.size; (try simp only [drew_heapN] at hz0); (try simp only [World.size_alloc] at hz0); have q0 : W1.heap.size ≤ U0.heap.size := (by omega); (try have q0' : W1.heap.size < U0.heap.size := (by omega)); have HA0 : Hid (Kept [] _ U0) := k; clear k hB)
        | (clear T1; go_at_call 104; refine (HFO.out _ y n a o u r (by first | exact HB.out | exact HB.out.keptF ((Kept.refl [] U0).alloc _) (by simp)) (by repeat (first | with_reducible exact HK1.out | with_reducible refine Kept.drew ?_ | with_reducible refine Kept.alloc ?_ _ | with_reducible refine Kept.trans (F := []) (G := []) (H := []) ?_ HA0.out (by simp) (by simp)))).mono ?_; rintro e U1 ⟨u1, u2, u3, u4, rfl, i1, i2, k⟩; obtain ⟨Xq, hXq, j1, j2⟩ := x_pack i1 i2; have HX1 : Hid _ := hXq; have HI1 : Hid (IsQ Xq U1 p1 (.slice u1 p1.kids.length u2)) := j1; have HI2 : Hid (IsQ Xq U1 p2 (.slice u3 p2.kids.length u4)) := j2; clear j1 j2;  obtain ⟨hc1, hf1⟩ := bcellN k.below; have hz1 := k.size; (try simp only [drew_heapN] at hz1); (try simp only [World.size_alloc] at hz1); have q1 : W1.heap.size ≤ U1.heap.size := (by omega); (try have q1' : W1.heap.size < U1.heap.size := (by omega)); (try have q1'' : U0.heap.size < U1.heap.size := (by omega)); have HA1 : Hid (Kept [] _ U1) := k; clear k i1 i2)
        | (clear T2; go_at_fn g; refine (HPI.out Xq u1 u2 u3 u4 _ (by first | exact HI1.out | exact HI1.out.kept ((Kept.refl [] U1).alloc _)) (by first | exact HI2.out | exact HI2.out.kept ((Kept.refl [] U1).alloc _))).mono ?_; rintro e U2 ⟨b1, b2, rfl, i1, k⟩; have HIQ : Hid (IsQ Xq U2 q (.slice b1 q.kids.length b2)) := i1; obtain ⟨hc2, hf2⟩ := bcellN k.below; have hz2 := k.size; (try simp only [drew_heapN] at hz2); (try simp only [World.size_alloc] at hz2); have q2 : W1.heap.size ≤ U2.heap.size := (by omega); (try have q2' : W1.heap.size < U2.heap.size := (by omega)); (try have q2'' : U0.heap.size < U2.heap.size := (by omega)); (try have q2''' : U1.heap.size < U2.heap.size := (by omega)); have HA2 : Hid (Kept [] _ U2) := k; clear k i1))
      all_goals (go_wp2_with fail; go_meet)
      all_goals
        refine ⟨_, b1, b2, rfl, ?_, ?_, ?_⟩
        · omega
        · first
          | (with_reducible refine pl5_new (X := Xq) ?_
             exact HIQ.out)
          | (with_reducible refine pl5_set (X := Xq) ?_ (fun hx => ?_) ?_
             · exact HIQ.out
             · have := HX1.out _ hx
               (try simp only [World.size_alloc] at this)
               omega
             · unfold Pl5; (repeat (first | (with_reducible exact al0 _ _) | exact al0 W1 _ | refine Kept.at HA2.out ?_ (by simp) | refine Kept.at HA1.out ?_ (by simp) | refine Kept.at HA0.out ?_ (by simp))))
        · (repeat (first | (with_reducible exact Kept.refl _ _) | (with_reducible refine Kept.drew ?_) | (with_reducible refine Kept.alloc ?_ _) | (with_reducible refine Kept.setCell ?_ (Or.inr (by dsimp only; omega)) _) | with_reducible refine Kept.trans (F := []) (G := []) (H := []) ?_ HA2.out (by simp) (by simp) | with_reducible refine Kept.trans (F := []) (G := []) (H := []) ?_ HA1.out (by simp) (by simp) | with_reducible refine Kept.trans (F := []) (G := []) (H := []) ?_ HA0.out (by simp) (by simp)))
    case rest =>
      obtain ⟨B, b1, b2, rfl, HC⟩ := hcut
      obtain ⟨hB1, ⟨hpl, hip⟩, kc⟩ := HC.out
      obtain ⟨m0, m1, m2, m3, m4, -⟩ := hpl.cells
      have HPL : Hid (Pl5 wc B (.int .u8 (q.op : Nat)) (.string q.name) (.slice b1 q.kids.length b2) (.int .i64 (pz : Nat)) (.int .i64 (pd : Nat))) := hpl
      have HKC : Hid (Kept [] V wc) := HK1.out.trans kc (by simp) (by simp)
      have HIP : Hid (IsP wc q (.slice b1 q.kids.length b2)) := hip
      clear hpl hip kc hB1
      by_cases hfit : fitB q = true
      · rw [hfit] at HFI
        have HFT : Hid (fitB q = true) := hfit
        clear hfit
        go_wp2_with (first
          | (go_at_call 107; refine (HFI.out _ _ _).mono ?_; rintro e W2 ⟨rfl, k2⟩; obtain ⟨m0', m1', m2', m3', m4', -⟩ := (HPL.out.kept k2).cells; have HK2 : Hid (Kept [] V W2) := HKC.out.trans k2 (by simp) (by simp); have HIP2 : Hid (IsP W2 q (.slice b1 q.kids.length b2)) := HIP.out.kept k2; clear k2)
          | (go_at_call 108; refine (HMK.out _ _ _ HIP2.out HFT.out).mono ?_; rintro e W3 ⟨ka, kc, rfl, hT, k3⟩; have HK3 : Hid (Kept [] V W3) := HK2.out.trans k3 (by simp) (by simp); obtain ⟨d0, d1, d2, df⟩ := (HV1.out.kept HK3.out).cells; have HIT : Hid (IsT (fun b => w.heap.size + 1 < b) W3 q (.slice ka q.kids.length kc)) := hT.mono (fun b hb => Nat.lt_of_lt_of_le (Nat.lt_of_lt_of_le (lt_of HV1.out) HK2.out.size) hb); clear hT k3))
        have hn : ¬ (w.heap.size + 1 < w.heap.size + 1) := by omega
        exact ret_fe rfl rfl rfl rfl ((HV1.out.kept HK3.out).set _ _ _) (.inr ⟨rfl, ka, kc, rfl, (((HIT.out.other hn _ _).other hn _ _).other hn _ _).mono (fun b hb => by omega), kept_set3 (HKV.out.trans HK3.out (by simp) (by simp)) (by omega) _ _ _⟩)
      · have hfit' : fitB q = false := by simpa using hfit
        rw [hfit'] at HFI
        have HNF : Hid (¬ fitB q = true) := hfit
        clear hfit hfit'
        go_wp2_with (go_at_call 107; refine (HFI.out _ _ _).mono ?_; rintro e W2 ⟨rfl, k2⟩; have HK2 : Hid (Kept [] V W2) := HKC.out.trans k2 (by simp) (by simp); obtain ⟨d0, d1, d2, df⟩ := (HV1.out.kept HK2.out).cells; clear k2)
        exact ret_fe rfl rfl rfl rfl ((HV1.out.kept HK2.out).set _ _ _) (.inl ⟨by decide, rfl, kept_set3 (HKV.out.trans HK2.out (by simp) (by simp)) (by omega) _ _ _⟩)
  · have hE : madeE t (pick (nd t)) = 70 := by unfold madeE; rw [if_pos (by simpa using hr)]
    rw [hE]
    have hne : ((rightN pastB t : Int) != 0) = true := by rw [bne_iff_ne]; omega
    clear hI hF hT hp kV v0 v1 hV
    go_enter Tryd.func58, Tryd.ntmps58
    go_wp2_with (go_at_call 20; refine HRI.out.mono ?_; rintro e W1 ⟨rfl, k1⟩; rw [HVV.out] at k1; have HK1 : Hid (Kept [] V W1) := k1; obtain ⟨d0, d1, d2, df⟩ := (HV1.out.kept k1).cells; clear k1)
    exact ret_fe rfl rfl rfl rfl ((HV1.out.kept HK1.out).set _ _ _) (.inl ⟨by decide, rfl, kept_set3 (HKV.out.trans HK1.out (by simp) (by simp)) (by omega) _ _ _⟩)
set_option maxHeartbeats 1000000 in
set_option maxRecDepth 20000 in
theorem normal_any (t : Tr) (kv : Value) (w : World) (hI : IsF w t kv) (hs : t.size ≤ 1099511627776) (hd : t.depth ≤ 1099511627776) (hF : t.Fine) (hT : KidsTab w) :
    Calls Tryd.prog 26 #[.agg #[.int .u8 (t.op : Nat), .string t.name, kv]] w (MadeAs w (madeE t (nd t).1) (nd t).1) := by
  obtain ⟨kad, kcap, rfl⟩ := hI.slice
  have kV : ∀ o o', Kept [] w ((w.alloc o).alloc o') := fun o o' => ((Kept.refl [] w).alloc _).alloc _
  have HM : Hid (∀ W, Kept [] w W → Calls Tryd.prog 58 #[.agg #[.int .u8 (t.op : Nat), .string t.name, .slice kad t.kids.length kcap], .func (.func 59) #[] #[]] W (MadeAs W (madeE t (nd t).1) (nd t).1)) := fun W k => made_any 59 Prod.fst (enters_of Tryd.func59 (by kernel_rfl) rfl) pick_n t _ W (hI.kept k) hs hd hF (hT.kept k)
  generalize madeE t (nd t).1 = er at *
  generalize (nd t).1 = q at *
  have HK : Hid (∀ o o', Kept [] w ((w.alloc o).alloc o')) := kV
  clear hI hF hT kV
  go_enter Tryd.func26, Tryd.ntmps26
  go_wp2_with (go_at_call 58; refine (HM.out _ (HK.out _ _)).mono ?_; rintro e W1 hmade; rcases hmade with ⟨hne, rfl, k1⟩ | ⟨rfl, ka, kc, rfl, hq, k1⟩ <;> (have hz : For3 W1 (w.heap.size + 1) (.int .u8 0) (.string ⟨#[]⟩) (.slice none 0 0) := k1.at (al1 w _ _) (by simp); obtain ⟨d0, d1, d2, df⟩ := hz.cells; have HZ : Hid (For3 W1 (w.heap.size + 1) (.int .u8 0) (.string ⟨#[]⟩) (.slice none 0 0)) := hz; have HK1 : Hid (Kept [] _ W1) := k1; clear hz k1))
  · exact ret_fe rfl rfl rfl rfl (HZ.out.set _ _ _) (.inl ⟨hne, rfl, kept_set3 ((HK.out _ _).trans HK1.out (by simp) (by simp)) (by omega) _ _ _⟩)
  · have hn : ¬ (w.heap.size + 1 < w.heap.size + 1) := by omega
    have hT2 : IsT (fun b => w.heap.size + 1 < b) W1 q (.slice ka q.kids.length kc) := hq.mono (fun b hb => by simp at hb; omega)
    exact ret_fe rfl rfl rfl rfl (HZ.out.set _ _ _) (.inr ⟨rfl, ka, kc, rfl, (((hT2.other hn _ _).other hn _ _).other hn _ _).mono (fun b hb => by omega), kept_set3 ((HK.out _ _).trans HK1.out (by simp) (by simp)) (by omega) _ _ _⟩)
set_option maxHeartbeats 1000000 in
set_option maxRecDepth 20000 in
theorem dual_any (t : Tr) (kv : Value) (w : World) (hI : IsF w t kv) (hs : t.size ≤ 1099511627776) (hd : t.depth ≤ 1099511627776) (hF : t.Fine) (hT : KidsTab w) :
    Calls Tryd.prog 27 #[.agg #[.int .u8 (t.op : Nat), .string t.name, kv]] w (MadeAs w (madeE t (nd t).2) (nd t).2) := by
  obtain ⟨kad, kcap, rfl⟩ := hI.slice
  have kV : ∀ o o', Kept [] w ((w.alloc o).alloc o') := fun o o' => ((Kept.refl [] w).alloc _).alloc _
  have HM : Hid (∀ W, Kept [] w W → Calls Tryd.prog 58 #[.agg #[.int .u8 (t.op : Nat), .string t.name, .slice kad t.kids.length kcap], .func (.func 60) #[] #[]] W (MadeAs W (madeE t (nd t).2) (nd t).2)) := fun W k => made_any 60 Prod.snd (enters_of Tryd.func60 (by kernel_rfl) rfl) pick_d t _ W (hI.kept k) hs hd hF (hT.kept k)
  generalize madeE t (nd t).2 = er at *
  generalize (nd t).2 = q at *
  have HK : Hid (∀ o o', Kept [] w ((w.alloc o).alloc o')) := kV
  clear hI hF hT kV
  go_enter Tryd.func27, Tryd.ntmps27
  go_wp2_with (go_at_call 58; refine (HM.out _ (HK.out _ _)).mono ?_; rintro e W1 hmade; rcases hmade with ⟨hne, rfl, k1⟩ | ⟨rfl, ka, kc, rfl, hq, k1⟩ <;> (have hz : For3 W1 (w.heap.size + 1) (.int .u8 0) (.string ⟨#[]⟩) (.slice none 0 0) := k1.at (al1 w _ _) (by simp); obtain ⟨d0, d1, d2, df⟩ := hz.cells; have HZ : Hid (For3 W1 (w.heap.size + 1) (.int .u8 0) (.string ⟨#[]⟩) (.slice none 0 0)) := hz; have HK1 : Hid (Kept [] _ W1) := k1; clear hz k1))
  · exact ret_fe rfl rfl rfl rfl (HZ.out.set _ _ _) (.inl ⟨hne, rfl, kept_set3 ((HK.out _ _).trans HK1.out (by simp) (by simp)) (by omega) _ _ _⟩)
  · have hn : ¬ (w.heap.size + 1 < w.heap.size + 1) := by omega
    have hT2 : IsT (fun b => w.heap.size + 1 < b) W1 q (.slice ka q.kids.length kc) := hq.mono (fun b hb => by simp at hb; omega)
    exact ret_fe rfl rfl rfl rfl (HZ.out.set _ _ _) (.inr ⟨rfl, ka, kc, rfl, (((hT2.other hn _ _).other hn _ _).other hn _ _).mono (fun b hb => by omega), kept_set3 ((HK.out _ _).trans HK1.out (by simp) (by simp)) (by omega) _ _ _⟩)
theorem MadeAs.ok {w w' : World} {q : Tr} {e : Ending} (h : MadeAs w 0 q e w') : ∃ ka kc, e = .returned (.tuple #[.agg #[.int .u8 (q.op : Nat), .string q.name, .slice ka q.kids.length kc], .int .i64 0]) ∧ IsF w' q (.slice ka q.kids.length kc) ∧ Kept [] w w' := by
  rcases h with ⟨hne, _⟩ | ⟨_, ka, kc, h1, h2, h3⟩
  · exact absurd rfl hne
  · exact ⟨ka, kc, h1, h2.isF, h3⟩
theorem MadeAs.bad {w w' : World} {q : Tr} {er : Nat} {e : Ending} (h : MadeAs w er q e w') (he : er ≠ 0) : e = .returned (.tuple #[.agg #[.int .u8 0, .string ⟨#[]⟩, .slice none 0 0], .int .i64 (er : Nat)]) ∧ Kept [] w w' := by
  rcases h with ⟨_, h1, h2⟩ | ⟨h0, _⟩
  · exact ⟨h1, h2⟩
  · exact absurd h0 he
/-- Is. -/
def isB (t : Tr) : Bool := (madeE t (nd t).1 == 0) && (cmpT (nd t).1 t == 0)
set_option maxHeartbeats 1000000 in
set_option maxRecDepth 20000 in
theorem is_any (t : Tr) (kv : Value) (w : World) (hI : IsF w t kv) (hs : t.size ≤ 1099511627776) (hd : t.depth ≤ 1099511627776) (hF : t.Fine) (hT : KidsTab w) :
    Calls Tryd.prog 28 #[.agg #[.int .u8 (t.op : Nat), .string t.name, kv]] w fun e w' => e = .returned (.bool (isB t)) ∧ Kept [] w w' := by
  obtain ⟨kad, kcap, rfl⟩ := hI.slice
  have HM : Hid (∀ W, Kept [] w W → Calls Tryd.prog 26 #[.agg #[.int .u8 (t.op : Nat), .string t.name, .slice kad t.kids.length kcap]] W (MadeAs W (madeE t (nd t).1) (nd t).1)) := fun W k => normal_any t _ W (hI.kept k) hs hd hF (hT.kept k)
  have HC : Hid (∀ (W : World) ka kc, madeE t (nd t).1 = 0 → Kept [] w W → IsF W (nd t).1 (.slice ka (nd t).1.kids.length kc) → Calls Tryd.prog 21 #[.agg #[.int .u8 ((nd t).1.op : Nat), .string (nd t).1.name, .slice ka (nd t).1.kids.length kc], .agg #[.int .u8 (t.op : Nat), .string t.name, .slice kad t.kids.length kcap]] W fun e w' => e = .returned (.int .i64 (cmpT (nd t).1 t)) ∧ Kept [] W w') := fun W ka kc he k hq => by
    have hsz : (nd t).1.size ≤ 1000 := by
      unfold madeE at he
      split at he
      · cases he
      · split at he
        · rename_i hf; unfold fitB at hf; simp at hf; exact hf.1
        · cases he
    refine (cmp_any (nd t).1 t _ _ W hq (hI.kept k) (by omega) hs).mono ?_
    rintro e w' ⟨h1, h2⟩
    exact ⟨h1, h2.kept⟩
  unfold isB
  generalize madeE t (nd t).1 = er at *
  generalize (nd t).1 = q at *
  clear hI hF hT
  have T0 : Hid True := trivial
  by_cases he : er = 0
  · subst he
    have HE0 : Hid ((0 : Nat) = 0) := rfl
    go_enter Tryd.func28, Tryd.ntmps28
    go_wp2_with (first
      | (go_at_call 26; refine (HM.out _ ((Kept.refl [] w).alloc _)).mono ?_; rintro e W1 hmade; obtain ⟨ka, kc, rfl, hq, k1⟩ := hmade.ok; have hz : For3 W1 w.heap.size (.int .u8 (t.op : Nat)) (.string t.name) (.slice kad t.kids.length kcap) := k1.at (al0 w _) (by simp); obtain ⟨d0, d1, d2, df⟩ := (hz.kept ((Kept.refl [] W1).alloc (.cells #[.int .u8 (q.op : Nat), .string q.name, .slice ka q.kids.length kc] 25))).cells; have HQ : Hid (IsF W1 q (.slice ka q.kids.length kc)) := hq; have HK1 : Hid (Kept [] w W1) := ((Kept.refl [] w).alloc _).trans k1 (by simp) (by simp); clear hz k1 hq)
      | (go_at_call 21; refine (HC.out _ ka kc (by first | trivial | rfl) (HK1.out.alloc _) (HQ.out.kept ((Kept.refl [] W1).alloc _))).mono ?_; rintro e W2 ⟨rfl, k2⟩; have HK2 : Hid (Kept [] w W2) := (HK1.out.alloc _).trans k2 (by simp) (by simp); clear k2))
    go_ret
    exact ⟨rfl, HK2.out⟩
  · have hne : ((er : Int) == 0) = false := by rw [beq_eq_false_iff_ne]; omega
    have hb : (er == 0) = false := by rw [beq_eq_false_iff_ne]; exact he
    rw [hb]
    clear hb
    go_enter Tryd.func28, Tryd.ntmps28
    go_wp2_with (go_at_call 26; refine (HM.out _ ((Kept.refl [] w).alloc _)).mono ?_; rintro e W1 hmade; obtain ⟨rfl, k1⟩ := hmade.bad he; have HK1 : Hid (Kept [] w W1) := ((Kept.refl [] w).alloc _).trans k1 (by simp) (by simp); clear k1)
    go_ret
    exact ⟨rfl, HK1.out.alloc _⟩
end Go.Proofs.YtnpeghaficghaaaDoor
