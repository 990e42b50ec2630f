/- nnf.made, nnf.Normal, nnf.Dual, nnf.Is. -/
import Derived.Test.YtddgciilcghbaaaDoorNnFoldM
import Derived.Test.YtddgciilcghbaaaDoorGE
import Derived.Test.YtddgciilcghbaaaDoorNnRowsM
namespace Go.Proofs.YtddgciilcghbaaaDoor
open Go.RowKit Go.Shelf

theorem mem_rows0 {β : Type} {p : List Nat} : ∀ {rs : List (List Nat → List β)} {i : Nat} {r : List Nat → List β}, r ∈ rs → ∃ qq, ∀ x ∈ r qq, x ∈ rowsFrom p i rs
  | [], _, _, h => by cases h
  | s :: rs, i, r, h => by
    rcases List.mem_cons.1 h with rfl | h
    · exact ⟨p ++ [i], fun x hx => by rw [rowsFrom]; exact List.mem_append_left _ hx⟩
    · obtain ⟨qq, hq⟩ := mem_rows0 (p := p) (i := i + 1) h
      exact ⟨qq, fun x hx => by rw [rowsFrom]; exact List.mem_append_right _ (hq x hx)⟩
theorem all_of_parts0 {q : Tr → Prop} (t : Tr) : ∀ p, (∀ x ∈ t.parts p, q x.2) → t.All q := by
  induction t using Tr.ind with
  | h t ih =>
    intro p h
    rw [Tr.parts_eq] at h
    refine (Tr.all_eq t).2 ⟨h (p, t) (by simp), fun k hk => ?_⟩
    obtain ⟨qq, hq⟩ := mem_rows0 (p := p) (i := 0) (List.mem_map.2 ⟨k, hk, rfl⟩ : k.parts ∈ t.kids.map Tr.parts)
    exact ih k hk qq (fun x hx => h x (List.mem_cons_of_mem _ (hq x hx)))
theorem good_of_right0 {t : Tr} (h : rightN pastB t = 0) : t.Good ∧ t.size ≤ 1000 ∧ t.depth ≤ 100 := by
  unfold rightN at h
  split at h
  · rename_i he
    split at h
    · rename_i hm
      rw [Bool.and_eq_true, decide_eq_true_eq, decide_eq_true_eq] at hm
      refine ⟨all_of_parts0 t [] (fun x hx => ?_), hm⟩
      unfold Tr.every at he
      rw [List.all_eq_true] at he
      have := he x hx
      simp only [rightQ, Bool.and_eq_true, Bool.not_eq_true', pastB, Bool.and_eq_false_iff, decide_eq_false_iff_not] at this
      refine ⟨this.1, ?_⟩
      have h1 := this.1
      simp only [formedB, Bool.and_eq_true, decide_eq_true_eq] at h1
      omega
    · cases h
  · cases h
theorem right_of_good0 {t : Tr} (h : t.Good) (hs : t.size ≤ 1000) (hd : t.depth ≤ 100) : rightN pastB t = 0 := by
  unfold rightN
  rw [if_pos, if_pos]
  · simp [hs, hd]
  · unfold Tr.every
    rw [List.all_eq_true]
    intro x hx
    have := Tr.All.part h hx
    simp only [rightQ, Bool.and_eq_true, Bool.not_eq_true', pastB, Bool.and_eq_false_iff, decide_eq_false_iff_not]
    exact ⟨this.1, .inl (by omega)⟩
/-- What Normal, Dual, Simple tell besides. -/
def madeE (t p : Tr) : Nat := if rightN pastB t ≠ 0 then 70 else if fitB p then 0 else 31
theorem bcellN {W w1 : World} (hb : Below W.heap.size W w1) : (∀ b o, b < W.heap.size → w1.cell? ⟨b, o, none⟩ = W.cell? ⟨b, o, none⟩) ∧ (∀ b o, b < W.heap.size → w1.frozen? ⟨b, o, none⟩ = W.frozen? ⟨b, o, none⟩) :=
  ⟨fun b o h => hb.cell (p := ⟨b, o, none⟩) h, fun b o h => hb.frozen (p := ⟨b, o, none⟩) h⟩
theorem drew_heapN (w : World) : w.drew.heap = w.heap := rfl
theorem results_fe {fn : Func} {p u : Tmp} (h : fn.results = #[.cell p 25, .tmp u]) (tmps : Array Value) (w : World) (g : Nat) (cs : Array Value) (fr : Nat × Nat) (hp : tmps.getD p undef = .pointer (some ⟨g, 0, none⟩)) (hg : w.heap[g]? = some (.cells cs 25 fr)) (hsz : cs.size = 3) :
    (results fn tmps).run Tryd.prog w = .ok (.tuple #[.agg cs, tmps.getD u undef]) w := by
  have hp' : tmps[p]?.getD undef = .pointer (some ⟨g, 0, none⟩) := by simpa using hp
  have hl := run_loadVar_row (P := Tryd.prog) w g 25 25 cs fr _ hg Tryd.underlying25 rfl (by rw [hsz]; kernel_rfl)
  simp [results, h, hp', asAddr, hl]
theorem ret_fe {fn : Func} {p u : Tmp} {a : Act} {w : World} {g : Nat} {x y z v : Value} {R : Ending → World → Prop} (h : fn.results = #[.cell p 25, .tmp u]) (hp : a.tmps.getD p undef = .pointer (some ⟨g, 0, none⟩)) (hv : a.tmps.getD u undef = v) (hd : a.defers = []) (hg : For3 w g x y z) (hR : R (.returned (.tuple #[.agg #[x, y, z], v])) w) : bodyPost Tryd.prog fn R .ret a w :=
  bodyPost_ret (results_fe h _ w g _ _ hp hg rfl) hd (by rw [hv]; exact hR)
/-- What picks one of two plans does. -/
def Picks (g : Nat) (pick : Tr × Tr → Tr) : Prop := ∀ (p : Tr × Tr) (X : Nat → Prop) (a1 : Option Addr) (a2 : Nat) (a3 : Option Addr) (a4 : Nat) (w : World), IsQ X w p.1 (.slice a1 p.1.kids.length a2) → IsQ X w p.2 (.slice a3 p.2.kids.length a4) →
  Calls Tryd.prog g #[prA p a1 a2 a3 a4] w fun e w' => ∃ b1 b2, e = .returned (plA (pick p) b1 b2) ∧ IsQ X w' (pick p) (.slice b1 (pick p).kids.length b2) ∧ Kept [] w w'
set_option maxHeartbeats 400000 in
theorem pick_n : Picks 58 Prod.fst := by
  intro p X a1 a2 a3 a4 w h1 h2
  have HI : Hid (∀ W, Kept [] w W → IsQ X W p.1 (.slice a1 p.1.kids.length a2)) := fun W k => h1.kept k
  simp only [prA, plA]
  clear h1 h2
  go_enter Tryd.func58, Tryd.ntmps58
  go_wp2
  exact ret_pl rfl rfl rfl (al1 w _ _) ⟨a1, a2, rfl, HI.out _ (((Kept.refl [] w).alloc _).alloc _), ((Kept.refl [] w).alloc _).alloc _⟩
set_option maxHeartbeats 400000 in
theorem pick_d : Picks 59 Prod.snd := by
  intro p X a1 a2 a3 a4 w h1 h2
  have HI : Hid (∀ W, Kept [] w W → IsQ X W p.2 (.slice a3 p.2.kids.length a4)) := fun W k => h2.kept k
  simp only [prA, plA]
  clear h1 h2
  go_enter Tryd.func59, Tryd.ntmps59
  go_wp2
  exact ret_pl rfl rfl rfl (al1 w _ _) ⟨a3, a4, rfl, HI.out _ (((Kept.refl [] w).alloc _).alloc _), ((Kept.refl [] w).alloc _).alloc _⟩
theorem x_pack {a b : Nat} {W : World} {p1 p2 : Tr} {u v : Value} (i1 : IsQ (fun k => a ≤ k ∧ k < b) W p1 u) (i2 : IsQ (fun k => a ≤ k ∧ k < b) W p2 v) : ∃ X : Nat → Prop, (∀ k, X k → a ≤ k ∧ k < b) ∧ IsQ X W p1 u ∧ IsQ X W p2 v := ⟨_, fun _ h => h, i1, i2⟩
theorem pl5_new {Wc : World} {q : Tr} {X : Nat → Prop} {kv x0 x1 x2 x3 x4 : Value} (h : IsQ X Wc q kv) : Pl5 (Wc.alloc (.cells #[x0, x1, x2, x3, x4] 93)) Wc.heap.size x0 x1 x2 x3 x4 ∧ IsP (Wc.alloc (.cells #[x0, x1, x2, x3, x4] 93)) q kv := ⟨al0 _ _, h.isP.kept ((Kept.refl [] Wc).alloc _)⟩
theorem pl5_set {Wc : World} {B : Nat} {q : Tr} {X : Nat → Prop} {kv x0 x1 x2 x3 x4 : Value} (h : IsQ X Wc q kv) (hB : ¬ X B) (z : Pl5 Wc B (.int .u8 0) (.string ⟨#[]⟩) (.slice none 0 0) (.int .i64 0) (.int .i64 0)) : Pl5 (((((Wc.setCell ⟨B, 0, none⟩ x0).setCell ⟨B, 1, none⟩ x1).setCell ⟨B, 2, none⟩ x2).setCell ⟨B, 3, none⟩ x3).setCell ⟨B, 4, none⟩ x4) B x0 x1 x2 x3 x4 ∧ IsP (((((Wc.setCell ⟨B, 0, none⟩ x0).setCell ⟨B, 1, none⟩ x1).setCell ⟨B, 2, none⟩ x2).setCell ⟨B, 3, none⟩ x3).setCell ⟨B, 4, none⟩ x4) q kv :=
  ⟨z.set _ _ _ _ _, (((((h.other hB _ _).other hB _ _).other hB _ _).other hB _ _).other hB _ _).isP⟩
/-- What made, Normal, Dual, Simple leave: a formula that lies in memory, or none. -/
def MadeAs (w : World) (err : Nat) (p : Tr) (e : Ending) (w' : World) : Prop :=
  (err ≠ 0 ∧ e = .returned (.tuple #[.agg #[.int .u8 0, .string ⟨#[]⟩, .slice none 0 0], .int .i64 (err : Nat)]) ∧ Kept [] w w') ∨
  (err = 0 ∧ ∃ kad kcap, e = .returned (.tuple #[.agg #[.int .u8 (p.op : Nat), .string p.name, .slice kad p.kids.length kcap], .int .i64 0]) ∧ IsT (fun b => w.heap.size ≤ b) w' p (.slice kad p.kids.length kcap) ∧ Kept [] w w')
set_option maxHeartbeats 2000000 in
set_option maxRecDepth 20000 in
theorem made_any (g : Nat) (pick : Tr × Tr → Tr) (hen : ∀ args w, (callFunc g args).run Tryd.prog w = .ok (.enter g args) w) (hp : Picks g pick) (t : Tr) (kv : Value) (w : World) (hI : IsF w t kv) (hs : t.size ≤ 1099511627776) (hd : t.depth ≤ 1099511627776) (hF : t.Fine) (hT : KidsTab w) :
    Calls Tryd.prog 57 #[.agg #[.int .u8 (t.op : Nat), .string t.name, kv], .func (.func g) #[] #[]] w (MadeAs w (madeE t (pick (nd t))) (pick (nd t))) := by
  obtain ⟨kad, kcap, rfl⟩ := hI.slice
  obtain ⟨V, hV⟩ : ∃ V, (w.alloc (.cells #[.int .u8 (t.op : Nat), .string t.name, .slice kad t.kids.length kcap] 25)).alloc (.cells #[.int .u8 0, .string ⟨#[]⟩, .slice none 0 0] 25) = V := ⟨_, rfl⟩
  have kV : Kept [] w V := by rw [← hV]; exact ((Kept.refl [] w).alloc _).alloc _
  have v0 : For3 V w.heap.size (.int .u8 (t.op : Nat)) (.string t.name) (.slice kad t.kids.length kcap) := by rw [← hV]; exact alUp (al0 _ _) _
  have v1 : For3 V (w.heap.size + 1) (.int .u8 0) (.string ⟨#[]⟩) (.slice none 0 0) := by rw [← hV]; exact al1 _ _ _
  have HRI : Hid (Calls Tryd.prog 19 #[.agg #[.int .u8 (t.op : Nat), .string t.name, .slice kad t.kids.length kcap]] V fun e w' => e = .returned (.int .i64 (rightN pastB t : Nat)) ∧ Kept [] V w') := right_any t _ V (hI.kept kV) hs hd hF (hT.kept kV)
  have HVV : Hid (_ = V) := hV
  have HV1 : Hid (For3 V (w.heap.size + 1) (.int .u8 0) (.string ⟨#[]⟩) (.slice none 0 0)) := v1
  have HV0 : Hid (For3 V w.heap.size (.int .u8 (t.op : Nat)) (.string t.name) (.slice kad t.kids.length kcap)) := v0
  have HKV : Hid (Kept [] w V) := kV
  rw [← hV] at HRI
  by_cases hr : rightN pastB t = 0
  · have hG := (good_of_right0 hr).1
    rw [hr] at HRI
    have hE : madeE t (pick (nd t)) = if fitB (pick (nd t)) then 0 else 31 := by unfold madeE; rw [if_neg (by simp [hr])]
    rw [hE]
    have HFO : Hid (∀ (W : World) y n a o u r, PlanBox W y n a o u r → Kept [] V W → Calls Tryd.prog 103 #[.agg #[.int .u8 (t.op : Nat), .string t.name, .slice kad t.kids.length kcap], .func (.func 104) #[] #[], .agg (planTab y n a o u r)] W fun e w' => ∃ u1 u2 u3 u4, e = .returned (prA (nd t) u1 u2 u3 u4) ∧ IsQ (fun k => W.heap.size ≤ k ∧ k < w'.heap.size) w' (nd t).1 (.slice u1 (nd t).1.kids.length u2) ∧ IsQ (fun k => W.heap.size ≤ k ∧ k < w'.heap.size) w' (nd t).2 (.slice u3 (nd t).2.kids.length u4) ∧ Kept [] W w') := fun W y n a o u r hB k => by
      refine (fold_any W y n a o u r hB t hG _ W ((hI.kept kV).kept k) (Kept.refl [] W)).mono ?_
      rintro e w' ⟨u1, u2, u3, u4, rfl, hR, k'⟩
      exact ⟨u1, u2, u3, u4, rfl, hR.1.cells (fun _ h l => ⟨h, l⟩) (fun _ _ _ _ c => c), hR.2.cells (fun _ h l => ⟨h, l⟩) (fun _ _ _ _ c => c), k'⟩
    have HPI : Hid (∀ (X : Nat → Prop) a1 a2 a3 a4 (W : World), IsQ X W (nd t).1 (.slice a1 (nd t).1.kids.length a2) → IsQ X W (nd t).2 (.slice a3 (nd t).2.kids.length a4) → Calls Tryd.prog g #[prA (nd t) a1 a2 a3 a4] W fun e w' => ∃ b1 b2, e = .returned (plA (pick (nd t)) b1 b2) ∧ IsQ X w' (pick (nd t)) (.slice b1 (pick (nd t)).kids.length b2) ∧ Kept [] W w') := hp (nd t)
    generalize hq : pick (nd t) = q at *
    generalize nd t = p at *
    obtain ⟨p1, p2⟩ := p
    clear hq
    simp only [prA, plA] at HFO HPI
    have HFI : Hid (∀ b1 b2 (W : World), Calls Tryd.prog 106 #[.agg #[.int .u8 (q.op : Nat), .string q.name, .slice b1 q.kids.length b2, .int .i64 (psz q : Nat), .int .i64 (pdp q : Nat)]] W fun e w' => e = .returned (.bool (fitB q)) ∧ Kept [] W w') := fun b1 b2 W => fitsP_any q b1 _ b2 W
    have HMK : Hid (∀ b1 b2 (W : World), IsP W q (.slice b1 q.kids.length b2) → fitB q = true → Calls Tryd.prog 107 #[.agg #[.int .u8 (q.op : Nat), .string q.name, .slice b1 q.kids.length b2, .int .i64 (psz q : Nat), .int .i64 (pdp q : Nat)]] W fun e w' => ∃ kad kcap, e = .returned (.agg #[.int .u8 (q.op : Nat), .string q.name, .slice kad q.kids.length kcap]) ∧ IsT (fun b => W.heap.size ≤ b) w' q (.slice kad q.kids.length kcap) ∧ Kept [] W w') := fun b1 b2 W h hf => formula_any q _ W h (by unfold fitB at hf; simp at hf; exact hf.1)
    clear hI hF hT hp kV v0 v1 hV hE hr
    obtain ⟨pz, epz⟩ : ∃ x, psz q = x := ⟨_, rfl⟩
    obtain ⟨pd, epd⟩ : ∃ x, pdp q = x := ⟨_, rfl⟩
    rw [epz, epd] at HPI HFI HMK
    clear epz epd
    have T0 : Hid True := trivial
    have T1 : Hid True := trivial
    have T2 : Hid True := trivial
    go_enter Tryd.func57, Tryd.ntmps57
    go_upto_region 3 with (go_at_call 19; refine HRI.out.mono ?_; rintro e W1 ⟨rfl, k1⟩; rw [HVV.out] at k1; have HK1 : Hid (Kept [] V W1) := k1; clear k1)
    have HL1 : Hid (w.heap.size + 1 < W1.heap.size) := Nat.lt_of_lt_of_le (lt_of HV1.out) HK1.out.size
    go_cut [6] from 7 to 21 (fun s6 wc => ∃ B b1 b2, s6 = .pointer (some ⟨B, 0, none⟩) ∧ Hid (W1.heap.size ≤ B ∧ (Pl5 wc B (.int .u8 (q.op : Nat)) (.string q.name) (.slice b1 q.kids.length b2) (.int .i64 (pz : Nat)) (.int .i64 (pd : Nat)) ∧ IsP wc q (.slice b1 q.kids.length b2)) ∧ Kept [] W1 wc))
    case first =>
      obtain ⟨c0, c1, c2, -⟩ := (HV0.out.kept HK1.out).cells
      have HS : Hid (∀ w', Kept [] W1 w' → w'.cell? ⟨w.heap.size, 0, none⟩ = some (.int .u8 (t.op : Nat)) ∧ w'.cell? ⟨w.heap.size, 1, none⟩ = some (.string t.name) ∧ w'.cell? ⟨w.heap.size, 2, none⟩ = some (.slice kad t.kids.length kcap)) := fun w' k => ⟨cell_kept0 k c0, cell_kept0 k c1, cell_kept0 k c2⟩
      go_region_held3 (fun w' => w'.cell? ⟨w.heap.size, 0, none⟩ = some (.int .u8 (t.op : Nat)) ∧ w'.cell? ⟨w.heap.size, 1, none⟩ = some (.string t.name) ∧ w'.cell? ⟨w.heap.size, 2, none⟩ = some (.slice kad t.kids.length kcap))
        ((refine HS.out _ ?_; (repeat (first | (with_reducible exact Kept.refl _ _) | (with_reducible refine Kept.drew ?_) | (with_reducible refine Kept.alloc ?_ _) | (with_reducible refine Kept.setCell ?_ (Or.inr (by dsimp only; omega)) _) | with_reducible refine Kept.trans (F := []) (G := []) (H := []) ?_ HA2.out (by simp) (by simp) | with_reducible refine Kept.trans (F := []) (G := []) (H := []) ?_ HA1.out (by simp) (by simp) | with_reducible refine Kept.trans (F := []) (G := []) (H := []) ?_ HA0.out (by simp) (by simp)))))
        (first
        | (clear T0; go_at_call 105; refine (plans_any _).mono ?_; rintro e U0 ⟨y, n, a, o, u, r, rfl, hB, k⟩; have HB : Hid (PlanBox U0 y n a o u r) := hB; obtain ⟨hc0, hf0⟩ := bcellN k.below; have hz0 := k.size; (try simp only [drew_heapN] at hz0); (try simp only [World.size_alloc] at hz0); have q0 : W1.heap.size ≤ U0.heap.size := (by omega); (try have q0' : W1.heap.size < U0.heap.size := (by omega)); have HA0 : Hid (Kept [] _ U0) := k; clear k hB)
        | (clear T1; go_at_call 103; refine (HFO.out _ y n a o u r (by first | exact HB.out | exact HB.out.keptF ((Kept.refl [] U0).alloc _) (by simp)) (by repeat (first | with_reducible exact HK1.out | with_reducible refine Kept.drew ?_ | with_reducible refine Kept.alloc ?_ _ | with_reducible refine Kept.trans (F := []) (G := []) (H := []) ?_ HA0.out (by simp) (by simp)))).mono ?_; rintro e U1 ⟨u1, u2, u3, u4, rfl, i1, i2, k⟩; obtain ⟨Xq, hXq, j1, j2⟩ := x_pack i1 i2; have HX1 : Hid _ := hXq; have HI1 : Hid (IsQ Xq U1 p1 (.slice u1 p1.kids.length u2)) := j1; have HI2 : Hid (IsQ Xq U1 p2 (.slice u3 p2.kids.length u4)) := j2; clear j1 j2;  obtain ⟨hc1, hf1⟩ := bcellN k.below; have hz1 := k.size; (try simp only [drew_heapN] at hz1); (try simp only [World.size_alloc] at hz1); have q1 : W1.heap.size ≤ U1.heap.size := (by omega); (try have q1' : W1.heap.size < U1.heap.size := (by omega)); (try have q1'' : U0.heap.size < U1.heap.size := (by omega)); have HA1 : Hid (Kept [] _ U1) := k; clear k i1 i2)
        | (clear T2; go_at_fn g; refine (HPI.out Xq u1 u2 u3 u4 _ (by first | exact HI1.out | exact HI1.out.kept ((Kept.refl [] U1).alloc _)) (by first | exact HI2.out | exact HI2.out.kept ((Kept.refl [] U1).alloc _))).mono ?_; rintro e U2 ⟨b1, b2, rfl, i1, k⟩; have HIQ : Hid (IsQ Xq U2 q (.slice b1 q.kids.length b2)) := i1; obtain ⟨hc2, hf2⟩ := bcellN k.below; have hz2 := k.size; (try simp only [drew_heapN] at hz2); (try simp only [World.size_alloc] at hz2); have q2 : W1.heap.size ≤ U2.heap.size := (by omega); (try have q2' : W1.heap.size < U2.heap.size := (by omega)); (try have q2'' : U0.heap.size < U2.heap.size := (by omega)); (try have q2''' : U1.heap.size < U2.heap.size := (by omega)); have HA2 : Hid (Kept [] _ U2) := k; clear k i1))
      all_goals (go_wp2_with fail; go_meet)
      all_goals
        refine ⟨_, b1, b2, rfl, ?_, ?_, ?_⟩
        · omega
        · first
          | (with_reducible refine pl5_new (X := Xq) ?_
             exact HIQ.out)
          | (with_reducible refine pl5_set (X := Xq) ?_ (fun hx => ?_) ?_
             · exact HIQ.out
             · have := HX1.out _ hx
               (try simp only [World.size_alloc] at this)
               omega
             · unfold Pl5; (repeat (first | (with_reducible exact al0 _ _) | exact al0 W1 _ | refine Kept.at HA2.out ?_ (by simp) | refine Kept.at HA1.out ?_ (by simp) | refine Kept.at HA0.out ?_ (by simp))))
        · (repeat (first | (with_reducible exact Kept.refl _ _) | (with_reducible refine Kept.drew ?_) | (with_reducible refine Kept.alloc ?_ _) | (with_reducible refine Kept.setCell ?_ (Or.inr (by dsimp only; omega)) _) | with_reducible refine Kept.trans (F := []) (G := []) (H := []) ?_ HA2.out (by simp) (by simp) | with_reducible refine Kept.trans (F := []) (G := []) (H := []) ?_ HA1.out (by simp) (by simp) | with_reducible refine Kept.trans (F := []) (G := []) (H := []) ?_ HA0.out (by simp) (by simp)))
    case rest =>
      obtain ⟨B, b1, b2, rfl, HC⟩ := hcut
      obtain ⟨hB1, ⟨hpl, hip⟩, kc⟩ := HC.out
      obtain ⟨m0, m1, m2, m3, m4, -⟩ := hpl.cells
      have HPL : Hid (Pl5 wc B (.int .u8 (q.op : Nat)) (.string q.name) (.slice b1 q.kids.length b2) (.int .i64 (pz : Nat)) (.int .i64 (pd : Nat))) := hpl
      have HKC : Hid (Kept [] V wc) := HK1.out.trans kc (by simp) (by simp)
      have HIP : Hid (IsP wc q (.slice b1 q.kids.length b2)) := hip
      clear hpl hip kc hB1
      by_cases hfit : fitB q = true
      · rw [hfit] at HFI
        have HFT : Hid (fitB q = true) := hfit
        clear hfit
        go_wp2_with (first
          | (go_at_call 106; refine (HFI.out _ _ _).mono ?_; rintro e W2 ⟨rfl, k2⟩; obtain ⟨m0', m1', m2', m3', m4', -⟩ := (HPL.out.kept k2).cells; have HK2 : Hid (Kept [] V W2) := HKC.out.trans k2 (by simp) (by simp); have HIP2 : Hid (IsP W2 q (.slice b1 q.kids.length b2)) := HIP.out.kept k2; clear k2)
          | (go_at_call 107; refine (HMK.out _ _ _ HIP2.out HFT.out).mono ?_; rintro e W3 ⟨ka, kc, rfl, hT, k3⟩; have HK3 : Hid (Kept [] V W3) := HK2.out.trans k3 (by simp) (by simp); obtain ⟨d0, d1, d2, df⟩ := (HV1.out.kept HK3.out).cells; have HIT : Hid (IsT (fun b => w.heap.size + 1 < b) W3 q (.slice ka q.kids.length kc)) := hT.mono (fun b hb => Nat.lt_of_lt_of_le (Nat.lt_of_lt_of_le (lt_of HV1.out) HK2.out.size) hb); clear hT k3))
        have hn : ¬ (w.heap.size + 1 < w.heap.size + 1) := by omega
        exact ret_fe rfl rfl rfl rfl ((HV1.out.kept HK3.out).set _ _ _) (.inr ⟨rfl, ka, kc, rfl, (((HIT.out.other hn _ _).other hn _ _).other hn _ _).mono (fun b hb => by omega), kept_set3 (HKV.out.trans HK3.out (by simp) (by simp)) (by omega) _ _ _⟩)
      · have hfit' : fitB q = false := by simpa using hfit
        rw [hfit'] at HFI
        have HNF : Hid (¬ fitB q = true) := hfit
        clear hfit hfit'
        go_wp2_with (go_at_call 106; refine (HFI.out _ _ _).mono ?_; rintro e W2 ⟨rfl, k2⟩; have HK2 : Hid (Kept [] V W2) := HKC.out.trans k2 (by simp) (by simp); obtain ⟨d0, d1, d2, df⟩ := (HV1.out.kept HK2.out).cells; clear k2)
        exact ret_fe rfl rfl rfl rfl ((HV1.out.kept HK2.out).set _ _ _) (.inl ⟨by decide, rfl, kept_set3 (HKV.out.trans HK2.out (by simp) (by simp)) (by omega) _ _ _⟩)
  · have hE : madeE t (pick (nd t)) = 70 := by unfold madeE; rw [if_pos (by simpa using hr)]
    rw [hE]
    have hne : ((rightN pastB t : Int) != 0) = true := by rw [bne_iff_ne]; omega
    clear hI hF hT hp kV v0 v1 hV
    go_enter Tryd.func57, Tryd.ntmps57
    go_wp2_with (go_at_call 19; refine HRI.out.mono ?_; rintro e W1 ⟨rfl, k1⟩; rw [HVV.out] at k1; have HK1 : Hid (Kept [] V W1) := k1; obtain ⟨d0, d1, d2, df⟩ := (HV1.out.kept k1).cells; clear k1)
    exact ret_fe rfl rfl rfl rfl ((HV1.out.kept HK1.out).set _ _ _) (.inl ⟨by decide, rfl, kept_set3 (HKV.out.trans HK1.out (by simp) (by simp)) (by omega) _ _ _⟩)
set_option maxHeartbeats 1000000 in
set_option maxRecDepth 20000 in
theorem normal_any (t : Tr) (kv : Value) (w : World) (hI : IsF w t kv) (hs : t.size ≤ 1099511627776) (hd : t.depth ≤ 1099511627776) (hF : t.Fine) (hT : KidsTab w) :
    Calls Tryd.prog 25 #[.agg #[.int .u8 (t.op : Nat), .string t.name, kv]] w (MadeAs w (madeE t (nd t).1) (nd t).1) := by
  obtain ⟨kad, kcap, rfl⟩ := hI.slice
  have kV : ∀ o o', Kept [] w ((w.alloc o).alloc o') := fun o o' => ((Kept.refl [] w).alloc _).alloc _
  have HM : Hid (∀ W, Kept [] w W → Calls Tryd.prog 57 #[.agg #[.int .u8 (t.op : Nat), .string t.name, .slice kad t.kids.length kcap], .func (.func 58) #[] #[]] W (MadeAs W (madeE t (nd t).1) (nd t).1)) := fun W k => made_any 58 Prod.fst (enters_of Tryd.func58 (by kernel_rfl) rfl) pick_n t _ W (hI.kept k) hs hd hF (hT.kept k)
  generalize madeE t (nd t).1 = er at *
  generalize (nd t).1 = q at *
  have HK : Hid (∀ o o', Kept [] w ((w.alloc o).alloc o')) := kV
  clear hI hF hT kV
  go_enter Tryd.func25, Tryd.ntmps25
  go_wp2_with (go_at_call 57; refine (HM.out _ (HK.out _ _)).mono ?_; rintro e W1 hmade; rcases hmade with ⟨hne, rfl, k1⟩ | ⟨rfl, ka, kc, rfl, hq, k1⟩ <;> (have hz : For3 W1 (w.heap.size + 1) (.int .u8 0) (.string ⟨#[]⟩) (.slice none 0 0) := k1.at (al1 w _ _) (by simp); obtain ⟨d0, d1, d2, df⟩ := hz.cells; have HZ : Hid (For3 W1 (w.heap.size + 1) (.int .u8 0) (.string ⟨#[]⟩) (.slice none 0 0)) := hz; have HK1 : Hid (Kept [] _ W1) := k1; clear hz k1))
  · exact ret_fe rfl rfl rfl rfl (HZ.out.set _ _ _) (.inl ⟨hne, rfl, kept_set3 ((HK.out _ _).trans HK1.out (by simp) (by simp)) (by omega) _ _ _⟩)
  · have hn : ¬ (w.heap.size + 1 < w.heap.size + 1) := by omega
    have hT2 : IsT (fun b => w.heap.size + 1 < b) W1 q (.slice ka q.kids.length kc) := hq.mono (fun b hb => by simp at hb; omega)
    exact ret_fe rfl rfl rfl rfl (HZ.out.set _ _ _) (.inr ⟨rfl, ka, kc, rfl, (((hT2.other hn _ _).other hn _ _).other hn _ _).mono (fun b hb => by omega), kept_set3 ((HK.out _ _).trans HK1.out (by simp) (by simp)) (by omega) _ _ _⟩)
set_option maxHeartbeats 1000000 in
set_option maxRecDepth 20000 in
theorem dual_any (t : Tr) (kv : Value) (w : World) (hI : IsF w t kv) (hs : t.size ≤ 1099511627776) (hd : t.depth ≤ 1099511627776) (hF : t.Fine) (hT : KidsTab w) :
    Calls Tryd.prog 26 #[.agg #[.int .u8 (t.op : Nat), .string t.name, kv]] w (MadeAs w (madeE t (nd t).2) (nd t).2) := by
  obtain ⟨kad, kcap, rfl⟩ := hI.slice
  have kV : ∀ o o', Kept [] w ((w.alloc o).alloc o') := fun o o' => ((Kept.refl [] w).alloc _).alloc _
  have HM : Hid (∀ W, Kept [] w W → Calls Tryd.prog 57 #[.agg #[.int .u8 (t.op : Nat), .string t.name, .slice kad t.kids.length kcap], .func (.func 59) #[] #[]] W (MadeAs W (madeE t (nd t).2) (nd t).2)) := fun W k => made_any 59 Prod.snd (enters_of Tryd.func59 (by kernel_rfl) rfl) pick_d t _ W (hI.kept k) hs hd hF (hT.kept k)
  generalize madeE t (nd t).2 = er at *
  generalize (nd t).2 = q at *
  have HK : Hid (∀ o o', Kept [] w ((w.alloc o).alloc o')) := kV
  clear hI hF hT kV
  go_enter Tryd.func26, Tryd.ntmps26
  go_wp2_with (go_at_call 57; refine (HM.out _ (HK.out _ _)).mono ?_; rintro e W1 hmade; rcases hmade with ⟨hne, rfl, k1⟩ | ⟨rfl, ka, kc, rfl, hq, k1⟩ <;> (have hz : For3 W1 (w.heap.size + 1) (.int .u8 0) (.string ⟨#[]⟩) (.slice none 0 0) := k1.at (al1 w _ _) (by simp); obtain ⟨d0, d1, d2, df⟩ := hz.cells; have HZ : Hid (For3 W1 (w.heap.size + 1) (.int .u8 0) (.string ⟨#[]⟩) (.slice none 0 0)) := hz; have HK1 : Hid (Kept [] _ W1) := k1; clear hz k1))
  · exact ret_fe rfl rfl rfl rfl (HZ.out.set _ _ _) (.inl ⟨hne, rfl, kept_set3 ((HK.out _ _).trans HK1.out (by simp) (by simp)) (by omega) _ _ _⟩)
  · have hn : ¬ (w.heap.size + 1 < w.heap.size + 1) := by omega
    have hT2 : IsT (fun b => w.heap.size + 1 < b) W1 q (.slice ka q.kids.length kc) := hq.mono (fun b hb => by simp at hb; omega)
    exact ret_fe rfl rfl rfl rfl (HZ.out.set _ _ _) (.inr ⟨rfl, ka, kc, rfl, (((hT2.other hn _ _).other hn _ _).other hn _ _).mono (fun b hb => by omega), kept_set3 ((HK.out _ _).trans HK1.out (by simp) (by simp)) (by omega) _ _ _⟩)
theorem MadeAs.ok {w w' : World} {q : Tr} {e : Ending} (h : MadeAs w 0 q e w') : ∃ ka kc, e = .returned (.tuple #[.agg #[.int .u8 (q.op : Nat), .string q.name, .slice ka q.kids.length kc], .int .i64 0]) ∧ IsF w' q (.slice ka q.kids.length kc) ∧ Kept [] w w' := by
  rcases h with ⟨hne, _⟩ | ⟨_, ka, kc, h1, h2, h3⟩
  · exact absurd rfl hne
  · exact ⟨ka, kc, h1, h2.isF, h3⟩
theorem MadeAs.bad {w w' : World} {q : Tr} {er : Nat} {e : Ending} (h : MadeAs w er q e w') (he : er ≠ 0) : e = .returned (.tuple #[.agg #[.int .u8 0, .string ⟨#[]⟩, .slice none 0 0], .int .i64 (er : Nat)]) ∧ Kept [] w w' := by
  rcases h with ⟨_, h1, h2⟩ | ⟨h0, _⟩
  · exact ⟨h1, h2⟩
  · exact absurd h0 he
/-- Is. -/
def isB (t : Tr) : Bool := (madeE t (nd t).1 == 0) && (cmpT (nd t).1 t == 0)
set_option maxHeartbeats 1000000 in
set_option maxRecDepth 20000 in
theorem is_any (t : Tr) (kv : Value) (w : World) (hI : IsF w t kv) (hs : t.size ≤ 1099511627776) (hd : t.depth ≤ 1099511627776) (hF : t.Fine) (hT : KidsTab w) :
    Calls Tryd.prog 27 #[.agg #[.int .u8 (t.op : Nat), .string t.name, kv]] w fun e w' => e = .returned (.bool (isB t)) ∧ Kept [] w w' := by
  obtain ⟨kad, kcap, rfl⟩ := hI.slice
  have HM : Hid (∀ W, Kept [] w W → Calls Tryd.prog 25 #[.agg #[.int .u8 (t.op : Nat), .string t.name, .slice kad t.kids.length kcap]] W (MadeAs W (madeE t (nd t).1) (nd t).1)) := fun W k => normal_any t _ W (hI.kept k) hs hd hF (hT.kept k)
  have HC : Hid (∀ (W : World) ka kc, madeE t (nd t).1 = 0 → Kept [] w W → IsF W (nd t).1 (.slice ka (nd t).1.kids.length kc) → Calls Tryd.prog 20 #[.agg #[.int .u8 ((nd t).1.op : Nat), .string (nd t).1.name, .slice ka (nd t).1.kids.length kc], .agg #[.int .u8 (t.op : Nat), .string t.name, .slice kad t.kids.length kcap]] W fun e w' => e = .returned (.int .i64 (cmpT (nd t).1 t)) ∧ Kept [] W w') := fun W ka kc he k hq => by
    have hsz : (nd t).1.size ≤ 1000 := by
      unfold madeE at he
      split at he
      · cases he
      · split at he
        · rename_i hf; unfold fitB at hf; simp at hf; exact hf.1
        · cases he
    refine (cmp_any (nd t).1 t _ _ W hq (hI.kept k) (by omega) hs).mono ?_
    rintro e w' ⟨h1, h2⟩
    exact ⟨h1, h2.kept⟩
  unfold isB
  generalize madeE t (nd t).1 = er at *
  generalize (nd t).1 = q at *
  clear hI hF hT
  have T0 : Hid True := trivial
  by_cases he : er = 0
  · subst he
    have HE0 : Hid ((0 : Nat) = 0) := rfl
    go_enter Tryd.func27, Tryd.ntmps27
    go_wp2_with (first
      | (go_at_call 25; refine (HM.out _ ((Kept.refl [] w).alloc _)).mono ?_; rintro e W1 hmade; obtain ⟨ka, kc, rfl, hq, k1⟩ := hmade.ok; have hz : For3 W1 w.heap.size (.int .u8 (t.op : Nat)) (.string t.name) (.slice kad t.kids.length kcap) := k1.at (al0 w _) (by simp); obtain ⟨d0, d1, d2, df⟩ := (hz.kept ((Kept.refl [] W1).alloc (.cells #[.int .u8 (q.op : Nat), .string q.name, .slice ka q.kids.length kc] 25))).cells; have HQ : Hid (IsF W1 q (.slice ka q.kids.length kc)) := hq; have HK1 : Hid (Kept [] w W1) := ((Kept.refl [] w).alloc _).trans k1 (by simp) (by simp); clear hz k1 hq)
      | (go_at_call 20; refine (HC.out _ ka kc (by first | trivial | rfl) (HK1.out.alloc _) (HQ.out.kept ((Kept.refl [] W1).alloc _))).mono ?_; rintro e W2 ⟨rfl, k2⟩; have HK2 : Hid (Kept [] w W2) := (HK1.out.alloc _).trans k2 (by simp) (by simp); clear k2))
    go_ret
    exact ⟨rfl, HK2.out⟩
  · have hne : ((er : Int) == 0) = false := by rw [beq_eq_false_iff_ne]; omega
    have hb : (er == 0) = false := by rw [beq_eq_false_iff_ne]; exact he
    rw [hb]
    clear hb
    go_enter Tryd.func27, Tryd.ntmps27
    go_wp2_with (go_at_call 25; refine (HM.out _ ((Kept.refl [] w).alloc _)).mono ?_; rintro e W1 hmade; obtain ⟨rfl, k1⟩ := hmade.bad he; have HK1 : Hid (Kept [] w W1) := ((Kept.refl [] w).alloc _).trans k1 (by simp) (by simp); clear k1)
    go_ret
    exact ⟨rfl, HK1.out.alloc _⟩
end Go.Proofs.YtddgciilcghbaaaDoor

/- nnf.folded at formulas, nnf.Simple. -/
namespace Go.Proofs.YtddgciilcghbaaaDoor
open Go.RowKit Go.Shelf

def simpTab : Array Value := #[.nilFunc, .nilFunc, .nilFunc, .nilFunc, .func (.func 77) #[] #[], .func (.func 79) #[] #[], .func (.func 81) #[] #[], .func (.func 82) #[] #[], .func (.func 83) #[] #[], .func (.func 84) #[] #[], .func (.func 86) #[] #[], .func (.func 88) #[] #[], .func (.func 89) #[] #[], .func (.func 91) #[] #[], .func (.func 92) #[] #[], .func (.func 94) #[] #[]]
def fnRow (op : Nat) : Nat := if op = 4 then 77 else if op = 5 then 79 else if op = 6 then 81 else if op = 7 then 82 else if op = 8 then 83 else if op = 9 then 84 else if op = 10 then 86 else if op = 11 then 88 else if op = 12 then 89 else if op = 13 then 91 else if op = 14 then 92 else 94
theorem row_enters {op : Nat} (ho : Un op ∨ Bi op) : ∀ args w, (callFunc (fnRow op) args).run Tryd.prog w = .ok (.enter (fnRow op) args) w := by
  rcases ho with (rfl | rfl | rfl | rfl) | (rfl | rfl | rfl | rfl | rfl | rfl | rfl | rfl)
  · exact enters_of Tryd.func77 (by kernel_rfl) rfl
  · exact enters_of Tryd.func84 (by kernel_rfl) rfl
  · exact enters_of Tryd.func86 (by kernel_rfl) rfl
  · exact enters_of Tryd.func88 (by kernel_rfl) rfl
  · exact enters_of Tryd.func79 (by kernel_rfl) rfl
  · exact enters_of Tryd.func81 (by kernel_rfl) rfl
  · exact enters_of Tryd.func82 (by kernel_rfl) rfl
  · exact enters_of Tryd.func83 (by kernel_rfl) rfl
  · exact enters_of Tryd.func89 (by kernel_rfl) rfl
  · exact enters_of Tryd.func91 (by kernel_rfl) rfl
  · exact enters_of Tryd.func92 (by kernel_rfl) rfl
  · exact enters_of Tryd.func94 (by kernel_rfl) rfl
theorem tabS_one {op : Nat} (ho : Un op) : simpTab[op]? = some (.func (.func (fnRow op)) #[] #[]) ∧ RowOne (fnRow op) op := by
  rcases ho with rfl | rfl | rfl | rfl
  · exact ⟨rfl, row_4⟩
  · exact ⟨rfl, row_9⟩
  · exact ⟨rfl, row_10⟩
  · exact ⟨rfl, row_11⟩
theorem tabS_two {op : Nat} (ho : Bi op) : simpTab[op]? = some (.func (.func (fnRow op)) #[] #[]) ∧ RowTwo (fnRow op) op := by
  rcases ho with rfl | rfl | rfl | rfl | rfl | rfl | rfl | rfl
  · exact ⟨rfl, row_5⟩
  · exact ⟨rfl, row_6⟩
  · exact ⟨rfl, row_7⟩
  · exact ⟨rfl, row_8⟩
  · exact ⟨rfl, row_12⟩
  · exact ⟨rfl, row_13⟩
  · exact ⟨rfl, row_14⟩
  · exact ⟨rfl, row_15⟩
theorem ret_tabS {fn : Func} {p : Tmp} {act : Act} {w : World} {g : Nat} {cs : Array Value} {R : Ending → World → Prop} (h : fn.results = #[.cell p 74]) (hp : act.tmps.getD p undef = .pointer (some ⟨g, 0, none⟩)) (hd : act.defers = []) (hg : w.heap[g]? = some (.cells cs 74 (0, 0))) (hsz : cs.size = 16) (hR : R (.returned (.agg cs)) w) : bodyPost Tryd.prog fn R .ret act w :=
  bodyPost_ret (results_cell_row h _ w g 74 cs _ _ hp hg Tryd.underlying74 rfl (by rw [hsz]; kernel_rfl)) hd hR
set_option maxHeartbeats 1000000 in
set_option maxRecDepth 20000 in
theorem simpler_any (w : World) : Calls Tryd.prog 48 #[] w fun e w' => e = .returned (.agg simpTab) ∧ Kept [] w w' := by
  go_enter Tryd.func48, Tryd.ntmps48
  go_wp2
  exact ret_tabS rfl rfl rfl (al0 w _) rfl ⟨rfl, (Kept.refl [] w).alloc _⟩
structure FoldSAt (w : World) (a b c : Value) (tab K : Array Value) (wr : World) : Prop where
  kept : Kept [] w wr
  src : For3 wr w.heap.size a b c
  tab : wr.heap[w.heap.size + 1]? = some (.cells tab 74 (0, 0))
  res : For3 wr (w.heap.size + 1 + 1) (.int .u8 0) (.string ⟨#[]⟩) (.slice none 0 0)
  kids : wr.heap[w.heap.size + 1 + 1 + 1]? = some (.cells K 117 (0, 0))
theorem FoldSAt.next {w wr W : World} {a b c : Value} {tab K : Array Value} (h : FoldSAt w a b c tab K wr) (k : Kept [w.heap.size + 1 + 1 + 1] wr W) {K' : Array Value} (hK : W.heap[w.heap.size + 1 + 1 + 1]? = some (.cells K' 117 (0, 0))) : FoldSAt w a b c tab K' W :=
  ⟨h.kept.trans k (by simp) (fun x hx => .inr (by rw [List.mem_singleton.1 hx]; omega)), k.at h.src (by simp; omega), k.at h.tab (by simp), k.at h.res (by simp), hK⟩
theorem FoldSAt.keep {w wr W : World} {a b c : Value} {tab K : Array Value} (h : FoldSAt w a b c tab K wr) (k : Kept [] wr W) : FoldSAt w a b c tab K W :=
  ⟨h.kept.trans k (by simp) (by simp), k.at h.src (by simp), k.at h.tab (by simp), k.at h.res (by simp), k.at h.kids (by simp)⟩
def put3 (W : World) (B n : Nat) (a b c : Value) : World := ((W.setCell ⟨B, n, none⟩ a).setCell ⟨B, n + 1, none⟩ b).setCell ⟨B, n + 2, none⟩ c
theorem kept_put3 {F : List Nat} {w W : World} {B : Nat} (k : Kept F w W) (hB : B ∈ F ∨ w.heap.size ≤ B) (n : Nat) (a b c : Value) : Kept F w (put3 W B n a b c) :=
  ((k.setCell (p := ⟨B, n, none⟩) hB a).setCell (p := ⟨B, n + 1, none⟩) hB b).setCell (p := ⟨B, n + 2, none⟩) hB c
theorem row_putS0 {W : World} {B : Nat} {T : TypeId} {u0 u1 u2 u3 u4 u5 : Value} (q : W.heap[B]? = some (.cells #[u0, u1, u2, u3, u4, u5] T (0, 0))) (a b c : Value) : (put3 W B 0 a b c).heap[B]? = some (.cells #[a, b, c, u3, u4, u5] T (0, 0)) := by
  unfold put3; rw [row_set (row_set (row_set q a) b) c]; simp only [List.setIfInBounds_toArray, List.set_cons_zero, List.set_cons_succ, Nat.zero_add]
theorem row_putS1 {W : World} {B : Nat} {T : TypeId} {u0 u1 u2 u3 u4 u5 : Value} (q : W.heap[B]? = some (.cells #[u0, u1, u2, u3, u4, u5] T (0, 0))) (a b c : Value) : (put3 W B 3 a b c).heap[B]? = some (.cells #[u0, u1, u2, a, b, c] T (0, 0)) := by
  unfold put3; rw [row_set (row_set (row_set q a) b) c]; simp only [List.setIfInBounds_toArray, List.set_cons_zero, List.set_cons_succ]
theorem IsT.keptF {F : List Nat} {X : Nat → Prop} {W W' : World} {t : Tr} {kv : Value} (h : IsT X W t kv) (k : Kept F W W') (hF : ∀ b, X b → b ∉ F) : IsT X W' t kv := h.cells (fun _ h => h) (fun b _ _ hb c => cell_keptF k (hF b hb) c)
def FoldSDoes (t : Tr) : Prop := ∀ (kv : Value) (w : World), IsF w t kv → TurnTab w → t.size ≤ 1099511627776 →
  Calls Tryd.prog 46 #[.agg #[.int .u8 (t.op : Nat), .string t.name, kv], .func (.func 47) #[] #[], .agg simpTab] w (GivesX (fun k => w.heap.size ≤ k) w (simpT t))
set_option maxHeartbeats 1000000 in
set_option maxRecDepth 20000 in
theorem foldS_leaf (op : Nat) (s : ByteArray) : FoldSDoes ⟨op, s, []⟩ := by
  intro kv w hI hT hs
  obtain ⟨kad, kcap, rfl⟩ := hI.slice
  have HL : Hid (∀ W, Calls Tryd.prog 47 #[.agg #[.int .u8 (op : Nat), .string s, .slice kad 0 kcap]] W fun e w' => e = .returned (.agg #[.int .u8 (op : Nat), .string s, .slice none 0 0]) ∧ Kept [] W w') := fun W => leafAgain_any ⟨op, s, []⟩ kad 0 kcap W
  rw [simpT_0]
  show Calls Tryd.prog 46 #[.agg #[.int .u8 (op : Nat), .string s, .slice kad 0 kcap], .func (.func 47) #[] #[], .agg simpTab] w _
  clear hI hT hs
  unfold simpTab
  go_enter Tryd.func46, Tryd.ntmps46
  go_wp2_with (go_at_call 47; refine (HL.out _).mono ?_; rintro e W2 ⟨rfl, k2⟩; have hr : For3 W2 (w.heap.size + 1 + 1) (.int .u8 0) (.string ⟨#[]⟩) (.slice none 0 0) := Kept.at k2 (al2 w _ _ _) (by simp); obtain ⟨r0, r1, r2, rf⟩ := hr.cells; have HR : Hid (For3 W2 (w.heap.size + 1 + 1) (.int .u8 0) (.string ⟨#[]⟩) (.slice none 0 0)) := hr; have HK2 : Hid (Kept [] w W2) := ((((Kept.refl [] w).alloc _).alloc _).alloc _).trans k2 (by simp) (by simp); clear k2 hr)
  exact gives_end (t := ⟨op, s, []⟩) rfl rfl rfl HR.out (isT_leaf _ _ _ _) HK2.out (by omega)
set_option maxHeartbeats 2000000 in
set_option maxRecDepth 20000 in
theorem foldS_one (op : Nat) (ho : Un op) (x : Tr) (hGx : x.Good) (ih0 : FoldSDoes x) : FoldSDoes (nn1 op x) := by
  intro kv w hI hT hs
  obtain ⟨kad, kcap, rfl⟩ := hI.slice
  obtain ⟨kb, off, rfl, _, hk⟩ := hI.kid (show 0 < 1 by decide)
  obtain ⟨xv, c0, c1, c2, hIx⟩ := hk 0 (show 0 < 1 by decide)
  replace c0 : w.cell? ⟨kb, off + 0 * 3, none⟩ = some (.int .u8 (x.op : Nat)) := c0
  replace c1 : w.cell? ⟨kb, off + 0 * 3 + 1, none⟩ = some (.string x.name) := c1
  replace hIx : IsF w x xv := hIx
  rw [Nat.zero_mul, Nat.add_zero] at c0 c1 c2
  obtain ⟨xad, xcap, rfl⟩ := hIx.slice
  obtain ⟨hlb, hrow⟩ := tabS_one ho
  have hen := row_enters (op := op) (.inl ho)
  have hop : op < 16 := by unfold Un at ho; omega
  have hszn := (sz1 op x).1
  have hsz0 : x.size ≤ 1099511627776 := by omega
  have hless := simp_less x hGx
  rw [simpT_1]
  have HREC0 : Hid (∀ W, Kept [] w W → Calls Tryd.prog 46 #[.agg #[.int .u8 (x.op : Nat), .string x.name, .slice xad x.kids.length xcap], .func (.func 47) #[] #[], .agg simpTab] W (GivesX (fun k => W.heap.size ≤ k) W (simpT x))) := fun W k => ih0 _ W (hIx.kept k) (hT.kept k) hsz0
  have HCOL : Hid (∀ (W : World) a1 a2, Kept [] w W → w.heap.size + 1 + 1 < W.heap.size → IsT (fun k => w.heap.size ≤ k ∧ k ≠ w.heap.size + 1 + 1) W (simpT x) (.slice a1 (simpT x).kids.length a2) → Calls Tryd.prog (fnRow op) #[.agg #[.int .u8 ((simpT x).op : Nat), .string (simpT x).name, .slice a1 (simpT x).kids.length a2], zeroF] W (GivesX (fun k => w.heap.size ≤ k ∧ k ≠ w.heap.size + 1 + 1) W (sOp op (simpT x) (nn0 0)))) := fun W a1 a2 k hz hR => hrow _ _ _ _ W (fun b hb => ⟨by have := k.size; omega, by omega⟩) hR (hT.kept k) (simp_good x hGx) (by omega)
  generalize sOp op (simpT x) (nn0 0) = q at *
  generalize simpT x = p at *
  have HLB : Hid (simpTab[op]? = some (.func (.func (fnRow op)) #[] #[])) := hlb
  unfold zeroF at HCOL
  show Calls Tryd.prog 46 #[.agg #[.int .u8 (op : Nat), .string nE, .slice (some ⟨kb, off, none⟩) 1 kcap], .func (.func 47) #[] #[], .agg simpTab] w _
  have hopi : (op : Int) < 16 := by omega
  have HC00 : Hid _ := c0
  have HC01 : Hid _ := c1
  have HC02 : Hid _ := c2
  clear hI hk hIx ih0 hrow hlb c0 c1 c2 hT hs hszn hsz0 hless hGx ho
  generalize fnRow op = fc at *
  have HTB : Hid (simpTab = #[.nilFunc, .nilFunc, .nilFunc, .nilFunc, .func (.func 77) #[] #[], .func (.func 79) #[] #[], .func (.func 81) #[] #[], .func (.func 82) #[] #[], .func (.func 83) #[] #[], .func (.func 84) #[] #[], .func (.func 86) #[] #[], .func (.func 88) #[] #[], .func (.func 89) #[] #[], .func (.func 91) #[] #[], .func (.func 92) #[] #[], .func (.func 94) #[] #[]]) := rfl
  rw [HTB.out] at HREC0 HLB ⊢
  go_enter Tryd.func46, Tryd.ntmps46
  go_wp2
  go_loopw [20] (fun v wr => (v = .int .i64 0 ∧ Hid (FoldSAt w (.int .u8 (op : Nat)) (.string nE) (.slice (some ⟨kb, off, none⟩) 1 kcap) #[.nilFunc, .nilFunc, .nilFunc, .nilFunc, .func (.func 77) #[] #[], .func (.func 79) #[] #[], .func (.func 81) #[] #[], .func (.func 82) #[] #[], .func (.func 83) #[] #[], .func (.func 84) #[] #[], .func (.func 86) #[] #[], .func (.func 88) #[] #[], .func (.func 89) #[] #[], .func (.func 91) #[] #[], .func (.func 92) #[] #[], .func (.func 94) #[] #[]] #[.int .u8 0, .string ⟨#[]⟩, .slice none 0 0, .int .u8 0, .string ⟨#[]⟩, .slice none 0 0] wr)) ∨ (∃ a1 a2, v = .int .i64 1 ∧ Hid (FoldSAt w (.int .u8 (op : Nat)) (.string nE) (.slice (some ⟨kb, off, none⟩) 1 kcap) #[.nilFunc, .nilFunc, .nilFunc, .nilFunc, .func (.func 77) #[] #[], .func (.func 79) #[] #[], .func (.func 81) #[] #[], .func (.func 82) #[] #[], .func (.func 83) #[] #[], .func (.func 84) #[] #[], .func (.func 86) #[] #[], .func (.func 88) #[] #[], .func (.func 89) #[] #[], .func (.func 91) #[] #[], .func (.func 92) #[] #[], .func (.func 94) #[] #[]] #[.int .u8 (p.op : Nat), .string p.name, .slice a1 p.kids.length a2, .int .u8 0, .string ⟨#[]⟩, .slice none 0 0] wr) ∧ Hid (IsT (fun k => w.heap.size + 1 + 1 + 1 < k) wr p (.slice a1 p.kids.length a2)))) (fun v wr => 1 - (intOf v).toNat)
  case atStart =>
    exact .inl ⟨rfl, ⟨((((Kept.refl [] w).alloc _).alloc _).alloc _).alloc _, alUp (alUp (alUp (al0 w _) _) _) _, alUp (alUp (al1 w _ _) _) _, alUp (al2 w _ _ _) _, al3 w _ _ _ _⟩⟩
  case round =>
    rcases hrel with ⟨rfl, HR⟩ | ⟨a1, a2, rfl, HR, HQ⟩
    · skip
      have e0 := cell_kept0 HR.out.kept HC00.out
      have e1 := cell_kept0 HR.out.kept HC01.out
      have e2 := cell_kept0 HR.out.kept HC02.out
      have lw := lt_of HR.out.kids
      have lk : kb < wr.heap.size := World.block_lt_of_cell? wr _ e0
      have n3 : ¬ kb = wr.heap.size := by omega
      have n4 : ¬ wr.heap.size = kb := by omega
      have t0 : ∀ ob, (wr.alloc ob).cell? ⟨w.heap.size + 1, 0, none⟩ = some (.nilFunc) := fun ob => cell_kept0 ((Kept.refl [] wr).alloc ob) ((cell_of HR.out.tab 0).trans rfl)
      have t1 : ∀ ob, (wr.alloc ob).cell? ⟨w.heap.size + 1, 1, none⟩ = some (.nilFunc) := fun ob => cell_kept0 ((Kept.refl [] wr).alloc ob) ((cell_of HR.out.tab 1).trans rfl)
      have t2 : ∀ ob, (wr.alloc ob).cell? ⟨w.heap.size + 1, 2, none⟩ = some (.nilFunc) := fun ob => cell_kept0 ((Kept.refl [] wr).alloc ob) ((cell_of HR.out.tab 2).trans rfl)
      have t3 : ∀ ob, (wr.alloc ob).cell? ⟨w.heap.size + 1, 3, none⟩ = some (.nilFunc) := fun ob => cell_kept0 ((Kept.refl [] wr).alloc ob) ((cell_of HR.out.tab 3).trans rfl)
      have t4 : ∀ ob, (wr.alloc ob).cell? ⟨w.heap.size + 1, 4, none⟩ = some (.func (.func 77) #[] #[]) := fun ob => cell_kept0 ((Kept.refl [] wr).alloc ob) ((cell_of HR.out.tab 4).trans rfl)
      have t5 : ∀ ob, (wr.alloc ob).cell? ⟨w.heap.size + 1, 5, none⟩ = some (.func (.func 79) #[] #[]) := fun ob => cell_kept0 ((Kept.refl [] wr).alloc ob) ((cell_of HR.out.tab 5).trans rfl)
      have t6 : ∀ ob, (wr.alloc ob).cell? ⟨w.heap.size + 1, 6, none⟩ = some (.func (.func 81) #[] #[]) := fun ob => cell_kept0 ((Kept.refl [] wr).alloc ob) ((cell_of HR.out.tab 6).trans rfl)
      have t7 : ∀ ob, (wr.alloc ob).cell? ⟨w.heap.size + 1, 7, none⟩ = some (.func (.func 82) #[] #[]) := fun ob => cell_kept0 ((Kept.refl [] wr).alloc ob) ((cell_of HR.out.tab 7).trans rfl)
      have t8 : ∀ ob, (wr.alloc ob).cell? ⟨w.heap.size + 1, 8, none⟩ = some (.func (.func 83) #[] #[]) := fun ob => cell_kept0 ((Kept.refl [] wr).alloc ob) ((cell_of HR.out.tab 8).trans rfl)
      have t9 : ∀ ob, (wr.alloc ob).cell? ⟨w.heap.size + 1, 9, none⟩ = some (.func (.func 84) #[] #[]) := fun ob => cell_kept0 ((Kept.refl [] wr).alloc ob) ((cell_of HR.out.tab 9).trans rfl)
      have t10 : ∀ ob, (wr.alloc ob).cell? ⟨w.heap.size + 1, 10, none⟩ = some (.func (.func 86) #[] #[]) := fun ob => cell_kept0 ((Kept.refl [] wr).alloc ob) ((cell_of HR.out.tab 10).trans rfl)
      have t11 : ∀ ob, (wr.alloc ob).cell? ⟨w.heap.size + 1, 11, none⟩ = some (.func (.func 88) #[] #[]) := fun ob => cell_kept0 ((Kept.refl [] wr).alloc ob) ((cell_of HR.out.tab 11).trans rfl)
      have t12 : ∀ ob, (wr.alloc ob).cell? ⟨w.heap.size + 1, 12, none⟩ = some (.func (.func 89) #[] #[]) := fun ob => cell_kept0 ((Kept.refl [] wr).alloc ob) ((cell_of HR.out.tab 12).trans rfl)
      have t13 : ∀ ob, (wr.alloc ob).cell? ⟨w.heap.size + 1, 13, none⟩ = some (.func (.func 91) #[] #[]) := fun ob => cell_kept0 ((Kept.refl [] wr).alloc ob) ((cell_of HR.out.tab 13).trans rfl)
      have t14 : ∀ ob, (wr.alloc ob).cell? ⟨w.heap.size + 1, 14, none⟩ = some (.func (.func 92) #[] #[]) := fun ob => cell_kept0 ((Kept.refl [] wr).alloc ob) ((cell_of HR.out.tab 14).trans rfl)
      have t15 : ∀ ob, (wr.alloc ob).cell? ⟨w.heap.size + 1, 15, none⟩ = some (.func (.func 94) #[] #[]) := fun ob => cell_kept0 ((Kept.refl [] wr).alloc ob) ((cell_of HR.out.tab 15).trans rfl)
      go_wp2_with (go_at_call 46; refine (HREC0.out _ (HR.out.kept.alloc _)).mono ?_; rintro e W5 ⟨a1, a2, rfl, i1, k5⟩; have k5' : Kept [] wr W5 := ((Kept.refl [] wr).alloc _).trans k5 (by simp) (by simp); have hK5 := (HR.out.keep k5').kids; have kc0 : W5.cell? ⟨w.heap.size + 1 + 1 + 1, 0, none⟩ = some (.int .u8 0) := (cell_of hK5 0).trans rfl; have kc1 : W5.cell? ⟨w.heap.size + 1 + 1 + 1, 1, none⟩ = some (.string ⟨#[]⟩) := (cell_of hK5 1).trans rfl; have kc2 : W5.cell? ⟨w.heap.size + 1 + 1 + 1, 2, none⟩ = some (.slice none 0 0) := (cell_of hK5 2).trans rfl; have kc3 : W5.cell? ⟨w.heap.size + 1 + 1 + 1, 3, none⟩ = some (.int .u8 0) := (cell_of hK5 3).trans rfl; have kc4 : W5.cell? ⟨w.heap.size + 1 + 1 + 1, 4, none⟩ = some (.string ⟨#[]⟩) := (cell_of hK5 4).trans rfl; have kc5 : W5.cell? ⟨w.heap.size + 1 + 1 + 1, 5, none⟩ = some (.slice none 0 0) := (cell_of hK5 5).trans rfl; have kf := (fun i => free_of hK5 i); have HI1 : Hid (IsT (fun k => w.heap.size + 1 + 1 + 1 < k) W5 p (.slice a1 p.kids.length a2)) := i1.mono (fun b (hb : _ ≤ b) => (by simp at hb; omega)); have HK5 : Hid (Kept [] wr W5) := k5'; have HG5 : Hid _ := hK5; clear i1 k5 k5' hK5)
      go_roundw
      case rel => exact .inr ⟨a1, a2, rfl, HR.out.next (kept_put3 (HK5.out.mono (by simp)) (.inl (by simp)) 0 _ _ _) (row_putS0 HG5.out _ _ _), HI1.out.keptF (kept_put3 (Kept.refl [w.heap.size + 1 + 1 + 1] W5) (.inl (by simp)) 0 _ _ _) (fun b hb => by simp; omega)⟩
      case measure => simp [intOf]
    · obtain ⟨s0, s1, s2, -⟩ := HR.out.src.cells
      have kc0 : wr.cell? ⟨w.heap.size + 1 + 1 + 1, 0, none⟩ = some (.int .u8 (p.op : Nat)) := (cell_of HR.out.kids 0).trans rfl
      have kc1 : wr.cell? ⟨w.heap.size + 1 + 1 + 1, 1, none⟩ = some (.string p.name) := (cell_of HR.out.kids 1).trans rfl
      have kc2 : wr.cell? ⟨w.heap.size + 1 + 1 + 1, 2, none⟩ = some (.slice a1 p.kids.length a2) := (cell_of HR.out.kids 2).trans rfl
      have kc3 : wr.cell? ⟨w.heap.size + 1 + 1 + 1, 3, none⟩ = some (.int .u8 0) := (cell_of HR.out.kids 3).trans rfl
      have kc4 : wr.cell? ⟨w.heap.size + 1 + 1 + 1, 4, none⟩ = some (.string ⟨#[]⟩) := (cell_of HR.out.kids 4).trans rfl
      have kc5 : wr.cell? ⟨w.heap.size + 1 + 1 + 1, 5, none⟩ = some (.slice none 0 0) := (cell_of HR.out.kids 5).trans rfl
      have tO : wr.cell? ⟨w.heap.size + 1, op, none⟩ = some (.func (.func fc) #[] #[]) := (cell_of HR.out.tab op).trans HLB.out
      have lw := lt_of HR.out.kids
      have HS : Hid (∀ w', Kept [w.heap.size + 1 + 1] wr w' → w'.cell? ⟨w.heap.size, 0, none⟩ = some (.int .u8 (op : Nat)) ∧ w'.cell? ⟨w.heap.size + 1, op, none⟩ = some (.func (.func fc) #[] #[]) ∧ w'.cell? ⟨w.heap.size + 1 + 1 + 1, 0, none⟩ = some (.int .u8 (p.op : Nat)) ∧ w'.cell? ⟨w.heap.size + 1 + 1 + 1, 1, none⟩ = some (.string p.name) ∧ w'.cell? ⟨w.heap.size + 1 + 1 + 1, 2, none⟩ = some (.slice a1 p.kids.length a2) ∧ w'.cell? ⟨w.heap.size + 1 + 1 + 1, 3, none⟩ = some (.int .u8 0) ∧ w'.cell? ⟨w.heap.size + 1 + 1 + 1, 4, none⟩ = some (.string ⟨#[]⟩) ∧ w'.cell? ⟨w.heap.size + 1 + 1 + 1, 5, none⟩ = some (.slice none 0 0)) := fun w' k => ⟨cell_keptF k (by simp; omega) s0, cell_keptF k (by simp) tO, cell_keptF k (by simp) kc0, cell_keptF k (by simp) kc1, cell_keptF k (by simp) kc2, cell_keptF k (by simp) kc3, cell_keptF k (by simp) kc4, cell_keptF k (by simp) kc5⟩
      have HRES : Hid (∀ W, Kept [] wr W → For3 W (w.heap.size + 1 + 1) (.int .u8 0) (.string ⟨#[]⟩) (.slice none 0 0)) := fun W k => HR.out.res.kept k
      have HCC : Hid (∀ W, Kept [] wr W → Calls Tryd.prog fc #[.agg #[.int .u8 (p.op : Nat), .string p.name, .slice a1 p.kids.length a2], .agg #[.int .u8 0, .string ⟨#[]⟩, .slice none 0 0]] W (GivesX (fun k => w.heap.size ≤ k ∧ k ≠ w.heap.size + 1 + 1) W q)) := fun W k => HCOL.out W a1 a2 (HR.out.kept.trans k (by simp) (by simp)) (by have := k.size; omega) (IsT.cells (fun b hb => ⟨by omega, by omega⟩) (fun _ _ _ _ c => cell_kept0 k c) HQ.out)
      go_wp2_with fail
      go_region_held3 (fun w' => w'.cell? ⟨w.heap.size, 0, none⟩ = some (.int .u8 (op : Nat)) ∧ w'.cell? ⟨w.heap.size + 1, op, none⟩ = some (.func (.func fc) #[] #[]) ∧ w'.cell? ⟨w.heap.size + 1 + 1 + 1, 0, none⟩ = some (.int .u8 (p.op : Nat)) ∧ w'.cell? ⟨w.heap.size + 1 + 1 + 1, 1, none⟩ = some (.string p.name) ∧ w'.cell? ⟨w.heap.size + 1 + 1 + 1, 2, none⟩ = some (.slice a1 p.kids.length a2) ∧ w'.cell? ⟨w.heap.size + 1 + 1 + 1, 3, none⟩ = some (.int .u8 0) ∧ w'.cell? ⟨w.heap.size + 1 + 1 + 1, 4, none⟩ = some (.string ⟨#[]⟩) ∧ w'.cell? ⟨w.heap.size + 1 + 1 + 1, 5, none⟩ = some (.slice none 0 0))
        ((refine HS.out _ ?_; (repeat (first | (with_reducible exact Kept.refl _ _) | (with_reducible refine Kept.drew ?_) | (with_reducible refine Kept.setCell ?_ (Or.inl (by simp)) _) | with_reducible refine Kept.trans (F := [w.heap.size + 1 + 1]) (G := []) (H := [w.heap.size + 1 + 1]) ?_ HK6.out (by simp) (by simp)))))
        ((go_at_fn fc; refine (HCC.out _ (Kept.refl [] wr).drew).mono ?_; rintro e W6 ⟨u1, u2, rfl, i1, k6⟩; have HKV6 : Hid (Kept [] wr W6) := (Kept.refl [] wr).drew.trans k6 (by simp) (by simp); have HK6 : Hid (Kept [] _ W6) := k6; have HI1 : Hid (IsT (fun k => w.heap.size ≤ k ∧ k ≠ w.heap.size + 1 + 1) W6 q (.slice u1 q.kids.length u2)) := i1; obtain ⟨r0, r1', r2', rf⟩ := (HRES.out W6 HKV6.out).cells; clear i1 k6))
      all_goals go_wp2
      all_goals exact gives_end rfl rfl rfl (HRES.out W6 HKV6.out) HI1.out (HR.out.kept.trans HKV6.out (by simp) (by simp)) (by omega)
set_option maxHeartbeats 2000000 in
set_option maxRecDepth 20000 in
theorem foldS_two (op : Nat) (ho : Bi op) (x z : Tr) (hGx : x.Good) (hGz : z.Good) (ih0 : FoldSDoes x) (ih1 : FoldSDoes z) : FoldSDoes (nn2 op x z) := by
  intro kv w hI hT hs
  obtain ⟨kad, kcap, rfl⟩ := hI.slice
  obtain ⟨kb, off, rfl, _, hk⟩ := hI.kid (show 0 < 2 by decide)
  obtain ⟨xv, c00, c01, c02, hIx⟩ := hk 0 (show 0 < 2 by decide)
  obtain ⟨zv, c10, c11, c12, hIz⟩ := hk 1 (show 1 < 2 by decide)
  replace c00 : w.cell? ⟨kb, off + 0 * 3, none⟩ = some (.int .u8 (x.op : Nat)) := c00
  replace c01 : w.cell? ⟨kb, off + 0 * 3 + 1, none⟩ = some (.string x.name) := c01
  replace c10 : w.cell? ⟨kb, off + 1 * 3, none⟩ = some (.int .u8 (z.op : Nat)) := c10
  replace c11 : w.cell? ⟨kb, off + 1 * 3 + 1, none⟩ = some (.string z.name) := c11
  replace hIx : IsF w x xv := hIx
  replace hIz : IsF w z zv := hIz
  rw [Nat.zero_mul, Nat.add_zero] at c00 c01 c02
  rw [Nat.one_mul] at c10 c11 c12
  obtain ⟨xad, xcap, rfl⟩ := hIx.slice
  obtain ⟨zad, zcap, rfl⟩ := hIz.slice
  obtain ⟨hlb, hrow⟩ := tabS_two ho
  have hen := row_enters (op := op) (.inr ho)
  have hop : op < 16 := by unfold Bi at ho; omega
  have hszn := (sz2 op x z).1
  have hsz0 : x.size ≤ 1099511627776 := by omega
  have hsz1 : z.size ≤ 1099511627776 := by omega
  have hless := simp_less x hGx
  have hless2 := simp_less z hGz
  rw [simpT_2]
  have HREC0 : Hid (∀ W, Kept [] w W → Calls Tryd.prog 46 #[.agg #[.int .u8 (x.op : Nat), .string x.name, .slice xad x.kids.length xcap], .func (.func 47) #[] #[], .agg simpTab] W (GivesX (fun k => W.heap.size ≤ k) W (simpT x))) := fun W k => ih0 _ W (hIx.kept k) (hT.kept k) hsz0
  have HREC1 : Hid (∀ W, Kept [] w W → Calls Tryd.prog 46 #[.agg #[.int .u8 (z.op : Nat), .string z.name, .slice zad z.kids.length zcap], .func (.func 47) #[] #[], .agg simpTab] W (GivesX (fun k => W.heap.size ≤ k) W (simpT z))) := fun W k => ih1 _ W (hIz.kept k) (hT.kept k) hsz1
  have HCOL : Hid (∀ (W : World) a1 a2 b1 b2, Kept [] w W → w.heap.size + 1 + 1 < W.heap.size → IsT (fun k => w.heap.size ≤ k ∧ k ≠ w.heap.size + 1 + 1) W (simpT x) (.slice a1 (simpT x).kids.length a2) → IsT (fun k => w.heap.size ≤ k ∧ k ≠ w.heap.size + 1 + 1) W (simpT z) (.slice b1 (simpT z).kids.length b2) → Calls Tryd.prog (fnRow op) #[.agg #[.int .u8 ((simpT x).op : Nat), .string (simpT x).name, .slice a1 (simpT x).kids.length a2], .agg #[.int .u8 ((simpT z).op : Nat), .string (simpT z).name, .slice b1 (simpT z).kids.length b2]] W (GivesX (fun k => w.heap.size ≤ k ∧ k ≠ w.heap.size + 1 + 1) W (sOp op (simpT x) (simpT z)))) := fun W a1 a2 b1 b2 k hz hR hS => hrow _ _ _ _ _ W (fun b hb => ⟨by have := k.size; omega, by omega⟩) hR hS (hT.kept k) (simp_good x hGx) (simp_good z hGz) (by omega) (by omega)
  generalize sOp op (simpT x) (simpT z) = q at *
  generalize simpT x = p at *
  generalize simpT z = r at *
  have HLB : Hid (simpTab[op]? = some (.func (.func (fnRow op)) #[] #[])) := hlb
  show Calls Tryd.prog 46 #[.agg #[.int .u8 (op : Nat), .string nE, .slice (some ⟨kb, off, none⟩) 2 kcap], .func (.func 47) #[] #[], .agg simpTab] w _
  have hopi : (op : Int) < 16 := by omega
  have HC00 : Hid _ := c00
  have HC01 : Hid _ := c01
  have HC02 : Hid _ := c02
  have HC10 : Hid _ := c10
  have HC11 : Hid _ := c11
  have HC12 : Hid _ := c12
  clear hI hk hIx hIz ih0 ih1 hrow hlb c00 c01 c02 c10 c11 c12 hT hs hszn hsz0 hsz1 hless hless2 hGx hGz ho
  generalize fnRow op = fc at *
  have HTB : Hid (simpTab = #[.nilFunc, .nilFunc, .nilFunc, .nilFunc, .func (.func 77) #[] #[], .func (.func 79) #[] #[], .func (.func 81) #[] #[], .func (.func 82) #[] #[], .func (.func 83) #[] #[], .func (.func 84) #[] #[], .func (.func 86) #[] #[], .func (.func 88) #[] #[], .func (.func 89) #[] #[], .func (.func 91) #[] #[], .func (.func 92) #[] #[], .func (.func 94) #[] #[]]) := rfl
  rw [HTB.out] at HREC0 HREC1 HLB ⊢
  go_enter Tryd.func46, Tryd.ntmps46
  go_wp2
  go_loopw [20] (fun v wr => (v = .int .i64 0 ∧ Hid (FoldSAt w (.int .u8 (op : Nat)) (.string nE) (.slice (some ⟨kb, off, none⟩) 2 kcap) #[.nilFunc, .nilFunc, .nilFunc, .nilFunc, .func (.func 77) #[] #[], .func (.func 79) #[] #[], .func (.func 81) #[] #[], .func (.func 82) #[] #[], .func (.func 83) #[] #[], .func (.func 84) #[] #[], .func (.func 86) #[] #[], .func (.func 88) #[] #[], .func (.func 89) #[] #[], .func (.func 91) #[] #[], .func (.func 92) #[] #[], .func (.func 94) #[] #[]] #[.int .u8 0, .string ⟨#[]⟩, .slice none 0 0, .int .u8 0, .string ⟨#[]⟩, .slice none 0 0] wr)) ∨ (∃ a1 a2, v = .int .i64 1 ∧ Hid (FoldSAt w (.int .u8 (op : Nat)) (.string nE) (.slice (some ⟨kb, off, none⟩) 2 kcap) #[.nilFunc, .nilFunc, .nilFunc, .nilFunc, .func (.func 77) #[] #[], .func (.func 79) #[] #[], .func (.func 81) #[] #[], .func (.func 82) #[] #[], .func (.func 83) #[] #[], .func (.func 84) #[] #[], .func (.func 86) #[] #[], .func (.func 88) #[] #[], .func (.func 89) #[] #[], .func (.func 91) #[] #[], .func (.func 92) #[] #[], .func (.func 94) #[] #[]] #[.int .u8 (p.op : Nat), .string p.name, .slice a1 p.kids.length a2, .int .u8 0, .string ⟨#[]⟩, .slice none 0 0] wr) ∧ Hid (IsT (fun k => w.heap.size + 1 + 1 + 1 < k) wr p (.slice a1 p.kids.length a2))) ∨ (∃ a1 a2 b1 b2, v = .int .i64 2 ∧ Hid (FoldSAt w (.int .u8 (op : Nat)) (.string nE) (.slice (some ⟨kb, off, none⟩) 2 kcap) #[.nilFunc, .nilFunc, .nilFunc, .nilFunc, .func (.func 77) #[] #[], .func (.func 79) #[] #[], .func (.func 81) #[] #[], .func (.func 82) #[] #[], .func (.func 83) #[] #[], .func (.func 84) #[] #[], .func (.func 86) #[] #[], .func (.func 88) #[] #[], .func (.func 89) #[] #[], .func (.func 91) #[] #[], .func (.func 92) #[] #[], .func (.func 94) #[] #[]] #[.int .u8 (p.op : Nat), .string p.name, .slice a1 p.kids.length a2, .int .u8 (r.op : Nat), .string r.name, .slice b1 r.kids.length b2] wr) ∧ Hid (IsT (fun k => w.heap.size + 1 + 1 + 1 < k) wr p (.slice a1 p.kids.length a2)) ∧ Hid (IsT (fun k => w.heap.size + 1 + 1 + 1 < k) wr r (.slice b1 r.kids.length b2)))) (fun v wr => 2 - (intOf v).toNat)
  case atStart =>
    exact .inl ⟨rfl, ⟨((((Kept.refl [] w).alloc _).alloc _).alloc _).alloc _, alUp (alUp (alUp (al0 w _) _) _) _, alUp (alUp (al1 w _ _) _) _, alUp (al2 w _ _ _) _, al3 w _ _ _ _⟩⟩
  case round =>
    rcases hrel with ⟨rfl, HR⟩ | ⟨a1, a2, rfl, HR, HQ⟩ | ⟨a1, a2, b1, b2, rfl, HR, HQ, HQ2⟩
    · skip
      have e0 := cell_kept0 HR.out.kept HC00.out
      have e1 := cell_kept0 HR.out.kept HC01.out
      have e2 := cell_kept0 HR.out.kept HC02.out
      have lw := lt_of HR.out.kids
      have lk : kb < wr.heap.size := World.block_lt_of_cell? wr _ e0
      have n3 : ¬ kb = wr.heap.size := by omega
      have n4 : ¬ wr.heap.size = kb := by omega
      have t0 : ∀ ob, (wr.alloc ob).cell? ⟨w.heap.size + 1, 0, none⟩ = some (.nilFunc) := fun ob => cell_kept0 ((Kept.refl [] wr).alloc ob) ((cell_of HR.out.tab 0).trans rfl)
      have t1 : ∀ ob, (wr.alloc ob).cell? ⟨w.heap.size + 1, 1, none⟩ = some (.nilFunc) := fun ob => cell_kept0 ((Kept.refl [] wr).alloc ob) ((cell_of HR.out.tab 1).trans rfl)
      have t2 : ∀ ob, (wr.alloc ob).cell? ⟨w.heap.size + 1, 2, none⟩ = some (.nilFunc) := fun ob => cell_kept0 ((Kept.refl [] wr).alloc ob) ((cell_of HR.out.tab 2).trans rfl)
      have t3 : ∀ ob, (wr.alloc ob).cell? ⟨w.heap.size + 1, 3, none⟩ = some (.nilFunc) := fun ob => cell_kept0 ((Kept.refl [] wr).alloc ob) ((cell_of HR.out.tab 3).trans rfl)
      have t4 : ∀ ob, (wr.alloc ob).cell? ⟨w.heap.size + 1, 4, none⟩ = some (.func (.func 77) #[] #[]) := fun ob => cell_kept0 ((Kept.refl [] wr).alloc ob) ((cell_of HR.out.tab 4).trans rfl)
      have t5 : ∀ ob, (wr.alloc ob).cell? ⟨w.heap.size + 1, 5, none⟩ = some (.func (.func 79) #[] #[]) := fun ob => cell_kept0 ((Kept.refl [] wr).alloc ob) ((cell_of HR.out.tab 5).trans rfl)
      have t6 : ∀ ob, (wr.alloc ob).cell? ⟨w.heap.size + 1, 6, none⟩ = some (.func (.func 81) #[] #[]) := fun ob => cell_kept0 ((Kept.refl [] wr).alloc ob) ((cell_of HR.out.tab 6).trans rfl)
      have t7 : ∀ ob, (wr.alloc ob).cell? ⟨w.heap.size + 1, 7, none⟩ = some (.func (.func 82) #[] #[]) := fun ob => cell_kept0 ((Kept.refl [] wr).alloc ob) ((cell_of HR.out.tab 7).trans rfl)
      have t8 : ∀ ob, (wr.alloc ob).cell? ⟨w.heap.size + 1, 8, none⟩ = some (.func (.func 83) #[] #[]) := fun ob => cell_kept0 ((Kept.refl [] wr).alloc ob) ((cell_of HR.out.tab 8).trans rfl)
      have t9 : ∀ ob, (wr.alloc ob).cell? ⟨w.heap.size + 1, 9, none⟩ = some (.func (.func 84) #[] #[]) := fun ob => cell_kept0 ((Kept.refl [] wr).alloc ob) ((cell_of HR.out.tab 9).trans rfl)
      have t10 : ∀ ob, (wr.alloc ob).cell? ⟨w.heap.size + 1, 10, none⟩ = some (.func (.func 86) #[] #[]) := fun ob => cell_kept0 ((Kept.refl [] wr).alloc ob) ((cell_of HR.out.tab 10).trans rfl)
      have t11 : ∀ ob, (wr.alloc ob).cell? ⟨w.heap.size + 1, 11, none⟩ = some (.func (.func 88) #[] #[]) := fun ob => cell_kept0 ((Kept.refl [] wr).alloc ob) ((cell_of HR.out.tab 11).trans rfl)
      have t12 : ∀ ob, (wr.alloc ob).cell? ⟨w.heap.size + 1, 12, none⟩ = some (.func (.func 89) #[] #[]) := fun ob => cell_kept0 ((Kept.refl [] wr).alloc ob) ((cell_of HR.out.tab 12).trans rfl)
      have t13 : ∀ ob, (wr.alloc ob).cell? ⟨w.heap.size + 1, 13, none⟩ = some (.func (.func 91) #[] #[]) := fun ob => cell_kept0 ((Kept.refl [] wr).alloc ob) ((cell_of HR.out.tab 13).trans rfl)
      have t14 : ∀ ob, (wr.alloc ob).cell? ⟨w.heap.size + 1, 14, none⟩ = some (.func (.func 92) #[] #[]) := fun ob => cell_kept0 ((Kept.refl [] wr).alloc ob) ((cell_of HR.out.tab 14).trans rfl)
      have t15 : ∀ ob, (wr.alloc ob).cell? ⟨w.heap.size + 1, 15, none⟩ = some (.func (.func 94) #[] #[]) := fun ob => cell_kept0 ((Kept.refl [] wr).alloc ob) ((cell_of HR.out.tab 15).trans rfl)
      go_wp2_with (go_at_call 46; refine (HREC0.out _ (HR.out.kept.alloc _)).mono ?_; rintro e W5 ⟨a1, a2, rfl, i1, k5⟩; have k5' : Kept [] wr W5 := ((Kept.refl [] wr).alloc _).trans k5 (by simp) (by simp); have hK5 := (HR.out.keep k5').kids; have kc0 : W5.cell? ⟨w.heap.size + 1 + 1 + 1, 0, none⟩ = some (.int .u8 0) := (cell_of hK5 0).trans rfl; have kc1 : W5.cell? ⟨w.heap.size + 1 + 1 + 1, 1, none⟩ = some (.string ⟨#[]⟩) := (cell_of hK5 1).trans rfl; have kc2 : W5.cell? ⟨w.heap.size + 1 + 1 + 1, 2, none⟩ = some (.slice none 0 0) := (cell_of hK5 2).trans rfl; have kc3 : W5.cell? ⟨w.heap.size + 1 + 1 + 1, 3, none⟩ = some (.int .u8 0) := (cell_of hK5 3).trans rfl; have kc4 : W5.cell? ⟨w.heap.size + 1 + 1 + 1, 4, none⟩ = some (.string ⟨#[]⟩) := (cell_of hK5 4).trans rfl; have kc5 : W5.cell? ⟨w.heap.size + 1 + 1 + 1, 5, none⟩ = some (.slice none 0 0) := (cell_of hK5 5).trans rfl; have kf := (fun i => free_of hK5 i); have HI1 : Hid (IsT (fun k => w.heap.size + 1 + 1 + 1 < k) W5 p (.slice a1 p.kids.length a2)) := i1.mono (fun b (hb : _ ≤ b) => (by simp at hb; omega)); have HK5 : Hid (Kept [] wr W5) := k5'; have HG5 : Hid _ := hK5; clear i1 k5 k5' hK5)
      go_roundw
      case rel => exact .inr (.inl ⟨a1, a2, rfl, HR.out.next (kept_put3 (HK5.out.mono (by simp)) (.inl (by simp)) 0 _ _ _) (row_putS0 HG5.out _ _ _), HI1.out.keptF (kept_put3 (Kept.refl [w.heap.size + 1 + 1 + 1] W5) (.inl (by simp)) 0 _ _ _) (fun b hb => by simp; omega)⟩)
      case measure => simp [intOf]
    · skip
      have e0 := cell_kept0 HR.out.kept HC10.out
      have e1 := cell_kept0 HR.out.kept HC11.out
      have e2 := cell_kept0 HR.out.kept HC12.out
      have lw := lt_of HR.out.kids
      have lk : kb < wr.heap.size := World.block_lt_of_cell? wr _ e0
      have n3 : ¬ kb = wr.heap.size := by omega
      have n4 : ¬ wr.heap.size = kb := by omega
      have t0 : ∀ ob, (wr.alloc ob).cell? ⟨w.heap.size + 1, 0, none⟩ = some (.nilFunc) := fun ob => cell_kept0 ((Kept.refl [] wr).alloc ob) ((cell_of HR.out.tab 0).trans rfl)
      have t1 : ∀ ob, (wr.alloc ob).cell? ⟨w.heap.size + 1, 1, none⟩ = some (.nilFunc) := fun ob => cell_kept0 ((Kept.refl [] wr).alloc ob) ((cell_of HR.out.tab 1).trans rfl)
      have t2 : ∀ ob, (wr.alloc ob).cell? ⟨w.heap.size + 1, 2, none⟩ = some (.nilFunc) := fun ob => cell_kept0 ((Kept.refl [] wr).alloc ob) ((cell_of HR.out.tab 2).trans rfl)
      have t3 : ∀ ob, (wr.alloc ob).cell? ⟨w.heap.size + 1, 3, none⟩ = some (.nilFunc) := fun ob => cell_kept0 ((Kept.refl [] wr).alloc ob) ((cell_of HR.out.tab 3).trans rfl)
      have t4 : ∀ ob, (wr.alloc ob).cell? ⟨w.heap.size + 1, 4, none⟩ = some (.func (.func 77) #[] #[]) := fun ob => cell_kept0 ((Kept.refl [] wr).alloc ob) ((cell_of HR.out.tab 4).trans rfl)
      have t5 : ∀ ob, (wr.alloc ob).cell? ⟨w.heap.size + 1, 5, none⟩ = some (.func (.func 79) #[] #[]) := fun ob => cell_kept0 ((Kept.refl [] wr).alloc ob) ((cell_of HR.out.tab 5).trans rfl)
      have t6 : ∀ ob, (wr.alloc ob).cell? ⟨w.heap.size + 1, 6, none⟩ = some (.func (.func 81) #[] #[]) := fun ob => cell_kept0 ((Kept.refl [] wr).alloc ob) ((cell_of HR.out.tab 6).trans rfl)
      have t7 : ∀ ob, (wr.alloc ob).cell? ⟨w.heap.size + 1, 7, none⟩ = some (.func (.func 82) #[] #[]) := fun ob => cell_kept0 ((Kept.refl [] wr).alloc ob) ((cell_of HR.out.tab 7).trans rfl)
      have t8 : ∀ ob, (wr.alloc ob).cell? ⟨w.heap.size + 1, 8, none⟩ = some (.func (.func 83) #[] #[]) := fun ob => cell_kept0 ((Kept.refl [] wr).alloc ob) ((cell_of HR.out.tab 8).trans rfl)
      have t9 : ∀ ob, (wr.alloc ob).cell? ⟨w.heap.size + 1, 9, none⟩ = some (.func (.func 84) #[] #[]) := fun ob => cell_kept0 ((Kept.refl [] wr).alloc ob) ((cell_of HR.out.tab 9).trans rfl)
      have t10 : ∀ ob, (wr.alloc ob).cell? ⟨w.heap.size + 1, 10, none⟩ = some (.func (.func 86) #[] #[]) := fun ob => cell_kept0 ((Kept.refl [] wr).alloc ob) ((cell_of HR.out.tab 10).trans rfl)
      have t11 : ∀ ob, (wr.alloc ob).cell? ⟨w.heap.size + 1, 11, none⟩ = some (.func (.func 88) #[] #[]) := fun ob => cell_kept0 ((Kept.refl [] wr).alloc ob) ((cell_of HR.out.tab 11).trans rfl)
      have t12 : ∀ ob, (wr.alloc ob).cell? ⟨w.heap.size + 1, 12, none⟩ = some (.func (.func 89) #[] #[]) := fun ob => cell_kept0 ((Kept.refl [] wr).alloc ob) ((cell_of HR.out.tab 12).trans rfl)
      have t13 : ∀ ob, (wr.alloc ob).cell? ⟨w.heap.size + 1, 13, none⟩ = some (.func (.func 91) #[] #[]) := fun ob => cell_kept0 ((Kept.refl [] wr).alloc ob) ((cell_of HR.out.tab 13).trans rfl)
      have t14 : ∀ ob, (wr.alloc ob).cell? ⟨w.heap.size + 1, 14, none⟩ = some (.func (.func 92) #[] #[]) := fun ob => cell_kept0 ((Kept.refl [] wr).alloc ob) ((cell_of HR.out.tab 14).trans rfl)
      have t15 : ∀ ob, (wr.alloc ob).cell? ⟨w.heap.size + 1, 15, none⟩ = some (.func (.func 94) #[] #[]) := fun ob => cell_kept0 ((Kept.refl [] wr).alloc ob) ((cell_of HR.out.tab 15).trans rfl)
      go_wp2_with (go_at_call 46; refine (HREC1.out _ (HR.out.kept.alloc _)).mono ?_; rintro e W5 ⟨b1, b2, rfl, i1, k5⟩; have k5' : Kept [] wr W5 := ((Kept.refl [] wr).alloc _).trans k5 (by simp) (by simp); have hK5 := (HR.out.keep k5').kids; have kc0 : W5.cell? ⟨w.heap.size + 1 + 1 + 1, 0, none⟩ = some (.int .u8 (p.op : Nat)) := (cell_of hK5 0).trans rfl; have kc1 : W5.cell? ⟨w.heap.size + 1 + 1 + 1, 1, none⟩ = some (.string p.name) := (cell_of hK5 1).trans rfl; have kc2 : W5.cell? ⟨w.heap.size + 1 + 1 + 1, 2, none⟩ = some (.slice a1 p.kids.length a2) := (cell_of hK5 2).trans rfl; have kc3 : W5.cell? ⟨w.heap.size + 1 + 1 + 1, 3, none⟩ = some (.int .u8 0) := (cell_of hK5 3).trans rfl; have kc4 : W5.cell? ⟨w.heap.size + 1 + 1 + 1, 4, none⟩ = some (.string ⟨#[]⟩) := (cell_of hK5 4).trans rfl; have kc5 : W5.cell? ⟨w.heap.size + 1 + 1 + 1, 5, none⟩ = some (.slice none 0 0) := (cell_of hK5 5).trans rfl; have kf := (fun i => free_of hK5 i); have HI1 : Hid (IsT (fun k => w.heap.size + 1 + 1 + 1 < k) W5 r (.slice b1 r.kids.length b2)) := i1.mono (fun b (hb : _ ≤ b) => (by simp at hb; omega)); have HA5 : Hid (IsT (fun k => w.heap.size + 1 + 1 + 1 < k) W5 p (.slice a1 p.kids.length a2)) := HQ.out.keptX k5'; have HK5 : Hid (Kept [] wr W5) := k5'; have HG5 : Hid _ := hK5; clear i1 k5 k5' hK5)
      go_roundw
      case rel => exact .inr (.inr ⟨a1, a2, b1, b2, rfl, HR.out.next (kept_put3 (HK5.out.mono (by simp)) (.inl (by simp)) 3 _ _ _) (row_putS1 HG5.out _ _ _), HA5.out.keptF (kept_put3 (Kept.refl [w.heap.size + 1 + 1 + 1] W5) (.inl (by simp)) 3 _ _ _) (fun b hb => by simp; omega), HI1.out.keptF (kept_put3 (Kept.refl [w.heap.size + 1 + 1 + 1] W5) (.inl (by simp)) 3 _ _ _) (fun b hb => by simp; omega)⟩)
      case measure => simp [intOf]
    · obtain ⟨s0, s1, s2, -⟩ := HR.out.src.cells
      have kc0 : wr.cell? ⟨w.heap.size + 1 + 1 + 1, 0, none⟩ = some (.int .u8 (p.op : Nat)) := (cell_of HR.out.kids 0).trans rfl
      have kc1 : wr.cell? ⟨w.heap.size + 1 + 1 + 1, 1, none⟩ = some (.string p.name) := (cell_of HR.out.kids 1).trans rfl
      have kc2 : wr.cell? ⟨w.heap.size + 1 + 1 + 1, 2, none⟩ = some (.slice a1 p.kids.length a2) := (cell_of HR.out.kids 2).trans rfl
      have kc3 : wr.cell? ⟨w.heap.size + 1 + 1 + 1, 3, none⟩ = some (.int .u8 (r.op : Nat)) := (cell_of HR.out.kids 3).trans rfl
      have kc4 : wr.cell? ⟨w.heap.size + 1 + 1 + 1, 4, none⟩ = some (.string r.name) := (cell_of HR.out.kids 4).trans rfl
      have kc5 : wr.cell? ⟨w.heap.size + 1 + 1 + 1, 5, none⟩ = some (.slice b1 r.kids.length b2) := (cell_of HR.out.kids 5).trans rfl
      have tO : wr.cell? ⟨w.heap.size + 1, op, none⟩ = some (.func (.func fc) #[] #[]) := (cell_of HR.out.tab op).trans HLB.out
      have lw := lt_of HR.out.kids
      have HS : Hid (∀ w', Kept [w.heap.size + 1 + 1] wr w' → w'.cell? ⟨w.heap.size, 0, none⟩ = some (.int .u8 (op : Nat)) ∧ w'.cell? ⟨w.heap.size + 1, op, none⟩ = some (.func (.func fc) #[] #[]) ∧ w'.cell? ⟨w.heap.size + 1 + 1 + 1, 0, none⟩ = some (.int .u8 (p.op : Nat)) ∧ w'.cell? ⟨w.heap.size + 1 + 1 + 1, 1, none⟩ = some (.string p.name) ∧ w'.cell? ⟨w.heap.size + 1 + 1 + 1, 2, none⟩ = some (.slice a1 p.kids.length a2) ∧ w'.cell? ⟨w.heap.size + 1 + 1 + 1, 3, none⟩ = some (.int .u8 (r.op : Nat)) ∧ w'.cell? ⟨w.heap.size + 1 + 1 + 1, 4, none⟩ = some (.string r.name) ∧ w'.cell? ⟨w.heap.size + 1 + 1 + 1, 5, none⟩ = some (.slice b1 r.kids.length b2)) := fun w' k => ⟨cell_keptF k (by simp; omega) s0, cell_keptF k (by simp) tO, cell_keptF k (by simp) kc0, cell_keptF k (by simp) kc1, cell_keptF k (by simp) kc2, cell_keptF k (by simp) kc3, cell_keptF k (by simp) kc4, cell_keptF k (by simp) kc5⟩
      have HRES : Hid (∀ W, Kept [] wr W → For3 W (w.heap.size + 1 + 1) (.int .u8 0) (.string ⟨#[]⟩) (.slice none 0 0)) := fun W k => HR.out.res.kept k
      have HCC : Hid (∀ W, Kept [] wr W → Calls Tryd.prog fc #[.agg #[.int .u8 (p.op : Nat), .string p.name, .slice a1 p.kids.length a2], .agg #[.int .u8 (r.op : Nat), .string r.name, .slice b1 r.kids.length b2]] W (GivesX (fun k => w.heap.size ≤ k ∧ k ≠ w.heap.size + 1 + 1) W q)) := fun W k => HCOL.out W a1 a2 b1 b2 (HR.out.kept.trans k (by simp) (by simp)) (by have := k.size; omega) (IsT.cells (fun b hb => ⟨by omega, by omega⟩) (fun _ _ _ _ c => cell_kept0 k c) HQ.out) (IsT.cells (fun b hb => ⟨by omega, by omega⟩) (fun _ _ _ _ c => cell_kept0 k c) HQ2.out)
      go_wp2_with fail
      go_region_held3 (fun w' => w'.cell? ⟨w.heap.size, 0, none⟩ = some (.int .u8 (op : Nat)) ∧ w'.cell? ⟨w.heap.size + 1, op, none⟩ = some (.func (.func fc) #[] #[]) ∧ w'.cell? ⟨w.heap.size + 1 + 1 + 1, 0, none⟩ = some (.int .u8 (p.op : Nat)) ∧ w'.cell? ⟨w.heap.size + 1 + 1 + 1, 1, none⟩ = some (.string p.name) ∧ w'.cell? ⟨w.heap.size + 1 + 1 + 1, 2, none⟩ = some (.slice a1 p.kids.length a2) ∧ w'.cell? ⟨w.heap.size + 1 + 1 + 1, 3, none⟩ = some (.int .u8 (r.op : Nat)) ∧ w'.cell? ⟨w.heap.size + 1 + 1 + 1, 4, none⟩ = some (.string r.name) ∧ w'.cell? ⟨w.heap.size + 1 + 1 + 1, 5, none⟩ = some (.slice b1 r.kids.length b2))
        ((refine HS.out _ ?_; (repeat (first | (with_reducible exact Kept.refl _ _) | (with_reducible refine Kept.drew ?_) | (with_reducible refine Kept.setCell ?_ (Or.inl (by simp)) _) | with_reducible refine Kept.trans (F := [w.heap.size + 1 + 1]) (G := []) (H := [w.heap.size + 1 + 1]) ?_ HK6.out (by simp) (by simp)))))
        ((go_at_fn fc; refine (HCC.out _ (Kept.refl [] wr).drew).mono ?_; rintro e W6 ⟨u1, u2, rfl, i1, k6⟩; have HKV6 : Hid (Kept [] wr W6) := (Kept.refl [] wr).drew.trans k6 (by simp) (by simp); have HK6 : Hid (Kept [] _ W6) := k6; have HI1 : Hid (IsT (fun k => w.heap.size ≤ k ∧ k ≠ w.heap.size + 1 + 1) W6 q (.slice u1 q.kids.length u2)) := i1; obtain ⟨r0, r1', r2', rf⟩ := (HRES.out W6 HKV6.out).cells; clear i1 k6))
      all_goals go_wp2
      all_goals exact gives_end rfl rfl rfl (HRES.out W6 HKV6.out) HI1.out (HR.out.kept.trans HKV6.out (by simp) (by simp)) (by omega)
theorem foldS_any (t : Tr) (hG : t.Good) : FoldSDoes t :=
  good_ind (p := FoldSDoes) (fun op s _ _ => foldS_leaf op s) (fun op x ho hx ih => foldS_one op ho x hx ih) (fun op x z ho hx hz ih jh => foldS_two op ho x z hx hz ih jh) t hG
set_option maxHeartbeats 2000000 in
set_option maxRecDepth 20000 in
theorem simple_any (t : Tr) (kv : Value) (w : World) (hI : IsF w t kv) (hs : t.size ≤ 1099511627776) (hd : t.depth ≤ 1099511627776) (hF : t.Fine) (hT : KidsTab w) (hU : TurnTab w) :
    Calls Tryd.prog 18 #[.agg #[.int .u8 (t.op : Nat), .string t.name, kv]] w (MadeAs w (if rightN pastB t ≠ 0 then 70 else 0) (simpT t)) := by
  obtain ⟨kad, kcap, rfl⟩ := hI.slice
  obtain ⟨V, hV⟩ : ∃ V, (w.alloc (.cells #[.int .u8 (t.op : Nat), .string t.name, .slice kad t.kids.length kcap] 25)).alloc (.cells #[.int .u8 0, .string ⟨#[]⟩, .slice none 0 0] 25) = V := ⟨_, rfl⟩
  have kV : Kept [] w V := by rw [← hV]; exact ((Kept.refl [] w).alloc _).alloc _
  have v0 : For3 V w.heap.size (.int .u8 (t.op : Nat)) (.string t.name) (.slice kad t.kids.length kcap) := by rw [← hV]; exact alUp (al0 _ _) _
  have v1 : For3 V (w.heap.size + 1) (.int .u8 0) (.string ⟨#[]⟩) (.slice none 0 0) := by rw [← hV]; exact al1 _ _ _
  have HRI : Hid (Calls Tryd.prog 19 #[.agg #[.int .u8 (t.op : Nat), .string t.name, .slice kad t.kids.length kcap]] V fun e w' => e = .returned (.int .i64 (rightN pastB t : Nat)) ∧ Kept [] V w') := right_any t _ V (hI.kept kV) hs hd hF (hT.kept kV)
  have HVV : Hid (_ = V) := hV
  have HV1 : Hid (For3 V (w.heap.size + 1) (.int .u8 0) (.string ⟨#[]⟩) (.slice none 0 0)) := v1
  have HV0 : Hid (For3 V w.heap.size (.int .u8 (t.op : Nat)) (.string t.name) (.slice kad t.kids.length kcap)) := v0
  have HKV : Hid (Kept [] w V) := kV
  rw [← hV] at HRI
  by_cases hr : rightN pastB t = 0
  · have hG := (good_of_right0 hr).1
    rw [hr] at HRI
    rw [if_neg (by simp [hr])]
    have HFO : Hid (∀ W, Kept [] V W → Calls Tryd.prog 46 #[.agg #[.int .u8 (t.op : Nat), .string t.name, .slice kad t.kids.length kcap], .func (.func 47) #[] #[], .agg simpTab] W (GivesX (fun k => W.heap.size ≤ k) W (simpT t))) := fun W k => foldS_any t hG _ W ((hI.kept kV).kept k) ((hU.kept kV).kept k) hs
    generalize simpT t = q at *
    clear hI hF hT hU kV v0 v1 hV hr
    have T0 : Hid True := trivial
    have T1 : Hid True := trivial
    go_enter Tryd.func18, Tryd.ntmps18
    go_upto_region 3 with (go_at_call 19; refine HRI.out.mono ?_; rintro e W1 ⟨rfl, k1⟩; rw [HVV.out] at k1; have HK1 : Hid (Kept [] V W1) := k1; clear k1)
    obtain ⟨c0, c1, c2, -⟩ := (HV0.out.kept HK1.out).cells
    have HL1 : Hid (w.heap.size + 1 < W1.heap.size) := Nat.lt_of_lt_of_le (lt_of HV1.out) HK1.out.size
    have HS : Hid (∀ w', Kept [w.heap.size + 1] W1 w' → w'.cell? ⟨w.heap.size, 0, none⟩ = some (.int .u8 (t.op : Nat)) ∧ w'.cell? ⟨w.heap.size, 1, none⟩ = some (.string t.name) ∧ w'.cell? ⟨w.heap.size, 2, none⟩ = some (.slice kad t.kids.length kcap)) := fun w' k => ⟨cell_keptF k (by simp) c0, cell_keptF k (by simp) c1, cell_keptF k (by simp) c2⟩
    go_region_held3 (fun w' => w'.cell? ⟨w.heap.size, 0, none⟩ = some (.int .u8 (t.op : Nat)) ∧ w'.cell? ⟨w.heap.size, 1, none⟩ = some (.string t.name) ∧ w'.cell? ⟨w.heap.size, 2, none⟩ = some (.slice kad t.kids.length kcap))
      ((refine HS.out _ ?_; (repeat (first | (with_reducible exact Kept.refl _ _) | (with_reducible refine Kept.drew ?_) | (with_reducible refine Kept.setCell ?_ (Or.inl (by simp)) _) | with_reducible refine Kept.trans (F := [w.heap.size + 1]) (G := []) (H := [w.heap.size + 1]) ?_ HA1.out (by simp) (by simp) | with_reducible refine Kept.trans (F := [w.heap.size + 1]) (G := []) (H := [w.heap.size + 1]) ?_ HA0.out (by simp) (by simp)))))
      (first
      | (clear T0; go_at_call 48; refine (simpler_any _).mono ?_; rintro e U0 ⟨rfl, k⟩; have HA0 : Hid (Kept [] _ U0) := k; have HB0 : Hid (Kept [] V U0) := HK1.out.drew.trans k (by simp) (by simp); clear k)
      | (clear T1; go_at_call 46; refine (HFO.out _ HB0.out).mono ?_; rintro e U1 ⟨ra, rc, rfl, hT1, k⟩; have HA1 : Hid (Kept [] _ U1) := k; have HB1 : Hid (Kept [] V U1) := HB0.out.trans k (by simp) (by simp); obtain ⟨d0, d1, d2, df⟩ := (HV1.out.kept HB1.out).cells; have HIT : Hid (IsT (fun b => w.heap.size + 1 < b) U1 q (.slice ra q.kids.length rc)) := hT1.mono (fun b hb => Nat.lt_of_lt_of_le (Nat.lt_of_lt_of_le (lt_of HV1.out) HB0.out.size) hb); clear k hT1))
    all_goals go_wp2
    all_goals
      have hn : ¬ (w.heap.size + 1 < w.heap.size + 1) := by omega
      exact ret_fe rfl rfl rfl rfl ((HV1.out.kept HB1.out).set _ _ _) (.inr ⟨rfl, ra, rc, rfl, (((HIT.out.other hn _ _).other hn _ _).other hn _ _).mono (fun b hb => by omega), kept_set3 (HKV.out.trans HB1.out (by simp) (by simp)) (by omega) _ _ _⟩)
  · rw [if_pos (by simpa using hr)]
    have hne : ((rightN pastB t : Int) != 0) = true := by rw [bne_iff_ne]; omega
    clear hI hF hT hU kV v0 v1 hV
    go_enter Tryd.func18, Tryd.ntmps18
    go_wp2_with (go_at_call 19; refine HRI.out.mono ?_; rintro e W1 ⟨rfl, k1⟩; rw [HVV.out] at k1; have HK1 : Hid (Kept [] V W1) := k1; obtain ⟨d0, d1, d2, df⟩ := (HV1.out.kept k1).cells; clear k1)
    exact ret_fe rfl rfl rfl rfl ((HV1.out.kept HK1.out).set _ _ _) (.inl ⟨by decide, rfl, kept_set3 (HKV.out.trans HK1.out (by simp) (by simp)) (by omega) _ _ _⟩)
end Go.Proofs.YtddgciilcghbaaaDoor

/- The law's example: F p, its forms; true & p made simpler (augurlaw07.known). -/
namespace Go.Proofs.YtddgciilcghbaaaDoor
open Go.RowKit Go.Shelf

theorem is_form {q : Tr} (hG : q.Good) (hq : q.All nnfQ) (hs : q.size ≤ 1000) (hd : q.depth ≤ 100) : madeE q (nd q).1 = 0 ∧ isB q = true := by
  have h1 := nd_again q hG hq
  have h2 := right_of_good0 hG hs hd
  have h3 : madeE q (nd q).1 = 0 := by
    unfold madeE
    rw [if_neg (by simp [h2]), h1, if_pos]
    unfold fitB; simp [hs, hd]
  refine ⟨h3, ?_⟩
  unfold isB
  rw [h3, h1, preT.self]; rfl
def bP : ByteArray := ⟨#[112]⟩
def kP : Tr := ⟨3, bP, []⟩
def kF : Tr := nn1 10 kP
def kN : Tr := nn2 12 (nn0 1) kP
def kD : Tr := nn2 13 (nn0 2) (nn1 4 kP)
def kA : Tr := nn2 5 (nn0 1) kP
theorem kP_good : kP.Good := all0.2 ⟨by
  unfold formedB
  simp only [Bool.and_eq_true, decide_eq_true_eq, beq_iff_eq]
  exact ⟨⟨⟨by decide, by decide⟩, rfl⟩, by rw [if_pos trivial]; decide⟩, by show 3 ≤ 15; decide⟩
theorem kF_good : kF.Good := (good1 (by unfold Un; omega)).2 kP_good
theorem kA_good : kA.Good := (good2 (by unfold Bi; omega)).2 ⟨good0 (.inl rfl), kP_good⟩
theorem nd_kP : nd kP = (kP, nn1 4 kP) := nd_0 3 bP
theorem nd_kF : nd kF = (kN, kD) := by unfold kF; rw [nd_1, nd_kP]; rfl
theorem simp_kA : simpT kA = kP := by
  unfold kA; rw [simpT_2, show simpT (nn0 1) = nn0 1 from simpT_0 1 nE, show simpT kP = kP from simpT_0 3 bP]
  show sJun 5 2 (nn0 1) kP = kP
  unfold sJun
  rw [if_neg (by decide), if_pos (by decide)]
theorem sz_kP : kP.size = 1 ∧ kP.depth = 1 := sz0 3 bP
theorem sz_c (o : Nat) : (nn0 o).size = 1 ∧ (nn0 o).depth = 1 := sz0 o nE
theorem sz_kF : kF.size = 2 ∧ kF.depth = 2 := by have := sz1 10 kP; have := sz_kP; unfold kF; omega
theorem sz_kA : kA.size = 3 ∧ kA.depth = 2 := by have := sz2 5 (nn0 1) kP; have := sz_kP; have := sz_c 1; unfold kA; omega
theorem sz_kN : kN.size = 3 ∧ kN.depth = 2 := by have := sz2 12 (nn0 1) kP; have := sz_kP; have := sz_c 1; unfold kN; omega
theorem sz_kD : kD.size = 4 ∧ kD.depth = 3 := by have := sz2 13 (nn0 2) (nn1 4 kP); have := sz1 4 kP; have := sz_kP; have := sz_c 2; unfold kD; omega
theorem kN_all : kN.Good ∧ kN.All nnfQ ∧ kD.Good ∧ kD.All nnfQ := by
  have h1 := nd_good kF kF_good
  have h2 := nd_nnf kF kF_good
  rw [nd_kF] at h1 h2
  exact ⟨h1.1, h2.1, h1.2, h2.2⟩
theorem right_kF : rightN pastB kF = 0 := right_of_good0 kF_good (by have := sz_kF; omega) (by have := sz_kF; omega)
theorem right_kA : rightN pastB kA = 0 := right_of_good0 kA_good (by have := sz_kA; omega) (by have := sz_kA; omega)
theorem made_kN : madeE kF kN = 0 := by
  unfold madeE; rw [if_neg (by simp [right_kF]), if_pos]
  have := sz_kN; unfold fitB; simp; omega
theorem made_kD : madeE kF kD = 0 := by
  unfold madeE; rw [if_neg (by simp [right_kF]), if_pos]
  have := sz_kD; unfold fitB; simp; omega
theorem is_kN : isB kN = true := (is_form kN_all.1 kN_all.2.1 (by have := sz_kN; omega) (by have := sz_kN; omega)).2
theorem is_kD : isB kD = true := (is_form kN_all.2.2.1 kN_all.2.2.2 (by have := sz_kD; omega) (by have := sz_kD; omega)).2
theorem is_kF : isB kF = false := by
  unfold isB
  rw [nd_kF]
  have : (cmpT kN kF == 0) = false := by
    rw [beq_eq_false_iff_ne]
    intro h
    have := congrArg Tr.op (cmpT_zero kN kF h)
    exact absurd (show (12 : Nat) = 10 from this) (by decide)
  show (_ && cmpT kN kF == 0) = false
  rw [this, Bool.and_false]
theorem good_fine {t : Tr} (h : t.Good) : t.Fine := by
  induction t using Tr.ind with
  | h t ih =>
    obtain ⟨⟨hf, ho⟩, hk⟩ := (Tr.all_eq t).1 h
    refine (Tr.all_eq t).2 ⟨⟨by omega, ?_⟩, fun k hk' => ih k hk' (hk k hk')⟩
    simp only [formedB, Bool.and_eq_true] at hf
    have h2 := hf.2
    split at h2
    · simp only [nameB, Bool.and_eq_true, decide_eq_true_eq] at h2
      have e : t.name.size = t.name.data.toList.length := rfl
      unfold maxLen
      omega
    · rw [nEmpty h2]; unfold maxLen; decide
set_option maxHeartbeats 400000 in
theorem prop_any (s : ByteArray) (w : World) : Calls Tryd.prog 45 #[.string s] w fun e w' => e = .returned (.agg #[.int .u8 3, .string s, .slice none 0 0]) ∧ Kept [] w w' := by
  go_enter Tryd.func45, Tryd.ntmps45
  go_wp2
  exact ret_for rfl rfl rfl (show For3 _ w.heap.size _ _ _ from al0 w _) ⟨rfl, (Kept.refl [] w).alloc _⟩
theorem kP_isF (W : World) : IsF W kP (.slice none 0 0) := IsT.leaf _ W rfl none 0
theorem ok_kN {W w' : World} {e : Ending} (h : MadeAs W 0 kN e w') : ∃ ka kc, e = .returned (.tuple #[.agg #[.int .u8 12, .string nE, .slice ka 2 kc], .int .i64 0]) ∧ IsF w' kN (.slice ka 2 kc) ∧ Kept [] W w' := h.ok
theorem ok_kD {W w' : World} {e : Ending} (h : MadeAs W 0 kD e w') : ∃ ka kc, e = .returned (.tuple #[.agg #[.int .u8 13, .string nE, .slice ka 2 kc], .int .i64 0]) ∧ IsF w' kD (.slice ka 2 kc) ∧ Kept [] W w' := h.ok
theorem ok_kP {W w' : World} {e : Ending} (h : MadeAs W 0 kP e w') : ∃ ka kc, e = .returned (.tuple #[.agg #[.int .u8 3, .string bP, .slice ka 0 kc], .int .i64 0]) ∧ IsF w' kP (.slice ka 0 kc) ∧ Kept [] W w' := h.ok
set_option maxHeartbeats 2000000 in
set_option maxRecDepth 20000 in
theorem known_any (w : World) (hT : KidsTab w) (hU : TurnTab w) : Calls Tryd.prog 17 #[] w fun e w' => e = .returned (.bool true) ∧ Kept [] w w' := by
  have HN : Hid (∀ (W : World) ad c, Kept [] w W → IsF W kF (.slice ad 1 c) → Calls Tryd.prog 25 #[.agg #[.int .u8 10, .string ⟨#[]⟩, .slice ad 1 c]] W (MadeAs W 0 kN)) := fun W ad c k hI => by
    have := normal_any kF _ W hI (by have := sz_kF; omega) (by have := sz_kF; omega) (good_fine kF_good) (hT.kept k)
    rw [nd_kF, made_kN] at this
    exact this
  have HD : Hid (∀ (W : World) ad c, Kept [] w W → IsF W kF (.slice ad 1 c) → Calls Tryd.prog 26 #[.agg #[.int .u8 10, .string ⟨#[]⟩, .slice ad 1 c]] W (MadeAs W 0 kD)) := fun W ad c k hI => by
    have := dual_any kF _ W hI (by have := sz_kF; omega) (by have := sz_kF; omega) (good_fine kF_good) (hT.kept k)
    rw [nd_kF, made_kD] at this
    exact this
  have HSI : Hid (∀ (W : World) ad c, Kept [] w W → IsF W kA (.slice ad 2 c) → Calls Tryd.prog 18 #[.agg #[.int .u8 5, .string ⟨#[]⟩, .slice ad 2 c]] W (MadeAs W 0 kP)) := fun W ad c k hI => by
    have := simple_any kA _ W hI (by have := sz_kA; omega) (by have := sz_kA; omega) (good_fine kA_good) (hT.kept k) (hU.kept k)
    rw [simp_kA, if_neg (by simp [right_kA])] at this
    exact this
  have HIN : Hid (∀ (W : World) ad c, Kept [] w W → IsF W kN (.slice ad 2 c) → Calls Tryd.prog 27 #[.agg #[.int .u8 12, .string nE, .slice ad 2 c]] W fun e w' => e = .returned (.bool true) ∧ Kept [] W w') := fun W ad c k hI => by
    have := is_any kN _ W hI (by have := sz_kN; omega) (by have := sz_kN; omega) (good_fine kN_all.1) (hT.kept k)
    rw [is_kN] at this
    exact this
  have HID : Hid (∀ (W : World) ad c, Kept [] w W → IsF W kD (.slice ad 2 c) → Calls Tryd.prog 27 #[.agg #[.int .u8 13, .string nE, .slice ad 2 c]] W fun e w' => e = .returned (.bool true) ∧ Kept [] W w') := fun W ad c k hI => by
    have := is_any kD _ W hI (by have := sz_kD; omega) (by have := sz_kD; omega) (good_fine kN_all.2.2.1) (hT.kept k)
    rw [is_kD] at this
    exact this
  have HIF : Hid (∀ (W : World) ad c, Kept [] w W → IsF W kF (.slice ad 1 c) → Calls Tryd.prog 27 #[.agg #[.int .u8 10, .string ⟨#[]⟩, .slice ad 1 c]] W fun e w' => e = .returned (.bool false) ∧ Kept [] W w') := fun W ad c k hI => by
    have := is_any kF _ W hI (by have := sz_kF; omega) (by have := sz_kF; omega) (good_fine kF_good) (hT.kept k)
    rw [is_kF] at this
    exact this
  have HP : Hid (∀ W, Calls Tryd.prog 45 #[.string ⟨#[112]⟩] W fun e w' => e = .returned (.agg #[.int .u8 3, .string bP, .slice none 0 0]) ∧ Kept [] W w') := prop_any bP
  clear hT hU
  go_enter Tryd.func17, Tryd.ntmps17
  go_upto_region 2 with (go_at_call 45; refine (HP.out _).mono ?_; rintro e W1 ⟨rfl, k1⟩; have HK1 : Hid (Kept [] w W1) := k1; clear k1)
  obtain ⟨V2, hV2⟩ : ∃ V, (W1.alloc (.cells #[.int .u8 3, .string bP, .slice none 0 0] 25)).alloc (.cells #[.int .u8 10, .string ⟨#[]⟩, .slice (some ⟨W1.heap.size, 0, none⟩) 1 1] 25) = V := ⟨_, rfl⟩
  have k2 : Kept [] w V2 := by rw [← hV2]; exact (HK1.out.alloc _).alloc _
  have f2 : For3 V2 (W1.heap.size + 1) (.int .u8 10) (.string ⟨#[]⟩) (.slice (some ⟨W1.heap.size, 0, none⟩) 1 1) := by rw [← hV2]; exact al1 W1 _ _
  have i2 : IsF V2 kF (.slice (some ⟨W1.heap.size, 0, none⟩) 1 1) := isF_one (a := kP) (by rw [← hV2]; exact alUp (al0 W1 _) _) (kP_isF V2)
  rw [hV2]
  obtain ⟨c0, c1, c2, -⟩ := f2.cells
  have HK2 : Hid (Kept [] w V2) := k2
  have HF2 : Hid (For3 V2 (W1.heap.size + 1) (.int .u8 10) (.string ⟨#[]⟩) (.slice (some ⟨W1.heap.size, 0, none⟩) 1 1)) := f2
  have HI2 : Hid (IsF V2 kF (.slice (some ⟨W1.heap.size, 0, none⟩) 1 1)) := i2
  clear hV2 k2 f2 i2
  go_upto_region 3 with (go_at_call 25; refine (HN.out _ _ _ HK2.out HI2.out).mono ?_; rintro e W3 hm; obtain ⟨na, nc, rfl, h1, h2⟩ := ok_kN hm; have HK3 : Hid (Kept [] V2 W3) := h2; have HI3 : Hid (IsF W3 kN (.slice na 2 nc)) := h1; clear h1 h2)
  obtain ⟨V3, hV3⟩ : ∃ V, W3.alloc (.cells #[.int .u8 12, .string nE, .slice na 2 nc] 25) = V := ⟨_, rfl⟩
  have k3 : Kept [] W3 V3 := by rw [← hV3]; exact (Kept.refl [] W3).alloc _
  have n3 : For3 V3 W3.heap.size (.int .u8 12) (.string nE) (.slice na 2 nc) := by rw [← hV3]; exact al0 W3 _
  rw [hV3]
  have HKA : Hid (Kept [] V2 V3) := HK3.out.trans k3 (by simp) (by simp)
  have HNI : Hid (IsF V3 kN (.slice na 2 nc)) := HI3.out.kept k3
  have HNB : Hid (For3 V3 W3.heap.size (.int .u8 12) (.string nE) (.slice na 2 nc)) := n3
  obtain ⟨e0, e1, e2, -⟩ := (HF2.out.kept HKA.out).cells
  clear hV3 k3 n3 c0 c1 c2
  go_upto_region 4 with (go_at_call 26; refine (HD.out _ _ _ (HK2.out.trans HKA.out (by simp) (by simp)) (HI2.out.kept HKA.out)).mono ?_; rintro e W4 hm; obtain ⟨da, dc, rfl, h1, h2⟩ := ok_kD hm; have HK4 : Hid (Kept [] V3 W4) := h2; have HI4 : Hid (IsF W4 kD (.slice da 2 dc)) := h1; clear h1 h2)
  obtain ⟨V4, hV4⟩ : ∃ V, W4.alloc (.cells #[.int .u8 13, .string nE, .slice da 2 dc] 25) = V := ⟨_, rfl⟩
  have k4 : Kept [] W4 V4 := by rw [← hV4]; exact (Kept.refl [] W4).alloc _
  have d4 : For3 V4 W4.heap.size (.int .u8 13) (.string nE) (.slice da 2 dc) := by rw [← hV4]; exact al0 W4 _
  rw [hV4]
  have HKB : Hid (Kept [] V3 V4) := HK4.out.trans k4 (by simp) (by simp)
  have HDI : Hid (IsF V4 kD (.slice da 2 dc)) := HI4.out.kept k4
  have HDB : Hid (For3 V4 W4.heap.size (.int .u8 13) (.string nE) (.slice da 2 dc)) := d4
  have HKC : Hid (Kept [] w V4) := (HK2.out.trans HKA.out (H := []) (by simp) (by simp)).trans HKB.out (by simp) (by simp)
  clear hV4 k4 d4 e0 e1 e2
  go_upto_region 5 with (first
    | (go_at_call 45; refine (HP.out _).mono ?_; rintro e W5 ⟨rfl, k5⟩; have HK5 : Hid (Kept [] V4 W5) := k5; clear k5)
    | (go_at_call 18; refine (HSI.out _ _ _ ((HKC.out.trans HK5.out (by simp) (by simp)).alloc _) (isF_two (a := nn0 1) (b := kP) (al0 W5 _) (IsT.leaf _ _ rfl none 0) (kP_isF _))).mono ?_; rintro e W6 hm; obtain ⟨sa, sc, rfl, h1, h2⟩ := ok_kP hm; have HK6 : Hid (Kept [] V4 W6) := (HK5.out.alloc _).trans h2 (by simp) (by simp); clear h1 h2))
  obtain ⟨V6, hV6⟩ : ∃ V, W6.alloc (.cells #[.int .u8 3, .string bP, .slice sa 0 sc] 25) = V := ⟨_, rfl⟩
  have k6 : Kept [] W6 V6 := by rw [← hV6]; exact (Kept.refl [] W6).alloc _
  have s6 : For3 V6 W6.heap.size (.int .u8 3) (.string bP) (.slice sa 0 sc) := by rw [← hV6]; exact al0 W6 _
  rw [hV6]
  have HKD : Hid (Kept [] V4 V6) := HK6.out.trans k6 (by simp) (by simp)
  have HKW : Hid (Kept [] w V6) := HKC.out.trans HKD.out (by simp) (by simp)
  have HKE : Hid (Kept [] V3 V6) := HKB.out.trans HKD.out (by simp) (by simp)
  have HKF : Hid (Kept [] V2 V6) := HKA.out.trans HKE.out (by simp) (by simp)
  obtain ⟨g0, g1, g2, -⟩ := s6.cells
  obtain ⟨n0, n1, n2, -⟩ := (HNB.out.kept HKE.out).cells
  obtain ⟨d0, d1, d2, -⟩ := (HDB.out.kept HKD.out).cells
  have HNI6 : Hid (IsF V6 kN (.slice na 2 nc)) := HNI.out.kept HKE.out
  have HDI6 : Hid (IsF V6 kD (.slice da 2 dc)) := HDI.out.kept HKD.out
  have HFI6 : Hid (IsF V6 kF (.slice (some ⟨W1.heap.size, 0, none⟩) 1 1)) := HI2.out.kept HKF.out
  have HDB6 : Hid (For3 V6 W4.heap.size (.int .u8 13) (.string nE) (.slice da 2 dc)) := HDB.out.kept HKD.out
  have HFB6 : Hid (For3 V6 (W1.heap.size + 1) (.int .u8 10) (.string ⟨#[]⟩) (.slice (some ⟨W1.heap.size, 0, none⟩) 1 1)) := HF2.out.kept HKF.out
  obtain ⟨db, doff, hda, _, hdk⟩ := IsT.kid HDI6.out (show 0 < 2 by decide)
  obtain ⟨dkv, m0, -⟩ := hdk 1 (show 1 < 2 by decide)
  replace m0 : V6.cell? ⟨db, doff + 1 * 3, none⟩ = some (.int .u8 4) := m0
  rw [Nat.one_mul] at m0
  subst hda
  have T0 : Hid True := trivial
  have T1 : Hid True := trivial
  have T2 : Hid True := trivial
  have HM0 : Hid _ := m0
  clear hV6 k6 s6 hdk m0
  go_wp2_with (first
    | (clear T0; go_at_call 27; refine (HIN.out _ _ _ HKW.out HNI6.out).mono ?_; rintro e U1 ⟨rfl, kk⟩; have HU1 : Hid (Kept [] V6 U1) := kk; obtain ⟨x0, x1, x2, -⟩ := (HDB6.out.kept kk).cells; clear kk)
    | (clear T1; go_at_call 27; refine (HID.out _ _ _ (HKW.out.trans HU1.out (by simp) (by simp)) (HDI6.out.kept HU1.out)).mono ?_; rintro e U2 ⟨rfl, kk⟩; have HU2 : Hid (Kept [] V6 U2) := HU1.out.trans kk (by simp) (by simp); obtain ⟨y0, y1, y2, -⟩ := (HFB6.out.kept HU2.out).cells; clear kk)
    | (clear T2; go_at_call 27; refine (HIF.out _ _ _ (HKW.out.trans HU2.out (by simp) (by simp)) (HFI6.out.kept HU2.out)).mono ?_; rintro e U3 ⟨rfl, kk⟩; have HU3 : Hid (Kept [] V6 U3) := HU2.out.trans kk (by simp) (by simp); obtain ⟨z0, z1, z2, -⟩ := (HDB6.out.kept HU3.out).cells; have q0 := cell_kept0 HU3.out HM0.out; clear kk))
  go_ret
  exact ⟨rfl, HKW.out.trans HU3.out (by simp) (by simp)⟩
end Go.Proofs.YtddgciilcghbaaaDoor
