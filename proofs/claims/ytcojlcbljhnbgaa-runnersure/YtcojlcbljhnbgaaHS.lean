/- For RunnerSure: the letters so far in memory, and what moore.Run says of them. -/
import Derived.Test.YtcojlcbljhnbgaaHE
import Derived.Test.YtcojlcbljhnbgaaRuCalls
import Derived.Test.YtcojlcbljhnbgaaMoOf
import Derived.Test.YtcojlcbljhnbgaaRuKnown
namespace Go.Proofs.Ytcojlcbljhnbgaa
open Go.RowKit Go.Shelf Go.Maps

theorem opWpR {P : Program} {ops : Array Oper} {J : Act → World → Prop} {i : Nat} {o : Oper} {K : Act → World → Prop} {a : Act} {w : World} (hi : ops[i]? = some o) (hg : o.guard = none) (h : o.wp P a w K (Q1Hp J)) : wpOp P ops (Q1Hp J) i K a w := by
  unfold wpOp
  simp only [hi]
  rw [if_pos (wantedDHp hg)]
  exact .inl h
theorem opAppR (d : Option Tmp) (v' : Value) (w' : World) {P : Program} {ops : Array Oper} {J : Act → World → Prop} {i : Nat} {o : Oper} {K : Act → World → Prop} {a : Act} {w : World} {s x : Operand} {t tn : TypeId} {vs vx : Value} (hi : ops[i]? = some o) (hg : o.guard = none) (hdd : o.dst = d) (ho : o.op = .call { callee := .builtin .append, args := #[s, x], argTypes := #[t, tn] }) (hs : a.eval s = vs) (hx : a.eval x = vx)
    (hr : ∀ ty, (Builtin.append_ #[t, tn] ty #[vs, vx]).run P w = .ok v' w') (h : K (a.put d v') w') : wpOp P ops (Q1Hp J) i K a w :=
  opWpR hi hg (Lib.wp_append_run w s x t tn ho vs vx hs hx v' w' (hr _) (by rw [hdd]; exact h))
/-- The letters that moore.Run is handed: of the first k the bits of the names alone. -/
def redN (ps : List ByteArray) (us : List Nat) (k : Nat) : List Nat := (us.take k).map (· % 2 ^ ps.length)
theorem redN_len {ps : List ByteArray} {us : List Nat} {k : Nat} (hk : k ≤ us.length) : (redN ps us k).length = k := by simp [redN]; omega
theorem redN_succ {ps : List ByteArray} {us : List Nat} {k x : Nat} (h : us[k]? = some x) : redN ps us (k + 1) = redN ps us k ++ [x % 2 ^ ps.length] := by
  unfold redN
  rw [List.take_add_one, h]
  simp
theorem redN_small {ps : List ByteArray} (h8 : ps.length ≤ 8) (us : List Nat) (k : Nat) : ∀ x ∈ redN ps us k, x < 65536 := by
  intro x hx
  obtain ⟨y, _, rfl⟩ := List.mem_map.1 hx
  have h1 : 2 ^ ps.length ≤ 256 := Nat.pow_le_pow_right (n := 2) (i := ps.length) (j := 8) (by omega) h8
  have h2 : y % 2 ^ ps.length < 2 ^ ps.length := Nat.mod_lt _ (Nat.two_pow_pos _)
  omega
/-- The state behind the first k letters. -/
def sU (ps : List ByteArray) (next : List (List Int)) (us : List Nat) (k : Nat) : Nat := runD next (redN ps us k)
theorem sU_succ {ps : List ByteArray} {next : List (List Int)} {us : List Nat} {k x : Nat} (h : us[k]? = some x) : sU ps next us (k + 1) = stepN ps next (sU ps next us k) x := by
  unfold sU runD stepN
  rw [redN_succ h, List.foldl_append]
  rfl
theorem mrun_is {ps : List ByteArray} {next : List (List Int)} {out : List Nat} {us : List Nat} {k : Nat} (h : rightM ps next out = true) : mrunS ps next out (redN ps us k) = sU ps next us k ∧ mrunE ps next out (redN ps us k) = 0 := by
  have hd : rightD ps next out.length = true := by
    unfold rightM at h
    rw [Bool.and_eq_true] at h
    exact h.1
  have hb : (redN ps us k).any (badLet ps.length) = false := by
    rw [List.any_eq_false]
    intro x hx
    obtain ⟨y, _, rfl⟩ := List.mem_map.1 hx
    unfold badLet
    have h2 : y % 2 ^ ps.length < 2 ^ ps.length := Nat.mod_lt _ (Nat.two_pow_pos _)
    simpa using h2
  have he : runE ps next out.length (redN ps us k) = 0 := by unfold runE; rw [if_pos hd, hb]; rfl
  refine ⟨?_, ?_⟩
  · unfold mrunS runS sU
    rw [if_pos h, if_pos he]
  · unfold mrunE
    rw [if_pos h, he]
theorem u16_off {W : World} {base g R n : Nat} {v : Value} {xs : List Value} {T : TypeId} {arr : Array Value} (h : W.ownsRow base 40 1 v n xs) (hR : W.heap[R]? = some (.cells arr T (0, 0))) (hT : T ≠ 40) (hg : v.ownBlock = some g) : g ≠ R := by
  rcases h.2 with ⟨rfl, _⟩ | ⟨g', cap, cur, rfl, _, hw, _⟩
  · cases hg
  · cases hg
    intro e
    subst e
    rw [hR] at hw
    injection hw with hw
    injection hw with _ hw _
    exact hT hw
/-- One letter more. -/
theorem appendU_step {W : World} {base A x : Nat} {v : Value} {xs : List Nat} (hown : W.ownsRow base 40 1 v xs.length (u16s xs)) (hA : W.cell? ⟨A, 0, none⟩ = some (.int .u16 (x : Nat))) (hb : base ≤ W.heap.size) (hl : xs.length + 1 ≤ 1000000) :
    ∃ v' w', (∀ ty, (Builtin.append_ #[46, 46] ty #[v, .slice (some ⟨A, 0, none⟩) 1 1]).run Try.prog W = .ok v' w') ∧ w'.ownsRow base 40 1 v' (xs ++ [x]).length (u16s (xs ++ [x])) ∧ W.grownBy w' v.ownBlock := by
  have hinf : (Try.prog.info? 40).map (fun i => (i.zero, i.size, i.bytes)) = some (some (.int .u16 0), 1, 2) := by kernel_rfl
  obtain ⟨i0, hi, hz0, hz1, hz2⟩ := info_parts hinf
  obtain ⟨gr, cap, w2, g1, g2, g3, _, _⟩ := run_append_lies (P := Try.prog) W 46 0 base 40 i0 (.int .u16 0) 1 2 Try.underlying46 hi hz0 hz1 hz2 rfl (by decide) v xs.length (u16s xs) hown ⟨A, 0, none⟩ 1 1 [.int .u16 (x : Nat)] rfl (fun j u hj => by
    cases j with
    | zero => cases hj; exact hA
    | succ j => simp at hj) (by intro u hu; simp at hu; subst hu; rfl) (by decide) (by unfold maxLen; omega) (by omega) hb _ rfl
  exact ⟨_, w2, fun ty => g1, by rw [List.length_append, u16s_app]; exact g2, g3⟩
end Go.Proofs.Ytcojlcbljhnbgaa

/- The walk of RunnerSure. (The draw of one region is written by a program, one move a line.) -/
namespace Go.Proofs.Ytcojlcbljhnbgaa
open Go.RowKit Go.Shelf Go.Maps

theorem Kept.of_belowS {w w' : World} (h : Below w.heap.size w w') : Kept [] w w' := ⟨h.os, h.tape, h.output, h.size, fun k hk _ => h.block k hk⟩
set_option maxHeartbeats 8000000 in
set_option maxRecDepth 20000 in
theorem runnerSure_some (pv nv ov uv : Value) (ps : List ByteArray) (next : List (List Int)) (out : List Nat) (us : List Nat) (w : World) (hp : Strs w pv ps) (hn : Rowss w nv next) (ho : Vds w ov out) (hu : Lets w uv us) (hs : ∀ x ∈ ps, x.size ≤ 140737488351232) :
    Calls Try.prog 5 #[.agg #[pv, nv, ov], uv] w fun e w' => e = .returned (.bool true) ∧ Hid (Kept [] w w') := by
  obtain ⟨pa, pc, rfl, _, _⟩ := hp.form
  obtain ⟨na, nc, rfl, _, _⟩ := hn.form13
  obtain ⟨oa, oc, rfl⟩ := ho.form
  obtain ⟨pn, hpn⟩ : ∃ pn, ps.length = pn := ⟨_, rfl⟩
  rw [hpn] at hp ⊢
  obtain ⟨V, hV⟩ : ∃ V, w.alloc (.cells #[.slice pa pn pc, .slice na next.length nc, .slice oa out.length oc] 27) = V := ⟨_, rfl⟩
  have kV : Kept [] w V := by rw [← hV]; exact (Kept.refl [] w).alloc _
  obtain ⟨M, hM⟩ : ∃ M, w.heap.size = M := ⟨_, rfl⟩
  have hB : Thr 27 V M (.slice pa pn pc) (.slice na next.length nc) (.slice oa out.length oc) := by rw [← hV, ← hM]; exact al0 _ _
  have HV : Hid (_ = V) := hV
  have HKV : Hid (Kept [] w V) := kV
  have HC : Hid (∀ W, Kept [] V W → W.cell? ⟨M, 0, none⟩ = some (.slice pa pn pc) ∧ W.cell? ⟨M, 1, none⟩ = some (.slice na next.length nc) ∧ W.cell? ⟨M, 2, none⟩ = some (.slice oa out.length oc)) := fun W k => (hB.keptF k (by simp)).cells
  have HOM : Hid (Calls Try.prog 7 #[.agg #[.slice pa pn pc, .slice na next.length nc, .slice oa out.length oc]] V fun e w' => e = .returned (.int .i64 (moN ps next out : Nat)) ∧ Hid (Kept [] V w')) := ofMoore_any _ _ _ ps next out V (hp.kept kV) (hn.kept kV) (ho.kept kV) hs
  have HNW : Hid (∀ W, Kept [] V W → out.length ≤ 1000000 → ∀ b, rightM ps next out = b → Calls Try.prog 10 #[.agg #[.slice pa pn pc, .slice na next.length nc, .slice oa out.length oc]] W (NewEnd ps next out b W)) := fun W k hf b hb => new_any _ _ _ ps next out W (hp.kept (keptB kV k)) (hn.kept (keptB kV k)) (ho.kept (keptB kV k)) hf b hb
  have HCM : Hid (∀ W, Kept [] V W → out.length ≤ 1000000 → ∀ b, rightM ps next out = b → Calls Try.prog 17 #[.agg #[.slice pa pn pc, .slice na next.length nc, .slice oa out.length oc]] W fun e w' => e = .returned (.int .i64 ((if b then 0 else 140 : Nat) : Int)) ∧ Kept [] W w') := fun W k hf b hb => by rw [← hb]; exact mCheck_any _ _ _ ps next out W (hp.kept (keptB kV k)) (hn.kept (keptB kV k)) (ho.kept (keptB kV k)) hf
  have HMR : Hid (∀ W rv rs, Kept [] w W → out.length ≤ 1000000 → Lets W rv rs → Calls Try.prog 19 #[.agg #[.slice pa pn pc, .slice na next.length nc, .slice oa out.length oc], rv] W fun e w' => e = .returned (.tuple #[.int .i64 (mrunS ps next out rs : Nat), .int .i64 (mrunE ps next out rs : Nat)]) ∧ Kept [] W w') := fun W rv rs k hf hl => mRun_any _ _ _ rv ps next out rs W (hp.kept k) (hn.kept k) (ho.kept k) hl hf
  have HEN : Hid (∀ W s fb, Kept [] w W → RightR next → out.length = next.length → s < next.length → (fb = true ↔ ¬ NotFin next out s) → Calls Try.prog 20 #[.agg #[.slice pa pn pc, .slice na next.length nc, .slice oa out.length oc], .int .i64 (s : Nat)] W fun e w' => e = .returned (.bool fb) ∧ Hid (Kept [] W w')) := fun W s fb k h1 h2 h3 h4 => ends_any _ _ _ next out s W (hn.kept k) (ho.kept k) h1 h2 h3 fb h4
  have HOU : Hid (∀ W, Kept [] w W → Vds W (.slice oa out.length oc) out) := fun W k => ho.kept k
  have HKN : Hid (∀ W, Calls Try.prog 6 #[] W fun e w' => e = .returned (.bool true) ∧ Below W.heap.size W w') := known_walk
  have HUV : Hid (∀ W, Kept [] w W → Lets W uv us) := fun W k => hu.kept k
  have huf := hu.few
  obtain ⟨c0, c1, c2⟩ := HC.out V (Kept.refl [] V)
  obtain ⟨ua, uc, rfl⟩ := hu.form13
  obtain ⟨mn, hmn⟩ : ∃ mn, moN ps next out = mn := ⟨_, rfl⟩
  have HMF : Hid (mn ≤ 100000 → out.length ≤ 1000000) := fun h => by have := (moN_few (by rw [hmn]; exact h : moN ps next out ≤ 100000)).2.2; omega
  rw [hmn] at HOM
  have HPN : Hid (ps.length = pn) := hpn
  clear hp hn ho hu hs hV kV hB hmn hpn
  have z0 : (0 : Int) ≤ (us.length : Int) := by omega
  by_cases hbig : mn ≤ 100000 ∧ next.length ≤ 200 ∧ us.length ≤ 200
  · obtain ⟨g1, g2, g3⟩ := hbig
    have g4 : ¬ ((100000 : Int) < (mn : Int)) := by omega
    have g5 : ¬ ((200 : Int) < (next.length : Int)) := by omega
    have g6 : ¬ ((200 : Int) < (us.length : Int)) := by omega
    have hof := HMF.out g1
    obtain ⟨b, hb⟩ : ∃ b, rightM ps next out = b := ⟨_, rfl⟩
    go_enter Try.func5, Try.ntmps5
    go_upto_region 1 with fail
    rw [HV.out]
    clear HV
    go_upto_region 4 with (first
      | (go_at_call 7; refine HOM.out.mono ?_; rintro e W1 ⟨rfl, HK1⟩; clear c0 c1 c2; obtain ⟨c0, c1, c2⟩ := HC.out W1 HK1.out)
      | (go_at_call 6; refine (HKN.out _).mono ?_; rintro e W2 ⟨rfl, hbk⟩; have HK2 : Hid (Kept [] V W2) := keptB HK1.out (Kept.of_belowS hbk); clear hbk))
    clear g4 g5 g6
    obtain ⟨d0, d1, d2⟩ := HC.out W2 HK2.out
    have HNk : Hid (Calls Try.prog 10 #[.agg #[.slice pa pn pc, .slice na next.length nc, .slice oa out.length oc]] W2 (NewEnd ps next out b W2)) := HNW.out W2 HK2.out hof b hb
    cases b with
    | false =>
      have HCk : Hid (∀ W, Kept [] V W → Calls Try.prog 17 #[.agg #[.slice pa pn pc, .slice na next.length nc, .slice oa out.length oc]] W fun e w' => e = .returned (.int .i64 140) ∧ Kept [] W w') := fun W k => HCM.out W k hof false hb
      go_wp2_with (first
        | (go_at_call 10; refine Calls.mono HNk.out ?_; rintro e W3 ⟨HK3, _, hfa⟩; have e9 := hfa rfl; subst e9; clear hfa d0 d1 d2; have HK3' : Hid (Kept [] V W3) := keptB HK2.out HK3.out; obtain ⟨d0, d1, d2⟩ := HC.out W3 HK3'.out)
        | (go_at_call 17; refine (HCk.out W3 HK3'.out).mono ?_; rintro e W4 ⟨rfl, k4⟩; have HK4 : Hid (Kept [] W3 W4) := k4; clear k4))
      go_ret
      exact ⟨rfl, keptB HKV.out (keptB HK3'.out HK4.out)⟩
    | true =>
      have HM : Hid (MachR ps next out) := machR_of hb hof
      have HRM : Hid (rightM ps next out = true) := hb
      go_wp2_with (go_at_call 10; refine Calls.mono HNk.out ?_; rintro e W3 ⟨HK3, htr, _⟩; obtain ⟨R, lo, N, fin, rfl, HR, HLO⟩ := htr rfl; clear htr d0 d1 d2)
      have HK3' : Hid (Kept [] w W3) := keptB HKV.out (keptB HK2.out HK3.out)
      have HKV3 : Hid (Kept [] V W3) := keptB HK2.out HK3.out
      obtain ⟨bs, hbs⟩ : ∃ bs, W3.heap.size = bs := ⟨_, rfl⟩
      have HBS : Hid (w.heap.size ≤ bs ∧ R < bs ∧ N ≤ R ∧ V.heap.size ≤ bs ∧ w.heap.size ≤ R ∧ V.heap.size ≤ R) := by
        have h1 := HLO.out
        have h2 := HR.out.high
        have h3 := HK3'.out.size
        have h4 := HKV3.out.size
        have h5 := HKV.out.size
        have h6 := HK2.out.size
        refine ⟨by omega, by omega, h2, by omega, by omega, by omega⟩
      have HBW : Hid (bs ≤ W3.heap.size) := Nat.le_of_eq hbs.symm
      have HR0 : Hid (RunS W3 lo N R ps next out fin (sU ps next us 0)) := HR.out
      have HO0 : Hid (W3.ownsRow bs 40 1 (.slice none 0 0) (redN ps us 0).length (u16s (redN ps us 0))) := ⟨rfl, .inl ⟨rfl, rfl⟩⟩
      clear HR HLO hbs HNk HNW HCM HKN HOM HMF HK2 HK3 HK1 hb c0 c1 c2
      go_loopw [8, 9] (fun r v wr => ∃ k : Nat, v = .int .i64 (k : Nat) ∧ k ≤ us.length ∧ Hid (wr.ownsRow bs 40 1 r (redN ps us k).length (u16s (redN ps us k))) ∧ Hid (RunS wr lo N R ps next out fin (sU ps next us k)) ∧ Hid (Kept [] w wr) ∧ Hid (Kept [] V wr) ∧ Hid (bs ≤ wr.heap.size)) (fun _ v _ => us.length - (intOf v).toNat)
      case atStart => exact ⟨0, rfl, Nat.zero_le _, HO0, HR0, HK3', HKV3, HBW⟩
      case round =>
        obtain ⟨k, rfl, hk, HO, HR, HK, HKv, HSZ⟩ := hrel
        clear HO0 HR0 HK3' HKV3 HBW
        obtain ⟨s, hs0⟩ : ∃ s, sU ps next us k = s := ⟨_, rfl⟩
        rw [hs0] at HR
        by_cases hlt : k < us.length
        · have q0 : (k : Int) < (us.length : Int) := by omega
          have q1 : (0 : Int) ≤ (k : Int) := by omega
          obtain ⟨ob, oo, oc2, heq, hoa⟩ := (HOU.out w (Kept.refl [] w)).there (by rw [HM.out.len]; exact HM.out.rows.pos)
          cases heq
          have HOA : Hid (∀ W, Kept [] w W → OutAt W ob oo out) := fun W k => hoa.kept k
          rcases (HUV.out w (Kept.refl [] w)).lie with ⟨_, he⟩ | ⟨b, o, c, hpe, _, _, hcell⟩
          · rw [he] at hlt; simp at hlt
          cases hpe
          obtain ⟨x, hx⟩ : ∃ x, us.getD k 0 = x := ⟨_, rfl⟩
          have hux := hcell k hlt
          rw [hx] at hux
          have HX1 : Hid (w.cell? ⟨b, o + k, none⟩ = some (.int .u16 (x : Nat))) := hux
          have hx? : us[k]? = some x := by rw [← hx, List.getD_eq_getElem?_getD, List.getElem?_eq_getElem hlt]; rfl
          have hxl : x < 65536 := (HUV.out w (Kept.refl [] w)).small x (List.mem_of_getElem? hx?)
          have hsn := sU_succ (ps := ps) (next := next) hx?
          rw [hs0] at hsn
          obtain ⟨s', hs'⟩ : ∃ s', stepN ps next s x = s' := ⟨_, rfl⟩
          have HS1 : Hid (sU ps next us (k + 1) = s') := by rw [← hs']; exact hsn
          obtain ⟨hst, hsl⟩ := stepN_is HM.out HR.out.lt x
          rw [hs'] at hst hsl
          obtain ⟨v0, hv0⟩ : ∃ v0, out.getD s 0 = v0 := ⟨_, rfl⟩
          obtain ⟨v1, hv1⟩ : ∃ v1, out.getD s' 0 = v1 := ⟨_, rfl⟩
          obtain ⟨fb, hfb⟩ : ∃ fb, fin.getD s false = fb := ⟨_, rfl⟩
          obtain ⟨fb', hfb'⟩ : ∃ fb', fin.getD s' false = fb' := ⟨_, rfl⟩
          have hmem : (s' : Int) ∈ next.getD s [] := by
            rw [← hst]
            have hr : next.getD s [] ∈ next := by rw [List.getD_eq_getElem?_getD, List.getElem?_eq_getElem HR.out.lt]; exact List.getElem_mem _
            have hlt2 : x % 2 ^ ps.length < (next.getD s []).length := by rw [HM.out.each _ hr]; exact Nat.mod_lt _ (Nat.two_pow_pos _)
            generalize next.getD s [] = row at hlt2 ⊢
            rw [List.getD_eq_getElem?_getD, List.getElem?_eq_getElem hlt2]
            exact List.getElem_mem _
          have HFIN : Hid (fb = true → v1 = v0 ∧ fb' = true) := by
            intro hq
            have h1 : ¬ NotFin next out s := (HR.out.fin.is s HR.out.lt).1 (by rw [hfb]; exact hq)
            refine ⟨?_, ?_⟩
            · rw [← hv1, ← hv0]
              by_cases e : out.getD s' 0 = out.getD s 0
              · exact e
              · exact absurd (.base (other_of hmem e)) h1
            · rw [← hfb']
              exact (HR.out.fin.is s' hsl).2 (fun h => h1 (.step hmem h))
          have HFI : Hid (Calls Try.prog 18 #[.pointer (some ⟨R, 0, none⟩)] wr fun e w' => e = .returned (.bool fb) ∧ Hid (Kept [] wr w')) := by rw [← hfb]; exact final_any lo N R ps next out fin s wr HR.out
          have HVE : Hid (∀ W, RunS W lo N R ps next out fin s → Calls Try.prog 16 #[.pointer (some ⟨R, 0, none⟩)] W fun e w' => e = .returned (.int .u8 (v0 : Nat)) ∧ Hid (Kept [] W w')) := fun W h => by rw [← hv0]; exact verdict_any lo N R ps next out fin s W h HM.out
          have HST : Hid (∀ W, RunS W lo N R ps next out fin s → Calls Try.prog 12 #[.pointer (some ⟨R, 0, none⟩), .int .u16 (x : Nat)] W fun e w' => e = .returned (.int .u8 (v1 : Nat)) ∧ Hid (RunS w' lo N R ps next out fin s') ∧ Hid (Kept [R] W w')) := fun W h => by
            have := step_any lo N R ps next out fin s x W h HM.out hxl
            rw [hs', hv1] at this
            exact this
          have HVE1 : Hid (∀ W, RunS W lo N R ps next out fin s' → Calls Try.prog 16 #[.pointer (some ⟨R, 0, none⟩)] W fun e w' => e = .returned (.int .u8 (v1 : Nat)) ∧ Hid (Kept [] W w')) := fun W h => by rw [← hv1]; exact verdict_any lo N R ps next out fin s' W h HM.out
          have HFI1 : Hid (∀ W, RunS W lo N R ps next out fin s' → Calls Try.prog 18 #[.pointer (some ⟨R, 0, none⟩)] W fun e w' => e = .returned (.bool fb') ∧ Hid (Kept [] W w')) := fun W h => by rw [← hfb']; exact final_any lo N R ps next out fin s' W h
          have HMR1 : Hid (∀ W rv, Kept [] w W → W.ownsRow bs 40 1 rv (redN ps us (k + 1)).length (u16s (redN ps us (k + 1))) → Calls Try.prog 19 #[.agg #[.slice pa pn pc, .slice na next.length nc, .slice (some ⟨ob, oo, none⟩) out.length oc], rv] W fun e w' => e = .returned (.tuple #[.int .i64 (s' : Nat), .int .i64 0]) ∧ Kept [] W w') := fun W rv kk h => by
            have h2 := HMR.out W rv (redN ps us (k + 1)) kk hof (lets_own h (redN_small HM.out.few us (k + 1)) (by rw [redN_len (by omega)]; omega))
            obtain ⟨e1, e2⟩ := mrun_is (out := out) (us := us) (k := k + 1) HRM.out
            rw [e1, e2, HS1.out] at h2
            exact h2
          have HO1 : Hid (∀ W, Kept [] w W → W.cell? ⟨ob, oo + s', none⟩ = some (.int .u8 (v1 : Nat))) := fun W kk => by rw [← hv1]; exact HOA.out W kk s' (by rw [HM.out.len]; exact hsl)
          have p3 : (0 : Int) ≤ (s' : Int) := by omega
          have p4 : (s' : Int) < (out.length : Int) := by rw [HM.out.len]; omega
          obtain ⟨rad, rc, hrv⟩ := own_formR HO.out
          subst hrv
          have hrl := redN_len (ps := ps) (us := us) (k := k) (by omega)
          rw [hrl] at HO ⊢
          have hpn8 : pn ≤ 8 := by rw [← HPN.out]; exact HM.out.few
          obtain ⟨e16, _, _⟩ := mask_facts pn x hpn8 hxl
          have hq2b : 2 ^ pn ≤ 256 := Nat.pow_le_pow_right (n := 2) (i := pn) (j := 8) (by omega) hpn8
          have hq2p : 0 < 2 ^ pn := Nat.two_pow_pos pn
          obtain ⟨q2, hq2⟩ : ∃ q2, 2 ^ pn = q2 := ⟨_, rfl⟩
          obtain ⟨xr, hxr⟩ : ∃ xr, x % q2 = xr := ⟨_, rfl⟩
          rw [hq2] at e16 hq2b hq2p
          have hxr16 : xr < 65536 := by rw [← hxr]; have := Nat.mod_lt x hq2p; omega
          have HRS : Hid (redN ps us (k + 1) = redN ps us k ++ [xr]) := by show _ = _; rw [redN_succ hx?, HPN.out, hq2, hxr]
          have emod : ((x : Int).tmod (q2 : Int)) = (xr : Int) := by rw [← hxr]; rfl
          have ez : ¬ q2 = 0 := by omega
          have HRL : Hid ((redN ps us k).length = k) := hrl
          clear hcell hux hx hx? hsn hs' hst hmem hv0 hv1 hfb hfb' hoa hrl hq2 hxr hs0
          go_upto_region 12 with (go_at_call 18; refine HFI.out.mono ?_; rintro e W4 ⟨rfl, HK4⟩)
          have HR4 : Hid (RunS W4 lo N R ps next out fin s) := HR.out.kept HK4.out
          go_upto_region 13 with (go_at_call 16; refine (HVE.out W4 HR4.out).mono ?_; rintro e W5 ⟨rfl, HK5⟩)
          have kd : Kept [] wr W5.drew := keptB (keptB HK4.out HK5.out) ((Kept.refl [] W5).drew)
          obtain ⟨Wd, hWd⟩ : ∃ Wd, W5.drew = Wd := ⟨_, rfl⟩
          have HWd : Hid (W5.drew = Wd) := hWd
          rw [hWd] at kd
          have kY : Kept [] Wd (Wd.alloc (.cells #[.int .u16 (xr : Nat)] 40)) := (Kept.refl [] Wd).alloc _
          have HT0 : Hid (Wd.cell? ⟨M, 0, none⟩ = some (.slice pa pn pc) ∧ Wd.cell? ⟨b, o + k, none⟩ = some (.int .u16 (x : Nat))) := ⟨(HC.out Wd (keptB HKv.out kd)).1, cell_kept0 (keptB HK.out kd) HX1.out⟩
          have HT1 : Hid ((Wd.alloc (.cells #[.int .u16 (xr : Nat)] 40)).cell? ⟨M, 0, none⟩ = some (.slice pa pn pc) ∧ (Wd.alloc (.cells #[.int .u16 (xr : Nat)] 40)).cell? ⟨b, o + k, none⟩ = some (.int .u16 (x : Nat))) := ⟨cell_kept0 kY HT0.out.1, cell_kept0 kY HT0.out.2⟩
          have hoY := bx_kept (bx_kept HO.out kd (by simp)) kY (by simp)
          have hbY : bs ≤ (Wd.alloc (.cells #[.int .u16 (xr : Nat)] 40)).heap.size := by have := HSZ.out; have := kd.size; have := kY.size; omega
          obtain ⟨r2, W6, hrun, hown6, hg6⟩ := appendU_step (A := Wd.heap.size) (x := xr) (xs := redN ps us k) (by rw [HRL.out]; exact hoY) ((cell_of (al0 Wd _) 0).trans rfl) hbY (by rw [HRL.out]; omega)
          rw [← HRS.out] at hown6
          have HRUN : Hid (∀ ty, (Builtin.append_ #[46, 46] ty #[.slice rad k rc, .slice (some ⟨Wd.heap.size, 0, none⟩) 1 1]).run Try.prog (Wd.alloc (.cells #[.int .u16 (xr : Nat)] 40)) = .ok r2 W6) := hrun
          have kF : Kept ((Value.slice rad k rc).ownBlock.toList) (Wd.alloc (.cells #[.int .u16 (xr : Nat)] 40)) W6 := (Kept.refl _ _).grown hg6 (fun q e => .inl (by rw [e]; simp))
          have hFb : ∀ q ∈ (Value.slice rad k rc).ownBlock.toList, bs ≤ q := fun q hq => (bx_base hoY (Option.mem_toList.1 hq)).1
          have HK6 : Hid (Kept [] w W6) := (keptB (keptB HK.out kd) kY).trans kF (by simp) (fun q hq => .inr (by have := hFb q hq; have := HBS.out; omega))
          have HK6v : Hid (Kept [] V W6) := (keptB (keptB HKv.out kd) kY).trans kF (by simp) (fun q hq => .inr (by have := hFb q hq; have := HBS.out; omega))
          have HR6 : Hid (RunS W6 lo N R ps next out fin s) := ((HR.out.kept kd).kept kY).keptF kF (fun hq => by have := hFb R hq; have := HBS.out; omega) (fun q hq => .inr (by have := hFb q hq; have := HBS.out; omega))
          have HO6 : Hid (W6.ownsRow bs 40 1 r2 (redN ps us (k + 1)).length (u16s (redN ps us (k + 1)))) := hown6
          have HZ6 : Hid (bs ≤ W6.heap.size) := Nat.le_trans hbY kF.size
          have HT2 : Hid (W6.cell? ⟨M, 0, none⟩ = some (.slice pa pn pc) ∧ W6.cell? ⟨b, o + k, none⟩ = some (.int .u16 (x : Nat))) := ⟨(HC.out W6 HK6v.out).1, cell_kept0 HK6.out HX1.out⟩
          clear hWd kd kY hoY hbY hrun hown6 hg6 kF hFb HO HR HR4 HK HKv HSZ
          refine wp_regionHp (fun Y => Y.cell? ⟨M, 0, none⟩ = some (.slice pa pn pc) ∧ Y.cell? ⟨b, o + k, none⟩ = some (.int .u16 (x : Nat))) (by kernel_rfl) ?_
          rw [HWd.out]
          refine heldTakeHp 0 (some 61) (.slice rad k rc) rfl rfl rfl (by kernel_rfl) (by kernel_rfl) (by kernel_rfl) (fun Y hY => ?_) HT0.out ?_
          · have y0 := hY.1
            have y1 := hY.2
            clear hY
            go_simp
          simp only [Act.put, List.setIfInBounds_toArray, List.set_cons_zero, List.set_cons_succ]
          refine heldTakeHp 1 (some 62) (.slice (some ⟨b, o, none⟩) us.length uc) rfl rfl rfl (by kernel_rfl) (by kernel_rfl) (by kernel_rfl) (fun Y hY => ?_) HT0.out ?_
          · have y0 := hY.1
            have y1 := hY.2
            clear hY
            go_simp
          simp only [Act.put, List.setIfInBounds_toArray, List.set_cons_zero, List.set_cons_succ]
          refine heldTakeHp 2 (some 63) (.int .i64 (k : Nat)) rfl rfl rfl (by kernel_rfl) (by kernel_rfl) (by kernel_rfl) (fun Y hY => ?_) HT0.out ?_
          · have y0 := hY.1
            have y1 := hY.2
            clear hY
            go_simp
          simp only [Act.put, List.setIfInBounds_toArray, List.set_cons_zero, List.set_cons_succ]
          refine heldTakeHp 3 (some 64) (.pointer (some ⟨b, o + k, none⟩)) rfl rfl rfl (by kernel_rfl) (by kernel_rfl) (by kernel_rfl) (fun Y hY => ?_) HT0.out ?_
          · have y0 := hY.1
            have y1 := hY.2
            clear hY
            go_simp
          simp only [Act.put, List.setIfInBounds_toArray, List.set_cons_zero, List.set_cons_succ]
          refine heldTakeHp 4 (some 65) (.int .u16 (x : Nat)) rfl rfl rfl (by kernel_rfl) (by kernel_rfl) (by kernel_rfl) (fun Y hY => ?_) HT0.out ?_
          · have y0 := hY.1
            have y1 := hY.2
            clear hY
            go_simp
          simp only [Act.put, List.setIfInBounds_toArray, List.set_cons_zero, List.set_cons_succ]
          refine heldTakeHp 5 (some 66) (.pointer (some ⟨M, 0, none⟩)) rfl rfl rfl (by kernel_rfl) (by kernel_rfl) (by kernel_rfl) (fun Y hY => ?_) HT0.out ?_
          · have y0 := hY.1
            have y1 := hY.2
            clear hY
            go_simp
          simp only [Act.put, List.setIfInBounds_toArray, List.set_cons_zero, List.set_cons_succ]
          refine heldTakeHp 6 (some 67) (.slice pa pn pc) rfl rfl rfl (by kernel_rfl) (by kernel_rfl) (by kernel_rfl) (fun Y hY => ?_) HT0.out ?_
          · have y0 := hY.1
            have y1 := hY.2
            clear hY
            go_simp
          simp only [Act.put, List.setIfInBounds_toArray, List.set_cons_zero, List.set_cons_succ]
          refine heldTakeHp 7 (some 68) (.int .i64 (pn : Nat)) rfl rfl rfl (by kernel_rfl) (by kernel_rfl) (by kernel_rfl) (fun Y hY => ?_) HT0.out ?_
          · have y0 := hY.1
            have y1 := hY.2
            clear hY
            go_simp
          simp only [Act.put, List.setIfInBounds_toArray, List.set_cons_zero, List.set_cons_succ]
          refine heldTakeHp 8 (some 69) (.int .u16 (q2 : Nat)) rfl rfl rfl (by kernel_rfl) (by kernel_rfl) (by kernel_rfl) (fun Y hY => ?_) HT0.out ?_
          · have y0 := hY.1
            have y1 := hY.2
            clear hY
            go_simp
          simp only [Act.put, List.setIfInBounds_toArray, List.set_cons_zero, List.set_cons_succ]
          refine heldTakeHp 9 (some 70) (.int .u16 (xr : Nat)) rfl rfl rfl (by kernel_rfl) (by kernel_rfl) (by kernel_rfl) (fun Y hY => ?_) HT0.out ?_
          · have y0 := hY.1
            have y1 := hY.2
            clear hY
            go_simp
          simp only [Act.put, List.setIfInBounds_toArray, List.set_cons_zero, List.set_cons_succ]
          refine heldOneHp 10 (by kernel_rfl) ?_
          refine opValueHp (some 71) (.slice (some ⟨Wd.heap.size, 0, none⟩) 1 1) (Wd.alloc (.cells #[.int .u16 (xr : Nat)] 40)) rfl rfl rfl ?_ ⟨HT1.out, ?_⟩
          · go_simp
          simp only [Act.put, List.setIfInBounds_toArray, List.set_cons_zero, List.set_cons_succ]
          refine heldOneHp 11 (by kernel_rfl) ?_
          refine opAppR (some 72) r2 W6 rfl rfl rfl rfl rfl rfl HRUN.out ⟨HT2.out, ?_⟩
          simp only [Act.put, List.setIfInBounds_toArray, List.set_cons_zero, List.set_cons_succ]
          refine heldOneHp 12 (by kernel_rfl) ?_
          refine opValueHp (some 8) r2 W6 rfl rfl rfl ?_ ⟨HT2.out, ?_⟩
          · go_simp
          simp only [Act.put, List.setIfInBounds_toArray, List.set_cons_zero, List.set_cons_succ]
          refine wpAnyH_done (by kernel_rfl) ?_ _
          simp only [Q1Hp]
          have d9 := cell_kept0 HK6.out HX1.out
          go_upto_region 15 with (go_at_call 12; refine (HST.out W6 HR6.out).mono ?_; rintro e W7 ⟨rfl, HR7, HK7⟩)
          have HK7' : Hid (Kept [] w W7) := HK6.out.trans HK7.out (by simp) (fun q hq => .inr (by have := HBS.out; simp at hq; omega))
          have HK7v : Hid (Kept [] V W7) := HK6v.out.trans HK7.out (by simp) (fun q hq => .inr (by have := HBS.out; simp at hq; omega))
          have HO7 : Hid (W7.ownsRow bs 40 1 r2 (redN ps us (k + 1)).length (u16s (redN ps us (k + 1)))) := bx_kept HO6.out HK7.out (fun g hg => by have := (bx_base HO6.out hg).1; have := HBS.out; simp; omega)
          have HZ7 : Hid (bs ≤ W7.heap.size) := Nat.le_trans HZ6.out HK7.out.size
          clear HO6 HZ6 HK6 HK6v HT0 HT1 HT2 HRUN HWd d9 HR6
          obtain ⟨d0, d1, d2⟩ := HC.out W7 HK7v.out
          go_upto_region 16 with (go_at_call 19; refine (HMR1.out W7 r2 HK7'.out HO7.out).mono ?_; rintro e W8 ⟨rfl, hk8⟩; have HK8 : Hid (Kept [] W7 W8) := hk8; clear hk8 d0 d1 d2)
          have HK8' : Hid (Kept [] w W8) := keptB HK7'.out HK8.out
          have HK8v : Hid (Kept [] V W8) := keptB HK7v.out HK8.out
          have HO8 : Hid (W8.ownsRow bs 40 1 r2 (redN ps us (k + 1)).length (u16s (redN ps us (k + 1)))) := bx_kept HO7.out HK8.out (by simp)
          have HZ8 : Hid (bs ≤ W8.heap.size) := Nat.le_trans HZ7.out HK8.out.size
          have HR8 : Hid (RunS W8 lo N R ps next out fin s') := HR7.out.kept HK8.out
          clear HK7 HK7' HK7v HO7 HZ7 HR7 HK8
          cases fb with
          | false =>
            go_wp2_with (first
              | (go_at_call 15; refine (state_any lo N R ps next out fin s' W8 HR8.out).mono ?_; rintro e w1 ⟨rfl, hw1⟩; rw [hw1]; clear hw1)
              | (go_at_call 16; refine (HVE1.out W8 HR8.out).mono ?_; rintro e W9 ⟨rfl, HK9⟩; obtain ⟨d0, d1, d2⟩ := HC.out W9 (keptB HK8v.out HK9.out); have d3 := HO1.out W9 (keptB HK8'.out HK9.out)))
            go_roundw
            case rel => exact ⟨k + 1, by go_num, by omega, bx_kept HO8.out HK9.out (by simp), by rw [HS1.out]; exact HR8.out.kept HK9.out, keptB HK8'.out HK9.out, keptB HK8v.out HK9.out, Nat.le_trans HZ8.out HK9.out.size⟩
            case measure => simp [intOf]; omega
          | true =>
            obtain ⟨e10, e11⟩ := HFIN.out rfl
            subst e10 e11
            go_wp2_with (first
              | (go_at_call 15; refine (state_any lo N R ps next out fin s' W8 HR8.out).mono ?_; rintro e w1 ⟨rfl, hw1⟩; rw [hw1]; clear hw1)
              | (go_at_call 16; refine (HVE1.out W8 HR8.out).mono ?_; rintro e W9 ⟨rfl, HK9⟩; obtain ⟨d0, d1, d2⟩ := HC.out W9 (keptB HK8v.out HK9.out); have d3 := HO1.out W9 (keptB HK8'.out HK9.out))
              | (go_at_call 18; refine (HFI1.out W9 (HR8.out.kept HK9.out)).mono ?_; rintro e W10 ⟨rfl, HK10⟩; have HK19 : Hid (Kept [] W8 W10) := keptB HK9.out HK10.out))
            go_roundw
            case rel => exact ⟨k + 1, by go_num, by omega, bx_kept HO8.out HK19.out (by simp), by rw [HS1.out]; exact HR8.out.kept HK19.out, keptB HK8'.out HK19.out, keptB HK8v.out HK19.out, Nat.le_trans HZ8.out HK19.out.size⟩
            case measure => simp [intOf]; omega
        · obtain rfl : k = us.length := by omega
          have q0 : ¬ ((us.length : Int) < (us.length : Int)) := by omega
          obtain ⟨fb, hfb⟩ : ∃ fb, fin.getD s false = fb := ⟨_, rfl⟩
          have hiff : fb = true ↔ ¬ NotFin next out s := by rw [← hfb]; exact HR.out.fin.is s HR.out.lt
          have kd : Kept [] wr wr.drew := (Kept.refl [] wr).drew
          have HRd : Hid (RunS wr.drew lo N R ps next out fin s) := HR.out.kept kd
          have HKd : Hid (Kept [] w wr.drew) := keptB HK.out kd
          have HKvd : Hid (Kept [] V wr.drew) := keptB HKv.out kd
          have HEN1 : Hid (Calls Try.prog 20 #[.agg #[.slice pa pn pc, .slice na next.length nc, .slice oa out.length oc], .int .i64 (s : Nat)] wr.drew fun e w' => e = .returned (.bool fb) ∧ Hid (Kept [] wr.drew w')) := HEN.out wr.drew s fb HKd.out HM.out.rows HM.out.len HR.out.lt hiff
          have HFI : Hid (∀ W, RunS W lo N R ps next out fin s → Calls Try.prog 18 #[.pointer (some ⟨R, 0, none⟩)] W fun e w' => e = .returned (.bool fb) ∧ Hid (Kept [] W w')) := fun W h => by rw [← hfb]; exact final_any lo N R ps next out fin s W h
          obtain ⟨d0, d1, d2⟩ := HC.out wr HKv.out
          clear hfb hiff kd HO HSZ hs0
          go_wp2_with fail
          go_region_held3 (fun w' => w'.cell? ⟨M, 0, none⟩ = some (.slice pa pn pc) ∧ w'.cell? ⟨M, 1, none⟩ = some (.slice na next.length nc) ∧ w'.cell? ⟨M, 2, none⟩ = some (.slice oa out.length oc)) ((refine HC.out _ ?_; (repeat (first | exact HKvd.out | refine keptB ?_ HKE.out | refine keptB ?_ HKF.out))))
            (first
            | (go_at_call 15; refine (state_any lo N R ps next out fin s wr.drew HRd.out).mono ?_; rintro e w1 ⟨rfl, hw1⟩; rw [hw1]; clear hw1)
            | (go_at_call 20; refine HEN1.out.mono ?_; rintro e WE ⟨rfl, HKE⟩)
            | (go_at_call 18; refine (HFI.out WE (HRd.out.kept HKE.out)).mono ?_; rintro e WF ⟨rfl, HKF⟩))
          all_goals go_wp2
          all_goals go_ret
          all_goals exact ⟨by cases fb <;> rfl, keptB HKd.out (keptB HKE.out HKF.out)⟩
  · go_enter Try.func5, Try.ntmps5
    go_upto_region 1 with fail
    rw [HV.out]
    clear HV
    by_cases g1 : mn ≤ 100000
    · have g4 : ¬ ((100000 : Int) < (mn : Int)) := by omega
      by_cases g2 : next.length ≤ 200
      · have g5 : ¬ ((200 : Int) < (next.length : Int)) := by omega
        have g6 : (200 : Int) < (us.length : Int) := by omega
        clear g1 g2 hbig
        go_wp2_with (go_at_call 7; refine HOM.out.mono ?_; rintro e W1 ⟨rfl, HK1⟩; clear c0 c1 c2; obtain ⟨c0, c1, c2⟩ := HC.out W1 HK1.out)
        go_ret
        exact ⟨rfl, keptB HKV.out HK1.out⟩
      · have g5 : (200 : Int) < (next.length : Int) := by omega
        clear g1 g2 hbig
        go_wp2_with (go_at_call 7; refine HOM.out.mono ?_; rintro e W1 ⟨rfl, HK1⟩; clear c0 c1 c2; obtain ⟨c0, c1, c2⟩ := HC.out W1 HK1.out)
        go_ret
        exact ⟨rfl, keptB HKV.out HK1.out⟩
    · have g4 : (100000 : Int) < (mn : Int) := by omega
      clear g1 hbig
      go_wp2_with (go_at_call 7; refine HOM.out.mono ?_; rintro e W1 ⟨rfl, HK1⟩; clear c0 c1 c2; obtain ⟨c0, c1, c2⟩ := HC.out W1 HK1.out)
      go_ret
      exact ⟨rfl, keptB HKV.out HK1.out⟩
end Go.Proofs.Ytcojlcbljhnbgaa
