/- tree.Put. -/
import Derived.Test.YtnjajafmmociiaaGreatDoorTrFits
namespace Go.Proofs.YtnjajafmmociiaaGreatDoor
open Go.RowKit Go.Shelf

/-- Another tree in the place of a name. -/
def leafPut (nm : ByteArray) (u : Tr) (x : Tr) : Tr := if propB nm x then u else x
def zeroT : Tr := ⟨0, ⟨#[]⟩, []⟩
/-- What Put answers: the tree, and the error. -/
def putE (t : Tr) (nm : ByteArray) (u : Tr) : Nat := if t.every formedB && u.every formedB && nameB nm.data.toList then (if measFits (measOf nm u.size u.depth (t.parts [])) then 0 else 31) else 30
def putT (t : Tr) (nm : ByteArray) (u : Tr) : Tr := if putE t nm u = 0 then t.reb (leafPut nm u) else zeroT

theorem results_for {fn : Func} {p u : Tmp} (h : fn.results = #[.cell p 25, .tmp u]) (tmps : Array Value) (w : World) (g : Nat) (cs : Array Value) (fr : Nat × Nat) (hp : tmps.getD p undef = .pointer (some ⟨g, 0, none⟩)) (hg : w.heap[g]? = some (.cells cs 25 fr)) (hsz : cs.size = 3) :
    (results fn tmps).run Tryz.prog w = .ok (.tuple #[.agg cs, tmps.getD u undef]) w := by
  have hp' : tmps[p]?.getD undef = .pointer (some ⟨g, 0, none⟩) := by simpa using hp
  have hl := run_loadVar_row (P := Tryz.prog) w g 25 25 cs fr _ hg Tryz.underlying25 rfl (by rw [hsz]; kernel_rfl)
  simp [results, h, hp', asAddr, hl]
theorem ret_for2 {fn : Func} {p u : Tmp} {a : Act} {w : World} {g : Nat} {x y z v : Value} {R : Ending → World → Prop} (h : fn.results = #[.cell p 25, .tmp u]) (hp : a.tmps.getD p undef = .pointer (some ⟨g, 0, none⟩)) (hv : a.tmps.getD u undef = v) (hd : a.defers = []) (hg : For3 w g x y z) (hR : R (.returned (.tuple #[.agg #[x, y, z], v])) w) : bodyPost Tryz.prog fn R .ret a w :=
  bodyPost_ret (results_for h _ w g _ _ hp hg rfl) hd (by rw [hv]; exact hR)

set_option maxHeartbeats 1000000 in
theorem putLeaf (nm : ByteArray) (u : Tr) (uad : Option Addr) (ucap Bn Bb : Nat) (w0 : World) (hn : Boxed w0 Bn 9 (.string nm)) (hb : For3 w0 Bb (.int .u8 (u.op : Nat)) (.string u.name) (.slice uad u.kids.length ucap)) (hI : IsF w0 u (.slice uad u.kids.length ucap)) (hs : u.size ≤ 1099511627776) (hF : u.Fine) :
    LeafDoes 43 #[.pointer (some ⟨Bn, 0, none⟩), .pointer (some ⟨Bb, 0, none⟩)] (leafPut nm u) w0 := by
  intro o on W k0 _ _
  show Calls Tryz.prog 43 #[.agg #[.int .u8 (o : Nat), .string on, .slice none 0 0], .pointer (some ⟨Bn, 0, none⟩), .pointer (some ⟨Bb, 0, none⟩)] W _
  have hnW : Boxed W Bn 9 (.string nm) := k0.at hn (by simp)
  have hbW := hb.kept k0
  have cn := hnW.cell
  have ln := hnW.lt
  have lb := lt_of hbW
  have n1 : ¬ Bn = W.heap.size := by omega
  have n2 : ¬ W.heap.size = Bn := by omega
  have n3 : ¬ Bn = W.heap.size + 1 := by omega
  have n4 : ¬ W.heap.size + 1 = Bn := by omega
  have HB : Hid (For3 W Bb (.int .u8 (u.op : Nat)) (.string u.name) (.slice uad u.kids.length ucap)) := hbW
  have HIP : Hid _ := fun W' => isProp_any ⟨o, on, []⟩ none 0 0 nm W'
  have HCP : Hid _ := fun W' (k : Kept [] W W') => copy_any u _ W' ((hI.kept k0).kept k) hs hF
  clear hn hb hI hF hnW hbW k0
  by_cases hp : propB nm ⟨o, on, []⟩ = true
  · rw [show leafPut nm u ⟨o, on, []⟩ = u from if_pos hp]
    simp only [show (decide (o = 3) && (on.toList == nm.toList)) = true from hp] at HIP
    go_enter Tryz.func43, Tryz.ntmps43
    go_wp2_with (first | (go_at_call 44; refine (HIP.out _).mono ?_; rintro e W2 ⟨rfl, hk2⟩; have k2 : Kept [] W W2 := (((Kept.refl [] W).alloc _).alloc _).trans hk2 (by simp) (by simp); obtain ⟨s0, s1, s2, _⟩ := (HB.out.kept k2).cells; have HZ : Hid (For3 W2 (W.heap.size + 1) (.int .u8 0) (.string ⟨#[]⟩) (.slice none 0 0)) := For3.kept (show For3 _ (W.heap.size + 1) (.int .u8 0) (.string ⟨#[]⟩) (.slice none 0 0) from al1 W _ _) hk2; have HK2 : Hid _ := k2; clear hk2 k2) | (go_at_call 45; refine (HCP.out _ HK2.out).mono ?_; rintro e W3 ⟨cad, ccap, rfl, hI3, hk3⟩; obtain ⟨d0, d1, d2, df⟩ := (HZ.out.kept hk3).cells; have HI3 : Hid _ := hI3; have HK3 : Hid _ := hk3; clear hI3 hk3))
    have k3 : Kept [] W W3 := HK2.out.trans HK3.out (by simp) (by simp)
    have z2 := lt_of HZ.out
    refine ret_for rfl rfl rfl ((HZ.out.kept HK3.out).set _ _ _) ⟨cad, ccap, rfl, ?_, kept_set3 k3 (by omega) _ _ _⟩
    have hn : ¬ (W2.heap.size ≤ W.heap.size + 1) := by omega
    have hI4 : IsT (fun k => W2.heap.size ≤ k) W3 u (.slice cad u.kids.length ccap) := HI3.out
    exact (((hI4.other hn _ _).other hn _ _).other hn _ _).mono (fun k h => by omega)
  · have hp' : propB nm ⟨o, on, []⟩ = false := by simpa using hp
    rw [show leafPut nm u ⟨o, on, []⟩ = ⟨o, on, []⟩ from if_neg hp]
    simp only [show (decide (o = 3) && (on.toList == nm.toList)) = false from hp'] at HIP
    clear hp hp'
    go_enter Tryz.func43, Tryz.ntmps43
    go_wp2_with (go_at_call 44; refine (HIP.out _).mono ?_; rintro e W2 ⟨rfl, hk2⟩; obtain ⟨s0, s1, s2, _⟩ := (For3.kept (show For3 _ W.heap.size (.int .u8 (o : Nat)) (.string on) (.slice none 0 0) from alUp (al0 W _) _) hk2).cells; have HZ : Hid (For3 W2 (W.heap.size + 1) (.int .u8 0) (.string ⟨#[]⟩) (.slice none 0 0)) := For3.kept (show For3 _ (W.heap.size + 1) (.int .u8 0) (.string ⟨#[]⟩) (.slice none 0 0) from al1 W _ _) hk2; obtain ⟨d0, d1, d2, df⟩ := HZ.out.cells; have k2 : Kept [] W W2 := (((Kept.refl [] W).alloc _).alloc _).trans hk2 (by simp) (by simp); have HK2 : Hid _ := k2; clear hk2 k2)
    exact ret_for rfl rfl rfl (HZ.out.set _ _ _) ⟨none, 0, rfl, IsT.leaf _ _ rfl _ _, kept_set3 HK2.out (by omega) _ _ _⟩

set_option maxHeartbeats 2000000 in
set_option maxRecDepth 20000 in
theorem put_any (t : Tr) (kv : Value) (nm : ByteArray) (u : Tr) (kvu : Value) (w : World) (hI : IsF w t kv) (hIu : IsF w u kvu) (hs : t.size ≤ 1099511627776) (hsu : u.size ≤ 1099511627776) (hdu : u.depth ≤ 1099511627776) (hd : t.depth ≤ 1099511627776) (hF : t.Fine) (hFu : u.Fine) (hn : nm.size ≤ maxLen) (hT : KidsTab w) :
    Calls Tryz.prog 9 #[.agg #[.int .u8 (t.op : Nat), .string t.name, kv], .string nm, .agg #[.int .u8 (u.op : Nat), .string u.name, kvu]] w fun e w' =>
      ∃ kad kcap, e = .returned (.tuple #[.agg #[.int .u8 ((putT t nm u).op : Nat), .string (putT t nm u).name, .slice kad (putT t nm u).kids.length kcap], .int .i64 (putE t nm u : Nat)]) ∧ IsT (fun k => w.heap.size ≤ k) w' (putT t nm u) (.slice kad (putT t nm u).kids.length kcap) ∧ Kept [] w w' := by
  obtain ⟨kad, kcap, rfl⟩ := hI.slice
  obtain ⟨uad, ucap, rfl⟩ := hIu.slice
  have HWT : Hid _ := fun W (k : Kept [] w W) => well_any t _ W (hI.kept k) hs hF (hT.kept k)
  have HWU : Hid _ := fun W (k : Kept [] w W) => well_any u _ W (hIu.kept k) hsu hFu (hT.kept k)
  have HNM : Hid _ := fun W => isName_any nm W hn
  have HFI : Hid _ := fun W (k : Kept [] w W) => fitsPut_any t _ nm u _ W (hI.kept k) (hIu.kept k) hs hsu hdu hd
  have HRE : Hid _ := fun W (k : Kept [] w W) Bn Bb (hbn : Boxed W Bn 9 (.string nm)) (hbb : For3 W Bb (.int .u8 (u.op : Nat)) (.string u.name) (.slice uad u.kids.length ucap)) => rebuilt_any 43 #[.pointer (some ⟨Bn, 0, none⟩), .pointer (some ⟨Bb, 0, none⟩)] (leafPut nm u) W (enters_of Tryz.func43 (by kernel_rfl) rfl) (putLeaf nm u uad ucap Bn Bb W hbn hbb (hIu.kept k) hsu hFu) t _ W (hI.kept k) (Kept.refl [] W) hs hF
  clear hI hIu hF hFu hT hn
  obtain ⟨V, hV⟩ : ∃ V, (((w.alloc (.cells #[.int .u8 (t.op : Nat), .string t.name, .slice kad t.kids.length kcap] 25)).alloc (.cells #[.string nm] 9)).alloc (.cells #[.int .u8 (u.op : Nat), .string u.name, .slice uad u.kids.length ucap] 25)).alloc (.cells #[.int .u8 0, .string ⟨#[]⟩, .slice none 0 0] 25) = V := ⟨_, rfl⟩
  have kV : Kept [] w V := by rw [← hV]; exact ((((Kept.refl [] w).alloc _).alloc _).alloc _).alloc _
  have v0 : For3 V w.heap.size (.int .u8 (t.op : Nat)) (.string t.name) (.slice kad t.kids.length kcap) := by rw [← hV]; exact alUp (alUp (alUp (al0 _ _) _) _) _
  have v1 : Boxed V (w.heap.size + 1) 9 (.string nm) := by rw [← hV]; exact alUp (alUp (al1 _ _ _) _) _
  have v2 : For3 V (w.heap.size + 1 + 1) (.int .u8 (u.op : Nat)) (.string u.name) (.slice uad u.kids.length ucap) := by rw [← hV]; exact alUp (al2 _ _ _ _) _
  have v3 : For3 V (w.heap.size + 1 + 1 + 1) (.int .u8 0) (.string ⟨#[]⟩) (.slice none 0 0) := by rw [← hV]; exact al3 _ _ _ _ _
  have HV : Hid _ := hV
  have HK : Hid (Kept [] w V) := kV
  have HV0 : Hid (For3 V w.heap.size (.int .u8 (t.op : Nat)) (.string t.name) (.slice kad t.kids.length kcap)) := v0
  have HV1 : Hid (Boxed V (w.heap.size + 1) 9 (.string nm)) := v1
  have HV2 : Hid (For3 V (w.heap.size + 1 + 1) (.int .u8 (u.op : Nat)) (.string u.name) (.slice uad u.kids.length ucap)) := v2
  have HV3 : Hid (For3 V (w.heap.size + 1 + 1 + 1) (.int .u8 0) (.string ⟨#[]⟩) (.slice none 0 0)) := v3
  clear hV kV v0 v1 v2 v3
  -- the two ways out with nothing
  have hzero : ∀ (e : Nat) W, Kept [] w W → e ≠ 0 → putE t nm u = e →
      ∃ kad kcap, Ending.returned (.tuple #[.agg #[.int .u8 0, .string ⟨#[]⟩, .slice none 0 0], .int .i64 (e : Nat)]) = .returned (.tuple #[.agg #[.int .u8 ((putT t nm u).op : Nat), .string (putT t nm u).name, .slice kad (putT t nm u).kids.length kcap], .int .i64 (putE t nm u : Nat)]) ∧ IsT (fun k => w.heap.size ≤ k) W (putT t nm u) (.slice kad (putT t nm u).kids.length kcap) ∧ Kept [] w W := fun e W k he hp => by
    have h2 : putT t nm u = zeroT := by unfold putT; rw [if_neg (by rw [hp]; exact he)]
    rw [h2, hp]
    exact ⟨none, 0, rfl, IsT.leaf _ _ rfl _ _, k⟩
  have HZ : Hid _ := hzero
  clear hzero
  cases ha : t.every formedB with
  | false =>
    simp only [ha] at HWT
    have HE : Hid (putE t nm u = 30) := by show putE t nm u = 30; unfold putE; rw [ha]; rfl
    clear ha
    go_enter Tryz.func9, Tryz.ntmps9
    go_wp2_with (go_at_call 39; rw [HV.out]; refine (HWT.out _ HK.out).mono ?_; rintro e W2 ⟨rfl, hk2⟩; obtain ⟨d0, d1, d2, df⟩ := (HV3.out.kept hk2).cells; obtain ⟨s0, s1, s2, _⟩ := (HV2.out.kept hk2).cells; obtain ⟨r0, r1, r2, _⟩ := (HV0.out.kept hk2).cells; have cn : W2.cell? ⟨w.heap.size + 1, 0, none⟩ = some (.string nm) := Boxed.cell (hk2.at HV1.out (by simp)); have HK2 : Hid (Kept [] V W2) := hk2; clear hk2 HWT)
    exact ret_for2 rfl rfl rfl rfl ((HV3.out.kept HK2.out).set _ _ _) (HZ.out 30 _ (kept_set3 (HK.out.trans HK2.out (by simp) (by simp)) (by omega) _ _ _) (by omega) HE.out)
  | true =>
    simp only [ha] at HWT
    cases hb : u.every formedB with
    | false =>
      simp only [hb] at HWU
      have HE : Hid (putE t nm u = 30) := by show putE t nm u = 30; unfold putE; rw [ha, hb]; rfl
      clear ha hb
      go_enter Tryz.func9, Tryz.ntmps9
      go_wp2_with (first | (go_at_call 39; rw [HV.out]; refine (HWT.out _ HK.out).mono ?_; rintro e W2 ⟨rfl, hk2⟩; obtain ⟨d0, d1, d2, df⟩ := (HV3.out.kept hk2).cells; obtain ⟨s0, s1, s2, _⟩ := (HV2.out.kept hk2).cells; obtain ⟨r0, r1, r2, _⟩ := (HV0.out.kept hk2).cells; have cn : W2.cell? ⟨w.heap.size + 1, 0, none⟩ = some (.string nm) := Boxed.cell (hk2.at HV1.out (by simp)); have HK2 : Hid (Kept [] V W2) := hk2; clear hk2 HWT) | (go_at_call 39; refine (HWU.out _ (HK.out.trans HK2.out (by simp) (by simp))).mono ?_; rintro e W3 ⟨rfl, hk3⟩; have k3 := HK2.out.trans hk3 (H := []) (by simp) (by simp); obtain ⟨d0, d1, d2, df⟩ := (HV3.out.kept k3).cells; obtain ⟨s0, s1, s2, _⟩ := (HV2.out.kept k3).cells; obtain ⟨r0, r1, r2, _⟩ := (HV0.out.kept k3).cells; have cn : W3.cell? ⟨w.heap.size + 1, 0, none⟩ = some (.string nm) := Boxed.cell (k3.at HV1.out (by simp)); have HK3 : Hid (Kept [] V W3) := k3; clear hk3 k3))
      exact ret_for2 rfl rfl rfl rfl ((HV3.out.kept HK3.out).set _ _ _) (HZ.out 30 _ (kept_set3 (HK.out.trans HK3.out (by simp) (by simp)) (by omega) _ _ _) (by omega) HE.out)
    | true =>
      simp only [hb] at HWU
      cases hc : nameB nm.data.toList with
      | false =>
        simp only [hc] at HNM
        have HE : Hid (putE t nm u = 30) := by show putE t nm u = 30; unfold putE; rw [ha, hb, hc]; rfl
        clear ha hb hc
        go_enter Tryz.func9, Tryz.ntmps9
        go_wp2_with (first | (go_at_call 39; rw [HV.out]; refine (HWT.out _ HK.out).mono ?_; rintro e W2 ⟨rfl, hk2⟩; obtain ⟨d0, d1, d2, df⟩ := (HV3.out.kept hk2).cells; obtain ⟨s0, s1, s2, _⟩ := (HV2.out.kept hk2).cells; obtain ⟨r0, r1, r2, _⟩ := (HV0.out.kept hk2).cells; have cn : W2.cell? ⟨w.heap.size + 1, 0, none⟩ = some (.string nm) := Boxed.cell (hk2.at HV1.out (by simp)); have HK2 : Hid (Kept [] V W2) := hk2; clear hk2 HWT) | (go_at_call 39; refine (HWU.out _ (HK.out.trans HK2.out (by simp) (by simp))).mono ?_; rintro e W3 ⟨rfl, hk3⟩; have k3 := HK2.out.trans hk3 (H := []) (by simp) (by simp); obtain ⟨d0, d1, d2, df⟩ := (HV3.out.kept k3).cells; obtain ⟨s0, s1, s2, _⟩ := (HV2.out.kept k3).cells; obtain ⟨r0, r1, r2, _⟩ := (HV0.out.kept k3).cells; have cn : W3.cell? ⟨w.heap.size + 1, 0, none⟩ = some (.string nm) := Boxed.cell (k3.at HV1.out (by simp)); have HK3 : Hid (Kept [] V W3) := k3; clear hk3 k3) | (go_at_call 40; refine (HNM.out _).mono ?_; rintro e W3' ⟨rfl, rfl⟩))
        exact ret_for2 rfl rfl rfl rfl ((HV3.out.kept HK3.out).set _ _ _) (HZ.out 30 _ (kept_set3 (HK.out.trans HK3.out (by simp) (by simp)) (by omega) _ _ _) (by omega) HE.out)
      | true =>
        simp only [hc] at HNM
        cases hf : measFits (measOf nm u.size u.depth (t.parts [])) with
        | false =>
          simp only [hf] at HFI
          have HE : Hid (putE t nm u = 31) := by show putE t nm u = 31; unfold putE; rw [ha, hb, hc, hf]; rfl
          clear ha hb hc hf
          go_enter Tryz.func9, Tryz.ntmps9
          go_wp2_with (first | (go_at_call 39; rw [HV.out]; refine (HWT.out _ HK.out).mono ?_; rintro e W2 ⟨rfl, hk2⟩; obtain ⟨d0, d1, d2, df⟩ := (HV3.out.kept hk2).cells; obtain ⟨s0, s1, s2, _⟩ := (HV2.out.kept hk2).cells; obtain ⟨r0, r1, r2, _⟩ := (HV0.out.kept hk2).cells; have cn : W2.cell? ⟨w.heap.size + 1, 0, none⟩ = some (.string nm) := Boxed.cell (hk2.at HV1.out (by simp)); have HK2 : Hid (Kept [] V W2) := hk2; clear hk2 HWT) | (go_at_call 39; refine (HWU.out _ (HK.out.trans HK2.out (by simp) (by simp))).mono ?_; rintro e W3 ⟨rfl, hk3⟩; have k3 := HK2.out.trans hk3 (H := []) (by simp) (by simp); obtain ⟨d0, d1, d2, df⟩ := (HV3.out.kept k3).cells; obtain ⟨s0, s1, s2, _⟩ := (HV2.out.kept k3).cells; obtain ⟨r0, r1, r2, _⟩ := (HV0.out.kept k3).cells; have cn : W3.cell? ⟨w.heap.size + 1, 0, none⟩ = some (.string nm) := Boxed.cell (k3.at HV1.out (by simp)); have HK3 : Hid (Kept [] V W3) := k3; clear hk3 k3) | (go_at_call 40; refine (HNM.out _).mono ?_; rintro e W3' ⟨rfl, rfl⟩) | (go_at_call 41; refine (HFI.out _ (HK.out.trans HK3.out (by simp) (by simp))).mono ?_; rintro e W4 ⟨rfl, hk4⟩; have k4 := HK3.out.trans hk4 (H := []) (by simp) (by simp); obtain ⟨d0, d1, d2, df⟩ := (HV3.out.kept k4).cells; obtain ⟨r0, r1, r2, _⟩ := (HV0.out.kept k4).cells; have HK4 : Hid (Kept [] V W4) := k4; clear hk4 k4))
          exact ret_for2 rfl rfl rfl rfl ((HV3.out.kept HK4.out).set _ _ _) (HZ.out 31 _ (kept_set3 (HK.out.trans HK4.out (by simp) (by simp)) (by omega) _ _ _) (by omega) HE.out)
        | true =>
          simp only [hf] at HFI
          have HE : Hid (putE t nm u = 0) := by show putE t nm u = 0; unfold putE; rw [ha, hb, hc, hf]; rfl
          have HT : Hid (putT t nm u = t.reb (leafPut nm u)) := by show putT t nm u = _; unfold putT; rw [if_pos HE.out]
          clear ha hb hc hf HZ
          rw [HT.out, HE.out]
          obtain ⟨pt, hpt⟩ : ∃ pt, t.reb (leafPut nm u) = pt := ⟨_, rfl⟩
          rw [hpt]
          rw [hpt] at HRE
          clear hpt HT HE
          go_enter Tryz.func9, Tryz.ntmps9
          go_wp2_with (first | (go_at_call 39; rw [HV.out]; refine (HWT.out _ HK.out).mono ?_; rintro e W2 ⟨rfl, hk2⟩; obtain ⟨d0, d1, d2, df⟩ := (HV3.out.kept hk2).cells; obtain ⟨s0, s1, s2, _⟩ := (HV2.out.kept hk2).cells; obtain ⟨r0, r1, r2, _⟩ := (HV0.out.kept hk2).cells; have cn : W2.cell? ⟨w.heap.size + 1, 0, none⟩ = some (.string nm) := Boxed.cell (hk2.at HV1.out (by simp)); have HK2 : Hid (Kept [] V W2) := hk2; clear hk2 HWT) | (go_at_call 39; refine (HWU.out _ (HK.out.trans HK2.out (by simp) (by simp))).mono ?_; rintro e W3 ⟨rfl, hk3⟩; have k3 := HK2.out.trans hk3 (H := []) (by simp) (by simp); obtain ⟨d0, d1, d2, df⟩ := (HV3.out.kept k3).cells; obtain ⟨s0, s1, s2, _⟩ := (HV2.out.kept k3).cells; obtain ⟨r0, r1, r2, _⟩ := (HV0.out.kept k3).cells; have cn : W3.cell? ⟨w.heap.size + 1, 0, none⟩ = some (.string nm) := Boxed.cell (k3.at HV1.out (by simp)); have HK3 : Hid (Kept [] V W3) := k3; clear hk3 k3) | (go_at_call 40; refine (HNM.out _).mono ?_; rintro e W3' ⟨rfl, rfl⟩) | (go_at_call 41; refine (HFI.out _ (HK.out.trans HK3.out (by simp) (by simp))).mono ?_; rintro e W4 ⟨rfl, hk4⟩; have k4 := HK3.out.trans hk4 (H := []) (by simp) (by simp); obtain ⟨d0, d1, d2, df⟩ := (HV3.out.kept k4).cells; obtain ⟨r0, r1, r2, _⟩ := (HV0.out.kept k4).cells; have HK4 : Hid (Kept [] V W4) := k4; clear hk4 k4) | (go_at_call 42; refine (HRE.out _ (HK.out.trans HK4.out (by simp) (by simp)) (w.heap.size + 1) (w.heap.size + 1 + 1) (HK4.out.at HV1.out (by simp)) (HV2.out.kept HK4.out)).mono ?_; rintro e W5 ⟨pad, pcap, rfl, hI5, hk5⟩; have k5 := HK4.out.trans hk5 (H := []) (by simp) (by simp); obtain ⟨d0, d1, d2, df⟩ := (HV3.out.kept k5).cells; have l5 := lt_of (HV3.out.kept k5); have n5 : ¬ w.heap.size + 1 + 1 + 1 = W5.heap.size := (by omega); have n6 : ¬ W5.heap.size = w.heap.size + 1 + 1 + 1 := (by omega); have HK5 : Hid (Kept [] V W5) := k5; have HI5 : Hid _ := hI5; clear hk5 k5 hI5))
          have k5 : Kept [] w W5 := HK.out.trans HK5.out (by simp) (by simp)
          have hset := (HV3.out.kept HK5.out).set (.int .u8 (pt.op : Nat)) (.string pt.name) (.slice pad pt.kids.length pcap)
          have kset := kept_set3 k5 (B := w.heap.size + 1 + 1 + 1) (by omega) (.int .u8 (pt.op : Nat)) (.string pt.name) (.slice pad pt.kids.length pcap)
          have hn : ¬ (W4.heap.size ≤ w.heap.size + 1 + 1 + 1) := by have := lt_of (HV3.out.kept HK4.out); omega
          have hI4 : IsT (fun k => W4.heap.size ≤ k) W5 pt (.slice pad pt.kids.length pcap) := HI5.out
          have hI6 := ((hI4.other hn 0 (.int .u8 (pt.op : Nat))).other hn 1 (.string pt.name)).other hn 2 (.slice pad pt.kids.length pcap)
          have hz4 := HK4.out.size
          have hzV := HK.out.size
          have hI7 := IsT.mono (Y := fun k => w.heap.size ≤ k) hI6 (fun k h => by omega)
          obtain ⟨W6, hW6⟩ : ∃ W6, ((W5.setCell ⟨w.heap.size + 1 + 1 + 1, 0, none⟩ (.int .u8 (pt.op : Nat))).setCell ⟨w.heap.size + 1 + 1 + 1, 1, none⟩ (.string pt.name)).setCell ⟨w.heap.size + 1 + 1 + 1, 2, none⟩ (.slice pad pt.kids.length pcap) = W6 := ⟨_, rfl⟩
          rw [hW6] at hset kset hI7 ⊢
          exact ret_for2 rfl rfl rfl rfl (show For3 _ (w.heap.size + 1 + 1 + 1) _ _ _ from alUp hset _) ⟨pad, pcap, rfl, hI7.cells (fun _ h => h) (fun _ _ _ _ c => cell_kept0 ((Kept.refl [] W6).alloc _) c), kset.alloc _⟩
end Go.Proofs.YtnjajafmmociiaaGreatDoor
