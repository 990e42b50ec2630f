/- slices.Grow, slices.Concat of lists of numbers. -/
import Derived.Test.YtbbfajbnklgncaaRuFinW
import Derived.Lib.AppendZeros
namespace Go.Proofs.Ytbbfajbnklgncaa
open Go.RowKit Go.Shelf

def numsI (xs : List Int) : List Value := xs.map (Value.int .i64)
theorem numsI_len (xs : List Int) : (numsI xs).length = xs.length := by simp [numsI]
theorem numsI_app (xs ys : List Int) : numsI (xs ++ ys) = numsI xs ++ numsI ys := by simp [numsI]
theorem own_nilI (w : World) (base : Nat) : w.ownsRow base 3 1 (.slice none 0 0) ([] : List Int).length (numsI []) := ⟨rfl, .inl ⟨rfl, rfl⟩⟩
theorem zeroCells_sizeI (n : Nat) : (Builtin.zeroCells #[Value.int .i64 0] n).size = n := by simp [Builtin.zeroCells]
set_option maxHeartbeats 400000 in
set_option maxRecDepth 20000 in
theorem growI_any (n : Nat) (w : World) (hn : n ≤ 1000000000000) :
    Calls Try.prog 64 #[.slice none 0 0, .int .i64 n] w fun e w' => ∃ v', e = .returned v' ∧ Hid (w'.ownsRow w.heap.size 3 1 v' ([] : List Int).length (numsI [])) ∧ Hid (Kept [] w w') := by
  obtain ⟨i0, hi, hz0, hz1, hz2⟩ := info_parts Try.infoInR
  have b0 : ¬ ((n : Int) < 0) := by omega
  by_cases h0 : n = 0
  · subst h0
    have HO : Hid (w.ownsRow w.heap.size 3 1 (.slice none 0 0) ([] : List Int).length (numsI [])) := own_nilI _ _
    have HK : Hid (Kept [] w w) := Kept.refl [] w
    go_enter Try.func64, Try.ntmps64
    go_wp2
    go_ret
    exact ⟨_, rfl, HO, HK⟩
  · have hr : ∀ ty, (Builtin.append_ #[83, 3] ty #[.slice none 0 0, .int .i64 n]).run Try.prog w = _ := fun ty => Lib.run_append_nil_zeros w 83 3 ty 3 i0 _ .i64 .i64 Try.underlying83 Try.underlying3 hi hz0 n (by omega) (by rw [hz1]; decide) (by omega) (by rw [hz2]; omega)
    have hg := grownCap_ge w n 0 3
    have hg2 := grownCap_le_maxLen w n 0 3 (by unfold maxLen; omega)
    have HR : Hid _ := hr
    obtain ⟨G, hG⟩ : ∃ G, grownCap w n 0 3 = G := ⟨_, rfl⟩
    rw [hG] at hg hg2 HR
    have HG2 : Hid (G ≤ maxLen) := hg2
    unfold maxLen at hg2
    clear hr hG
    have hn0 : (0 : Int) < (n : Int) := by omega
    go_enter Try.func64, Try.ntmps64
    go_wp2_with (at_builtin; refine Lib.wpList_append_run _ rfl _ _ _ _ rfl _ _ rfl rfl _ _ (HR.out _) ?_)
    go_ret
    refine ⟨_, rfl, (⟨rfl, .inr ⟨w.heap.size, G, _, rfl, Nat.le_refl _, heap_alloc_new _ _, by simp, HG2.out, ?_, by simp [numsI]⟩⟩ : World.ownsRow _ w.heap.size 3 1 (.slice (some ⟨w.heap.size, 0, none⟩) 0 G) ([] : List Int).length (numsI [])), (Kept.refl [] w).drew.alloc _⟩
    rw [Array.size_append, zeroCells_sizeI, zeroCells_sizeI]
    omega
/-- An append to numbers of one's own, and what it keeps. -/
theorem appendI_step {w wr : World} {v : Value} {xs ys : List Int} {ub uo uc : Nat} (hk : Kept [] w wr) (hown : wr.ownsRow w.heap.size 3 1 v xs.length (numsI xs)) (hu : ∀ i (h : i < ys.length), wr.cell? ⟨ub, uo + i, none⟩ = some (.int .i64 ys[i])) (h0 : 0 < ys.length) (hl : xs.length + ys.length ≤ 1000000000000) :
    ∃ v' w', (∀ ty, (Builtin.append_ #[83, 83] ty #[v, .slice (some ⟨ub, uo, none⟩) ys.length uc]).run Try.prog wr = .ok v' w') ∧ Hid (w'.ownsRow w.heap.size 3 1 v' (xs ++ ys).length (numsI (xs ++ ys))) ∧ Hid (Kept [] w w') := by
  obtain ⟨i0, hi, hz0, hz1, hz2⟩ := info_parts Try.infoInR
  obtain ⟨gr, cap, w2, g1, g2, g3, g4, g5⟩ := run_append_lies (P := Try.prog) wr 83 0 w.heap.size 3 i0 (.int .i64 0) 1 8 Try.underlying83 hi hz0 hz1 hz2 rfl (by decide) v xs.length (numsI xs) hown ⟨ub, uo, none⟩ ys.length uc (numsI ys) (by rw [numsI_len]; omega) (fun j u hj => by
    have hjl : j < ys.length := by have := (List.getElem?_eq_some_iff.1 hj).1; rwa [numsI_len] at this
    have : (numsI ys)[j]? = some (.int .i64 ys[j]) := by simp [numsI, hjl]
    rw [this] at hj
    cases hj
    have h9 := hu j hjl
    have e9 : Addr.add ⟨ub, uo, none⟩ j = ⟨ub, uo + j, none⟩ := by unfold Addr.add; split <;> simp_all
    rw [e9]; exact h9) (by intro u hu'; obtain ⟨x, _, rfl⟩ := List.mem_map.1 hu'; rfl) h0 (by unfold maxLen; omega) (by omega) hk.size _ rfl
  exact ⟨_, w2, fun ty => g1, by rw [List.length_append, numsI_app]; exact g2, hk.grown g3 (fun q e => .inr (by have := (bx_base hown e).1; omega))⟩
/-- The first k rows in one. -/
def flatT (next : List (List Int)) (k : Nat) : List Int := (next.take k).flatten
theorem flatT_succ {next : List (List Int)} {k : Nat} {row : List Int} (h : next[k]? = some row) : flatT next (k + 1) = flatT next k ++ row := by
  unfold flatT
  rw [List.take_add_one, h]
  simp
theorem flatT_len {next : List (List Int)} (hr : RightR next) : ∀ k, k ≤ next.length → (flatT next k).length ≤ k * 256
  | 0, _ => by simp [flatT]
  | k + 1, hk => by
    have h1 := flatT_len hr k (by omega)
    have h2 : next[k]? = some next[k] := List.getElem?_eq_getElem (by omega)
    rw [flatT_succ h2, List.length_append]
    have := (hr.row _ (List.getElem_mem (show k < next.length by omega))).2.1
    omega
set_option maxHeartbeats 4000000 in
set_option maxRecDepth 10000 in
theorem concatI_any (nv : Value) (next : List (List Int)) (fl : List Int) (w : World) (hn : Rowss w nv next) (hr : RightR next) (hfl : next.flatten = fl) :
    Calls Try.prog 52 #[nv] w fun e w' => ∃ v', e = .returned v' ∧ Hid (w'.ownsRow w.heap.size 3 1 v' fl.length (numsI fl)) ∧ Hid (Kept [] w w') := by
  obtain ⟨n, hln⟩ : ∃ n, next.length = n := ⟨_, rfl⟩
  have hfew : n ≤ 1000000 := by rw [← hln]; exact hr.few
  rcases hn.lie with ⟨hnv, he⟩ | ⟨nb, no, nc, hnv, hc1, hc2, hce⟩
  · have := hr.pos
    rw [he] at this
    simp at this
  subst hnv
  have HCE : Hid (∀ i (h : i < next.length), ∃ u, w.cell? ⟨nb, no + i, none⟩ = some u ∧ Ints w u next[i]) := hce
  have HRR : Hid (RightR next) := hr
  have HLN : Hid (next.length = n) := hln
  have HFT : Hid (flatT next n = fl) := by show flatT next n = _; unfold flatT; rw [List.take_of_length_le (by omega), hfl]
  have HK0 : Hid (Kept [] w w) := Kept.refl [] w
  have HFL : Hid (∀ k, k ≤ n → (flatT next k).length ≤ k * 256) := fun k hk => flatT_len hr k (by omega)
  rw [hln] at hc1 ⊢
  clear hn hr hce hln hfl
  go_enter Try.func52, Try.ntmps52
  go_wp2_with fail
  go_loopw [3, 5, 11] (fun s _ i wr => ∃ k : Nat, k ≤ n ∧ i = .int .i64 (k : Nat) ∧ ∃ z : Nat, s = .int .i64 (z : Nat) ∧ Hid (z = (flatT next k).length) ∧ wr = w) (fun _ _ i _ => n - (intOf i).toNat)
  case atStart => exact ⟨0, by omega, rfl, 0, rfl, (by simp [flatT] : 0 = (flatT next 0).length), rfl⟩
  case round =>
    obtain ⟨k, hk, rfl, z, rfl, HZ, rfl⟩ := hrel
    by_cases hlt : k < n
    · have q0 : (k : Int) < (n : Int) := by omega
      have q1 : (0 : Int) ≤ (k : Int) := by omega
      obtain ⟨u, hu, hI⟩ := HCE.out k (by rw [HLN.out]; exact hlt)
      obtain ⟨row, hrow⟩ : ∃ row, next[k]'(by rw [HLN.out]; exact hlt) = row := ⟨_, rfl⟩
      rw [hrow] at hI
      have hr? : next[k]? = some row := by rw [List.getElem?_eq_getElem (by rw [HLN.out]; exact hlt), hrow]
      obtain ⟨r0, r1, _⟩ := HRR.out.row row (by rw [← hrow]; exact List.getElem_mem _)
      obtain ⟨ub, uo, uc, rfl, hu1, hu2, _⟩ := hI.there r0
      have hz := HFL.out k hk
      rw [← HZ.out] at hz
      obtain ⟨rl, hrl⟩ : ∃ rl, row.length = rl := ⟨_, rfl⟩
      have HZ2 : Hid (z + rl = (flatT next (k + 1)).length) := by show z + rl = _; rw [flatT_succ hr?, List.length_append, ← HZ.out, hrl]
      rw [hrl] at hu r0 r1 hu1
      have p0 : ¬ ((z : Int) + (rl : Int) < 0) := by omega
      have p1 : IntKind.i64.wrap ((z : Int) + (rl : Int)) = ((z + rl : Nat) : Int) := by rw [IntKind.wrap_i64]; omega
      clear hI hrow hr? hrl
      go_wp2
      go_roundw
      case rel => exact ⟨k + 1, by omega, by go_num, z + rl, by go_num, HZ2, trivial⟩
      case measure => simp [intOf]; omega
    · obtain rfl : k = n := by omega
      have q0 : ¬ ((k : Int) < (k : Int)) := by omega
      rename World => w0
      have hz : z ≤ 1000000000000 := by have := HFL.out k hk; rw [← HZ.out] at this; omega
      go_wp2_with (go_at_call 64; refine (growI_any z _ hz).mono ?_; rintro e w1 ⟨v', rfl, HO, HK⟩)
      go_loopw [6, 8, 27] (fun s _ i w2 => ∃ j : Nat, j ≤ k ∧ i = .int .i64 (j : Nat) ∧ Hid (w2.ownsRow w0.heap.size 3 1 s (flatT next j).length (numsI (flatT next j))) ∧ Hid (Kept [] w0 w2)) (fun _ _ i _ => k - (intOf i).toNat)
      case atStart => exact ⟨0, by omega, rfl, HO, HK⟩
      case round =>
        rename World => w2
        obtain ⟨j, hj, rfl, HO2, HK2⟩ := hrel
        by_cases hjl : j < k
        · have p0 : (j : Int) < (k : Int) := by omega
          have p1 : (0 : Int) ≤ (j : Int) := by omega
          obtain ⟨u, hu, hI⟩ := HCE.out j (by rw [HLN.out]; exact hjl)
          obtain ⟨row, hrow⟩ : ∃ row, next[j]'(by rw [HLN.out]; exact hjl) = row := ⟨_, rfl⟩
          rw [hrow] at hI
          have hr? : next[j]? = some row := by rw [List.getElem?_eq_getElem (by rw [HLN.out]; exact hjl), hrow]
          obtain ⟨r0, r1, _⟩ := HRR.out.row row (by rw [← hrow]; exact List.getElem_mem _)
          obtain ⟨ub, uo, uc, rfl, hu1, hu2, hu3⟩ := hI.there r0
          have hz2 := HFL.out j hj
          obtain ⟨v2, w3, hrun, HO3, HK3⟩ := appendI_step (uc := uc) HK2.out HO2.out (fun i hi => cell_kept0 HK2.out (hu3 i hi)) r0 (by omega)
          rw [← flatT_succ hr?] at HO3
          have HRUN : Hid (∀ ty, (Builtin.append_ #[83, 83] ty #[u6, .slice (some ⟨ub, uo, none⟩) row.length uc]).run Try.prog w2 = .ok v2 w3) := hrun
          have d0 := cell_kept0 HK2.out hu
          clear hu hI hrow hr? hu3 hrun hz2
          go_wp2_with (at_builtin; refine Lib.wpList_append_run _ rfl _ _ _ _ rfl _ _ rfl rfl _ _ (HRUN.out _) ?_)
          go_roundw
          case rel => exact ⟨j + 1, by omega, by go_num, HO3, HK3⟩
          case measure => simp [intOf]; omega
        · obtain rfl : j = k := by omega
          have p0 : ¬ ((j : Int) < (j : Int)) := by omega
          rw [HFT.out] at HO2
          go_wp2
          go_ret
          exact ⟨_, rfl, HO2, HK2⟩
end Go.Proofs.Ytbbfajbnklgncaa

/- A runner's table in memory. -/
namespace Go.Proofs.Ytbbfajbnklgncaa
open Go.RowKit Go.Shelf Go.Maps

theorem lawStrR : Keyed Try.prog 9 := string_keyed Try.underlying9
theorem zeroU16R (w : World) : (zeroValue 55).run Try.prog w = .ok (.int .u16 0) w := by kernel_rfl
/-- Verdicts as cells. -/
def vdC (xs : List Nat) : List Value := xs.map fun x => Value.int .u8 (x : Nat)
theorem vdC_len (xs : List Nat) : (vdC xs).length = xs.length := by simp [vdC]
theorem vdC_at {xs : List Nat} {k : Nat} (h : k < xs.length) : (vdC xs)[k]? = some (Value.int .u8 (xs[k] : Nat)) := by simp [vdC, h]
theorem vdC_one (xs : List Nat) : ∀ u ∈ vdC xs, u.oneCell' = true := by
  intro u hu
  obtain ⟨x, _, rfl⟩ := List.mem_map.1 hu
  rfl
/-- The bit of a name, by the first k names. -/
def bitK (ps : List ByteArray) : Nat → ByteArray → Nat
  | 0, _ => 0
  | k + 1, s => if (ps.getD k ⟨#[]⟩).data.toList = s.data.toList then 2 ^ k else bitK ps k s
def BitsK (ps : List ByteArray) (k : Nat) (D : DataW Unit) : Prop := Maps.IsMap D ∧ ∀ s : ByteArray, D.atKey (.string s.data.toList) (.lit (.int .u16 0)) = .lit (.int .u16 (bitK ps k s : Nat))
theorem BitsK.zero (ps : List ByteArray) : BitsK ps 0 (.map [] : DataW Unit) := ⟨⟨_, rfl⟩, fun _ => rfl⟩
theorem BitsK.next {ps : List ByteArray} {k : Nat} {D : DataW Unit} (h : BitsK ps k D) {x : ByteArray} (hx : ps.getD k ⟨#[]⟩ = x) : BitsK ps (k + 1) (D.put (.string x.data.toList) (.lit (.int .u16 ((2 ^ k : Nat) : Int)))) := by
  refine ⟨h.1.put _ _, fun s => ?_⟩
  unfold bitK
  rw [hx]
  by_cases e : x.data.toList = s.data.toList
  · rw [if_pos e, ← e]
    exact Maps.atKey_put_same h.1 (by trivial) _ _
  · rw [if_neg e, Maps.atKey_put_other (fun q => e (Lit.string.inj q).symm)]
    exact h.2 s
theorem bitK_lt {ps : List ByteArray} {s : ByteArray} : ∀ {k : Nat}, k ≤ 8 → bitK ps k s < 256
  | 0, _ => by unfold bitK; omega
  | k + 1, h => by
    unfold bitK
    split
    · have : 2 ^ k ≤ 2 ^ 7 := Nat.pow_le_pow_right (by omega) (by omega)
      omega
    · exact bitK_lt (by omega)
/-- A table: the names' bits (of the first k), the rows in one, the verdicts, what is final; all its blocks lie between lo and N. -/
structure TabI (W : World) (lo N T MB FR k : Nat) (nxv outv : Value) (D : DataW Unit) (ps : List ByteArray) (fl : List Int) (out : List Nat) (fin : List Bool) : Prop where
  box : W.heap[T]? = some (.cells #[.map (some MB), .int .i64 (ps.length : Nat), nxv, outv, .slice (some ⟨FR, 0, none⟩) fin.length fin.length] 92 (0, 0))
  map : W.ownsMap Try.prog 9 (plainElem Try.prog 55) MB k D
  bits : BitsK ps k D
  nx : W.ownsRow lo 3 1 nxv fl.length (numsI fl)
  outs : W.ownsRow lo 60 1 outv out.length (vdC out)
  fins : W.heap[FR]? = some (.cells (fin.map Value.bool).toArray 4 (0, 0))
  low : lo ≤ T ∧ lo ≤ MB ∧ lo ≤ FR
  high : T < N ∧ MB < N ∧ FR < N ∧ (∀ g, nxv.ownBlock = some g → g < N) ∧ (∀ g, outv.ownBlock = some g → g < N)
theorem mapAt {W W' : World} {MB n : Nat} {k : TypeId} {R : Value → Option (DataW Unit × List MemPlace)} {D : DataW Unit} (h : W.ownsMap Try.prog k R MB n D) (e : W'.heap[MB]? = W.heap[MB]?) : W'.ownsMap Try.prog k R MB n D := by
  obtain ⟨es, c, h1, h2⟩ := h
  exact ⟨es, c, e.trans h1, h2⟩
theorem TabI.keptF {F : List Nat} {W W' : World} {lo N T MB FR k : Nat} {nxv outv : Value} {D : DataW Unit} {ps : List ByteArray} {fl : List Int} {out : List Nat} {fin : List Bool} (h : TabI W lo N T MB FR k nxv outv D ps fl out fin) (kp : Kept F W W') (hF : ∀ x ∈ F, x < lo ∨ N ≤ x) : TabI W' lo N T MB FR k nxv outv D ps fl out fin := by
  have off : ∀ x, lo ≤ x → x < N → x ∉ F := fun x h1 h2 hx => by have := hF x hx; omega
  obtain ⟨a1, a2, a3⟩ := h.low
  obtain ⟨b1, b2, b3, b4, b5⟩ := h.high
  exact ⟨kp.at h.box (off T a1 b1), mapAt h.map (kp.block MB h.map.lt (off MB a2 b2)), h.bits, bx_kept h.nx kp (fun g hg => off g (bx_base h.nx hg).1 (b4 g hg)), bx_kept h.outs kp (fun g hg => off g (bx_base h.outs hg).1 (b5 g hg)), kp.at h.fins (off FR a3 b3), h.low, h.high⟩
theorem TabI.kept {W W' : World} {lo N T MB FR k : Nat} {nxv outv : Value} {D : DataW Unit} {ps : List ByteArray} {fl : List Int} {out : List Nat} {fin : List Bool} (h : TabI W lo N T MB FR k nxv outv D ps fl out fin) (kp : Kept [] W W') : TabI W' lo N T MB FR k nxv outv D ps fl out fin := h.keptF kp (by simp)
/-- One more name. -/
theorem TabI.put {W W' : World} {lo N T MB FR k : Nat} {nxv outv : Value} {D : DataW Unit} {ps : List ByteArray} {fl : List Int} {out : List Nat} {fin : List Bool} (h : TabI W lo N T MB FR k nxv outv D ps fl out fin) {x : ByteArray} (hx : ps.getD k ⟨#[]⟩ = x) (hm : W'.ownsMap Try.prog 9 (plainElem Try.prog 55) MB (k + 1) (D.put (.string x.data.toList) (.lit (.int .u16 ((2 ^ k : Nat) : Int))))) (hg : W.grownBy W' (some MB)) : TabI W' lo N T MB FR (k + 1) nxv outv (D.put (.string x.data.toList) (.lit (.int .u16 ((2 ^ k : Nat) : Int)))) ps fl out fin := by
  have hMB : ∃ es c, W.heap[MB]? = some (.map es c) := by obtain ⟨es, c, h1, _⟩ := h.map; exact ⟨es, c, h1⟩
  obtain ⟨es, c, hMB⟩ := hMB
  have ne : ∀ (b : Nat) (o : Array Value) (t : TypeId) (f : Nat × Nat), W.heap[b]? = some (Obj.cells o t f) → b ≠ MB := fun b o t f hb e => by subst e; rw [hMB] at hb; cases hb
  have at' : ∀ (b : Nat) (o : Array Value) (t : TypeId) (f : Nat × Nat), W.heap[b]? = some (Obj.cells o t f) → W'.heap[b]? = some (Obj.cells o t f) := fun b o t f hb => (hg.block b (lt_of hb) (fun e => ne b o t f hb (by cases e; rfl))).trans hb
  have row : ∀ {e : TypeId} {v : Value} {n : Nat} {xs : List Value}, W.ownsRow lo e 1 v n xs → W'.ownsRow lo e 1 v n xs := fun {e v n xs} hr => ⟨hr.1, hr.2.imp id (fun ⟨g, cap, cur, e1, hb, hw, hr⟩ => ⟨g, cap, cur, e1, hb, at' _ _ _ _ hw, hr⟩)⟩
  exact ⟨at' _ _ _ _ h.box, hm, h.bits.next hx, row h.nx, row h.outs, at' _ _ _ _ h.fins, h.low, h.high⟩
theorem own_low {W : World} {b b' : Nat} {e : TypeId} {size : Nat} {v : Value} {n : Nat} {xs : List Value} (h : W.ownsRow b e size v n xs) (hb : b' ≤ b) : W.ownsRow b' e size v n xs :=
  ⟨h.1, h.2.imp id (fun ⟨g, cap, cur, e1, hg, hr⟩ => ⟨g, cap, cur, e1, Nat.le_trans hb hg, hr⟩)⟩
/-- What tableOf has made ahead of its loop. -/
theorem tabI_of {w w1 : World} {ps : List ByteArray} {fl : List Int} {out : List Nat} {fin : List Bool} {nxv outv : Value} {m FR P nl : Nat} (hnl : fin.length = nl) (hP : w1.heap.size = P) (hnx : w1.ownsRow w.heap.size 3 1 nxv fl.length (numsI fl)) (hout : w1.ownsRow w.heap.size 60 1 outv out.length (vdC out)) (hfin : w1.heap[FR]? = some (.cells (fin.map Value.bool).toArray 4 (0, 0))) (hFR : w.heap.size ≤ FR) (hm : w1.ownsMap Try.prog 9 (plainElem Try.prog 55) m 0 (.map [] : DataW Unit)) (hk : Kept [] w w1) (hw : w.heap.size ≤ m) :
    ∃ W0, w1.alloc (.cells #[.map (some m), .int .i64 (ps.length : Nat), nxv, outv, .slice (some ⟨FR, 0, none⟩) nl nl] 92) = W0 ∧ Kept [] w1 W0 ∧ Kept [] w W0 ∧ P + 1 ≤ W0.heap.size ∧ TabI W0 w.heap.size (P + 1) P m FR 0 nxv outv (.map []) ps fl out fin := by
  subst hP hnl
  have ka : Kept [] w1 (w1.alloc (.cells #[.map (some m), .int .i64 (ps.length : Nat), nxv, outv, .slice (some ⟨FR, 0, none⟩) fin.length fin.length] 92)) := (Kept.refl [] w1).alloc _
  refine ⟨_, rfl, ka, keptB hk ka, by rw [World.size_alloc]; exact Nat.le_refl _, al0 w1 _, hm.alloc _, BitsK.zero ps, bx_kept hnx ka (by simp), bx_kept hout ka (by simp), ka.at hfin (by simp), ⟨hk.size, hw, hFR⟩, ⟨by omega, by have := hm.lt; omega, by have := lt_of hfin; omega, fun g hg => by have := (bx_base hnx hg).2; omega, fun g hg => by have := (bx_base hout hg).2; omega⟩⟩
set_option maxHeartbeats 2000000 in
/-- slices.Clone of verdicts. -/
theorem cloneV_any (out : List Nat) (b o c : Nat) (w : World) (ho : OutAt w b o out) (hfew : out.length ≤ 1000000) :
    Calls Try.prog 53 #[.slice (some ⟨b, o, none⟩) out.length c] w fun e w' => ∃ v', e = .returned v' ∧ Hid (w'.ownsRow w.heap.size 60 1 v' out.length (vdC out)) ∧ Hid (Kept [] w w') := by
  have hinf : (Try.prog.info? 60).map (fun i => (i.zero, i.size, i.bytes)) = some (some (.int .u8 0), 1, 1) := by kernel_rfl
  obtain ⟨i0, hi, hz0, hz1, hz2⟩ := info_parts hinf
  have heq : ∀ w, (binOp .eql 24 (.slice (some ⟨b, o, none⟩) out.length c) (.slice none 0 0)).run Try.prog w = .ok (.bool false) w := fun w => (Lib.run_eql_slice_nil (P := Try.prog) w 24 60 (some ⟨b, o, none⟩) out.length c 0 0 (by kernel_rfl))
  have HOW : Hid ((w.alloc (.cells #[] 60)).ownsRow w.heap.size 60 1 (.slice (some ⟨w.heap.size, 0, none⟩) 0 0) 0 []) := ⟨rfl, Or.inr ⟨w.heap.size, 0, #[], rfl, Nat.le_refl _, heap_alloc_new _ _, Nat.le_refl _, by unfold maxLen; omega, rfl, rfl⟩⟩
  have HNEWS : Hid (∀ j u, (vdC out)[j]? = some u → (w.alloc (.cells #[] 60)).cell? ((⟨b, o, none⟩ : Addr).add j) = some u) := by
    intro j u hj
    have hj' : j < out.length := by have := (List.getElem?_eq_some_iff.1 hj).1; rwa [vdC_len] at this
    have e : (⟨b, o, none⟩ : Addr).add j = ⟨b, o + j, none⟩ := by simp [Addr.add]
    rw [e, cell_kept0 ((Kept.refl [] w).alloc _) (ho j hj'), ← hj, vdC_at hj', List.getD_eq_getElem?_getD, List.getElem?_eq_getElem hj']
    rfl
  have HONE : Hid (∀ u, u ∈ vdC out → u.oneCell' = true) := vdC_one out
  have HLEN : Hid ((vdC out).length = out.length * 1) := by rw [vdC_len]; exact (Nat.mul_one _).symm
  have HF : Hid (out.length ≤ 1000000) := hfew
  clear ho hfew
  go_enter Try.func53, Try.ntmps53
  go_wp2_with (at_builtin; refine wpList_append_own _ rfl (.tmp 5) (.tmp 6) 24 rfl w.heap.size 60 i0 _ 1 1 (by kernel_rfl) hi hz0 hz1 hz2 rfl (by decide) (.slice (some ⟨w.heap.size, 0, none⟩) 0 0) 0 [] rfl HOW.out ⟨b, o, none⟩ out.length c (vdC out) rfl HLEN.out HNEWS.out HONE.out (by have := HF.out; unfold maxLen; omega) (by have := HF.out; omega) (by simp) ?_; intro v' w1 hown hgrow hnil; have HO : Hid (w1.ownsRow w.heap.size 60 1 v' (0 + out.length) ([] ++ vdC out)) := hown; have HG : Hid _ := hgrow; clear hown hgrow hnil)
  go_ret
  refine ⟨_, rfl, by simpa [Hid] using HO, ((Kept.refl [] w).alloc _).grown HG.out (fun k hk => ?_)⟩
  simp [Value.ownBlock] at hk
  right
  omega
end Go.Proofs.Ytbbfajbnklgncaa
