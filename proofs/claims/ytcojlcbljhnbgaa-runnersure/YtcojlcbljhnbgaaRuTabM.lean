/- A runner's table in memory. -/
import Derived.Test.YtcojlcbljhnbgaaRuConcat
namespace Go.Proofs.Ytcojlcbljhnbgaa
open Go.RowKit Go.Shelf Go.Maps

theorem lawStrR : Keyed Try.prog 9 := string_keyed Try.underlying9
theorem zeroU16R (w : World) : (zeroValue 40).run Try.prog w = .ok (.int .u16 0) w := by kernel_rfl
/-- Verdicts as cells. -/
def vdC (xs : List Nat) : List Value := xs.map fun x => Value.int .u8 (x : Nat)
theorem vdC_len (xs : List Nat) : (vdC xs).length = xs.length := by simp [vdC]
theorem vdC_at {xs : List Nat} {k : Nat} (h : k < xs.length) : (vdC xs)[k]? = some (Value.int .u8 (xs[k] : Nat)) := by simp [vdC, h]
theorem vdC_one (xs : List Nat) : ∀ u ∈ vdC xs, u.oneCell' = true := by
  intro u hu
  obtain ⟨x, _, rfl⟩ := List.mem_map.1 hu
  rfl
/-- The bit of a name, by the first k names. -/
def bitK (ps : List ByteArray) : Nat → ByteArray → Nat
  | 0, _ => 0
  | k + 1, s => if (ps.getD k ⟨#[]⟩).data.toList = s.data.toList then 2 ^ k else bitK ps k s
def BitsK (ps : List ByteArray) (k : Nat) (D : DataW Unit) : Prop := Maps.IsMap D ∧ ∀ s : ByteArray, D.atKey (.string s.data.toList) (.lit (.int .u16 0)) = .lit (.int .u16 (bitK ps k s : Nat))
theorem BitsK.zero (ps : List ByteArray) : BitsK ps 0 (.map [] : DataW Unit) := ⟨⟨_, rfl⟩, fun _ => rfl⟩
theorem BitsK.next {ps : List ByteArray} {k : Nat} {D : DataW Unit} (h : BitsK ps k D) {x : ByteArray} (hx : ps.getD k ⟨#[]⟩ = x) : BitsK ps (k + 1) (D.put (.string x.data.toList) (.lit (.int .u16 ((2 ^ k : Nat) : Int)))) := by
  refine ⟨h.1.put _ _, fun s => ?_⟩
  unfold bitK
  rw [hx]
  by_cases e : x.data.toList = s.data.toList
  · rw [if_pos e, ← e]
    exact Maps.atKey_put_same h.1 (by trivial) _ _
  · rw [if_neg e, Maps.atKey_put_other (fun q => e (Lit.string.inj q).symm)]
    exact h.2 s
theorem bitK_lt {ps : List ByteArray} {s : ByteArray} : ∀ {k : Nat}, k ≤ 8 → bitK ps k s < 256
  | 0, _ => by unfold bitK; omega
  | k + 1, h => by
    unfold bitK
    split
    · have : 2 ^ k ≤ 2 ^ 7 := Nat.pow_le_pow_right (by omega) (by omega)
      omega
    · exact bitK_lt (by omega)
/-- A table: the names' bits (of the first k), the rows in one, the verdicts, what is final; all its blocks lie between lo and N. -/
structure TabI (W : World) (lo N T MB FR k : Nat) (nxv outv : Value) (D : DataW Unit) (ps : List ByteArray) (fl : List Int) (out : List Nat) (fin : List Bool) : Prop where
  box : W.heap[T]? = some (.cells #[.map (some MB), .int .i64 (ps.length : Nat), nxv, outv, .slice (some ⟨FR, 0, none⟩) fin.length fin.length] 63 (0, 0))
  map : W.ownsMap Try.prog 9 (plainElem Try.prog 40) MB k D
  bits : BitsK ps k D
  nx : W.ownsRow lo 3 1 nxv fl.length (numsI fl)
  outs : W.ownsRow lo 37 1 outv out.length (vdC out)
  fins : W.heap[FR]? = some (.cells (fin.map Value.bool).toArray 4 (0, 0))
  low : lo ≤ T ∧ lo ≤ MB ∧ lo ≤ FR
  high : T < N ∧ MB < N ∧ FR < N ∧ (∀ g, nxv.ownBlock = some g → g < N) ∧ (∀ g, outv.ownBlock = some g → g < N)
theorem mapAt {W W' : World} {MB n : Nat} {k : TypeId} {R : Value → Option (DataW Unit × List MemPlace)} {D : DataW Unit} (h : W.ownsMap Try.prog k R MB n D) (e : W'.heap[MB]? = W.heap[MB]?) : W'.ownsMap Try.prog k R MB n D := by
  obtain ⟨es, c, h1, h2⟩ := h
  exact ⟨es, c, e.trans h1, h2⟩
theorem TabI.keptF {F : List Nat} {W W' : World} {lo N T MB FR k : Nat} {nxv outv : Value} {D : DataW Unit} {ps : List ByteArray} {fl : List Int} {out : List Nat} {fin : List Bool} (h : TabI W lo N T MB FR k nxv outv D ps fl out fin) (kp : Kept F W W') (hF : ∀ x ∈ F, x < lo ∨ N ≤ x) : TabI W' lo N T MB FR k nxv outv D ps fl out fin := by
  have off : ∀ x, lo ≤ x → x < N → x ∉ F := fun x h1 h2 hx => by have := hF x hx; omega
  obtain ⟨a1, a2, a3⟩ := h.low
  obtain ⟨b1, b2, b3, b4, b5⟩ := h.high
  exact ⟨kp.at h.box (off T a1 b1), mapAt h.map (kp.block MB h.map.lt (off MB a2 b2)), h.bits, bx_kept h.nx kp (fun g hg => off g (bx_base h.nx hg).1 (b4 g hg)), bx_kept h.outs kp (fun g hg => off g (bx_base h.outs hg).1 (b5 g hg)), kp.at h.fins (off FR a3 b3), h.low, h.high⟩
theorem TabI.kept {W W' : World} {lo N T MB FR k : Nat} {nxv outv : Value} {D : DataW Unit} {ps : List ByteArray} {fl : List Int} {out : List Nat} {fin : List Bool} (h : TabI W lo N T MB FR k nxv outv D ps fl out fin) (kp : Kept [] W W') : TabI W' lo N T MB FR k nxv outv D ps fl out fin := h.keptF kp (by simp)
/-- One more name. -/
theorem TabI.put {W W' : World} {lo N T MB FR k : Nat} {nxv outv : Value} {D : DataW Unit} {ps : List ByteArray} {fl : List Int} {out : List Nat} {fin : List Bool} (h : TabI W lo N T MB FR k nxv outv D ps fl out fin) {x : ByteArray} (hx : ps.getD k ⟨#[]⟩ = x) (hm : W'.ownsMap Try.prog 9 (plainElem Try.prog 40) MB (k + 1) (D.put (.string x.data.toList) (.lit (.int .u16 ((2 ^ k : Nat) : Int))))) (hg : W.grownBy W' (some MB)) : TabI W' lo N T MB FR (k + 1) nxv outv (D.put (.string x.data.toList) (.lit (.int .u16 ((2 ^ k : Nat) : Int)))) ps fl out fin := by
  have hMB : ∃ es c, W.heap[MB]? = some (.map es c) := by obtain ⟨es, c, h1, _⟩ := h.map; exact ⟨es, c, h1⟩
  obtain ⟨es, c, hMB⟩ := hMB
  have ne : ∀ (b : Nat) (o : Array Value) (t : TypeId) (f : Nat × Nat), W.heap[b]? = some (Obj.cells o t f) → b ≠ MB := fun b o t f hb e => by subst e; rw [hMB] at hb; cases hb
  have at' : ∀ (b : Nat) (o : Array Value) (t : TypeId) (f : Nat × Nat), W.heap[b]? = some (Obj.cells o t f) → W'.heap[b]? = some (Obj.cells o t f) := fun b o t f hb => (hg.block b (lt_of hb) (fun e => ne b o t f hb (by cases e; rfl))).trans hb
  have row : ∀ {e : TypeId} {v : Value} {n : Nat} {xs : List Value}, W.ownsRow lo e 1 v n xs → W'.ownsRow lo e 1 v n xs := fun {e v n xs} hr => ⟨hr.1, hr.2.imp id (fun ⟨g, cap, cur, e1, hb, hw, hr⟩ => ⟨g, cap, cur, e1, hb, at' _ _ _ _ hw, hr⟩)⟩
  exact ⟨at' _ _ _ _ h.box, hm, h.bits.next hx, row h.nx, row h.outs, at' _ _ _ _ h.fins, h.low, h.high⟩
theorem own_low {W : World} {b b' : Nat} {e : TypeId} {size : Nat} {v : Value} {n : Nat} {xs : List Value} (h : W.ownsRow b e size v n xs) (hb : b' ≤ b) : W.ownsRow b' e size v n xs :=
  ⟨h.1, h.2.imp id (fun ⟨g, cap, cur, e1, hg, hr⟩ => ⟨g, cap, cur, e1, Nat.le_trans hb hg, hr⟩)⟩
/-- What tableOf has made ahead of its loop. -/
theorem tabI_of {w w1 : World} {ps : List ByteArray} {fl : List Int} {out : List Nat} {fin : List Bool} {nxv outv : Value} {m FR P nl : Nat} (hnl : fin.length = nl) (hP : w1.heap.size = P) (hnx : w1.ownsRow w.heap.size 3 1 nxv fl.length (numsI fl)) (hout : w1.ownsRow w.heap.size 37 1 outv out.length (vdC out)) (hfin : w1.heap[FR]? = some (.cells (fin.map Value.bool).toArray 4 (0, 0))) (hFR : w.heap.size ≤ FR) (hm : w1.ownsMap Try.prog 9 (plainElem Try.prog 40) m 0 (.map [] : DataW Unit)) (hk : Kept [] w w1) (hw : w.heap.size ≤ m) :
    ∃ W0, w1.alloc (.cells #[.map (some m), .int .i64 (ps.length : Nat), nxv, outv, .slice (some ⟨FR, 0, none⟩) nl nl] 63) = W0 ∧ Kept [] w1 W0 ∧ Kept [] w W0 ∧ P + 1 ≤ W0.heap.size ∧ TabI W0 w.heap.size (P + 1) P m FR 0 nxv outv (.map []) ps fl out fin := by
  subst hP hnl
  have ka : Kept [] w1 (w1.alloc (.cells #[.map (some m), .int .i64 (ps.length : Nat), nxv, outv, .slice (some ⟨FR, 0, none⟩) fin.length fin.length] 63)) := (Kept.refl [] w1).alloc _
  refine ⟨_, rfl, ka, keptB hk ka, by rw [World.size_alloc]; exact Nat.le_refl _, al0 w1 _, hm.alloc _, BitsK.zero ps, bx_kept hnx ka (by simp), bx_kept hout ka (by simp), ka.at hfin (by simp), ⟨hk.size, hw, hFR⟩, ⟨by omega, by have := hm.lt; omega, by have := lt_of hfin; omega, fun g hg => by have := (bx_base hnx hg).2; omega, fun g hg => by have := (bx_base hout hg).2; omega⟩⟩
set_option maxHeartbeats 2000000 in
/-- slices.Clone of verdicts. -/
theorem cloneV_any (out : List Nat) (b o c : Nat) (w : World) (ho : OutAt w b o out) (hfew : out.length ≤ 1000000) :
    Calls Try.prog 31 #[.slice (some ⟨b, o, none⟩) out.length c] w fun e w' => ∃ v', e = .returned v' ∧ Hid (w'.ownsRow w.heap.size 37 1 v' out.length (vdC out)) ∧ Hid (Kept [] w w') := by
  have hinf : (Try.prog.info? 37).map (fun i => (i.zero, i.size, i.bytes)) = some (some (.int .u8 0), 1, 1) := by kernel_rfl
  obtain ⟨i0, hi, hz0, hz1, hz2⟩ := info_parts hinf
  have heq : ∀ w, (binOp .eql 25 (.slice (some ⟨b, o, none⟩) out.length c) (.slice none 0 0)).run Try.prog w = .ok (.bool false) w := fun w => (Lib.run_eql_slice_nil (P := Try.prog) w 25 37 (some ⟨b, o, none⟩) out.length c 0 0 (by kernel_rfl))
  have HOW : Hid ((w.alloc (.cells #[] 37)).ownsRow w.heap.size 37 1 (.slice (some ⟨w.heap.size, 0, none⟩) 0 0) 0 []) := ⟨rfl, Or.inr ⟨w.heap.size, 0, #[], rfl, Nat.le_refl _, heap_alloc_new _ _, Nat.le_refl _, by unfold maxLen; omega, rfl, rfl⟩⟩
  have HNEWS : Hid (∀ j u, (vdC out)[j]? = some u → (w.alloc (.cells #[] 37)).cell? ((⟨b, o, none⟩ : Addr).add j) = some u) := by
    intro j u hj
    have hj' : j < out.length := by have := (List.getElem?_eq_some_iff.1 hj).1; rwa [vdC_len] at this
    have e : (⟨b, o, none⟩ : Addr).add j = ⟨b, o + j, none⟩ := by simp [Addr.add]
    rw [e, cell_kept0 ((Kept.refl [] w).alloc _) (ho j hj'), ← hj, vdC_at hj', List.getD_eq_getElem?_getD, List.getElem?_eq_getElem hj']
    rfl
  have HONE : Hid (∀ u, u ∈ vdC out → u.oneCell' = true) := vdC_one out
  have HLEN : Hid ((vdC out).length = out.length * 1) := by rw [vdC_len]; exact (Nat.mul_one _).symm
  have HF : Hid (out.length ≤ 1000000) := hfew
  clear ho hfew
  go_enter Try.func31, Try.ntmps31
  go_wp2_with (at_builtin; refine wpList_append_own _ rfl (.tmp 5) (.tmp 6) 25 rfl w.heap.size 37 i0 _ 1 1 (by kernel_rfl) hi hz0 hz1 hz2 rfl (by decide) (.slice (some ⟨w.heap.size, 0, none⟩) 0 0) 0 [] rfl HOW.out ⟨b, o, none⟩ out.length c (vdC out) rfl HLEN.out HNEWS.out HONE.out (by have := HF.out; unfold maxLen; omega) (by have := HF.out; omega) (by simp) ?_; intro v' w1 hown hgrow hnil; have HO : Hid (w1.ownsRow w.heap.size 37 1 v' (0 + out.length) ([] ++ vdC out)) := hown; have HG : Hid _ := hgrow; clear hown hgrow hnil)
  go_ret
  refine ⟨_, rfl, by simpa [Hid] using HO, ((Kept.refl [] w).alloc _).grown HG.out (fun k hk => ?_)⟩
  simp [Value.ownBlock] at hk
  right
  omega
end Go.Proofs.Ytcojlcbljhnbgaa
