/- math/bits.Mul of 1; slices.Repeat of one 'true'. -/
import Derived.Test.YtbbfajbnklgncaaHA
import Derived.Shelf.Bits.Mul64
import Derived.Lib.SlBuf
import Derived.Test.YtbbfajbnklgncaaHD
import Derived.Deep.AppendLies
import Derived.Deep.RegionLaw
namespace Go.Proofs.Ytbbfajbnklgncaa
open Go.RowKit Go.Shelf

theorem mul64_one (n : Nat) (hn : n < 4294967296) (w : World) :
    Calls Try.prog 82 #[.int .u64 1, .int .u64 (n : Nat)] w fun e w' => e = .returned (.tuple #[.int .u64 0, .int .u64 (n : Nat)]) ∧ w' = w := by
  have e1 : bits .and .u64 (1 : Int) 4294967295 = 1 := by decide +kernel
  have e2 : bits .and .u64 (n : Int) 4294967295 = (n : Int) := by rw [Mul64.maskN n (by omega)]; omega
  have e3 : (n : Int) / 4294967296 = 0 := by omega
  have e4 : IntKind.u64.wrap (n : Int) = (n : Int) := Mul64.wrapN n (by omega)
  have e5 : bits .and .u64 (0 : Int) 4294967295 = 0 := by decide +kernel
  go_enter Try.func82, Try.ntmps82
  go_wp2
  go_ret2
  exact ⟨rfl, rfl⟩
theorem mul_one_any (n : Nat) (hn : n < 4294967296) (w : World) :
    Calls Try.prog 77 #[.int .u64 1, .int .u64 (n : Nat)] w fun e w' => e = .returned (.tuple #[.int .u64 0, .int .u64 (n : Nat)]) ∧ w' = w := by
  go_enter Try.func77, Try.ntmps77
  go_wp2_with (go_at_call 82; refine (mul64_one n hn _).mono ?_; rintro e w1 ⟨rfl, hw1⟩; rw [hw1]; clear hw1)
  go_ret2
  exact ⟨rfl, rfl⟩

theorem bl_step (n k : Nat) (hk : k < n) : ((List.replicate k true ++ List.replicate (n - k) false).map Value.bool).toArray.setIfInBounds k (.bool true) = ((List.replicate (k + 1) true ++ List.replicate (n - (k + 1)) false).map Value.bool).toArray := by
  apply Array.ext'
  rw [Array.toList_setIfInBounds, ← List.map_set]
  congr 1
  rw [List.set_append_right _ _ (by simp), List.length_replicate, Nat.sub_self, show n - k = (n - (k + 1)) + 1 from by omega, List.replicate_succ, List.set_cons_zero, List.replicate_succ' , List.append_assoc]
  rfl
/-- The block of n bools of which the first k are true. -/
def Trus (W : World) (B n k : Nat) : Prop := W.heap[B]? = some (.cells ((List.replicate k true ++ List.replicate (n - k) false).map Value.bool).toArray 4 (0, 0))
theorem Trus.cells {W : World} {B n k : Nat} (h : Trus W B n k) (hk : k ≤ n) (j : Nat) (hj : j < n) : W.cell? ⟨B, j, none⟩ = some (.bool (decide (j < k))) ∧ W.frozen? ⟨B, j, none⟩ = false := by
  refine ⟨?_, free_of h j⟩
  rw [cell_of h]
  simp only [List.getElem?_toArray, List.getElem?_map, List.getElem?_append, List.length_replicate]
  by_cases hjk : j < k
  · simp [hjk]
  · have : j - k < n - k := by omega
    simp [hjk, this]
theorem Trus.set (n : Nat) (B : Nat) : ∀ (m k : Nat) (W : World), k + m ≤ n → Trus W B n k → Trus (W.setCells B k (List.replicate m (.bool true))) B n (k + m)
  | 0, _, _, _, h => h
  | m + 1, k, _, hkm, h => by
    rw [List.replicate_succ, World.setCells]
    have h1 := row_set (i := k) h (.bool true)
    rw [bl_step n k (by omega)] at h1
    have := Trus.set n B m (k + 1) _ (by omega) h1
    rwa [show k + 1 + m = k + (m + 1) from by omega] at this
theorem kept_setCells (B : Nat) : ∀ (vs : List Value) (k : Nat) (w W : World), (Kept [] w W ∧ w.heap.size ≤ B) → Kept [] w (W.setCells B k vs)
  | [], _, _, _, h => h.1
  | v :: r, k, w, _, h => kept_setCells B r (k + 1) w _ ⟨h.1.setCell (.inr h.2) v, h.2⟩
theorem Try.infoBoR : (Try.prog.info? 4).map (fun i => (i.zero, i.size, i.bytes)) = some (some (.bool false), 1, 1) := by kernel_rfl
theorem make_boolsR (w : World) (k : Nat) (hk : k ≤ 1000000) : Sem.run Try.prog (Instr.makeSlice 90 (.int .i64 (k : Nat)) (.int .i64 (k : Nat))) w = .ok (.slice (some ⟨w.heap.size, 0, none⟩) k k) (w.alloc (.cells ((List.replicate k false).map Value.bool).toArray 4)) := by
  obtain ⟨i, hi, hz, hs, hb⟩ := info_parts Try.infoBoR
  have h := run_make (P := Try.prog) w 90 4 i _ Try.underlying90 hi hz .i64 .i64 (k : Int) (k : Int) (by omega) (by omega) (by rw [hb]; omega) (by omega)
  have e : madeCells (Value.cells (.bool false)) (k * 1) = ((List.replicate k false).map Value.bool).toArray := by
    rw [Nat.mul_one]
    apply Array.ext'
    simp only [madeCells, Value.cells, List.size_toArray, List.length_cons, List.length_nil, Array.toList_map, Array.toList_range]
    apply List.ext_getElem
    · simp
    · intro i h1 h2
      simp [Nat.mod_one]
  rw [h, hs, Int.toNat_natCast, e]
/-- copy(l[k:], l[:k]). -/
theorem copy_trues (W : World) (B A n k m : Nat) (ty : TypeId) (c sc sc2 : Nat) (h : Trus W B n k) (hk : k ≤ n) (hA : ∀ j, j < m → W.cell? ⟨A, j, none⟩ = some (.bool true)) (hm : m = Nat.min sc (n - k)) :
    (Builtin.copy_ #[90, 90] ty #[.slice (some ⟨B, k, none⟩) (n - k) c, .slice (some ⟨A, 0, none⟩) sc sc2]).run Try.prog W = .ok (.int .i64 (m : Nat)) (W.setCells B k (List.replicate m (.bool true))) := by
  obtain ⟨i, hi, hz, hs, hb⟩ := info_parts Try.infoBoR
  have hle : k + m ≤ n := by rw [hm]; exact (by have h2 : Nat.min sc (n - k) ≤ n - k := Nat.min_le_right sc (n - k); omega)
  have := run_copy_cells (P := Try.prog) W 90 90 ty 4 B k (n - k) c ⟨A, 0, none⟩ sc sc2 (List.replicate m (.bool true)) Try.underlying90 (by rw [hi]; simp [hs]) (by rw [List.length_replicate]; exact hm) (fun j v hj => by
    rw [List.getElem?_replicate] at hj
    split at hj
    · cases hj
      have h9 := hA j (by assumption)
      have e9 : Addr.add ⟨A, 0, none⟩ j = ⟨A, j, none⟩ := by simp [Addr.add]; intro e; exact e.symm
      rw [e9]; exact h9
    · cases hj) (fun j hj => by rw [List.length_replicate] at hj; rw [(h.cells hk (k + j) (by omega)).1]; rfl) (fun j hj => by rw [List.length_replicate] at hj; exact (h.cells hk (k + j) (by omega)).2) (fun v hv => by rw [List.eq_of_mem_replicate hv]; rfl)
  rw [List.length_replicate] at this
  exact this
set_option maxHeartbeats 1600000 in
set_option maxRecDepth 10000 in
theorem repeat_any (A n : Nat) (w : World) (hA : w.cell? ⟨A, 0, none⟩ = some (.bool true)) (hn : n ≤ 1000000) :
    Calls Try.prog 65 #[.slice (some ⟨A, 0, none⟩) 1 1, .int .i64 (n : Nat)] w fun e w' => e = .returned (.slice (some ⟨w.heap.size, 0, none⟩) n n) ∧ Trus w' w.heap.size n n ∧ Kept [] w w' := by
  have hmk := make_boolsR w n hn
  obtain ⟨V, hV⟩ : ∃ V, w.alloc (.cells ((List.replicate n false).map Value.bool).toArray 4) = V := ⟨_, rfl⟩
  have HB0 : Hid (Trus V w.heap.size n 0) := by
    show Trus V _ n 0
    rw [← hV]; unfold Trus
    simpa using al0 w (.cells ((List.replicate n false).map Value.bool).toArray 4)
  have HK0 : Hid (Kept [] w V) := by show Kept [] w V; rw [← hV]; exact (Kept.refl [] w).alloc _
  rw [hV] at hmk
  have z0 : (0 : Int) ≤ (n : Int) := by omega
  have z1 : ¬ ((n : Int) < 0) := by omega
  have e4 : IntKind.u64.wrap (n : Int) = (n : Int) := Mul64.wrapN n (by omega)
  have e5 : IntKind.i64.wrap (n : Int) = (n : Int) := by rw [IntKind.wrap_i64]; omega
  have z2 : ¬ ((9223372036854775807 : Int) < (n : Int)) := by omega
  obtain ⟨m0, hm0⟩ : ∃ m0, m0 = Nat.min 1 n := ⟨_, rfl⟩
  have HCP : Hid (∀ ty, (Builtin.copy_ #[90, 90] ty #[.slice (some ⟨w.heap.size, 0, none⟩) n n, .slice (some ⟨A, 0, none⟩) 1 1]).run Try.prog V = .ok (.int .i64 (m0 : Nat)) (V.setCells w.heap.size 0 (List.replicate m0 (.bool true)))) := fun ty => copy_trues V w.heap.size A n 0 m0 ty n 1 1 HB0.out (by omega) (fun j hj => by
    have : m0 ≤ 1 := by rw [hm0]; exact Nat.min_le_left _ _
    obtain rfl : j = 0 := by omega
    exact cell_kept0 HK0.out hA) hm0
  obtain ⟨U, hU⟩ : ∃ U, V.setCells w.heap.size 0 (List.replicate m0 (.bool true)) = U := ⟨_, rfl⟩
  have hm1 : m0 ≤ n := by rw [hm0]; exact Nat.min_le_right _ _
  have HB1 : Hid (Trus U w.heap.size n m0) := by show Trus U _ _ _; rw [← hU]; have := Trus.set n w.heap.size m0 0 V (by omega) HB0.out; rwa [Nat.zero_add] at this
  have HK1 : Hid (Kept [] w U) := by show Kept [] w U; rw [← hU]; exact kept_setCells _ _ _ _ _ ⟨HK0.out, Nat.le_refl _⟩
  rw [hU] at HCP
  have HM0 : Hid (0 < n → 0 < m0) := by show 0 < n → 0 < m0; rw [hm0]; intro h; exact Nat.lt_min.2 ⟨by omega, h⟩
  obtain ⟨B, hB⟩ : ∃ B, w.heap.size = B := ⟨_, rfl⟩
  rw [hB] at hmk HCP HB0 HB1 ⊢
  have HW : Hid (w.heap.size = B) := hB
  clear hU hm0 hV HB0 HK0 hA hB
  go_enter Try.func65, Try.ntmps65
  go_wp2_with (first
    | (go_at_call 77; refine (mul_one_any n (by omega) _).mono ?_; rintro e w1 ⟨rfl, hw1⟩; rw [hw1]; clear hw1)
    | fail)
  rw [HCP.out]
  go_wp2
  go_loopw [8] (fun v wr => ∃ k : Nat, v = .int .i64 (k : Nat) ∧ k ≤ n ∧ (0 < n → 0 < k) ∧ Hid (Trus wr B n k) ∧ Hid (Kept [] w wr)) (fun v _ => n - (intOf v).toNat)
  case atStart => exact ⟨m0, rfl, hm1, HM0.out, HB1.out, HK1.out⟩
  case round =>
    obtain ⟨k, rfl, hk, hk0, HB, HK⟩ := hrel
    by_cases hlt : k < n
    · have q0 : (k : Int) < (n : Int) := by omega
      have q1 : (0 : Int) ≤ (k : Int) := by omega
      have q2 : (k : Int) ≤ (n : Int) := by omega
      have q3 : ¬ n = k := by omega
      obtain ⟨m, hm⟩ : ∃ m, m = Nat.min k (n - k) := ⟨_, rfl⟩
      have m1 : m ≤ k := by rw [hm]; exact Nat.min_le_left _ _
      have m2 : m ≤ n - k := by rw [hm]; exact Nat.min_le_right _ _
      have m3 : 0 < m := by rw [hm]; exact Nat.lt_min.2 ⟨hk0 (by omega), by omega⟩
      have hck := copy_trues wr.drew B B n k m 3 (n - k) k n HB.out hk (fun j hj => by
        refine ((HB.out.cells hk j (by omega)).1).trans ?_; simp; omega) hm
      obtain ⟨U2, hU2⟩ : ∃ U2, wr.drew.setCells B k (List.replicate m (.bool true)) = U2 := ⟨_, rfl⟩
      have HB2 : Hid (Trus U2 B n (k + m)) := by show Trus U2 _ _ _; rw [← hU2]; exact Trus.set n B m k wr.drew (by omega) HB.out
      have HK2 : Hid (Kept [] w U2) := by show Kept [] w U2; rw [← hU2]; exact kept_setCells _ _ _ _ _ ⟨HK.out.drew, Nat.le_of_eq HW.out⟩
      rw [hU2] at hck
      clear hU2 hm HCP hmk
      have e6 : IntKind.i64.wrap ((k : Int) + (m : Int)) = ((k + m : Nat) : Int) := by rw [IntKind.wrap_i64]; omega
      have m4 : k + m ≤ n := by omega
      have m5 : n - (k + m) < n - k := by omega
      go_wp2
      go_region
      all_goals go_wp2
      go_roundw
      case rel => exact ⟨k + m, by go_num, m4, fun _ => by omega, HB2.out, HK2.out⟩
      case measure => simp [intOf]; omega
    · obtain rfl : k = n := by omega
      have q0 : ¬ ((k : Int) < (k : Int)) := by omega
      go_wp2
      go_ret
      exact ⟨rfl, HB.out, HK.out⟩
end Go.Proofs.Ytbbfajbnklgncaa

/- package buchi: rowsOf of one edge. -/
namespace Go.Proofs.Ytbbfajbnklgncaa
open Go.RowKit Go.Shelf

theorem set_one {W : World} {B : Nat} {x : Value} {T : TypeId} (h : W.heap[B]? = some (.cells #[x] T (0, 0))) (v : Value) : (W.setCell ⟨B, 0, none⟩ v).drew.heap[B]? = some (.cells #[v] T (0, 0)) := by
  show (W.setCell ⟨B, 0, none⟩ v).heap[B]? = _
  simp only [World.setCell, Array.getElem?_modify, if_true, h, Option.map_some]
  rfl
end Go.Proofs.Ytbbfajbnklgncaa

/- package buchi: drop's closure, slices.IndexFunc and DeleteFunc by it. -/
namespace Go.Proofs.Ytbbfajbnklgncaa
open Go.RowKit Go.Shelf

/-- Truths in a list. -/
structure Bools (W : World) (v : Value) (bs : List Bool) : Prop where
  few : bs.length ≤ 2199023255552
  lie : (v = .slice none 0 0 ∧ bs = []) ∨ ∃ b o c, v = .slice (some ⟨b, o, none⟩) bs.length c ∧ bs.length ≤ c ∧ c ≤ maxLen ∧ ∀ i (h : i < bs.length), W.cell? ⟨b, o + i, none⟩ = some (.bool bs[i])
theorem Bools.kept {W W' : World} {v : Value} {bs : List Bool} (h : Bools W v bs) (k : Kept [] W W') : Bools W' v bs := by
  refine ⟨h.few, ?_⟩
  rcases h.lie with h1 | ⟨b, o, c, h1, h2, h3, h4⟩
  · exact .inl h1
  · exact .inr ⟨b, o, c, h1, h2, h3, fun i hi => cell_kept0 k (h4 i hi)⟩
theorem Bools.there {W : World} {v : Value} {bs : List Bool} (h : Bools W v bs) (h0 : 0 < bs.length) : ∃ b o c, v = .slice (some ⟨b, o, none⟩) bs.length c ∧ bs.length ≤ c ∧ c ≤ maxLen ∧ ∀ i (h : i < bs.length), W.cell? ⟨b, o + i, none⟩ = some (.bool bs[i]) := by
  rcases h.lie with ⟨_, h2⟩ | h2
  · rw [h2] at h0; simp at h0
  · exact h2
/-- A spot is out. -/
def outB (bs : List Bool) (x : Int) : Bool := !(bs.getD x.toNat true)
/-- Numbers of spots. -/
def Spots (bs : List Bool) (xs : List Int) : Prop := ∀ x ∈ xs, 0 ≤ x ∧ x < (bs.length : Int)
theorem Spots.nat {bs : List Bool} {xs : List Int} (h : Spots bs xs) {k : Nat} (hk : k < xs.length) : ∃ n : Nat, xs[k] = (n : Int) ∧ ∃ hn : n < bs.length, outB bs xs[k] = !bs[n] := by
  obtain ⟨h1, h2⟩ := h _ (List.getElem_mem hk)
  refine ⟨xs[k].toNat, by omega, by omega, ?_⟩
  unfold outB
  rw [List.getD_eq_getElem?_getD, List.getElem?_eq_getElem (by omega)]
  rfl
end Go.Proofs.Ytbbfajbnklgncaa

/- A struct in memory whose fields are slices with rows of their own: what append into one of them leaves. -/
namespace Go.Proofs.Ytbbfajbnklgncaa
open Go.RowKit Go.Shelf

theorem bx_base {W : World} {base : Nat} {e : TypeId} {size : Nat} {v : Value} {n g : Nat} {xs : List Value} (h : W.ownsRow base e size v n xs) (hg : v.ownBlock = some g) : base ≤ g ∧ g < W.heap.size := by
  rcases h.2 with ⟨rfl, _⟩ | ⟨g', cap, cur, rfl, hb, hw, _⟩
  · cases hg
  · cases hg; exact ⟨hb, lt_of hw⟩
theorem bx_kept {F : List Nat} {W W' : World} {base : Nat} {e : TypeId} {size : Nat} {v : Value} {n : Nat} {xs : List Value} (h : W.ownsRow base e size v n xs) (k : Kept F W W') (hF : ∀ g, v.ownBlock = some g → g ∉ F) : W'.ownsRow base e size v n xs := by
  refine ⟨h.1, ?_⟩
  rcases h.2 with h2 | ⟨g, cap, cur, rfl, hb, hw, h3⟩
  · exact .inl h2
  · exact .inr ⟨g, cap, cur, rfl, hb, k.at hw (hF g rfl), h3⟩
theorem bx_set {w : World} {g i : Nat} {cs : Array Value} {T : TypeId} {fz : Nat × Nat} (h : w.heap[g]? = some (.cells cs T fz)) (v : Value) : (w.setCell ⟨g, i, none⟩ v).heap[g]? = some (.cells (cs.setIfInBounds i v) T fz) := by
  simp only [World.setCell, Array.getElem?_modify, if_true]
  rw [h]
  simp
theorem bx_append_run {P : Program} {ops : Array Oper} {o : Oper} {a : Act} {w : World} {K : Act → World → Prop} {Q : Exit → Act → World → Prop} {E : Prop}
    (hg : o.guard = none) (s x : Operand) (t : TypeId) (hop : o.op = Op.call { callee := Callee.builtin Builtin.append, args := #[s, x], argTypes := #[t, t] })
    (v u v' : Value) (w' : World) (hs : a.eval s = v) (hx : a.eval x = u) (hrun : (Builtin.append_ #[t, t] o.type #[v, u]).run P w = .ok v' w') (hK : K (a.put o.dst v') w') :
    if Region.wanted o (yielded ops a.tmps) = true then Oper.wp P o a w K Q else E := by
  have hw : Region.wanted o (yielded ops a.tmps) = true := by simp [Region.wanted, hg]
  rw [if_pos hw]
  unfold Oper.wp
  simp [execOp, hop, resolve, invoke, builtin, hs, hx, hrun, Result.andThen]
  exact hK
/-- A row of elements. -/
structure Rw where
  e : TypeId
  sz : Nat
  n : Nat
  xs : List Value
/-- The struct at F, its fields, and those among them that are rows of its own, above it. -/
structure FBox (w0 W : World) (F : Nat) (T : TypeId) (vs : List Value) (rs : List (Option Rw)) : Prop where
  base : w0.heap.size ≤ F
  kept : Kept [] w0 W
  box : W.heap[F]? = some (.cells vs.toArray T (0, 0))
  own : ∀ (i : Nat) (r : Rw) (v : Value), rs[i]? = some (some r) → vs[i]? = some v → W.ownsRow (F + 1) r.e r.sz v r.n r.xs
  apart : ∀ (i j : Nat) (r q : Rw) (v u : Value) (g : Nat), i ≠ j → rs[i]? = some (some r) → rs[j]? = some (some q) → vs[i]? = some v → vs[j]? = some u → v.ownBlock = some g → u.ownBlock ≠ some g
theorem FBox.go {w0 W W' : World} {F : Nat} {T : TypeId} {vs : List Value} {rs : List (Option Rw)} (h : FBox w0 W F T vs rs) (k : Kept [] W W') : FBox w0 W' F T vs rs :=
  ⟨h.base, keptB h.kept k, k.at h.box (by simp), fun i r v h1 h2 => bx_kept (h.own i r v h1 h2) k (by simp), h.apart⟩
theorem FBox.cell {w0 W : World} {F : Nat} {T : TypeId} {vs : List Value} {rs : List (Option Rw)} (h : FBox w0 W F T vs rs) {i : Nat} {v : Value} (hv : vs[i]? = some v) : W.cell? ⟨F, i, none⟩ = some v ∧ W.frozen? ⟨F, i, none⟩ = false :=
  ⟨by rw [cell_of h.box]; simpa using hv, free_of h.box i⟩
theorem FBox.app {w0 W : World} {F : Nat} {T : TypeId} {vs : List Value} {rs : List (Option Rw)} (h : FBox w0 W F T vs rs) {i : Nat} {r : Rw} {v : Value} (hr : rs[i]? = some (some r)) (hv : vs[i]? = some v)
    (t : TypeId) (inf : TypeInfo) (z : Value) (bytes : Nat) (h1 : Try.prog.underlying t = some (.slice r.e)) (h2 : Try.prog.info? r.e = some inf) (h3 : inf.zero = some z) (h4 : inf.size = r.sz) (h5 : inf.bytes = bytes) (h6 : z.cells.size = r.sz) (h7 : 0 < r.sz)
    (ad : Addr) (m c : Nat) (news : List Value) (hn : news.length = m * r.sz) (hc : ∀ j u, news[j]? = some u → W.cell? (ad.add j) = some u) (h1c : ∀ u ∈ news, u.oneCell' = true) (hm : 0 < m) (b1 : r.n + m ≤ maxLen) (b2 : (r.n + m) * bytes ≤ 140737488355328) :
    ∃ gr cap w2, (∀ ty, (Builtin.append_ #[t, t] ty #[v, .slice (some ad) m c]).run Try.prog W = .ok (.slice (some ⟨gr, 0, none⟩) (r.n + m) cap) w2) ∧ w2.heap[F]? = some (.cells vs.toArray T (0, 0)) ∧ FBox w0 (w2.setCell ⟨F, i, none⟩ (.slice (some ⟨gr, 0, none⟩) (r.n + m) cap)) F T (vs.set i (.slice (some ⟨gr, 0, none⟩) (r.n + m) cap)) (rs.set i (some ⟨r.e, r.sz, r.n + m, r.xs ++ news⟩)) ∧ (∀ b o, W.heap[b]? = some o → b ≠ F → v.ownBlock ≠ some b → ((w2.setCell ⟨F, i, none⟩ (.slice (some ⟨gr, 0, none⟩) (r.n + m) cap)).heap[b]? = some o)) ∧ (v.ownBlock = some gr ∨ W.heap.size ≤ gr) ∧ W.heap.size ≤ w2.heap.size := by
  have ho := h.own i r v hr hv
  have hlt := lt_of h.box
  obtain ⟨gr, cap, w2, g1, g2, g3, g4, g5⟩ := run_append_lies (P := Try.prog) W t 0 (F + 1) r.e inf z r.sz bytes h1 h2 h3 h4 h5 h6 h7 v r.n r.xs ho ad m c news hn hc h1c hm b1 b2 (by omega) _ rfl
  have hb2 : w2.heap[F]? = some (.cells vs.toArray T (0, 0)) := (g3.block _ hlt (fun e => by have := (bx_base ho e.symm).1; omega)).trans h.box
  have hset : ∀ u, Kept [F] w2 (w2.setCell ⟨F, i, none⟩ u) := fun u => (Kept.refl [F] w2).setCell (.inl (by simp)) u
  refine ⟨gr, cap, w2, fun ty => g1, hb2, ⟨h.base, ?_, ?_, ?_, ?_⟩, fun b o hb hF hv' => (hset _).at ((g3.block _ (lt_of hb) (fun e => hv' e.symm)).trans hb) (by simpa using hF), g4.imp id (fun e => Nat.le_of_eq e.symm), g3.size⟩
  · exact (h.kept.grown g3 (fun k e => .inr (by have := (bx_base ho e).1; have := h.base; omega))).setCell (.inr h.base) _
  · rw [bx_set hb2]; simp
  · intro j q u hq hu
    by_cases hij : i = j
    · subst hij
      rw [List.getElem?_set_self (by have := List.getElem?_eq_some_iff.1 hr; exact this.1)] at hq
      rw [List.getElem?_set_self (by have := List.getElem?_eq_some_iff.1 hv; exact this.1)] at hu
      cases hq; cases hu
      exact bx_kept g2 (hset _) (fun g e hg => by have := (bx_base g2 e).1; simp at hg; omega)
    · rw [List.getElem?_set_ne hij] at hq hu
      have hoj := h.own j q u hq hu
      refine bx_kept (hoj.kept g3 ?_) (hset _) (fun g e hg => by have := (bx_base hoj e).1; simp at hg; omega)
      cases hub : u.ownBlock with
      | none => exact .inl rfl
      | some g => exact .inr (fun e => h.apart i j r q v u g hij hr hq hv hu e.symm hub)
  · have hnew : ∀ (j : Nat) (q : Rw) (u : Value) (g : Nat), i ≠ j → rs[j]? = some (some q) → vs[j]? = some u → u.ownBlock = some g → g ≠ gr := by
      intro j q u g hij hq hu hg e
      subst e
      rcases g4 with g4 | g4
      · exact h.apart i j r q v u g hij hr hq hv hu g4 hg
      · have := (bx_base (h.own j q u hq hu) hg).2; omega
    intro a b p q x y g hab hp hq hx hy hg hg'
    by_cases ha : i = a
    · subst ha
      rw [List.getElem?_set_self (by have := List.getElem?_eq_some_iff.1 hv; exact this.1)] at hx
      cases hx
      cases hg
      rw [List.getElem?_set_ne hab] at hq hy
      exact hnew b q y _ hab hq hy hg' rfl
    · rw [List.getElem?_set_ne ha] at hp hx
      by_cases hb : i = b
      · subst hb
        rw [List.getElem?_set_self (by have := List.getElem?_eq_some_iff.1 hv; exact this.1)] at hy
        cases hy
        cases hg'
        exact hnew a p x _ ha hp hx hg rfl
      · rw [List.getElem?_set_ne hb] at hq hy
        exact h.apart a b p q x y g hab hp hq hx hy hg hg'
/-- A field that is a row: where it lies, and what it holds. -/
theorem FBox.row {w0 W : World} {F : Nat} {T : TypeId} {vs : List Value} {rs : List (Option Rw)} (h : FBox w0 W F T vs rs) {i : Nat} {r : Rw} {v : Value} (hr : rs[i]? = some (some r)) (hv : vs[i]? = some v) (h0 : 0 < r.n) : ∃ g c, v = .slice (some ⟨g, 0, none⟩) r.n c ∧ r.n ≤ c ∧ c ≤ maxLen ∧ g ≠ F ∧ w0.heap.size ≤ g ∧ ∀ j x, r.xs[j]? = some x → W.cell? ⟨g, j, none⟩ = some x ∧ W.frozen? ⟨g, j, none⟩ = false := by
  have ho := h.own i r v hr hv
  rcases ho.2 with ⟨_, hz⟩ | ⟨g, cap, cur, hve, hb, hw, h3, h4, h5, h6⟩
  · omega
  · refine ⟨g, cap, hve, h3, h4, by omega, by have := h.base; omega, fun j x hx => ⟨?_, free_of hw j⟩⟩
    rw [cell_of hw]
    rw [← h6] at hx
    rw [List.getElem?_take] at hx
    split at hx
    · rw [← Array.getElem?_toList]; exact hx
    · cases hx
/-- A store into a row. -/
theorem FBox.put {w0 W : World} {F : Nat} {T : TypeId} {vs : List Value} {rs : List (Option Rw)} (h : FBox w0 W F T vs rs) {i : Nat} {r : Rw} {g n c : Nat} (hr : rs[i]? = some (some r)) (hv : vs[i]? = some (.slice (some ⟨g, 0, none⟩) n c)) (j : Nat) (x : Value) : FBox w0 (W.setCell ⟨g, j, none⟩ x) F T vs (rs.set i (some ⟨r.e, r.sz, r.n, r.xs.set j x⟩)) := by
  have ho := h.own i r _ hr hv
  have hgb := (bx_base ho (g := g) rfl).1
  have hset : Kept [g] W (W.setCell ⟨g, j, none⟩ x) := (Kept.refl [g] W).setCell (.inl (by simp)) x
  refine ⟨h.base, h.kept.setCell (.inr (by show w0.heap.size ≤ g; have := h.base; omega)) x, hset.at h.box (by simp; omega), ?_, ?_⟩
  · intro k q u hq hu
    by_cases hik : i = k
    · subst hik
      rw [List.getElem?_set_self (by have := List.getElem?_eq_some_iff.1 hr; exact this.1)] at hq
      cases hq
      rw [hv] at hu
      cases hu
      refine ⟨by rw [List.length_set]; exact ho.1, ?_⟩
      rcases ho.2 with ⟨hz, _⟩ | ⟨g', cap, cur, hve, hb, hw, h3, h4, h5, h6⟩
      · cases hz
      · cases hve
        exact .inr ⟨g, _, cur.setIfInBounds j x, rfl, hb, bx_set hw x, h3, h4, by simpa using h5, by rw [Array.toList_setIfInBounds, List.take_set, h6]⟩
    · rw [List.getElem?_set_ne hik] at hq
      have hok := h.own k q u hq hu
      exact bx_kept hok hset (fun g' e hg => by simp at hg; subst hg; exact h.apart i k r q _ u g' hik hr hq hv hu rfl e)
  · intro a b p q y z g' hab hp hq hy hz hg hg'
    have hs : ∀ (k : Nat) (q : Rw), (rs.set i (some ⟨r.e, r.sz, r.n, r.xs.set j x⟩))[k]? = some (some q) → ∃ q', rs[k]? = some (some q') := by
      intro k q hq
      by_cases hik : i = k
      · subst hik; exact ⟨r, hr⟩
      · rw [List.getElem?_set_ne hik] at hq; exact ⟨q, hq⟩
    obtain ⟨p', hp'⟩ := hs a p hp
    obtain ⟨q', hq'⟩ := hs b q hq
    exact h.apart a b p' q' y z g' hab hp' hq' hy hz hg hg'
end Go.Proofs.Ytbbfajbnklgncaa

/- Lists of states side by side in memory, each with a row of its own: what an append to one of them leaves. -/
namespace Go.Proofs.Ytbbfajbnklgncaa
open Go.RowKit Go.Shelf

def numsN (xs : List Nat) : List Value := xs.map fun x => Value.int .i64 (x : Nat)
theorem numsN_len (xs : List Nat) : (numsN xs).length = xs.length := by simp [numsN]
theorem numsN_at {xs : List Nat} {k : Nat} (h : k < xs.length) : (numsN xs)[k]? = some (.int .i64 (xs[k] : Nat)) := by simp [numsN, h]
theorem Try.infoInR : (Try.prog.info? 3).map (fun i => (i.zero, i.size, i.bytes)) = some (some (.int .i64 0), 1, 8) := by kernel_rfl
/-- The rows vs of B hold the lists bk. -/
structure RowsN (W : World) (base B n : Nat) (vs : List Value) (bk : List (List Nat)) : Prop where
  box : W.heap[B]? = some (.cells vs.toArray 83 (0, 0))
  low : base ≤ B
  len : vs.length = n
  lenb : bk.length = n
  row : ∀ (i : Nat) (v : Value) (xs : List Nat), vs[i]? = some v → bk[i]? = some xs → W.ownsRow base 3 1 v xs.length (numsN xs)
  apart : ∀ (i j : Nat) (v u : Value) (g : Nat), i ≠ j → vs[i]? = some v → vs[j]? = some u → v.ownBlock = some g → u.ownBlock ≠ some g
theorem RowsN.kept {W W' : World} {base B n : Nat} {vs : List Value} {bk : List (List Nat)} (h : RowsN W base B n vs bk) (k : Kept [] W W') : RowsN W' base B n vs bk :=
  ⟨k.at h.box (by simp), h.low, h.len, h.lenb, fun i v xs h1 h2 => bx_kept (h.row i v xs h1 h2) k (by simp), h.apart⟩
theorem RowsN.off {W : World} {base B n : Nat} {vs : List Value} {bk : List (List Nat)} (h : RowsN W base B n vs bk) {i g : Nat} {v : Value} {xs : List Nat} (hv : vs[i]? = some v) (hx : bk[i]? = some xs) (hg : v.ownBlock = some g) : g ≠ B := by
  intro e
  subst e
  rcases (h.row i v xs hv hx).2 with ⟨rfl, _⟩ | ⟨g', cap, cur, rfl, _, hw, _⟩
  · cases hg
  · cases hg
    rw [h.box] at hw
    injection hw with hw
    injection hw with _ hw _
    exact absurd hw (by decide)
theorem RowsN.at {W : World} {base B n : Nat} {vs : List Value} {bk : List (List Nat)} (h : RowsN W base B n vs bk) {i : Nat} (hi : i < n) : ∃ v xs, vs[i]? = some v ∧ bk[i]? = some xs ∧ W.cell? ⟨B, i, none⟩ = some v ∧ W.frozen? ⟨B, i, none⟩ = false := by
  have h1 : i < vs.length := by rw [h.len]; exact hi
  have h2 : i < bk.length := by rw [h.lenb]; exact hi
  refine ⟨vs[i], bk[i], List.getElem?_eq_getElem h1, List.getElem?_eq_getElem h2, ?_, free_of h.box i⟩
  rw [cell_of h.box]
  simp [List.getElem?_eq_getElem h1]
/-- A row: its form, and what lies in it. -/
theorem RowsN.lies {W : World} {base B n : Nat} {vs : List Value} {bk : List (List Nat)} (h : RowsN W base B n vs bk) {i : Nat} {v : Value} {xs : List Nat} (hv : vs[i]? = some v) (hx : bk[i]? = some xs) : (v = .slice none 0 0 ∧ xs = []) ∨ ∃ g c, v = .slice (some ⟨g, 0, none⟩) xs.length c ∧ base ≤ g ∧ xs.length ≤ c ∧ c ≤ maxLen ∧ ∀ j, j < xs.length → W.cell? ⟨g, j, none⟩ = some (.int .i64 (xs.getD j 0 : Nat)) := by
  have ho := h.row i v xs hv hx
  rcases ho.2 with ⟨e, h0⟩ | ⟨g, cap, cur, e, hb, hw, h3, h4, h5, h6⟩
  · exact .inl ⟨e, List.length_eq_zero_iff.1 h0⟩
  · refine .inr ⟨g, cap, e, hb, h3, h4, fun j hj => ?_⟩
    rw [cell_of hw]
    have hx2 := numsN_at hj
    rw [show xs[j] = xs.getD j 0 from by rw [List.getD_eq_getElem?_getD, List.getElem?_eq_getElem hj]; rfl] at hx2
    rw [← h6] at hx2
    rw [List.getElem?_take] at hx2
    split at hx2
    · rw [← Array.getElem?_toList]; exact hx2
    · cases hx2
/-- An append to one of them. -/
theorem RowsN.app {W : World} {base B n i x A : Nat} {vs : List Value} {bk : List (List Nat)} {v : Value} {xs : List Nat} (h : RowsN W base B n vs bk) (hv : vs[i]? = some v) (hx : bk[i]? = some xs) (hl : xs.length + 1 ≤ 1000000000) (hA : W.cell? ⟨A, 0, none⟩ = some (.int .i64 (x : Nat))) :
    ∃ gr cap w2, (∀ ty, (Builtin.append_ #[83, 83] ty #[v, .slice (some ⟨A, 0, none⟩) 1 1]).run Try.prog W = .ok (.slice (some ⟨gr, 0, none⟩) (xs.length + 1) cap) w2) ∧ w2.cell? ⟨B, i, none⟩ = some v ∧ w2.frozen? ⟨B, i, none⟩ = false ∧
      RowsN (w2.setCell ⟨B, i, none⟩ (.slice (some ⟨gr, 0, none⟩) (xs.length + 1) cap)) base B n (vs.set i (.slice (some ⟨gr, 0, none⟩) (xs.length + 1) cap)) (bk.set i (xs ++ [x])) ∧
      ∀ w, Kept [] w W → w.heap.size ≤ base → Kept [] w (w2.setCell ⟨B, i, none⟩ (.slice (some ⟨gr, 0, none⟩) (xs.length + 1) cap)) := by
  obtain ⟨inf, hi, hz, hs, hb⟩ := info_parts Try.infoInR
  have ho := h.row i v xs hv hx
  have hlt := lt_of h.box
  obtain ⟨gr, cap, w2, g1, g2, g3, g4, g5⟩ := run_append_lies (P := Try.prog) W 83 0 base 3 inf (.int .i64 0) 1 8 Try.underlying83 hi hz hs hb rfl (by decide) v xs.length (numsN xs) ho ⟨A, 0, none⟩ 1 1 [.int .i64 (x : Nat)] rfl (fun j u hj => by
    cases j with
    | zero => cases hj; exact hA
    | succ j => simp at hj) (by intro u hu; simp at hu; subst hu; rfl) (by decide) (by unfold maxLen; omega) (by omega) (by have := h.low; omega) _ rfl
  have hb2 : w2.heap[B]? = some (.cells vs.toArray 83 (0, 0)) := (g3.block _ hlt (fun e => h.off hv hx e.symm rfl)).trans h.box
  have hgB : gr ≠ B := by
    rcases g4 with g4 | g4
    · exact h.off hv hx g4
    · omega
  have hset : ∀ u, Kept [B] w2 (w2.setCell ⟨B, i, none⟩ u) := fun u => (Kept.refl [B] w2).setCell (.inl (by simp)) u
  have hil : i < vs.length := (List.getElem?_eq_some_iff.1 hv).1
  have hil2 : i < bk.length := (List.getElem?_eq_some_iff.1 hx).1
  refine ⟨gr, cap, w2, fun ty => g1, ?_, free_of hb2 i, ⟨?_, h.low, by simp [h.len], by simp [h.lenb], ?_, ?_⟩, ?_⟩
  · rw [cell_of hb2]; simpa using hv
  · rw [bx_set hb2]; simp
  · intro j u ys hu hy
    by_cases hij : i = j
    · subst hij
      rw [List.getElem?_set_self hil] at hu
      rw [List.getElem?_set_self hil2] at hy
      cases hu; cases hy
      rw [show numsN (xs ++ [x]) = numsN xs ++ [.int .i64 (x : Nat)] from by simp [numsN], List.length_append]
      exact bx_kept g2 (hset _) (fun g e hg => by cases e; exact hgB (by simpa using hg))
    · rw [List.getElem?_set_ne hij] at hu hy
      refine bx_kept ((h.row j u ys hu hy).kept g3 ?_) (hset _) (fun g e hg => h.off hu hy e (by simpa using hg))
      cases hub : u.ownBlock with
      | none => exact .inl rfl
      | some g => exact .inr (fun e => h.apart i j v u g hij hv hu e.symm hub)
  · have hnew : ∀ (j : Nat) (u : Value) (g : Nat), i ≠ j → vs[j]? = some u → u.ownBlock = some g → g ≠ gr := by
      intro j u g hij hu hg e
      subst e
      rcases g4 with g4 | g4
      · exact h.apart i j v u g hij hv hu g4 hg
      · have hjl : j < bk.length := by rw [h.lenb, ← h.len]; exact (List.getElem?_eq_some_iff.1 hu).1
        have := (bx_base (h.row j u _ hu (List.getElem?_eq_getElem hjl)) hg).2; omega
    intro a b y z g hab hy hz2 hg hg'
    by_cases ha : i = a
    · subst ha
      rw [List.getElem?_set_self hil] at hy
      cases hy
      cases hg
      rw [List.getElem?_set_ne hab] at hz2
      exact hnew b z _ hab hz2 hg' rfl
    · rw [List.getElem?_set_ne ha] at hy
      by_cases hbb : i = b
      · subst hbb
        rw [List.getElem?_set_self hil] at hz2
        cases hz2
        cases hg'
        exact hnew a y _ ha hy hg rfl
      · rw [List.getElem?_set_ne hbb] at hz2
        exact h.apart a b y z g hab hy hz2 hg hg'
  · intro w k hw
    exact (k.grown g3 (fun q e => .inr (by have := (bx_base ho e).1; omega))).setCell (.inr (by have := h.low; show _ ≤ B; omega)) _
end Go.Proofs.Ytbbfajbnklgncaa
