/- Appends into the fields of a struct, of lists that may be empty; rows beside it. -/
import Derived.Test.YtbbfajbnklgncaaRuDocS
import Derived.Test.YtbbfajbnklgncaaHM
import Derived.Test.YtbbfajbnklgncaaMoLent
import Derived.Test.YtbbfajbnklgncaaMoRef2
import Derived.Deep.Upon
namespace Go.Proofs.Ytbbfajbnklgncaa
open Go.RowKit Go.Shelf Go.Maps

theorem FBox.addS {w0 W : World} {F : Nat} {T : TypeId} {vs : List Value} {rs : List (Option Rw)} (h : FBox w0 W F T vs rs) {i : Nat} {r : Rw} {v : Value} (hr : rs[i]? = some (some r)) (hv : vs[i]? = some v)
    (t : TypeId) (inf : TypeInfo) (z : Value) (bytes : Nat) (h1 : Try.prog.underlying t = some (.slice r.e)) (h2 : Try.prog.info? r.e = some inf) (h3 : inf.zero = some z) (h4 : inf.size = r.sz) (h5 : inf.bytes = bytes) (h6 : z.cells.size = r.sz) (h7 : 0 < r.sz)
    (x : Value) (n : Nat) (cs : List Value) (hs : Src r.sz W x n cs) (b1 : r.n + n ≤ maxLen) (b2 : (r.n + n) * bytes ≤ 140737488355328) :
    ∃ v' w2, (∀ ty, (Builtin.append_ #[t, t] ty #[v, x]).run Try.prog W = .ok v' w2) ∧ w2.heap[F]? = some (.cells vs.toArray T (0, 0)) ∧ FBox w0 (w2.setCell ⟨F, i, none⟩ v') F T (vs.set i v') (rs.set i (some ⟨r.e, r.sz, r.n + n, r.xs ++ cs⟩)) ∧ (∀ b o, W.heap[b]? = some o → b ≠ F → v.ownBlock ≠ some b → ((w2.setCell ⟨F, i, none⟩ v').heap[b]? = some o)) ∧ (∀ b o, W.heap[b]? = some o → v.ownBlock ≠ some b → w2.heap[b]? = some o) ∧ ∃ ad c, v' = .slice ad (r.n + n) c := by
  have ho := h.own i r v hr hv
  by_cases hn : n = 0
  · subst hn
    have hcs : cs = [] := List.length_eq_zero_iff.1 (by have := hs.len; omega)
    subst hcs
    have hvv : vs.set i v = vs := by
      obtain ⟨hi, rfl⟩ := List.getElem?_eq_some_iff.1 hv
      simp
    have hrr : rs.set i (some ⟨r.e, r.sz, r.n + 0, r.xs ++ []⟩) = rs := by
      obtain ⟨hi, e⟩ := List.getElem?_eq_some_iff.1 hr
      rw [List.append_nil, Nat.add_zero]
      show rs.set i (some r) = rs
      rw [← e]
      simp
    have hform : ∃ ad c, v = .slice ad r.n c ∧ r.n ≤ c := by
      rcases ho.2 with ⟨e, e2⟩ | ⟨g, cap, cur, e, _, _, e3, _⟩
      · exact ⟨none, 0, by rw [e, e2], by omega⟩
      · exact ⟨_, cap, e, e3⟩
    obtain ⟨ad, c, rfl, hc⟩ := hform
    have hsrc : Go.Src Try.prog inf.size t x 0 [] W := by
      rcases hs.lie with ⟨rfl, _⟩ | ⟨a, c, rfl, _⟩
      · exact Go.Src.ofNil W h1 0
      · exact Go.Src.ofSlice W h1 a 0 c [] (by simp) (by intro j u hu; simp at hu) (by simp)
    refine ⟨_, W, fun ty => run_append_nothing W t t ty r.e inf h1 h2 ad r.n c hc x hsrc, h.box, ?_, ?_, fun b o hb _ => hb, ad, c, rfl⟩
    · rw [hvv, hrr]; exact h.same hv
    · intro b o hb hF _
      exact ((Kept.refl [F] W).setCell (p := ⟨F, i, none⟩) (.inl (by simp)) _).at hb (by simpa using hF)
  · rcases hs.lie with ⟨_, e⟩ | ⟨a, c, rfl, hc1, hc2, _, _, hC⟩
    · exact absurd e hn
    · have ho2 := ho
      obtain ⟨gr, cap, w2, q1, q2, q3, q4, q5, q6⟩ := h.app hr hv t inf z bytes h1 h2 h3 h4 h5 h6 h7 a n c cs hs.len hC hs.one (by omega) b1 b2
      refine ⟨_, w2, q1, q2, q3, q4, ?_, _, cap, rfl⟩
      intro b o hb hne
      by_cases hF : b = F
      · subst hF
        rw [h.box] at hb
        rw [q2, hb]
      · have := q4 b o hb hF hne
        rw [World.setCell] at this
        simp only [Array.getElem?_modify] at this
        rw [if_neg (by exact fun e => hF e.symm)] at this
        exact this
/-- Rows of their own, above F. -/
def InR (W : World) (F : Nat) (us : List Value) (rows : List (List Int)) : Prop :=
  us.length = rows.length ∧ ∀ (j : Nat) (u : Value) (r : List Int), us[j]? = some u → rows[j]? = some r → W.ownsRow (F + 1) 3 1 u r.length (numsI r)
theorem own_moved {W W' : World} {base : Nat} {e : TypeId} {size : Nat} {v : Value} {n : Nat} {xs : List Value} (h : W.ownsRow base e size v n xs) (hm : ∀ b cur, W.heap[b]? = some (.cells cur e (0, 0)) → base ≤ b → W'.heap[b]? = some (.cells cur e (0, 0))) : W'.ownsRow base e size v n xs := by
  refine ⟨h.1, ?_⟩
  rcases h.2 with h2 | ⟨g, cap, cur, rfl, hb, hw, h3⟩
  · exact .inl h2
  · exact .inr ⟨g, cap, cur, rfl, hb, hm g cur hw hb, h3⟩
theorem InR.moved {W W' : World} {F : Nat} {us : List Value} {rows : List (List Int)} (h : InR W F us rows) (hm : ∀ b cur, W.heap[b]? = some (.cells cur 3 (0, 0)) → F + 1 ≤ b → W'.heap[b]? = some (.cells cur 3 (0, 0))) : InR W' F us rows :=
  ⟨h.1, fun j u r h1 h2 => own_moved (h.2 j u r h1 h2) hm⟩
theorem InR.snoc {W : World} {F : Nat} {us : List Value} {rows : List (List Int)} {u : Value} {r : List Int} (h : InR W F us rows) (hu : W.ownsRow (F + 1) 3 1 u r.length (numsI r)) : InR W F (us ++ [u]) (rows ++ [r]) := by
  refine ⟨by simp [h.1], fun j a b h1 h2 => ?_⟩
  by_cases hj : j < us.length
  · rw [List.getElem?_append_left hj] at h1
    rw [List.getElem?_append_left (by rw [← h.1]; exact hj)] at h2
    exact h.2 j a b h1 h2
  · rw [List.getElem?_append_right (by omega)] at h1
    rw [List.getElem?_append_right (by rw [← h.1]; omega)] at h2
    have e1 : j - us.length = 0 := by
      have := (List.getElem?_eq_some_iff.1 h1).1
      simp at this; omega
    rw [e1] at h1
    rw [← h.1, e1] at h2
    simp at h1 h2
    subst h1; subst h2
    exact hu
/-- Of another kind: the block of a row of headers holds no numbers. -/
theorem own_kind {W : World} {base b : Nat} {e e' : TypeId} {size : Nat} {v : Value} {n : Nat} {xs : List Value} {cur : Array Value} (h : W.ownsRow base e size v n xs) (hb : W.heap[b]? = some (.cells cur e' (0, 0))) (hne : e ≠ e') : v.ownBlock ≠ some b := by
  intro hg
  rcases h.2 with ⟨rfl, _⟩ | ⟨g, cap, cur', rfl, _, hw, _⟩
  · cases hg
  · cases hg
    rw [hw] at hb
    cases hb
    exact hne rfl
theorem own_lie {W : World} {base : Nat} {e : TypeId} {v : Value} {n : Nat} {xs : List Value} (h : W.ownsRow base e 1 v n xs) : (v = .slice none 0 0 ∧ n = 0) ∨ ∃ g c, v = .slice (some ⟨g, 0, none⟩) n c ∧ n ≤ c ∧ c ≤ maxLen ∧ ∀ j u, xs[j]? = some u → W.cell? ⟨g, 0 + j, none⟩ = some u := by
  rcases h.2 with h2 | ⟨g, cap, cur, rfl, _, hw, h3, h4, h5, h6⟩
  · exact .inl h2
  · refine .inr ⟨g, cap, rfl, h3, h4, fun j u hu => ?_⟩
    rw [Nat.zero_add, cell_of hw]
    rw [← h6, List.getElem?_take] at hu
    split at hu
    · rw [← Array.getElem?_toList]; exact hu
    · cases hu
/-- The document's runner, and where what it holds may lie: behind its own block, ahead of hi. -/
structure DocW (W : World) (hi Q : Nat) (pv nv ov : Value) (ps : List ByteArray) (next : List (List Int)) (out : List Nat) (s : Nat) : Prop where
  box : W.heap[Q]? = some (.cells #[pv, nv, ov, .int .i64 (s : Nat)] 51 (0, 0))
  rest : ∀ (G : List Nat) (W' : World), Kept G W W' → (∀ x ∈ G, x ≤ Q ∨ hi ≤ x) → Strs W' pv ps ∧ Rowss W' nv next ∧ Vds W' ov out
  lt : s < next.length
  up : Q < hi
theorem DocW.keptF {G : List Nat} {W W' : World} {hi Q s : Nat} {pv nv ov : Value} {ps : List ByteArray} {next : List (List Int)} {out : List Nat} (h : DocW W hi Q pv nv ov ps next out s) (k : Kept G W W') (hG : ∀ x ∈ G, x < Q ∨ hi ≤ x) : DocW W' hi Q pv nv ov ps next out s := by
  have hu := h.up
  refine ⟨k.at h.box (fun hm => by have := hG Q hm; omega), fun G' W'' k' h' => h.rest (G ++ G') W'' (k.trans k' (fun x hx => by simp [hx]) (fun x hx => .inl (by simp [hx]))) (fun x hx => ?_), h.lt, hu⟩
  rcases List.mem_append.1 hx with q | q
  · have := hG x q; omega
  · exact h' x q
theorem DocW.to {W W' : World} {hi Q s s' : Nat} {pv nv ov : Value} {ps : List ByteArray} {next : List (List Int)} {out : List Nat} (h : DocW W hi Q pv nv ov ps next out s) (k : Kept [Q] W W') (hb : W'.heap[Q]? = some (.cells #[pv, nv, ov, .int .i64 (s' : Nat)] 51 (0, 0))) (hs : s' < next.length) : DocW W' hi Q pv nv ov ps next out s' := by
  refine ⟨hb, fun G' W'' k' h' => h.rest (Q :: G') W'' (k.trans k' (fun x hx => by simp at hx; simp [hx]) (fun x hx => .inl (by simp [hx]))) (fun x hx => ?_), hs, h.up⟩
  rcases List.mem_cons.1 hx with q | q
  · omega
  · exact h' x q
theorem DocW.docS {W : World} {hi Q s : Nat} {pv nv ov : Value} {ps : List ByteArray} {next : List (List Int)} {out : List Nat} (h : DocW W hi Q pv nv ov ps next out s) : DocS W W Q ps next out s :=
  ⟨⟨pv, nv, ov, h.box, fun W' k => h.rest [Q] W' k (fun x hx => by simp at hx; omega)⟩, Kept.refl _ W, h.lt⟩
/-- What the struct holds when all is taken: the document's runner. -/
theorem docW_of {w0 W : World} {F : Nat} {pv nv ov : Value} {ps : List ByteArray} {next : List (List Int)} {out : List Nat} {us : List Value}
    (h : FBox w0 W F 51 [pv, nv, ov, .int .i64 (0 : Nat)] [some ⟨9, 1, ps.length, cellsT ps⟩, some ⟨83, 1, us.length, us⟩, some ⟨60, 1, out.length, cellsV out⟩, none]) (hi : InR W F us next) (hm : MachR ps next out) (hps : ∀ x ∈ ps, x.size ≤ maxLen) (hsm : ∀ x ∈ out, x < 256) : DocW W W.heap.size F pv nv ov ps next out 0 := by
  refine ⟨h.box, fun G W' k hG => ?_, hm.rows.pos, lt_of h.box⟩
  have off : ∀ {e : TypeId} {v : Value} {n : Nat} {xs : List Value}, W.ownsRow (F + 1) e 1 v n xs → W'.ownsRow (F + 1) e 1 v n xs := fun q => bx_kept q k (fun g e hg => by have := (bx_base q e); have := hG g hg; omega)
  have o1 := off (h.own 0 _ _ rfl rfl)
  have o2 := off (h.own 1 _ _ rfl rfl)
  have o3 := off (h.own 2 _ _ rfl rfl)
  have h8 := hm.few
  have hnf := hm.rows.few
  have hln := hm.len
  have hul := hi.1
  refine ⟨⟨by omega, hps, ?_⟩, ⟨by omega, ?_⟩, ⟨by omega, hsm, ?_⟩⟩
  · rcases own_lie o1 with ⟨e, e2⟩ | ⟨g, c, e, e2, e3, e4⟩
    · exact .inl ⟨e, List.length_eq_zero_iff.1 e2⟩
    · exact .inr ⟨g, 0, c, e, e2, e3, fun i hi => e4 i _ (cellsT_at hi)⟩
  · rcases own_lie o2 with ⟨e, e2⟩ | ⟨g, c, e, e2, e3, e4⟩
    · exact .inl ⟨e, List.length_eq_zero_iff.1 (by dsimp only at e2; omega)⟩
    · refine .inr ⟨g, 0, c, ?_, ?_, e3, fun i hlt => ?_⟩
      · rw [e]; dsimp only; rw [hul]
      · dsimp only at e2; omega
      · have hu : us[i]? = some (us[i]'(by omega)) := List.getElem?_eq_getElem _
        have hr : next[i]? = some next[i] := List.getElem?_eq_getElem hlt
        refine ⟨_, e4 i _ hu, ?_⟩
        have q := off (hi.2 i _ _ hu hr)
        obtain ⟨r1, r2, r3⟩ := hm.rows.row _ (List.getElem_mem hlt)
        exact ints_row q (by omega) (fun x hx => by have := r3 x hx; omega)
  · rcases own_lie o3 with ⟨e, e2⟩ | ⟨g, c, e, e2, e3, e4⟩
    · exact .inl ⟨e, List.length_eq_zero_iff.1 e2⟩
    · exact .inr ⟨g, 0, c, e, e2, e3, fun i hi => by rw [e4 i _ (cellsV_at hi), List.getD_eq_getElem?_getD, List.getElem?_eq_getElem hi]; rfl⟩
end Go.Proofs.Ytbbfajbnklgncaa
