/- WordsReads: Read against the document's Read; what comes out is its owner's. -/
import Derived.Test.YthkmcnfoadkggaaDoorWdReadsM
import Derived.Test.YthkmcnfoadkggaaDoorWdRefR
import Derived.Test.YthkmcnfoadkggaaDoorOwnBook2
import Derived.Test.YthkmcnfoadkggaaDoorWdWorks
import Derived.Test.YthkmcnfoadkggaaDoorWdRefs
namespace Go.Proofs.YthkmcnfoadkggaaDoor
open Go.RowKit Go.Shelf Go.Lib
attribute [local go_sem ↓] Go.wp_at_zero Go.wp_at_succ

/-- What the law's loop carries: the word that is wanted, and the book. -/
structure RdI (w W : World) (P B : Nat) (x0 y0 : Value) (Q : Wd) (i : Nat) : Prop where
  kept : Kept [] w W
  cell : Wd2 W P x0 y0
  new : NewW w.heap.size W x0 y0 Q
  book : ∃ lv vs xss, BookL W w.heap.size w.heap.size B lv vs xss ∧ vs.length = 2 * i
  low : w.heap.size ≤ B
  ne : P ≠ B
theorem RdI.quiet {w W W' : World} {P B i : Nat} {x0 y0 : Value} {Q : Wd} (h : RdI w W P B x0 y0 Q i) (k : Kept [] W W') : RdI w W' P B x0 y0 Q i := by
  obtain ⟨lv, vs, xss, hb, hv⟩ := h.book
  exact ⟨kept_same h.kept k, h.cell.kept k, h.new.kept k, ⟨lv, vs, xss, hb.quiet k, hv⟩, h.low, h.ne⟩
theorem word_type {W : World} {base P n g : Nat} {a b u : Value} {ys : List Value} (h : Wd2 W P a b) (h' : W.ownsRow base 22 1 u n ys) (hg : u.ownBlock = some g) : P ≠ g := by
  rintro rfl
  obtain ⟨c, e⟩ := row_type h' hg
  have h2 : W.heap[P]? = some (.cells #[a, b] 24 (0, 0)) := h
  rw [h2] at e
  cases e
theorem bookF_low {W : World} {base B : Nat} {lv : Value} {vs : List Value} {xss : List (List Nat)} (h : BookL W base base B lv vs xss) (hB : base ≤ B) : ∀ g ∈ bookF B lv, base ≤ g := by
  intro g hg
  rcases List.mem_cons.1 hg with rfl | q
  · exact hB
  · exact own_base h.inn.list (show lv.ownBlock = some g by simpa using q)
theorem RdI.put {w W W7 : World} {P B i : Nat} {x0 y0 x y : Value} {Q : Wd} (h : RdI w W P B x0 y0 Q i) (k : Kept [] W W7) (hn : NewW W.heap.size W7 x y Q) (hs : Q.stem.length ≤ 1000000000) (hl : Q.loop.length ≤ 1000000000) (hi : i < 2) :
    Calls Tryd.prog 30 #[.pointer (some ⟨B, 0, none⟩), .agg #[x, y]] W7 fun e w' => (∃ v, e = .returned v) ∧ Hid (RdI w w' P B x0 y0 Q (i + 1)) := by
  obtain ⟨lv, vs, xss, hb, hv⟩ := h.book
  have hz := h.kept.size
  have hb7 := hb.quiet k
  have far : ∀ v ∈ vs, ∀ g, v.ownBlock = some g → g < W.heap.size := fun v hv g hg => by
    obtain ⟨j, hj, rfl⟩ := List.getElem_of_mem hv
    have hjx : j < xss.length := by rw [← hb.inn.rows.len]; exact hj
    exact owns_lt (hb.inn.rows.row j _ _ (List.getElem?_eq_getElem hj) (List.getElem?_eq_getElem hjx)) hg
  refine (bookWord_any B w.heap.size w.heap.size lv vs xss x y Q.stem Q.loop W7 hb7 (owns_low hn.own1 hz) (owns_low hn.own2 hz) (fun v hv g h1 h2 => by have := far v hv g h1; have := own_base hn.own1 h2; omega) (fun v hv g h1 h2 => by have := far v hv g h1; have := own_base hn.own2 h2; omega) hn.apart (by omega) hs hl).mono ?_
  rintro e w8 ⟨he, lv', hb8, k8, _⟩
  have c7 := h.cell.kept k
  have n7 := h.new.kept k
  refine ⟨he, (kept_same h.kept k).trans k8 (by simp) (fun g hg => .inr (bookF_low hb7 h.low g hg)), c7.keptF k8 (fun hm => ?_), ?_, ⟨lv', _, _, hb8, by simp; omega⟩, h.low, h.ne⟩
  · rcases List.mem_cons.1 hm with q | q
    · exact h.ne q
    · exact word_type c7 hb7.inn.list (show lv.ownBlock = some P by simpa using q) rfl
  · exact ⟨owns_keptF n7.own1 k8 (fun g hg => hb7.free n7.own1 hg), owns_keptF n7.own2 k8 (fun g hg => hb7.free n7.own2 hg), n7.apart, n7.small1, n7.small2, n7.few1, n7.few2⟩
theorem RdI.own {w W : World} {P B i : Nat} {x0 y0 : Value} {Q : Wd} (h : RdI w W P B x0 y0 Q i) :
    Calls Tryd.prog 36 #[.pointer (some ⟨B, 0, none⟩)] W fun e w' => e = .returned (.bool true) ∧ Hid (Kept [] w w') := by
  obtain ⟨lv, vs, xss, hb, hv⟩ := h.book
  refine (bookOwn_any B _ _ lv vs xss W hb).mono ?_
  rintro e w' ⟨he, k⟩
  refine ⟨he, h.kept.trans k (by simp) (fun g hg => .inr ?_)⟩
  obtain ⟨v, hv, hvg⟩ := List.mem_filterMap.1 hg
  obtain ⟨j, hj, rfl⟩ := List.getElem_of_mem hv
  have hjx : j < xss.length := by rw [← hb.inn.rows.len]; exact hj
  exact own_base (hb.inn.rows.row j _ _ (List.getElem?_eq_getElem hj) (List.getElem?_eq_getElem hjx)) hvg
/-- Where the loop begins. -/
theorem RdI.start {w w2 : World} {x0 y0 : Value} {Q : Wd} (k : Kept [] w w2) (hn : NewW w.heap.size w2 x0 y0 Q) :
    RdI w ((w2.alloc (.cells #[x0, y0] 24)).alloc (.cells #[.slice none 0 0, .slice none 0 0, .slice none 0 0, .slice none 0 0, .slice none 0 0, .slice none 0 0, .slice none 0 0, .slice none 0 0, .slice none 0 0, .slice none 0 0, .slice none 0 0, .slice none 0 0, .slice none 0 0] 44)) w2.heap.size (w2.heap.size + 1) x0 y0 Q 0 := by
  have hN := two_new w2 (.cells #[x0, y0] 24) (.cells #[.slice none 0 0, .slice none 0 0, .slice none 0 0, .slice none 0 0, .slice none 0 0, .slice none 0 0, .slice none 0 0, .slice none 0 0, .slice none 0 0, .slice none 0 0, .slice none 0 0, .slice none 0 0, .slice none 0 0] 44)
  have hz := k.size
  have k' : Kept [] w _ := (k.alloc (.cells #[x0, y0] 24)).alloc (.cells #[.slice none 0 0, .slice none 0 0, .slice none 0 0, .slice none 0 0, .slice none 0 0, .slice none 0 0, .slice none 0 0, .slice none 0 0, .slice none 0 0, .slice none 0 0, .slice none 0 0, .slice none 0 0, .slice none 0 0] 44)
  have hz' := k'.size
  exact ⟨k', hN.1, hn.kept (((Kept.refl [] w2).alloc _).alloc _), ⟨_, [], [], BookL.start hN.2 hz' hz', rfl⟩, by omega, by omega⟩
/-- Read, with its answer told ahead. -/
theorem reads_at {f : Nat} (s : ByteArray) (o : Option Wd) (n : Nat) (Q : Wd) (ec : Int) (hR : readF s.data.toList = (o, n)) (hQ : o.getD ⟨[], []⟩ = Q) (he : (if o.isSome then (0 : Int) else 51) = ec) (W : World) (h : Calls Tryd.prog f #[.string s] W (ReadEnds W s.data.toList)) :
    Calls Tryd.prog f #[.string s] W fun e W' => ∃ a1 c1 a2 c2, e = .returned (.tuple #[.agg #[.slice a1 Q.stem.length c1, .slice a2 Q.loop.length c2], .int .i64 ec, .int .i64 (n : Nat)]) ∧ Hid (Kept [] W W') ∧ Hid (NewW W.heap.size W' (.slice a1 Q.stem.length c1) (.slice a2 Q.loop.length c2) Q) := by
  refine h.mono ?_
  rintro e w1 ⟨a1, n1, c1, a2, n2, c2, rfl, hk, hn⟩
  rw [hR] at hn ⊢
  simp only at hn ⊢
  rw [hQ] at hn
  obtain ⟨b1, d1, q1⟩ := own_form hn.own1
  obtain ⟨b2, d2, q2⟩ := own_form hn.own2
  cases q1
  cases q2
  exact ⟨_, _, _, _, by rw [he], hk, hn⟩
theorem same_new {W1 W2 : World} {n₁ n₂ : Nat} {x y x0 y0 : Value} {Q : Wd} (h1 : NewW n₁ W1 x y Q) (h2 : NewW n₂ W2 x0 y0 Q) (W : World) (k1 : Kept [] W1 W) (k2 : Kept [] W2 W) :
    Calls Tryd.prog 14 #[.agg #[x, y], .agg #[x0, y0]] W fun e w1 => e = .returned (.bool true) ∧ Hid (Kept [] W w1) := by
  have a := h1.kept k1
  have b := h2.kept k2
  have := sameWord_any _ _ _ _ Q Q W a.lets1 a.lets2 b.lets1 b.lets2
  rw [eqW_iff.2 rfl] at this
  exact this
theorem any_new {W1 W2 : World} {n₁ n₂ : Nat} {x y x0 y0 : Value} {Q R : Wd} (h1 : NewW n₁ W1 x y Q) (h2 : NewW n₂ W2 x0 y0 R) (W : World) (k1 : Kept [] W1 W) (k2 : Kept [] W2 W) :
    Calls Tryd.prog 14 #[.agg #[x, y], .agg #[x0, y0]] W fun e w1 => (∃ b, e = .returned (.bool b)) ∧ Hid (Kept [] W w1) := by
  have a := h1.kept k1
  have b := h2.kept k2
  exact (sameWord_any _ _ _ _ Q R W a.lets1 a.lets2 b.lets1 b.lets2).mono fun e w1 ⟨h, k⟩ => ⟨⟨_, h⟩, k⟩
set_option maxHeartbeats 4000000 in
set_option maxRecDepth 10000 in
theorem wordsReads_walk (s : ByteArray) (w : World) (hT : PowTab w) :
    Calls Tryd.prog 5 #[.string s] w fun e w' => e = .returned (.bool true) ∧ Kept [] w w' := by
  have HW : Hid (∀ W, Kept [] w W → Calls Tryd.prog 6 #[] W fun e w' => e = .returned (.bool true) ∧ Hid (Kept [] W w')) := fun W k => works_any W (hT.kept k)
  rcases Nat.lt_or_ge 4194304 s.size with hbig | hsz
  · have t1 : (4194304 : Int) < (s.size : Int) := by omega
    clear hT
    go_enter Tryd.func5, Tryd.ntmps5
    go_wp2_with (go_at_call 6; refine (HW.out _ (Kept.refl [] w)).mono ?_; rintro e w1 ⟨rfl, HK1⟩)
    go_ret
    exact ⟨rfl, HK1.out⟩
  · have t1 : ¬ (4194304 : Int) < (s.size : Int) := by omega
    obtain ⟨o, n, hR⟩ : ∃ o n, readF s.data.toList = (o, n) := ⟨_, _, rfl⟩
    obtain ⟨Q, hQ⟩ : ∃ Q, o.getD ⟨[], []⟩ = Q := ⟨_, rfl⟩
    obtain ⟨ec, hec⟩ : ∃ ec, (if o.isSome then (0 : Int) else 51) = ec := ⟨_, rfl⟩
    have HRef : Hid (∀ W, Calls Tryd.prog 40 #[.string s] W fun e W' => ∃ a1 c1 a2 c2, e = .returned (.tuple #[.agg #[.slice a1 Q.stem.length c1, .slice a2 Q.loop.length c2], .int .i64 ec, .int .i64 (n : Nat)]) ∧ Hid (Kept [] W W') ∧ Hid (NewW W.heap.size W' (.slice a1 Q.stem.length c1) (.slice a2 Q.loop.length c2) Q)) := fun W => reads_at s o n Q ec hR hQ hec W (refRead_any s W)
    have HRd : Hid (∀ W, Calls Tryd.prog 41 #[.string s] W fun e W' => ∃ a1 c1 a2 c2, e = .returned (.tuple #[.agg #[.slice a1 Q.stem.length c1, .slice a2 Q.loop.length c2], .int .i64 ec, .int .i64 (n : Nat)]) ∧ Hid (Kept [] W W') ∧ Hid (NewW W.heap.size W' (.slice a1 Q.stem.length c1) (.slice a2 Q.loop.length c2) Q)) := fun W => reads_at s o n Q ec hR hQ hec W (read_any s W)
    have hfew : Q.stem.length + Q.loop.length ≤ 4194305 := by
      cases o with
      | none => rw [← hQ]; simp
      | some q =>
        obtain rfl : q = Q := hQ
        obtain ⟨g1, g2⟩ := read_text hR
        have g3 := show_letters q g1
        have g4 : s.data.toList.length = s.size := rfl
        omega
    have HQ : Hid (o.getD ⟨[], []⟩ = Q ∧ readF s.data.toList = (o, n) ∧ (if o.isSome then (0 : Int) else 51) = ec ∧ PowTab w) := ⟨hQ, hR, hec, hT⟩
    have HF1 : Hid (Q.stem.length ≤ 1000000000 ∧ Q.loop.length ≤ 1000000000) := ⟨by omega, by omega⟩
    obtain ⟨ns, hns⟩ : ∃ ns, Q.stem.length = ns := ⟨_, rfl⟩
    obtain ⟨nl, hnl⟩ : ∃ nl, Q.loop.length = nl := ⟨_, rfl⟩
    have c1 : (ec != ec) = false := by simp
    have c2 : ((n : Int) != (n : Int)) = false := by simp
    rw [hns, hnl] at HRef HRd
    clear hT hQ hR hec hfew
    go_enter Tryd.func5, Tryd.ntmps5
    go_wp2_with (first
      | (go_at_call 6; refine (HW.out _ (Kept.refl [] w)).mono ?_; rintro e w1 ⟨rfl, HK1⟩)
      | (go_at_call 40; refine (HRef.out _).mono ?_; rintro e w2 ⟨x1, d1, x2, d2, rfl, HK2, HN2⟩))
    have HI0 : Hid _ := RdI.start (kept_same HK1.out HK2.out) (HN2.out.low HK1.out.size)
    go_loopw [8, 9, 10, 11, 12] (fun v8 _ _ _ _ wr => ∃ i : Nat, v8 = .int .i64 (i : Nat) ∧ i ≤ 2 ∧ Hid (RdI w wr w2.heap.size (w2.heap.size + 1) (.slice x1 ns d1) (.slice x2 nl d2) Q i)) (fun v8 _ _ _ _ _ => 2 - (Go.RowKit.intOf v8).toNat)
    case atStart => exact ⟨0, rfl, by omega, HI0.out⟩
    case round =>
      obtain ⟨i, rfl, hi, HI⟩ := hrel
      rename World => W
      by_cases hlt : i < 2
      · have l1 : (i : Int) < 2 := by omega
        go_wp2_with (first
          | (go_at_call 41; refine (HRd.out _).mono ?_; rintro e w5 ⟨y1, e1, y2, e2, rfl, HK5, HN5⟩; have HI5 : Hid _ := HI.out.quiet HK5.out; obtain ⟨p0, p1, -, -⟩ := HI5.out.cell.later)
          | (go_at_call 14; refine (same_new HN5.out HI5.out.new _ ((Kept.refl [] w5).alloc _) ((Kept.refl [] w5).alloc _)).mono ?_; rintro e w7 ⟨rfl, HK7⟩; obtain ⟨r0, r1, -, -⟩ := (Wd2.kept (one_new w5 (.cells #[.slice y1 ns e1, .slice y2 nl e2] 24)) HK7.out).cells)
          | (go_at_call 30; refine (HI.out.put (kept_same (HK5.out.alloc _) HK7.out) (HN5.out.kept (kept_same ((Kept.refl [] w5).alloc _) HK7.out)) HF1.out.1 HF1.out.2 hlt).mono ?_; rintro e w8 ⟨⟨v8, rfl⟩, HI8⟩))
        go_roundw
        case rel => exact ⟨i + 1, by go_num, by omega, HI8.out⟩
        case measure => simp [Go.RowKit.intOf]; omega
      · obtain rfl : i = 2 := by omega
        clear hlt hi HI0 HRef
        cases o with
        | none =>
          obtain rfl : ec = 51 := HQ.out.2.2.1.symm
          have g1 : ((51 : Int) != 0) = true := by decide
          go_wp2_with (first | (go_at_call 36; refine HI.out.own.mono ?_; rintro e w9 ⟨rfl, HK9⟩) | (go_at_call 41; refine (HRd.out _).mono ?_; rintro e w10 ⟨y1, e1, y2, e2, rfl, HK10, HN10⟩; clear HRd))
          go_ret
          exact ⟨rfl, (kept_same HK9.out HK10.out).alloc _⟩
        | some q =>
          obtain rfl : q = Q := HQ.out.1
          obtain rfl : ec = 0 := HQ.out.2.2.1.symm
          obtain ⟨g1, g2⟩ := read_text HQ.out.2.1
          have g3 := show_letters q g1
          have g4 : s.data.toList.length = s.size := rfl
          obtain ⟨sb, hsb⟩ : ∃ sb : ByteArray, ⟨(showB q).toArray⟩ = sb := ⟨_, rfl⟩
          have hsb2 : sb.data.toList = showB q := by rw [← hsb]
          have hfit : s.size ≤ 65536 := by
            rcases Nat.lt_or_ge 65536 s.size with h | h
            · have := HQ.out.2.1
              unfold readF at this
              rw [if_pos (by omega)] at this
              cases this
            · exact h
          have HSh : Hid (∀ n0 W x y, Kept [] w W → NewW n0 W x y q → Calls Tryd.prog 28 #[.agg #[x, y]] W fun e W' => e = .returned (.string sb) ∧ Hid (Kept [] W W')) := fun n0 W x y k h => by
            rw [← hsb]
            exact show_any _ _ q W ⟨h.lets1, h.lets2, by omega⟩ (by omega) (HQ.out.2.2.2.kept k)
          have h00 : ((0 : Int) != 0) = false := by decide
          have h01 : ((0 : Int) == 0) = true := by decide
          by_cases hlen : (showB q).length ≤ 65536
          · have HRd2 : Hid (∀ W, Calls Tryd.prog 41 #[.string sb] W fun e W' => ∃ a1 c1 a2 c2, e = .returned (.tuple #[.agg #[.slice a1 q.stem.length c1, .slice a2 q.loop.length c2], .int .i64 0, .int .i64 ((0 : Nat) : Int)]) ∧ Hid (Kept [] W W') ∧ Hid (NewW W.heap.size W' (.slice a1 q.stem.length c1) (.slice a2 q.loop.length c2) q)) := fun W => reads_at sb (some q) 0 q 0 (by rw [hsb2]; exact read_show2 q (fun x hx => HI.out.new.small1 x hx) (fun x hx => HI.out.new.small2 x hx) g1 hlen) rfl rfl W (read_any sb W)
            rw [hns, hnl] at HRd2
            clear g1 g2 g3 g4 hsb hsb2 hlen hfit
            go_wp2_with (first | (go_at_call 36; refine HI.out.own.mono ?_; rintro e w9 ⟨rfl, HK9⟩) | (go_at_call 41; refine (HRd.out _).mono ?_; rintro e w10 ⟨y1, e1, y2, e2, rfl, HK10, HN10⟩; clear HRd) | (go_at_call 28; refine (HSh.out _ _ _ _ ((kept_same HK9.out HK10.out).alloc _) (HN10.out.kept ((Kept.refl [] w10).alloc _))).mono ?_; rintro e w12 ⟨rfl, HK12⟩) | (go_at_call 41; refine (HRd2.out _).mono ?_; rintro e w13 ⟨u1, f1, u2, f2, rfl, HK13, HN13⟩; obtain ⟨p0, p1, -, -⟩ := (Wd2.kept (one_new w10 (.cells #[.slice y1 ns e1, .slice y2 nl e2] 24)) (kept_same HK12.out HK13.out)).later) | (go_at_call 14; refine (same_new HN13.out HN10.out _ ((Kept.refl [] w13).alloc _) (kept_same (kept_same ((Kept.refl [] w10).alloc _) (kept_same HK12.out HK13.out)) ((Kept.refl [] w13).alloc _))).mono ?_; rintro e w15 ⟨rfl, HK15⟩))
            go_ret
            exact ⟨rfl, kept_same ((kept_same ((kept_same HK9.out HK10.out).alloc _) (kept_same HK12.out HK13.out)).alloc _) HK15.out⟩
          · have HRd2 : Hid (∀ W, Calls Tryd.prog 41 #[.string sb] W fun e W' => ∃ a1 c1 a2 c2, e = .returned (.tuple #[.agg #[.slice a1 0 c1, .slice a2 0 c2], .int .i64 51, .int .i64 ((65536 : Nat) : Int)]) ∧ Hid (Kept [] W W') ∧ Hid (NewW W.heap.size W' (.slice a1 0 c1) (.slice a2 0 c2) ⟨[], []⟩)) := fun W => reads_at sb none 65536 ⟨[], []⟩ 51 (by rw [hsb2]; unfold readF; rw [if_pos (by omega)]) rfl rfl W (read_any sb W)
            have g5 : (40000 : Int) < (s.size : Int) := by omega
            have g6 : ((51 : Int) == 0) = false := by decide
            clear g1 g2 g3 g4 hsb hsb2 hlen hfit
            go_wp2_with (first | (go_at_call 36; refine HI.out.own.mono ?_; rintro e w9 ⟨rfl, HK9⟩) | (go_at_call 41; refine (HRd.out _).mono ?_; rintro e w10 ⟨y1, e1, y2, e2, rfl, HK10, HN10⟩; clear HRd) | (go_at_call 28; refine (HSh.out _ _ _ _ ((kept_same HK9.out HK10.out).alloc _) (HN10.out.kept ((Kept.refl [] w10).alloc _))).mono ?_; rintro e w12 ⟨rfl, HK12⟩) | (go_at_call 41; refine (HRd2.out _).mono ?_; rintro e w13 ⟨u1, f1, u2, f2, rfl, HK13, HN13⟩; obtain ⟨p0, p1, -, -⟩ := (Wd2.kept (one_new w10 (.cells #[.slice y1 ns e1, .slice y2 nl e2] 24)) (kept_same HK12.out HK13.out)).later) | (go_at_call 14; refine (any_new HN13.out HN10.out _ ((Kept.refl [] w13).alloc _) (kept_same (kept_same ((Kept.refl [] w10).alloc _) (kept_same HK12.out HK13.out)) ((Kept.refl [] w13).alloc _))).mono ?_; rintro e w15 ⟨⟨b, rfl⟩, HK15⟩))
            go_ret
            exact ⟨rfl, kept_same ((kept_same ((kept_same HK9.out HK10.out).alloc _) (kept_same HK12.out HK13.out)).alloc _) HK15.out⟩
end Go.Proofs.YthkmcnfoadkggaaDoor
