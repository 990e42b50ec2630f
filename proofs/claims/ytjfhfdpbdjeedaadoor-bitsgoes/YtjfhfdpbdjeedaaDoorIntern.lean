/- Table.Intern, Find, At, Len. -/
import Derived.Test.YtjfhfdpbdjeedaaDoorTabBase
import Derived.Deep.QuietTactic
import Derived.BigQuiet
import Derived.Deep.RegionLaw
import Derived.Deep.AppendLies
namespace Go.Proofs.YtjfhfdpbdjeedaaDoor
open Go.RowKit
attribute [local go_sem ↓] Go.wp_at_zero Go.wp_at_succ

theorem keyOf_str (K : List UInt8) (h : K.length ≤ maxLen) : keyOf Tryd.prog 9 (.string ⟨K.toArray⟩) = some (keyLit K) := by
  have hu : Tryd.prog.underlying 9 = some .string := by kernel_rfl
  have hs : (⟨K.toArray⟩ : ByteArray).size ≤ maxLen := by simpa [ByteArray.size] using h
  exact WideMaps.keyOf_string_mk hu hs

theorem TabMap.look {w : World} {mb : Nat} {keys : List (List UInt8)} (h : TabMap w mb keys) (K : List UInt8) (hl : K.length ≤ maxLen) :
    ∃ i : Int, Sem.run Tryd.prog (Instr.lookup 70 (.map (some mb)) (.string ⟨K.toArray⟩) true) w = .ok (.tuple #[.int .i64 i, .bool (decide (K ∈ keys))]) w ∧ (K ∈ keys → i = (keys.idxOf K : Nat)) := by
  obtain ⟨D, h1, h2, h3⟩ := h
  have he : Tryd.prog.underlying 3 = some (.int .i64) := by kernel_rfl
  obtain ⟨v, ps, hrun, hv⟩ := h1.look_ok (t := 70) (e := 3) (Maps.string_keyed (by kernel_rfl)) (by kernel_rfl) (z := .int .i64 0) (by kernel_rfl) (plainElem_int he (by decide)) (keyOf_str K hl)
  obtain ⟨a, rfl, ha, hwf⟩ := plainElem_int_inv he hv
  refine ⟨a, by rw [hrun, (h3 K).1], fun hm => ?_⟩
  have e := (h3 K).2 hm
  have e2 : D.atKey (keyLit K) (.lit (.int .i64 0)) = .lit (.int .i64 a) := by simpa using congrArg Prod.fst ha
  rw [e2] at e
  simpa using e

theorem TabMap.put {w : World} {mb : Nat} {keys : List (List UInt8)} (h : TabMap w mb keys) (K : List UInt8) (hl : K.length ≤ maxLen) (hn : K ∉ keys) (hk : keys.length ≤ 1000000) :
    ∃ w', Sem.run Tryd.prog (Instr.mapUpdate 70 (.map (some mb)) (.string ⟨K.toArray⟩) (.int .i64 (keys.length : Nat))) w = .ok () w' ∧ TabMap w' mb (keys ++ [K]) ∧ w.grownBy w' (some mb) := by
  obtain ⟨D, h1, h2, h3⟩ := h
  have he : Tryd.prog.underlying 3 = some (.int .i64) := by kernel_rfl
  have hwf : (Lit.int .i64 (keys.length : Nat)).wf = true := Go.WalkArith.wf_i64 (by omega)
  obtain ⟨w', hrun, ho, hg⟩ := h1.update (t := 70) (e := 3) (Maps.string_keyed (by kernel_rfl)) (by kernel_rfl) (by unfold maxLen; omega) (keyOf_str K hl) (plainElem_int he hwf)
  refine ⟨w', hrun, ⟨_, ?_, h2.put _ _, has_put_key h2 hn h3⟩, hg⟩
  simpa using ho
theorem keyW_len (n : Nat) (ws : List Nat) (hn : n ≤ 65536) : (keyW n ws).length ≤ maxLen := by
  unfold keyW maxLen; simp; omega

theorem IsTable.c0 {w : World} {B tb mb n : Nat} {v : Value} {es : List Ent} (h : IsTable w B tb mb n v es) : w.cell? ⟨tb, 0, none⟩ = some (.int .i64 n) := by rw [cell_of h.head]; rfl
theorem IsTable.c1 {w : World} {B tb mb n : Nat} {v : Value} {es : List Ent} (h : IsTable w B tb mb n v es) : w.cell? ⟨tb, 1, none⟩ = some v := by rw [cell_of h.head]; rfl
theorem IsTable.c2 {w : World} {B tb mb n : Nat} {v : Value} {es : List Ent} (h : IsTable w B tb mb n v es) : w.cell? ⟨tb, 2, none⟩ = some (.map (some mb)) := by rw [cell_of h.head]; rfl

set_option maxHeartbeats 800000 in
theorem intern_other (B tb mb n b g c n' : Nat) (v : Value) (es : List Ent) (ws : List Nat) (w : World) (ht : IsTable w B tb mb n v es) (hs : IsSet w b g c n' ws) (hne : n' ≠ n) :
    Calls Tryd.prog 29 #[.pointer (some ⟨tb, 0, none⟩), .pointer (some ⟨b, 0, none⟩)] w fun e w' => e = .returned (.tuple #[.int .i64 (-1), .bool false]) ∧ Kept [] w w' := by
  have h0 := hs.c0
  have t0 := ht.c0
  have hb : ((n' : Int) != (n : Int)) = true := by simp; omega
  clear hs ht
  go_enter Tryd.func29, Tryd.ntmps29
  go_wp2_with fail
  go_quiet (fail)
  go_wp2
  go_ret2
  exact ⟨rfl, (Kept.refl [] w).drewN _⟩

set_option maxHeartbeats 800000 in
theorem intern_old (B tb mb n b g c : Nat) (v : Value) (es : List Ent) (ws : List Nat) (w : World) (ht : IsTable w B tb mb n v es) (hs : IsSet w b g c n ws) (hG : Good n ws)
    (hm : keyW n ws ∈ es.map fun e => keyW n e.ws) :
    Calls Tryd.prog 29 #[.pointer (some ⟨tb, 0, none⟩), .pointer (some ⟨b, 0, none⟩)] w fun e w' =>
      e = .returned (.tuple #[.int .i64 ((es.map fun e => keyW n e.ws).idxOf (keyW n ws) : Nat), .bool false]) ∧ Kept [] w w' := by
  have h0 := hs.c0
  have t0 := ht.c0
  have hb : ((n : Int) != (n : Int)) = false := by simp
  have hkl := keyW_len n ws hG.top
  obtain ⟨ix, hix⟩ : ∃ ix, ix = (es.map fun e => keyW n e.ws).idxOf (keyW n ws) := ⟨_, rfl⟩
  rw [← hix]
  have HIX : Hid _ := hix
  clear hix
  go_enter Tryd.func29, Tryd.ntmps29
  go_wp2_with fail
  go_quiet (fail)
  go_wp2_with fail
  refine (key_any b g c n ws _ (hs.kept ((Kept.refl [] w).drewN _) (by simp) (by simp)) hG).mono ?_
  rintro e wk ⟨rfl, hk⟩
  have hk' : Kept [] w wk := ((Kept.refl [] w).drewN _).trans hk (by simp) (by simp)
  have htk := ht.quiet hk'
  obtain ⟨i, hlook, hidx⟩ := htk.map.look (keyW n ws) hkl
  have hdec : decide (keyW n ws ∈ es.map fun e => keyW n e.ws) = true := by simpa using hm
  rw [hdec] at hlook
  have ei : i = (ix : Int) := by rw [hidx hm, HIX.out]
  subst ei
  have t2 := htk.c2
  generalize keyW n ws = K at hlook
  clear hidx hm hdec htk ht hs t0 h0 hk hb HIX
  go_wp2
  go_ret2
  exact ⟨rfl, hk'⟩

/-- What a table is behind a new set: outside the walk. -/
theorem intern_new_end {wk w1 w2 w3 : World} {B tb mb n nb ng nc gr cap : Nat} {v : Value} {es : List Ent} {ws : List Nat} (ht : IsTable wk B tb mb n v es) (hG : Good n ws) (hf : es.length < 1000000)
    (hm1 : TabMap w1 mb ((es.map fun e => keyW n e.ws) ++ [keyW n ws])) (hg1 : wk.grownBy w1 (some mb))
    (hset : IsSet w2 nb ng nc n ws) (hb : w1.drew.heap.size ≤ nb) (hg : w1.drew.heap.size ≤ ng) (hk2 : Kept [] w1.drew w2)
    (hown : w3.ownsRow B 37 1 (.slice (some ⟨gr, 0, none⟩) (es.length + 1) cap) (es.length + 1) ((es.map fun e => .pointer (some ⟨e.b, 0, none⟩)) ++ [.pointer (some ⟨nb, 0, none⟩)]))
    (hg3 : (w2.alloc (.cells #[.pointer (some ⟨nb, 0, none⟩)] 37)).grownBy w3 v.ownBlock) :
    IsTable (w3.setCell ⟨tb, 1, none⟩ (.slice (some ⟨gr, 0, none⟩) (es.length + 1) cap)) B tb mb n (.slice (some ⟨gr, 0, none⟩) (es.length + 1) cap) (es ++ [⟨nb, ng, nc, ws⟩]) ∧
      Kept (tabF tb mb v) wk (w3.setCell ⟨tb, 1, none⟩ (.slice (some ⟨gr, 0, none⟩) (es.length + 1) cap)) := by
  have k1 : Kept [mb] wk w1 := (Kept.refl [mb] wk).grown hg1 (fun k hk => by left; simpa using hk.symm)
  have k2 : Kept [mb] wk w2 := k1.trans (F := [mb]) (G := []) (H := [mb]) (Kept.trans (F := []) (G := []) (H := []) (Kept.refl [] w1).drew hk2 (by simp) (by simp)) (fun _ h => h) (by simp)
  have k23 : Kept v.ownBlock.toList w2 w3 := ((Kept.refl _ w2).alloc _).grown hg3 (fun k hk => by left; simp [hk])
  have k3 : Kept (mb :: v.ownBlock.toList) wk w3 := k2.trans (H := mb :: v.ownBlock.toList) k23 (fun x hx => by simp at hx; simp [hx]) (fun x hx => by left; simp at hx; simp [hx])
  have htm : tb ≠ mb := by obtain ⟨a, c, h⟩ := ht.map.map; exact ne_of_obj ht.head h (by simp)
  have htr : ∀ x, v.ownBlock = some x → tb ≠ x := fun x hx => by obtain ⟨cur, h⟩ := ht.row_ne hx; exact ne_of_obj ht.head h (by simp)
  have hmr : ∀ x, v.ownBlock = some x → mb ≠ x := fun x hx => by obtain ⟨cur, h⟩ := ht.row_ne hx; obtain ⟨a, c, h'⟩ := ht.map.map; exact ne_of_obj h' h (by simp)
  have htb3 : tb ∉ mb :: v.ownBlock.toList := by
    intro h
    simp at h
    rcases h with h | h
    · exact htm h
    · exact htr tb h rfl
  have hhead3 := k3.at ht.head htb3
  have hz : wk.heap.size ≤ w1.heap.size := k1.size
  have hb' : w1.heap.size ≤ nb := hb
  have hg' : w1.heap.size ≤ ng := hg
  have hz2 : w1.heap.size ≤ w2.heap.size := hk2.size
  have hrlt : ∀ x, v.ownBlock = some x → x < wk.heap.size := fun x hx => by obtain ⟨cur, h⟩ := ht.row_ne hx; exact lt_of h
  have k4 : Kept (tabF tb mb v) wk (w3.setCell ⟨tb, 1, none⟩ (.slice (some ⟨gr, 0, none⟩) (es.length + 1) cap)) :=
    (k3.mono (fun x hx => by unfold tabF; simp at hx ⊢; exact Or.inr hx)).setCell (by left; simp [tabF]) _
  have k34 : Kept [tb] w3 (w3.setCell ⟨tb, 1, none⟩ (.slice (some ⟨gr, 0, none⟩) (es.length + 1) cap)) := (Kept.refl _ _).setCell (by simp) _
  have hrow3 : ∃ cur, w3.heap[gr]? = some (.cells cur 37 (0, 0)) := by
    obtain ⟨h1, h2 | ⟨g', cap', cur, h2, h3, h4, h5⟩⟩ := hown
    · simp at h2
    · simp at h2; obtain ⟨rfl, _⟩ := h2; exact ⟨cur, h4⟩
  refine ⟨⟨?_, ?_, ?_, ?_, by simp; omega, ?_⟩, k4⟩
  · simp only [World.setCell, Array.getElem?_modify, if_true]
    rw [hhead3]
    simp
  · have := ownsRow_kept hown k34 (fun x hx => by
      simp [Value.ownBlock] at hx
      subst hx
      obtain ⟨cur, h⟩ := hrow3
      simpa using (ne_of_obj hhead3 h (by simp)).symm)
    simpa using this
  · intro e he
    simp at he
    rcases he with he | he
    · obtain ⟨h1, h2⟩ := ht.sets e he
      refine ⟨h1.kept k4 ?_ ?_, h2⟩
      · intro h
        unfold tabF at h
        simp at h
        rcases h with h | h | h
        · exact ne_of_obj h1.head ht.head (by simp) h
        · obtain ⟨a, c, h'⟩ := ht.map.map; exact ne_of_obj h1.head h' (by simp) h
        · obtain ⟨cur, h'⟩ := ht.row_ne h; exact ne_of_obj h1.head h' (by simp) rfl
      · intro h
        unfold tabF at h
        simp at h
        obtain ⟨cur0, hc0, _⟩ := h1.row
        rcases h with h | h | h
        · exact ne_of_obj hc0 ht.head (by simp) h
        · obtain ⟨a, c, h'⟩ := ht.map.map; exact ne_of_obj hc0 h' (by simp) h
        · obtain ⟨cur, h'⟩ := ht.row_ne h; exact ne_of_obj hc0 h' (by simp) rfl
    · subst he
      have htb : tb < wk.heap.size := lt_of ht.head
      refine ⟨(hset.kept k23 ?_ ?_).kept k34 ?_ ?_, hG⟩
      · intro h; simp at h; have := hrlt _ h; omega
      · intro h; simp at h; have := hrlt _ h; omega
      · simp; omega
      · simp; omega
  · have hmb : mb ≠ tb := htm.symm
    have := ((hm1.kept (F := []) (Kept.trans (F := []) (G := []) (H := []) (Kept.refl [] w1).drew hk2 (by simp) (by simp)) (by simp)).kept k23 (fun h => by simp at h; exact hmr mb h rfl)).kept k34 (by simpa using hmb)
    simpa using this
  · exact Nat.le_trans ht.big k4.size

theorem intern_facts2 {w1 w2 : World} {B tb mb n : Nat} {v : Value} {es : List Ent} (hh : w1.heap[tb]? = some (.cells #[.int .i64 n, v, .map (some mb)] 72 (0, 0))) (hB : B ≤ w1.heap.size)
    (hown : w1.ownsRow B 37 1 v es.length (es.map fun e => .pointer (some ⟨e.b, 0, none⟩))) (hk2 : Kept [] w1.drew w2) :
    w2.cell? ⟨tb, 1, none⟩ = some v ∧ w2.frozen? ⟨tb, 1, none⟩ = false ∧ w2.ownsRow B 37 1 v es.length (es.map fun e => .pointer (some ⟨e.b, 0, none⟩)) ∧ w1.heap.size ≤ w2.heap.size ∧ tb < w2.heap.size ∧ B ≤ w2.heap.size := by
  have k : Kept [] w1 w2 := Kept.trans (F := []) (G := []) (H := []) (Kept.refl [] w1).drew hk2 (by simp) (by simp)
  have hh2 := k.at hh (by simp)
  exact ⟨by rw [cell_of hh2]; rfl, free_of hh2 1, ownsRow_kept hown k (fun _ _ => by simp), k.size, lt_of hh2, Nat.le_trans hB k.size⟩
theorem intern_facts3 {w2 w3 : World} {tb : Nat} {v : Value} {o : Obj} (hg : (w2.alloc o).grownBy w3 v.ownBlock) (htr : ∀ x, v.ownBlock = some x → tb ≠ x) (hlt : tb < w2.heap.size) (c2 : w2.cell? ⟨tb, 1, none⟩ = some v) (f2 : w2.frozen? ⟨tb, 1, none⟩ = false) :
    w3.cell? ⟨tb, 1, none⟩ = some v ∧ w3.frozen? ⟨tb, 1, none⟩ = false := by
  have h1 := hg.block tb (by simp; omega) (fun e => htr tb e.symm rfl)
  rw [Below.heap_alloc _ _ _ hlt] at h1
  exact ⟨(World.cell?_of_block (w := w2) (a := ⟨tb, 1, none⟩) h1).trans c2, (World.frozen?_of_block (w := w2) (a := ⟨tb, 1, none⟩) h1).trans f2⟩

set_option maxHeartbeats 1600000 in
theorem intern_new (B tb mb n b g c : Nat) (v : Value) (es : List Ent) (ws : List Nat) (w : World) (ht : IsTable w B tb mb n v es) (hs : IsSet w b g c n ws) (hG : Good n ws)
    (hm : keyW n ws ∉ es.map fun e => keyW n e.ws) (hf : es.length < 1000000) :
    Calls Tryd.prog 29 #[.pointer (some ⟨tb, 0, none⟩), .pointer (some ⟨b, 0, none⟩)] w fun e w' =>
      e = .returned (.tuple #[.int .i64 (es.length : Nat), .bool true]) ∧ ∃ v' en, en.ws = ws ∧ IsTable w' B tb mb n v' (es ++ [en]) ∧ w.heap.size ≤ en.b ∧ w.heap.size ≤ en.g ∧ (∀ x, v'.ownBlock = some x → v.ownBlock = some x ∨ w.heap.size ≤ x) ∧ Kept (tabF tb mb v) w w' := by
  obtain ⟨i0, hi, hz0, hz1, hz2⟩ := info_parts Tryd.infoPS
  have h0 := hs.c0
  have t0 := ht.c0
  have hb : ((n : Int) != (n : Int)) = false := by simp
  have hkl := keyW_len n ws hG.top
  have hlen0 : ∃ ad cp, v = .slice ad es.length cp := by
    obtain ⟨h1, ⟨rfl, h2⟩ | ⟨g', cap', cur, h2, _⟩⟩ := ht.own
    · exact ⟨none, 0, by rw [h2]⟩
    · exact ⟨_, _, h2⟩
  obtain ⟨ad, cp, rfl⟩ := hlen0
  have hes : es.length < 1000000 := hf
  go_enter Tryd.func29, Tryd.ntmps29
  go_wp2_with fail
  go_quiet (fail)
  go_wp2_with fail
  refine (key_any b g c n ws _ (hs.kept ((Kept.refl [] w).drewN _) (by simp) (by simp)) hG).mono ?_
  rintro e wk ⟨rfl, hk⟩
  have hk' : Kept [] w wk := ((Kept.refl [] w).drewN _).trans hk (by simp) (by simp)
  have htk := ht.quiet hk'
  have hsk := hs.kept hk' (by simp) (by simp)
  obtain ⟨i, hlook, _⟩ := htk.map.look (keyW n ws) hkl
  have hdec : decide (keyW n ws ∈ es.map fun e => keyW n e.ws) = false := by simpa using hm
  rw [hdec] at hlook
  obtain ⟨w1, hput, hm1, hg1⟩ := htk.map.put (keyW n ws) hkl hm (by simpa using htk.few)
  have hln : (es.map fun e => keyW n e.ws).length = es.length := by simp
  rw [hln] at hput
  have t1 := htk.c1
  have t2 := htk.c2
  have k1 : Kept [mb] wk w1 := (Kept.refl [mb] wk).grown hg1 (fun k hk => by left; simpa using hk.symm)
  have htm : tb ≠ mb := by obtain ⟨a, c, h⟩ := htk.map.map; exact ne_of_obj htk.head h (by simp)
  have hhead1 := k1.at htk.head (by simpa using htm)
  have hbm : b ≠ mb := by obtain ⟨a, c, h⟩ := htk.map.map; exact ne_of_obj hsk.head h (by simp)
  have hgm : g ≠ mb := by obtain ⟨a, c, h⟩ := htk.map.map; obtain ⟨cur0, hc0, _⟩ := hsk.row; exact ne_of_obj hc0 h (by simp)
  have hs1 := hsk.kept k1 (by simpa using hbm) (by simpa using hgm)
  have u1 : w1.cell? ⟨tb, 1, none⟩ = some (.slice ad es.length cp) := by rw [cell_of hhead1]; rfl
  have f1 : w1.frozen? ⟨tb, 1, none⟩ = false := free_of hhead1 1
  have hmr : ∀ x, (Value.slice ad es.length cp).ownBlock = some x → x ∉ [mb] := fun x hx => by obtain ⟨cur, h⟩ := htk.row_ne hx; obtain ⟨a, c, h'⟩ := htk.map.map; simpa using ne_of_obj h h' (by simp)
  have hown1 := ownsRow_kept htk.own k1 hmr
  have htr : ∀ x, (Value.slice ad es.length cp).ownBlock = some x → tb ≠ x := fun x hx => by obtain ⟨cur, h⟩ := htk.row_ne hx; exact ne_of_obj htk.head h (by simp)
  have HH1 : Hid _ := hhead1
  have HM1 : Hid (TabMap w1 mb ((es.map fun e => keyW n e.ws) ++ [keyW n ws])) := hm1
  have HG1 : Hid _ := hg1
  have HTK : Hid _ := htk
  have HK' : Hid _ := hk'
  have HTR : Hid _ := htr
  have HSZ : Hid (B ≤ w1.heap.size) := Nat.le_trans htk.big k1.size
  have hle : wk.heap.size ≤ w1.heap.size := k1.size
  clear hm1 hg1 htk hk' hk htr hmr hdec hln hm ht hs hsk h0 t0 hbm hgm htm hhead1 k1 hle
  generalize keyW n ws = K at hlook hput ⊢
  go_wp2_with fail
  go_region_law (first | (refine step_append_lies _ (by rfl) _ _ _ (by rfl) B 37 i0 _ 1 8 (by kernel_rfl) hi hz0 hz1 hz2 rfl (by omega) (.slice ad es.length cp) es.length (es.map fun e => .pointer (some ⟨e.b, 0, none⟩)) (by rfl) (hown2.alloc _) ⟨w2.heap.size, 0, none⟩ 1 1 [.pointer (some ⟨nb, 0, none⟩)] (by rfl) (by rfl) (World.news_of_block (cs := #[.pointer (some ⟨nb, 0, none⟩)]) (t := 37) (fr := (0, 0)) (heap_alloc_new w2 _)) (by simp [Value.oneCell']) (by omega) (by unfold maxLen; omega) (by omega) (by simp; omega) (w2.heap.size + 1) (by simp) ?_; intro gr cap w3 hown3 hgrow3 hat hlt3; obtain ⟨c3, f3⟩ := intern_facts3 hgrow3 HTR.out ltb c2 f2) | (go_simp; go_at_call 38; refine (copy_any b g c n ws _ hs1.drew hG).mono ?_; rintro e w2 ⟨nb, ng, nc, rfl, hset, hnb, hng, hk2⟩; obtain ⟨c2, f2, hown2, l2, ltb, lB⟩ := intern_facts2 HH1.out HSZ.out hown1 hk2))
  all_goals go_wp2
  all_goals go_ret2
  all_goals
    have hend := intern_new_end HTK.out hG hf HM1.out HG1.out hset hnb hng hk2 hown3 hgrow3
    have hw1 : w.heap.size ≤ w1.heap.size := Nat.le_trans HK'.out.size HG1.out.size
    have hb1 : w1.heap.size ≤ nb := hnb
    have hg1 : w1.heap.size ≤ ng := hng
    exact ⟨rfl, _, ⟨nb, ng, nc, ws⟩, rfl, hend.1, Nat.le_trans hw1 hb1, Nat.le_trans hw1 hg1, fun x hx => by
      simp [Value.ownBlock] at hx
      subst hx
      rcases hat with h | h
      · exact Or.inl h
      · right; omega, HK'.out.trans (F := []) hend.2 (by simp) (fun x hx => Or.inl hx)⟩
theorem newTable_is (w : World) (n : Nat) : IsTable ((w.alloc (.map #[] 0)).alloc (.cells #[.int .i64 n, .slice none 0 0, .map (some w.heap.size)] 72)) w.heap.size (w.heap.size + 1) w.heap.size n (.slice none 0 0) [] :=
  ⟨heap_new1 _ _ _, World.ownsRow_nil _ _ _ _, fun e he => by simp at he, (tabMap_made w).kept ((Kept.refl [] _).alloc _) (by simp), by simp, by simp; omega⟩

theorem newTable_any (n : Nat) (w : World) (hn : n ≤ 65536) :
    Calls Tryd.prog 11 #[.int .i64 n] w fun e w' => ∃ tb mb, e = .returned (.pointer (some ⟨tb, 0, none⟩)) ∧ IsTable w' w.heap.size tb mb n (.slice none 0 0) [] ∧ w.heap.size ≤ tb ∧ w.heap.size ≤ mb ∧ Kept [] w w' :=
  (newTable_in n w hn).mono fun e w' ⟨h1, h2⟩ => by subst h2; exact ⟨_, _, h1, newTable_is w n, by omega, by omega, ((Kept.refl [] w).alloc _).alloc _⟩

end Go.Proofs.YtjfhfdpbdjeedaaDoor
