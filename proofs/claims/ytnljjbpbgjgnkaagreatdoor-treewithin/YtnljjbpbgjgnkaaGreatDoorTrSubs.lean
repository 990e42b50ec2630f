/- tree.Subs. -/
import Derived.Test.YtnljjbpbgjgnkaaGreatDoorTrSubs0
namespace Go.Proofs.YtnljjbpbgjgnkaaGreatDoor
open Go.RowKit Go.Shelf Go.Sort

set_option maxHeartbeats 2000000 in
set_option maxRecDepth 20000 in
theorem subs_any (t : Tr) (kv : Value) (w : World) (hI : IsF w t kv) (hs : t.size ≤ 1099511627776) (hF : t.Fine) :
    Calls Tryz.prog 11 #[.agg #[.int .u8 (t.op : Nat), .string t.name, kv]] w fun e w' => ∃ G us, e = .returned (.slice (some ⟨G, 0, none⟩) us.length us.length) ∧ w.heap.size ≤ G ∧ RowAt G us.length us us.length w' ∧ us.length = (unlikeP t).length ∧ (∃ ds : List (Nat × Tr), us = ds.map Prod.snd ∧ ds.Perm (unlikeP t) ∧ ∀ i j (hi : i < ds.length) (hj : j < ds.length), i < j → ¬ cmpE ds[j] ds[i] < 0) ∧ Kept [] w w' := by
  obtain ⟨kad, kcap, rfl⟩ := hI.slice
  obtain ⟨W0, hW0⟩ : ∃ W0, w.alloc (.cells #[.int .u8 (t.op : Nat), .string t.name, .slice kad t.kids.length kcap] 25) = W0 := ⟨_, rfl⟩
  have k0 : Kept [] w W0 := by rw [← hW0]; exact (Kept.refl [] w).alloc _
  have HUN : Hid _ := fun (_ : Unit) => unlike_any t _ W0 (hI.kept k0) hs hF
  have HW0 : Hid _ := hW0
  have HUA : Hid _ := unlike_all t hF
  have HUL : Hid _ := unlike_len t
  have HUS : Hid _ := unlike_some t
  have HK0 : Hid (Kept [] w W0) := k0
  clear hI hF k0 hW0
  go_enter Tryz.func11, Tryz.ntmps11
  go_wp2_with (go_at_call 34; rw [HW0.out]; refine (HUN.out ()).mono ?_; rintro e W1 ⟨v, l, rfl, hrow, hl, hin, hk1⟩; obtain ⟨ad, cap, rfl⟩ := own_slice hrow)
  have hln : l.length = (unlikeP t).length := by rw [← hl, List.length_map]
  have hlz : 1 ≤ l.length := by rw [hln]; exact HUS.out
  have hlm : l.length ≤ 1099511627776 := by rw [hln]; have := HUL.out; omega
  have hin2 : ∀ x ∈ l, IsF W0 x.t (.slice x.kad x.t.kids.length x.kcap) ∧ x.t.size ≤ 1099511627776 ∧ x.t.Fine := fun x hx => by
    have := HUA.out x.key (by rw [← hl]; exact List.mem_map.2 ⟨x, hx, rfl⟩)
    exact ⟨hin x hx, Nat.le_trans this.1 hs, this.2⟩
  obtain ⟨x0, r0, hx0⟩ : ∃ x0 r0, l = x0 :: r0 := by cases l with | nil => simp at hlz | cons a b => exact ⟨a, b, rfl⟩
  have i0 : Inhabited (Lies W0) := ⟨⟨x0, (hin2 x0 (by simp [hx0])).1, (hin2 x0 (by simp [hx0])).2.1, (hin2 x0 (by simp [hx0])).2.2⟩⟩
  obtain ⟨g, hg⟩ : ∃ g, ad = some ⟨g, 0, none⟩ := by
    rcases hrow.2 with ⟨e, e0⟩ | ⟨g', cap', cur, e, _⟩
    · omega
    · cases e; exact ⟨g', rfl⟩
  obtain ⟨hg0, hg1, hH⟩ := holds_of hin2 hrow hg
  subst hg
  have hds : (liesOf W0 l hin2).toArray.size = l.length := by simp [liesOf_len]
  have hso := sort_any W0 W1 g cap (liesOf W0 l hin2).toArray hk1 hg0 hg1 hH (by omega)
  rw [hds] at hso
  refine hso.mono ?_
  rintro e W2 ⟨rfl, d', n, os, hp, hsrt, rfl⟩
  have hk2 := sorted_block (w := W0) encE 4 g 0 n d' os W1 hk1 hg0
  have hd' : d'.size = l.length := hp.1.trans hds
  have hH2 := holdsK_sortWorldK_c encE 4 W1 g 0 _ d' n os hH hg1 hp.1
  have hds2 : ∃ ds : List (Nat × Tr), d'.toList.map (fun x => x.val.t) = ds.map Prod.snd ∧ ds.Perm (unlikeP t) ∧ ∀ i j (hi : i < ds.length) (hj : j < ds.length), i < j → ¬ cmpE ds[j] ds[i] < 0 := by
    refine ⟨d'.toList.map (fun x => x.val.key), ?_, ?_, ?_⟩
    · rw [List.map_map]; rfl
    · have h1 := hp.2.2
      rw [show d'.extract 0 l.length = d' by rw [← hd']; exact Array.extract_size, show (liesOf W0 l hin2).toArray.extract 0 l.length = (liesOf W0 l hin2).toArray by rw [← hds]; exact Array.extract_size] at h1
      have h2 := h1.map (fun x : Lies W0 => x.val.key)
      have h3 : (liesOf W0 l hin2).map (fun x => x.val.key) = unlikeP t := by
        rw [← hl]
        conv => rhs; rw [← liesOf_val W0 l hin2, List.map_map]
        rfl
      rw [← h3]
      exact h2
    · intro i j hi hj hij
      have hjd : j < d'.size := by simpa using hj
      have hid : i < d'.size := by simpa using hi
      have h1 := hsrt i j (Nat.zero_le _) hij (by omega)
      rw [getElem!_pos d' j hjd, getElem!_pos d' i hid] at h1
      simpa [ltOf] using h1
  obtain ⟨W2, hW2⟩ : ∃ W2, sortWorldK encE 4 W1 g 0 n d' os = W2 := ⟨_, rfl⟩
  rw [hW2] at hk2 hH2 ⊢
  have HK2 : Hid (Kept [] W0 W2) := hk2
  have HH2 : Hid (HoldsK (encE (w := W0)) 4 W2 g 0 d') := hH2
  have HLN : Hid _ := hln
  have HDS : Hid _ := hds2
  have hmk := make_for W2 l.length (by omega)
  clear hso hds2 hsrt hk2 hH2 hH hp hW2 hin hin2 hl hrow HUN HUA HUL HUS hx0 hln hds
  go_wp2
  obtain ⟨us, hus⟩ : ∃ us, d'.toList.map (fun x => x.val.t) = us := ⟨_, rfl⟩
  have hul : us.length = l.length := by rw [← hus, List.length_map, Array.length_toList, hd']
  clear hmk
  go_loopw [16] (fun v wr => ∃ i : Nat, v = .int .i64 (i : Nat) ∧ i ≤ l.length ∧ Hid (Kept [] W2 wr ∧ RowAt W2.heap.size l.length us i wr)) (fun v _ => l.length - (intOf v).toNat)
  case atStart => exact ⟨0, rfl, Nat.zero_le _, (Kept.refl [] W2).alloc _, ⟨zeros3 _, al0 _ _, zeros3_size _, fun j _ h => by omega⟩⟩
  case round =>
    obtain ⟨i, rfl, hi, HR⟩ := hrel
    by_cases hlt : i < l.length
    · obtain ⟨kw, hra⟩ := HR.out
      have hid : i < d'.size := by omega
      obtain ⟨x, hx⟩ : ∃ x, d'[i]! = x := ⟨_, rfl⟩
      have cc : ∀ c, c < 4 → wr.cell? ⟨g, i * 4 + c, none⟩ = some (x.val.cells[c]!) := fun c hc => by
        have h1 := (HH2.out (i * 4 + c) (by rw [size_flatK]; omega)).1
        rw [get_flatK _ _ _ _ (by omega), show (i * 4 + c) / 4 = i by omega, show (i * 4 + c) % 4 = c by omega, hx, Nat.zero_add] at h1
        exact cell_kept0 kw h1
      have q0 : wr.cell? ⟨g, i * 4, none⟩ = some (.int .i64 (x.val.size : Nat)) := cc 0 (by omega)
      have q1 : wr.cell? ⟨g, i * 4 + 1, none⟩ = some (.int .u8 (x.val.t.op : Nat)) := cc 1 (by omega)
      have q2 : wr.cell? ⟨g, i * 4 + 2, none⟩ = some (.string x.val.t.name) := cc 2 (by omega)
      have q3 : wr.cell? ⟨g, i * 4 + 3, none⟩ = some (.slice x.val.kad x.val.t.kids.length x.val.kcap) := cc 3 (by omega)
      have hiu : i < us.length := by omega
      have hui : us[i] = x.val.t := by
        subst hus
        rw [← hx, getElem!_pos d' i hid]
        simp
      have HUI : Hid _ := hui
      have kwr : Kept [] W0 wr := HK2.out.trans kw (by simp) (by simp)
      have HCP : Hid _ := fun W' (k : Kept [] wr W') => copy_any x.val.t _ W' ((x.lies.kept kwr).kept k) x.small x.fine
      have HKW : Hid (Kept [] W2 wr) := kw
      have HRA : Hid (RowAt W2.heap.size l.length us i wr) := hra
      have hzw := kw.size
      have lG : W2.heap.size < wr.heap.size := by obtain ⟨arr, hg, _⟩ := hra.row; exact lt_of hg
      have hili : (i : Int) < (l.length : Int) := by omega
      clear cc kwr kw hra hx hui HR
      go_wp2_with (go_at_call 23; refine (HCP.out _ ((Kept.refl [] wr).alloc _)).mono ?_; rintro e W5 ⟨cad, ccap, rfl, hI5, hk5⟩; have kk : Kept [] wr W5 := ((Kept.refl [] wr).alloc _).trans hk5 (by simp) (by simp); obtain ⟨⟨v0, v1, v2, g0, g1, g2, gf⟩, hnx⟩ := HRA.out.next kk hiu hul (ad := cad) (cap := ccap) (by rw [HUI.out]; exact IsT.mono hI5 (fun k h => by simp at h; omega)); rw [HUI.out] at hnx; have HNX : Hid _ := hnx; have HKK : Hid (Kept [] wr W5) := kk; clear hI5 hk5 kk hnx)
      refine ⟨⟨i + 1, by simp, by omega, ?_, HNX.out⟩, by simp only [intOf]; omega⟩
      exact (((HKW.out.trans HKK.out (H := []) (by simp) (by simp)).setCell (p := ⟨W2.heap.size, i * 3, none⟩) (.inr (Nat.le_refl _)) _).setCell (p := ⟨W2.heap.size, i * 3 + 1, none⟩) (.inr (Nat.le_refl _)) _).setCell (p := ⟨W2.heap.size, i * 3 + 2, none⟩) (.inr (Nat.le_refl _)) _
    · obtain rfl : i = l.length := by omega
      have HHR : Hid _ := HR.out
      go_wp2
      go_ret
      refine ⟨W2.heap.size, us, by rw [hul]; rfl, Nat.le_trans HK0.out.size HK2.out.size, ?_, by rw [hul]; exact HLN.out, by rw [← hus]; exact HDS.out, ?_⟩
      · rw [hul]; exact HHR.out.2
      · exact (HK0.out.trans HK2.out (H := []) (by simp) (by simp)).trans HHR.out.1 (by simp) (by simp)
end Go.Proofs.YtnljjbpbgjgnkaaGreatDoor
