/- Machines that are lent: SpoilMoore. -/
import Derived.Test.YtbbfajbnklgncaaMoLent
import Derived.Test.YtbbfajbnklgncaaBuSpoilR
namespace Go.Proofs.Ytbbfajbnklgncaa
open Go.RowKit Go.Shelf

theorem RowsL.keptFM {F : List Nat} {w W W' : World} {b m : Nat} {bs : List Nat} {xss : List (List Int)} (h : RowsL w W b m bs xss) (k : Kept F W W') (h1 : b ∉ F) (h2 : m ∉ F) (h3 : ∀ x ∈ bs, x ∉ F) : RowsL w W' b m bs xss := ⟨k.at h.row h1, h.rs.keptF k h3, k.at h.mrk h2, h.nb, h.nd, h.lo⟩
theorem LentG.ne_oneM {e e' : TypeId} {s : Nat} {W : World} {b m n : Nat} {cs ms : List Value} {v : Value} (h : LentG e s W b n cs ms) (hs : 0 < s) (hm : W.heap[m]? = some (.cells #[v] e' (0, 0))) : m ≠ b := by
  rintro rfl
  have q := h.row
  rw [hm] at q
  injection q with q
  injection q with q _ _
  have hz : (#[v] : Array Value).size = (cs ++ ms).toArray.size := by rw [q]
  simp [h.len, h.mlen] at hz
  omega
def spoilTB : ByteArray := ⟨#[115, 112, 111, 105, 108, 116]⟩
set_option maxHeartbeats 1600000 in
theorem spoilMoore_any (b1 b2 b3 m : Nat) (bs : List Nat) (ps : List ByteArray) (next : List (List Int)) (live : List Nat) (n : Nat) (w : World) (h : MooL w n b1 b2 b3 m bs ps next live) (hf : next.length ≤ 100000000) :
    Calls Try.prog 11 #[.agg #[.slice (some ⟨b1, 0, none⟩) ps.length (ps.length + 2), .slice (some ⟨b2, 0, none⟩) next.length (next.length + 1), .slice (some ⟨b3, 0, none⟩) live.length (live.length + 2)]] w fun e w' => (∃ v, e = .returned v) ∧ Kept (b1 :: b3 :: b2 :: bs) w w' := by
  obtain ⟨V, hV⟩ : ∃ V, w.alloc (.cells #[.slice (some ⟨b1, 0, none⟩) ps.length (ps.length + 2), .slice (some ⟨b2, 0, none⟩) next.length (next.length + 1), .slice (some ⟨b3, 0, none⟩) live.length (live.length + 2)] 26) = V := ⟨_, rfl⟩
  have kV : Kept [] w V := by rw [← hV]; exact (Kept.refl [] w).alloc _
  have hA : Thr 26 V w.heap.size (.slice (some ⟨b1, 0, none⟩) ps.length (ps.length + 2)) (.slice (some ⟨b2, 0, none⟩) next.length (next.length + 1)) (.slice (some ⟨b3, 0, none⟩) live.length (live.length + 2)) := by rw [← hV]; exact al0 _ _
  obtain ⟨u1, u2, u3⟩ := h.up
  have z1 := lt_of h.ps.row
  have z3 := lt_of h.lv.row
  obtain ⟨w0, hs⟩ := h.nx
  have hlt := h.lt
  have hnb := hs.nb
  have m1 := h.ps.ne_oneM (by decide) hs.mrk
  have HP1 : Hid (Calls Try.prog 33 #[.slice (some ⟨b1, 0, none⟩) ps.length (ps.length + 2)] V fun e w' => (∃ v, e = .returned v) ∧ Kept [b1] V w' ∧ w'.heap[b1]? = some (.cells (List.replicate (ps.length + 2) spoilT).toArray 9 (0, 0))) := spoilTexts_any b1 ps.length _ V (h.ps.kept kV)
  have HP2 : Hid (∀ W, Kept [b1] V W → Calls Try.prog 34 #[.slice (some ⟨b2, 0, none⟩) next.length (next.length + 1)] W fun e w' => (∃ v, e = .returned v) ∧ Kept (b2 :: bs) W w') := fun W k => (spoilRows_any b2 m bs next w0 W ((hs.kept kV).keptFM k (by simp; omega) (by simp; exact m1) (fun x hx => by have := hs.nb x hx; simp; omega)) hf).mono (fun e w' q => by
    obtain ⟨q1, cs, q2⟩ := q
    exact ⟨q1, q2.kept⟩)
  have HP3 : Hid (∀ W, Kept (b1 :: b2 :: bs) V W → Calls Try.prog 35 #[.slice (some ⟨b3, 0, none⟩) live.length (live.length + 2)] W fun e w' => (∃ v, e = .returned v) ∧ Kept [b3] W w') := fun W k => (spoilVerdicts_any b3 live.length _ W ((h.lv.kept kV).keptF k (by
    intro hx
    rcases List.mem_cons.1 hx with e | hx
    · omega
    · rcases List.mem_cons.1 hx with e | hx
      · omega
      · have := hlt b3 hx; omega))).mono (fun e w' q => ⟨q.1, q.2.1⟩)
  have HS : Hid (∀ F W, Kept F V W → (∀ x ∈ F, x < w.heap.size) → W.cell? ⟨w.heap.size, 0, none⟩ = some (.slice (some ⟨b1, 0, none⟩) ps.length (ps.length + 2)) ∧ W.cell? ⟨w.heap.size, 1, none⟩ = some (.slice (some ⟨b2, 0, none⟩) next.length (next.length + 1)) ∧ W.cell? ⟨w.heap.size, 2, none⟩ = some (.slice (some ⟨b3, 0, none⟩) live.length (live.length + 2))) := fun F W k hF => (hA.keptF k (fun hx => by have := hF _ hx; omega)).cells
  have HZ1 : Hid (∀ x ∈ [b1], x < w.heap.size) := by
    show ∀ x ∈ [b1], _
    simp
    exact z1
  have HZ2 : Hid (∀ x ∈ b1 :: b2 :: bs, x < w.heap.size) := by
    show ∀ x ∈ b1 :: b2 :: bs, _
    intro x hx
    rcases List.mem_cons.1 hx with e | hx
    · omega
    · rcases List.mem_cons.1 hx with e | hx
      · omega
      · have := hlt x hx; omega
  have HKV : Hid (Kept [] w V) := kV
  have HVV : Hid (_ = V) := hV
  obtain ⟨f0, f1, f2⟩ := HS.out [] V (Kept.refl [] V) (by simp)
  clear h hs kV hA hV z1 z3 u1 u2 u3 m1 hlt hnb
  go_enter Try.func11, Try.ntmps11
  go_upto_region 1 with fail
  rw [HVV.out]
  clear HVV
  go_wp2_with (first
    | (go_at_call 33; refine HP1.out.mono ?_; rintro e Wa ⟨⟨v1, rfl⟩, ka, _⟩; have HKa : Hid (Kept [b1] V Wa) := ka; clear f0 f1 f2 ka; obtain ⟨f0, f1, f2⟩ := HS.out _ Wa HKa.out HZ1.out)
    | (go_at_call 34; refine (HP2.out Wa HKa.out).mono ?_; rintro e Wb ⟨⟨v2, rfl⟩, kb⟩; have HKb : Hid (Kept (b1 :: b2 :: bs) V Wb) := HKa.out.trans kb (by simp) (fun x hx => .inl (List.mem_cons_of_mem _ hx)); clear f0 f1 f2 kb; obtain ⟨f0, f1, f2⟩ := HS.out _ Wb HKb.out HZ2.out)
    | (go_at_call 35; refine (HP3.out Wb HKb.out).mono ?_; rintro e Wd ⟨⟨v4, rfl⟩, kd⟩; have HKd : Hid (Kept [b3] Wb Wd) := kd; clear f0 f1 f2 kd))
  first | go_end0 | refine bodyPost_ret (results_none rfl _ _ _) rfl ?_
  exact ⟨⟨_, rfl⟩, HKV.out.trans (HKb.out.trans (H := b1 :: b3 :: b2 :: bs) HKd.out (fun x hx => by
    rcases List.mem_cons.1 hx with e | hx
    · rw [e]; simp
    · exact List.mem_cons_of_mem _ (List.mem_cons_of_mem _ hx)) (by simp)) (by simp) (fun x hx => .inl hx)⟩
end Go.Proofs.Ytbbfajbnklgncaa
