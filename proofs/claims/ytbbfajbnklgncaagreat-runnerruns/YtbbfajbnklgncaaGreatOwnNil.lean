/- Own of no list at all. -/
import Derived.Test.YtbbfajbnklgncaaGreatOwn4
namespace Go.Proofs.YtbbfajbnklgncaaGreat
open Go.RowKit Go.Shelf
attribute [local go_sem ↓] Go.wp_at_zero Go.wp_at_succ

set_option maxHeartbeats 1000000 in
set_option maxRecDepth 10000 in
theorem ownBytes_nil (w : World) : Calls Tryz.prog 32 #[.slice none 0 0] w fun e w' => e = .returned (.bool true) ∧ Kept [] w w' := by
  go_enter Tryz.func32, Tryz.ntmps32
  go_wp2_with fail
  go_loopw [3] (fun v wr => v = .int .i64 0 ∧ Hid (Kept [] w wr)) (fun _ _ => 0)
  case atStart => exact ⟨rfl, Kept.refl [] w⟩
  case round =>
    obtain ⟨rfl, HK3⟩ := hrel
    rename World => w3
    go_wp2_with fail
    go_loopw [6] (fun v wr => v = .int .i64 0 ∧ Hid (Kept [] w wr)) (fun _ _ => 0)
    case atStart => exact ⟨rfl, HK3.out⟩
    case round =>
      obtain ⟨rfl, HK6⟩ := hrel
      rename World => w6
      go_wp2_with fail
      go_loopw [9] (fun v wr => v = .int .i64 0 ∧ Hid (Kept [] w wr)) (fun _ _ => 0)
      case atStart => exact ⟨rfl, HK6.out⟩
      case round =>
        obtain ⟨rfl, HK9⟩ := hrel
        rename World => w9
        go_wp2
        go_ret
        exact ⟨rfl, HK9.out⟩
set_option maxHeartbeats 1000000 in
set_option maxRecDepth 10000 in
theorem ownTexts_nil (w : World) : Calls Tryz.prog 33 #[.slice none 0 0] w fun e w' => e = .returned (.bool true) ∧ Kept [] w w' := by
  go_enter Tryz.func33, Tryz.ntmps33
  go_wp2_with fail
  go_loopw [3] (fun v wr => v = .int .i64 0 ∧ Hid (Kept [] w wr)) (fun _ _ => 0)
  case atStart => exact ⟨rfl, Kept.refl [] w⟩
  case round =>
    obtain ⟨rfl, HK3⟩ := hrel
    rename World => w3
    go_wp2_with fail
    go_loopw [6] (fun v wr => v = .int .i64 0 ∧ Hid (Kept [] w wr)) (fun _ _ => 0)
    case atStart => exact ⟨rfl, HK3.out⟩
    case round =>
      obtain ⟨rfl, HK6⟩ := hrel
      rename World => w6
      go_wp2_with fail
      go_loopw [9] (fun v wr => v = .int .i64 0 ∧ Hid (Kept [] w wr)) (fun _ _ => 0)
      case atStart => exact ⟨rfl, HK6.out⟩
      case round =>
        obtain ⟨rfl, HK9⟩ := hrel
        rename World => w9
        go_wp2
        go_ret
        exact ⟨rfl, HK9.out⟩
set_option maxHeartbeats 1000000 in
set_option maxRecDepth 10000 in
theorem ownInts_nil (w : World) : Calls Tryz.prog 34 #[.slice none 0 0] w fun e w' => e = .returned (.bool true) ∧ Kept [] w w' := by
  go_enter Tryz.func34, Tryz.ntmps34
  go_wp2_with fail
  go_loopw [3] (fun v wr => v = .int .i64 0 ∧ Hid (Kept [] w wr)) (fun _ _ => 0)
  case atStart => exact ⟨rfl, Kept.refl [] w⟩
  case round =>
    obtain ⟨rfl, HK3⟩ := hrel
    rename World => w3
    go_wp2_with fail
    go_loopw [6] (fun v wr => v = .int .i64 0 ∧ Hid (Kept [] w wr)) (fun _ _ => 0)
    case atStart => exact ⟨rfl, HK3.out⟩
    case round =>
      obtain ⟨rfl, HK6⟩ := hrel
      rename World => w6
      go_wp2_with fail
      go_loopw [9] (fun v wr => v = .int .i64 0 ∧ Hid (Kept [] w wr)) (fun _ _ => 0)
      case atStart => exact ⟨rfl, HK6.out⟩
      case round =>
        obtain ⟨rfl, HK9⟩ := hrel
        rename World => w9
        go_wp2
        go_ret
        exact ⟨rfl, HK9.out⟩
set_option maxHeartbeats 1000000 in
set_option maxRecDepth 10000 in
theorem ownEdges_nil (w : World) : Calls Tryz.prog 37 #[.slice none 0 0] w fun e w' => e = .returned (.bool true) ∧ Kept [] w w' := by
  go_enter Tryz.func37, Tryz.ntmps37
  go_wp2_with fail
  go_loopw [3] (fun v wr => v = .int .i64 0 ∧ Hid (Kept [] w wr)) (fun _ _ => 0)
  case atStart => exact ⟨rfl, Kept.refl [] w⟩
  case round =>
    obtain ⟨rfl, HK3⟩ := hrel
    rename World => w3
    go_wp2_with fail
    go_loopw [6] (fun v wr => v = .int .i64 0 ∧ Hid (Kept [] w wr)) (fun _ _ => 0)
    case atStart => exact ⟨rfl, HK3.out⟩
    case round =>
      obtain ⟨rfl, HK6⟩ := hrel
      rename World => w6
      go_wp2_with fail
      go_loopw [9] (fun v wr => v = .int .i64 0 ∧ Hid (Kept [] w wr)) (fun _ _ => 0)
      case atStart => exact ⟨rfl, HK6.out⟩
      case round =>
        obtain ⟨rfl, HK9⟩ := hrel
        rename World => w9
        go_wp2
        go_ret
        exact ⟨rfl, HK9.out⟩
set_option maxHeartbeats 1000000 in
set_option maxRecDepth 10000 in
theorem ownTokens_nil (w : World) : Calls Tryz.prog 38 #[.slice none 0 0] w fun e w' => e = .returned (.bool true) ∧ Kept [] w w' := by
  go_enter Tryz.func38, Tryz.ntmps38
  go_wp2_with fail
  go_loopw [3] (fun v wr => v = .int .i64 0 ∧ Hid (Kept [] w wr)) (fun _ _ => 0)
  case atStart => exact ⟨rfl, Kept.refl [] w⟩
  case round =>
    obtain ⟨rfl, HK3⟩ := hrel
    rename World => w3
    go_wp2_with fail
    go_loopw [6] (fun v wr => v = .int .i64 0 ∧ Hid (Kept [] w wr)) (fun _ _ => 0)
    case atStart => exact ⟨rfl, HK3.out⟩
    case round =>
      obtain ⟨rfl, HK6⟩ := hrel
      rename World => w6
      go_wp2_with fail
      go_loopw [9] (fun v wr => v = .int .i64 0 ∧ Hid (Kept [] w wr)) (fun _ _ => 0)
      case atStart => exact ⟨rfl, HK6.out⟩
      case round =>
        obtain ⟨rfl, HK9⟩ := hrel
        rename World => w9
        go_wp2
        go_ret
        exact ⟨rfl, HK9.out⟩
set_option maxHeartbeats 1000000 in
set_option maxRecDepth 10000 in
theorem ownVerdicts_nil (w : World) : Calls Tryz.prog 39 #[.slice none 0 0] w fun e w' => e = .returned (.bool true) ∧ Kept [] w w' := by
  go_enter Tryz.func39, Tryz.ntmps39
  go_wp2_with fail
  go_loopw [3] (fun v wr => v = .int .i64 0 ∧ Hid (Kept [] w wr)) (fun _ _ => 0)
  case atStart => exact ⟨rfl, Kept.refl [] w⟩
  case round =>
    obtain ⟨rfl, HK3⟩ := hrel
    rename World => w3
    go_wp2_with fail
    go_loopw [6] (fun v wr => v = .int .i64 0 ∧ Hid (Kept [] w wr)) (fun _ _ => 0)
    case atStart => exact ⟨rfl, HK3.out⟩
    case round =>
      obtain ⟨rfl, HK6⟩ := hrel
      rename World => w6
      go_wp2_with fail
      go_loopw [9] (fun v wr => v = .int .i64 0 ∧ Hid (Kept [] w wr)) (fun _ _ => 0)
      case atStart => exact ⟨rfl, HK6.out⟩
      case round =>
        obtain ⟨rfl, HK9⟩ := hrel
        rename World => w9
        go_wp2
        go_ret
        exact ⟨rfl, HK9.out⟩
set_option maxHeartbeats 1000000 in
set_option maxRecDepth 10000 in
theorem ownAlarms_nil (w : World) : Calls Tryz.prog 40 #[.slice none 0 0] w fun e w' => e = .returned (.bool true) ∧ Kept [] w w' := by
  go_enter Tryz.func40, Tryz.ntmps40
  go_wp2_with fail
  go_loopw [3] (fun v wr => v = .int .i64 0 ∧ Hid (Kept [] w wr)) (fun _ _ => 0)
  case atStart => exact ⟨rfl, Kept.refl [] w⟩
  case round =>
    obtain ⟨rfl, HK3⟩ := hrel
    rename World => w3
    go_wp2_with fail
    go_loopw [6] (fun v wr => v = .int .i64 0 ∧ Hid (Kept [] w wr)) (fun _ _ => 0)
    case atStart => exact ⟨rfl, HK3.out⟩
    case round =>
      obtain ⟨rfl, HK6⟩ := hrel
      rename World => w6
      go_wp2_with fail
      go_loopw [9] (fun v wr => v = .int .i64 0 ∧ Hid (Kept [] w wr)) (fun _ _ => 0)
      case atStart => exact ⟨rfl, HK6.out⟩
      case round =>
        obtain ⟨rfl, HK9⟩ := hrel
        rename World => w9
        go_wp2
        go_ret
        exact ⟨rfl, HK9.out⟩
set_option maxHeartbeats 1000000 in
set_option maxRecDepth 10000 in
theorem ownSlices_nil (w : World) : Calls Tryz.prog 41 #[.slice none 0 0] w fun e w' => e = .returned (.bool true) ∧ Kept [] w w' := by
  go_enter Tryz.func41, Tryz.ntmps41
  go_wp2_with fail
  go_loopw [3] (fun v wr => v = .int .i64 0 ∧ Hid (Kept [] w wr)) (fun _ _ => 0)
  case atStart => exact ⟨rfl, Kept.refl [] w⟩
  case round =>
    obtain ⟨rfl, HK3⟩ := hrel
    rename World => w3
    go_wp2_with fail
    go_loopw [6] (fun v wr => v = .int .i64 0 ∧ Hid (Kept [] w wr)) (fun _ _ => 0)
    case atStart => exact ⟨rfl, HK3.out⟩
    case round =>
      obtain ⟨rfl, HK6⟩ := hrel
      rename World => w6
      go_wp2_with fail
      go_loopw [9] (fun v wr => v = .int .i64 0 ∧ Hid (Kept [] w wr)) (fun _ _ => 0)
      case atStart => exact ⟨rfl, HK6.out⟩
      case round =>
        obtain ⟨rfl, HK9⟩ := hrel
        rename World => w9
        go_wp2
        go_ret
        exact ⟨rfl, HK9.out⟩
set_option maxHeartbeats 1000000 in
set_option maxRecDepth 10000 in
theorem ownRows_nil (w : World) : Calls Tryz.prog 42 #[.slice none 0 0] w fun e w' => e = .returned (.bool true) ∧ Kept [] w w' := by
  go_enter Tryz.func42, Tryz.ntmps42
  go_wp2_with fail
  go_loopw [3] (fun v wr => v = .int .i64 0 ∧ Hid (Kept [] w wr)) (fun _ _ => 0)
  case atStart => exact ⟨rfl, Kept.refl [] w⟩
  case round =>
    obtain ⟨rfl, HK3⟩ := hrel
    rename World => w3
    go_wp2_with fail
    go_loopw [6] (fun v wr => v = .int .i64 0 ∧ Hid (Kept [] w wr)) (fun _ _ => 0)
    case atStart => exact ⟨rfl, HK3.out⟩
    case round =>
      obtain ⟨rfl, HK6⟩ := hrel
      rename World => w6
      go_wp2_with fail
      go_loopw [9] (fun v wr => v = .int .i64 0 ∧ Hid (Kept [] w wr)) (fun _ _ => 0)
      case atStart => exact ⟨rfl, HK6.out⟩
      case round =>
        obtain ⟨rfl, HK9⟩ := hrel
        rename World => w9
        go_wp2
        go_ret
        exact ⟨rfl, HK9.out⟩
set_option maxHeartbeats 1000000 in
set_option maxRecDepth 10000 in
theorem ownWords_nil (w : World) : Calls Tryz.prog 43 #[.slice none 0 0] w fun e w' => e = .returned (.bool true) ∧ Kept [] w w' := by
  go_enter Tryz.func43, Tryz.ntmps43
  go_wp2_with fail
  go_loopw [3] (fun v wr => v = .int .i64 0 ∧ Hid (Kept [] w wr)) (fun _ _ => 0)
  case atStart => exact ⟨rfl, Kept.refl [] w⟩
  case round =>
    obtain ⟨rfl, HK3⟩ := hrel
    rename World => w3
    go_wp2_with fail
    go_loopw [6] (fun v wr => v = .int .i64 0 ∧ Hid (Kept [] w wr)) (fun _ _ => 0)
    case atStart => exact ⟨rfl, HK3.out⟩
    case round =>
      obtain ⟨rfl, HK6⟩ := hrel
      rename World => w6
      go_wp2_with fail
      go_loopw [9] (fun v wr => v = .int .i64 0 ∧ Hid (Kept [] w wr)) (fun _ _ => 0)
      case atStart => exact ⟨rfl, HK6.out⟩
      case round =>
        obtain ⟨rfl, HK9⟩ := hrel
        rename World => w9
        go_wp2
        go_ret
        exact ⟨rfl, HK9.out⟩
set_option maxHeartbeats 1000000 in
set_option maxRecDepth 10000 in
theorem ownFormulas_nil (w : World) : Calls Tryz.prog 44 #[.slice none 0 0] w fun e w' => e = .returned (.bool true) ∧ Kept [] w w' := by
  go_enter Tryz.func44, Tryz.ntmps44
  go_wp2_with fail
  go_loopw [3] (fun v wr => v = .int .i64 0 ∧ Hid (Kept [] w wr)) (fun _ _ => 0)
  case atStart => exact ⟨rfl, Kept.refl [] w⟩
  case round =>
    obtain ⟨rfl, HK3⟩ := hrel
    rename World => w3
    go_wp2_with fail
    go_loopw [6] (fun v wr => v = .int .i64 0 ∧ Hid (Kept [] w wr)) (fun _ _ => 0)
    case atStart => exact ⟨rfl, HK3.out⟩
    case round =>
      obtain ⟨rfl, HK6⟩ := hrel
      rename World => w6
      go_wp2_with fail
      go_loopw [9] (fun v wr => v = .int .i64 0 ∧ Hid (Kept [] w wr)) (fun _ _ => 0)
      case atStart => exact ⟨rfl, HK6.out⟩
      case round =>
        obtain ⟨rfl, HK9⟩ := hrel
        rename World => w9
        go_wp2
        go_ret
        exact ⟨rfl, HK9.out⟩
set_option maxHeartbeats 1000000 in
set_option maxRecDepth 10000 in
theorem ownBools_nil (w : World) : Calls Tryz.prog 35 #[.slice none 0 0] w fun e w' => e = .returned (.bool true) ∧ Kept [] w w' := by
  go_enter Tryz.func35, Tryz.ntmps35
  go_wp2_with fail
  go_loopw [3] (fun v wr => (v = .int .i64 0 ∨ v = .int .i64 1) ∧ Hid (Kept [] w wr)) (fun v _ => 1 - (intOf v).toNat)
  case atStart => exact ⟨.inl rfl, Kept.refl [] w⟩
  case round =>
    obtain ⟨rfl | rfl, HK3⟩ := hrel
    · rename World => w3
      go_wp2_with fail
      go_loopw [4] (fun v wr => v = .int .i64 0 ∧ Hid (Kept [] w wr)) (fun _ _ => 0)
      case atStart => exact ⟨rfl, HK3.out⟩
      case round =>
        obtain ⟨rfl, HK4⟩ := hrel
        rename World => w4
        go_wp2_with fail
        go_loopw [7] (fun v wr => v = .int .i64 0 ∧ Hid (Kept [] w wr)) (fun _ _ => 0)
        case atStart => exact ⟨rfl, HK4.out⟩
        case round =>
          obtain ⟨rfl, HK7⟩ := hrel
          rename World => w7
          go_wp2_with fail
          go_loopw [10] (fun v wr => v = .int .i64 0 ∧ Hid (Kept [] w wr)) (fun _ _ => 0)
          case atStart => exact ⟨rfl, HK7.out⟩
          case round =>
            obtain ⟨rfl, HK10⟩ := hrel
            rename World => w10
            go_wp2
            go_roundw
            case rel => exact ⟨.inr rfl, HK10.out⟩
            case measure => simp [intOf]
    · go_wp2
      go_ret
      exact ⟨rfl, HK3.out⟩
end Go.Proofs.YtbbfajbnklgncaaGreat
