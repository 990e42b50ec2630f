/- Own of no list at all. -/
import Derived.Test.YtgbmfclboliliaaDoorOwn4
namespace Go.Proofs.YtgbmfclboliliaaDoor
open Go.RowKit Go.Shelf
attribute [local go_sem ↓] Go.wp_at_zero Go.wp_at_succ

set_option maxHeartbeats 1000000 in
set_option maxRecDepth 10000 in
theorem ownBytes_nil (w : World) : Calls Tryd.prog 54 #[.slice none 0 0] w fun e w' => e = .returned (.bool true) ∧ Kept [] w w' := by
  go_enter Tryd.func54, Tryd.ntmps54
  go_wp2_with fail
  go_loopw [3] (fun v wr => v = .int .i64 0 ∧ Hid (Kept [] w wr)) (fun _ _ => 0)
  case atStart => exact ⟨rfl, Kept.refl [] w⟩
  case round =>
    obtain ⟨rfl, HK3⟩ := hrel
    rename World => w3
    go_wp2_with fail
    go_loopw [6] (fun v wr => v = .int .i64 0 ∧ Hid (Kept [] w wr)) (fun _ _ => 0)
    case atStart => exact ⟨rfl, HK3.out⟩
    case round =>
      obtain ⟨rfl, HK6⟩ := hrel
      rename World => w6
      go_wp2_with fail
      go_loopw [9] (fun v wr => v = .int .i64 0 ∧ Hid (Kept [] w wr)) (fun _ _ => 0)
      case atStart => exact ⟨rfl, HK6.out⟩
      case round =>
        obtain ⟨rfl, HK9⟩ := hrel
        rename World => w9
        go_wp2
        go_ret
        exact ⟨rfl, HK9.out⟩
set_option maxHeartbeats 1000000 in
set_option maxRecDepth 10000 in
theorem ownTexts_nil (w : World) : Calls Tryd.prog 55 #[.slice none 0 0] w fun e w' => e = .returned (.bool true) ∧ Kept [] w w' := by
  go_enter Tryd.func55, Tryd.ntmps55
  go_wp2_with fail
  go_loopw [3] (fun v wr => v = .int .i64 0 ∧ Hid (Kept [] w wr)) (fun _ _ => 0)
  case atStart => exact ⟨rfl, Kept.refl [] w⟩
  case round =>
    obtain ⟨rfl, HK3⟩ := hrel
    rename World => w3
    go_wp2_with fail
    go_loopw [6] (fun v wr => v = .int .i64 0 ∧ Hid (Kept [] w wr)) (fun _ _ => 0)
    case atStart => exact ⟨rfl, HK3.out⟩
    case round =>
      obtain ⟨rfl, HK6⟩ := hrel
      rename World => w6
      go_wp2_with fail
      go_loopw [9] (fun v wr => v = .int .i64 0 ∧ Hid (Kept [] w wr)) (fun _ _ => 0)
      case atStart => exact ⟨rfl, HK6.out⟩
      case round =>
        obtain ⟨rfl, HK9⟩ := hrel
        rename World => w9
        go_wp2
        go_ret
        exact ⟨rfl, HK9.out⟩
set_option maxHeartbeats 1000000 in
set_option maxRecDepth 10000 in
theorem ownInts_nil (w : World) : Calls Tryd.prog 56 #[.slice none 0 0] w fun e w' => e = .returned (.bool true) ∧ Kept [] w w' := by
  go_enter Tryd.func56, Tryd.ntmps56
  go_wp2_with fail
  go_loopw [3] (fun v wr => v = .int .i64 0 ∧ Hid (Kept [] w wr)) (fun _ _ => 0)
  case atStart => exact ⟨rfl, Kept.refl [] w⟩
  case round =>
    obtain ⟨rfl, HK3⟩ := hrel
    rename World => w3
    go_wp2_with fail
    go_loopw [6] (fun v wr => v = .int .i64 0 ∧ Hid (Kept [] w wr)) (fun _ _ => 0)
    case atStart => exact ⟨rfl, HK3.out⟩
    case round =>
      obtain ⟨rfl, HK6⟩ := hrel
      rename World => w6
      go_wp2_with fail
      go_loopw [9] (fun v wr => v = .int .i64 0 ∧ Hid (Kept [] w wr)) (fun _ _ => 0)
      case atStart => exact ⟨rfl, HK6.out⟩
      case round =>
        obtain ⟨rfl, HK9⟩ := hrel
        rename World => w9
        go_wp2
        go_ret
        exact ⟨rfl, HK9.out⟩
set_option maxHeartbeats 1000000 in
set_option maxRecDepth 10000 in
theorem ownEdges_nil (w : World) : Calls Tryd.prog 59 #[.slice none 0 0] w fun e w' => e = .returned (.bool true) ∧ Kept [] w w' := by
  go_enter Tryd.func59, Tryd.ntmps59
  go_wp2_with fail
  go_loopw [3] (fun v wr => v = .int .i64 0 ∧ Hid (Kept [] w wr)) (fun _ _ => 0)
  case atStart => exact ⟨rfl, Kept.refl [] w⟩
  case round =>
    obtain ⟨rfl, HK3⟩ := hrel
    rename World => w3
    go_wp2_with fail
    go_loopw [6] (fun v wr => v = .int .i64 0 ∧ Hid (Kept [] w wr)) (fun _ _ => 0)
    case atStart => exact ⟨rfl, HK3.out⟩
    case round =>
      obtain ⟨rfl, HK6⟩ := hrel
      rename World => w6
      go_wp2_with fail
      go_loopw [9] (fun v wr => v = .int .i64 0 ∧ Hid (Kept [] w wr)) (fun _ _ => 0)
      case atStart => exact ⟨rfl, HK6.out⟩
      case round =>
        obtain ⟨rfl, HK9⟩ := hrel
        rename World => w9
        go_wp2
        go_ret
        exact ⟨rfl, HK9.out⟩
set_option maxHeartbeats 1000000 in
set_option maxRecDepth 10000 in
theorem ownTokens_nil (w : World) : Calls Tryd.prog 60 #[.slice none 0 0] w fun e w' => e = .returned (.bool true) ∧ Kept [] w w' := by
  go_enter Tryd.func60, Tryd.ntmps60
  go_wp2_with fail
  go_loopw [3] (fun v wr => v = .int .i64 0 ∧ Hid (Kept [] w wr)) (fun _ _ => 0)
  case atStart => exact ⟨rfl, Kept.refl [] w⟩
  case round =>
    obtain ⟨rfl, HK3⟩ := hrel
    rename World => w3
    go_wp2_with fail
    go_loopw [6] (fun v wr => v = .int .i64 0 ∧ Hid (Kept [] w wr)) (fun _ _ => 0)
    case atStart => exact ⟨rfl, HK3.out⟩
    case round =>
      obtain ⟨rfl, HK6⟩ := hrel
      rename World => w6
      go_wp2_with fail
      go_loopw [9] (fun v wr => v = .int .i64 0 ∧ Hid (Kept [] w wr)) (fun _ _ => 0)
      case atStart => exact ⟨rfl, HK6.out⟩
      case round =>
        obtain ⟨rfl, HK9⟩ := hrel
        rename World => w9
        go_wp2
        go_ret
        exact ⟨rfl, HK9.out⟩
set_option maxHeartbeats 1000000 in
set_option maxRecDepth 10000 in
theorem ownVerdicts_nil (w : World) : Calls Tryd.prog 61 #[.slice none 0 0] w fun e w' => e = .returned (.bool true) ∧ Kept [] w w' := by
  go_enter Tryd.func61, Tryd.ntmps61
  go_wp2_with fail
  go_loopw [3] (fun v wr => v = .int .i64 0 ∧ Hid (Kept [] w wr)) (fun _ _ => 0)
  case atStart => exact ⟨rfl, Kept.refl [] w⟩
  case round =>
    obtain ⟨rfl, HK3⟩ := hrel
    rename World => w3
    go_wp2_with fail
    go_loopw [6] (fun v wr => v = .int .i64 0 ∧ Hid (Kept [] w wr)) (fun _ _ => 0)
    case atStart => exact ⟨rfl, HK3.out⟩
    case round =>
      obtain ⟨rfl, HK6⟩ := hrel
      rename World => w6
      go_wp2_with fail
      go_loopw [9] (fun v wr => v = .int .i64 0 ∧ Hid (Kept [] w wr)) (fun _ _ => 0)
      case atStart => exact ⟨rfl, HK6.out⟩
      case round =>
        obtain ⟨rfl, HK9⟩ := hrel
        rename World => w9
        go_wp2
        go_ret
        exact ⟨rfl, HK9.out⟩
set_option maxHeartbeats 1000000 in
set_option maxRecDepth 10000 in
theorem ownAlarms_nil (w : World) : Calls Tryd.prog 62 #[.slice none 0 0] w fun e w' => e = .returned (.bool true) ∧ Kept [] w w' := by
  go_enter Tryd.func62, Tryd.ntmps62
  go_wp2_with fail
  go_loopw [3] (fun v wr => v = .int .i64 0 ∧ Hid (Kept [] w wr)) (fun _ _ => 0)
  case atStart => exact ⟨rfl, Kept.refl [] w⟩
  case round =>
    obtain ⟨rfl, HK3⟩ := hrel
    rename World => w3
    go_wp2_with fail
    go_loopw [6] (fun v wr => v = .int .i64 0 ∧ Hid (Kept [] w wr)) (fun _ _ => 0)
    case atStart => exact ⟨rfl, HK3.out⟩
    case round =>
      obtain ⟨rfl, HK6⟩ := hrel
      rename World => w6
      go_wp2_with fail
      go_loopw [9] (fun v wr => v = .int .i64 0 ∧ Hid (Kept [] w wr)) (fun _ _ => 0)
      case atStart => exact ⟨rfl, HK6.out⟩
      case round =>
        obtain ⟨rfl, HK9⟩ := hrel
        rename World => w9
        go_wp2
        go_ret
        exact ⟨rfl, HK9.out⟩
set_option maxHeartbeats 1000000 in
set_option maxRecDepth 10000 in
theorem ownSlices_nil (w : World) : Calls Tryd.prog 63 #[.slice none 0 0] w fun e w' => e = .returned (.bool true) ∧ Kept [] w w' := by
  go_enter Tryd.func63, Tryd.ntmps63
  go_wp2_with fail
  go_loopw [3] (fun v wr => v = .int .i64 0 ∧ Hid (Kept [] w wr)) (fun _ _ => 0)
  case atStart => exact ⟨rfl, Kept.refl [] w⟩
  case round =>
    obtain ⟨rfl, HK3⟩ := hrel
    rename World => w3
    go_wp2_with fail
    go_loopw [6] (fun v wr => v = .int .i64 0 ∧ Hid (Kept [] w wr)) (fun _ _ => 0)
    case atStart => exact ⟨rfl, HK3.out⟩
    case round =>
      obtain ⟨rfl, HK6⟩ := hrel
      rename World => w6
      go_wp2_with fail
      go_loopw [9] (fun v wr => v = .int .i64 0 ∧ Hid (Kept [] w wr)) (fun _ _ => 0)
      case atStart => exact ⟨rfl, HK6.out⟩
      case round =>
        obtain ⟨rfl, HK9⟩ := hrel
        rename World => w9
        go_wp2
        go_ret
        exact ⟨rfl, HK9.out⟩
set_option maxHeartbeats 1000000 in
set_option maxRecDepth 10000 in
theorem ownRows_nil (w : World) : Calls Tryd.prog 64 #[.slice none 0 0] w fun e w' => e = .returned (.bool true) ∧ Kept [] w w' := by
  go_enter Tryd.func64, Tryd.ntmps64
  go_wp2_with fail
  go_loopw [3] (fun v wr => v = .int .i64 0 ∧ Hid (Kept [] w wr)) (fun _ _ => 0)
  case atStart => exact ⟨rfl, Kept.refl [] w⟩
  case round =>
    obtain ⟨rfl, HK3⟩ := hrel
    rename World => w3
    go_wp2_with fail
    go_loopw [6] (fun v wr => v = .int .i64 0 ∧ Hid (Kept [] w wr)) (fun _ _ => 0)
    case atStart => exact ⟨rfl, HK3.out⟩
    case round =>
      obtain ⟨rfl, HK6⟩ := hrel
      rename World => w6
      go_wp2_with fail
      go_loopw [9] (fun v wr => v = .int .i64 0 ∧ Hid (Kept [] w wr)) (fun _ _ => 0)
      case atStart => exact ⟨rfl, HK6.out⟩
      case round =>
        obtain ⟨rfl, HK9⟩ := hrel
        rename World => w9
        go_wp2
        go_ret
        exact ⟨rfl, HK9.out⟩
set_option maxHeartbeats 1000000 in
set_option maxRecDepth 10000 in
theorem ownWords_nil (w : World) : Calls Tryd.prog 65 #[.slice none 0 0] w fun e w' => e = .returned (.bool true) ∧ Kept [] w w' := by
  go_enter Tryd.func65, Tryd.ntmps65
  go_wp2_with fail
  go_loopw [3] (fun v wr => v = .int .i64 0 ∧ Hid (Kept [] w wr)) (fun _ _ => 0)
  case atStart => exact ⟨rfl, Kept.refl [] w⟩
  case round =>
    obtain ⟨rfl, HK3⟩ := hrel
    rename World => w3
    go_wp2_with fail
    go_loopw [6] (fun v wr => v = .int .i64 0 ∧ Hid (Kept [] w wr)) (fun _ _ => 0)
    case atStart => exact ⟨rfl, HK3.out⟩
    case round =>
      obtain ⟨rfl, HK6⟩ := hrel
      rename World => w6
      go_wp2_with fail
      go_loopw [9] (fun v wr => v = .int .i64 0 ∧ Hid (Kept [] w wr)) (fun _ _ => 0)
      case atStart => exact ⟨rfl, HK6.out⟩
      case round =>
        obtain ⟨rfl, HK9⟩ := hrel
        rename World => w9
        go_wp2
        go_ret
        exact ⟨rfl, HK9.out⟩
set_option maxHeartbeats 1000000 in
set_option maxRecDepth 10000 in
theorem ownFormulas_nil (w : World) : Calls Tryd.prog 66 #[.slice none 0 0] w fun e w' => e = .returned (.bool true) ∧ Kept [] w w' := by
  go_enter Tryd.func66, Tryd.ntmps66
  go_wp2_with fail
  go_loopw [3] (fun v wr => v = .int .i64 0 ∧ Hid (Kept [] w wr)) (fun _ _ => 0)
  case atStart => exact ⟨rfl, Kept.refl [] w⟩
  case round =>
    obtain ⟨rfl, HK3⟩ := hrel
    rename World => w3
    go_wp2_with fail
    go_loopw [6] (fun v wr => v = .int .i64 0 ∧ Hid (Kept [] w wr)) (fun _ _ => 0)
    case atStart => exact ⟨rfl, HK3.out⟩
    case round =>
      obtain ⟨rfl, HK6⟩ := hrel
      rename World => w6
      go_wp2_with fail
      go_loopw [9] (fun v wr => v = .int .i64 0 ∧ Hid (Kept [] w wr)) (fun _ _ => 0)
      case atStart => exact ⟨rfl, HK6.out⟩
      case round =>
        obtain ⟨rfl, HK9⟩ := hrel
        rename World => w9
        go_wp2
        go_ret
        exact ⟨rfl, HK9.out⟩
set_option maxHeartbeats 1000000 in
set_option maxRecDepth 10000 in
theorem ownBools_nil (w : World) : Calls Tryd.prog 57 #[.slice none 0 0] w fun e w' => e = .returned (.bool true) ∧ Kept [] w w' := by
  go_enter Tryd.func57, Tryd.ntmps57
  go_wp2_with fail
  go_loopw [3] (fun v wr => (v = .int .i64 0 ∨ v = .int .i64 1) ∧ Hid (Kept [] w wr)) (fun v _ => 1 - (intOf v).toNat)
  case atStart => exact ⟨.inl rfl, Kept.refl [] w⟩
  case round =>
    obtain ⟨rfl | rfl, HK3⟩ := hrel
    · rename World => w3
      go_wp2_with fail
      go_loopw [4] (fun v wr => v = .int .i64 0 ∧ Hid (Kept [] w wr)) (fun _ _ => 0)
      case atStart => exact ⟨rfl, HK3.out⟩
      case round =>
        obtain ⟨rfl, HK4⟩ := hrel
        rename World => w4
        go_wp2_with fail
        go_loopw [7] (fun v wr => v = .int .i64 0 ∧ Hid (Kept [] w wr)) (fun _ _ => 0)
        case atStart => exact ⟨rfl, HK4.out⟩
        case round =>
          obtain ⟨rfl, HK7⟩ := hrel
          rename World => w7
          go_wp2_with fail
          go_loopw [10] (fun v wr => v = .int .i64 0 ∧ Hid (Kept [] w wr)) (fun _ _ => 0)
          case atStart => exact ⟨rfl, HK7.out⟩
          case round =>
            obtain ⟨rfl, HK10⟩ := hrel
            rename World => w10
            go_wp2
            go_roundw
            case rel => exact ⟨.inr rfl, HK10.out⟩
            case measure => simp [intOf]
    · go_wp2
      go_ret
      exact ⟨rfl, HK3.out⟩
end Go.Proofs.YtgbmfclboliliaaDoor
