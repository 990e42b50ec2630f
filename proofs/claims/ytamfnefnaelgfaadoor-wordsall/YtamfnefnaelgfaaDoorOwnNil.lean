/- Own of no list at all. -/
import Derived.Test.YtamfnefnaelgfaaDoorOwn4
namespace Go.Proofs.YtamfnefnaelgfaaDoor
open Go.RowKit Go.Shelf
attribute [local go_sem ↓] Go.wp_at_zero Go.wp_at_succ

set_option maxHeartbeats 1000000 in
set_option maxRecDepth 10000 in
theorem ownBytes_nil (w : World) : Calls Tryd.prog 28 #[.slice none 0 0] w fun e w' => e = .returned (.bool true) ∧ Kept [] w w' := by
  go_enter Tryd.func28, Tryd.ntmps28
  go_wp2_with fail
  go_loopw [3] (fun v wr => v = .int .i64 0 ∧ Hid (Kept [] w wr)) (fun _ _ => 0)
  case atStart => exact ⟨rfl, Kept.refl [] w⟩
  case round =>
    obtain ⟨rfl, HK3⟩ := hrel
    rename World => w3
    go_wp2_with fail
    go_loopw [6] (fun v wr => v = .int .i64 0 ∧ Hid (Kept [] w wr)) (fun _ _ => 0)
    case atStart => exact ⟨rfl, HK3.out⟩
    case round =>
      obtain ⟨rfl, HK6⟩ := hrel
      rename World => w6
      go_wp2_with fail
      go_loopw [9] (fun v wr => v = .int .i64 0 ∧ Hid (Kept [] w wr)) (fun _ _ => 0)
      case atStart => exact ⟨rfl, HK6.out⟩
      case round =>
        obtain ⟨rfl, HK9⟩ := hrel
        rename World => w9
        go_wp2
        go_ret
        exact ⟨rfl, HK9.out⟩
set_option maxHeartbeats 1000000 in
set_option maxRecDepth 10000 in
theorem ownTexts_nil (w : World) : Calls Tryd.prog 29 #[.slice none 0 0] w fun e w' => e = .returned (.bool true) ∧ Kept [] w w' := by
  go_enter Tryd.func29, Tryd.ntmps29
  go_wp2_with fail
  go_loopw [3] (fun v wr => v = .int .i64 0 ∧ Hid (Kept [] w wr)) (fun _ _ => 0)
  case atStart => exact ⟨rfl, Kept.refl [] w⟩
  case round =>
    obtain ⟨rfl, HK3⟩ := hrel
    rename World => w3
    go_wp2_with fail
    go_loopw [6] (fun v wr => v = .int .i64 0 ∧ Hid (Kept [] w wr)) (fun _ _ => 0)
    case atStart => exact ⟨rfl, HK3.out⟩
    case round =>
      obtain ⟨rfl, HK6⟩ := hrel
      rename World => w6
      go_wp2_with fail
      go_loopw [9] (fun v wr => v = .int .i64 0 ∧ Hid (Kept [] w wr)) (fun _ _ => 0)
      case atStart => exact ⟨rfl, HK6.out⟩
      case round =>
        obtain ⟨rfl, HK9⟩ := hrel
        rename World => w9
        go_wp2
        go_ret
        exact ⟨rfl, HK9.out⟩
set_option maxHeartbeats 1000000 in
set_option maxRecDepth 10000 in
theorem ownInts_nil (w : World) : Calls Tryd.prog 30 #[.slice none 0 0] w fun e w' => e = .returned (.bool true) ∧ Kept [] w w' := by
  go_enter Tryd.func30, Tryd.ntmps30
  go_wp2_with fail
  go_loopw [3] (fun v wr => v = .int .i64 0 ∧ Hid (Kept [] w wr)) (fun _ _ => 0)
  case atStart => exact ⟨rfl, Kept.refl [] w⟩
  case round =>
    obtain ⟨rfl, HK3⟩ := hrel
    rename World => w3
    go_wp2_with fail
    go_loopw [6] (fun v wr => v = .int .i64 0 ∧ Hid (Kept [] w wr)) (fun _ _ => 0)
    case atStart => exact ⟨rfl, HK3.out⟩
    case round =>
      obtain ⟨rfl, HK6⟩ := hrel
      rename World => w6
      go_wp2_with fail
      go_loopw [9] (fun v wr => v = .int .i64 0 ∧ Hid (Kept [] w wr)) (fun _ _ => 0)
      case atStart => exact ⟨rfl, HK6.out⟩
      case round =>
        obtain ⟨rfl, HK9⟩ := hrel
        rename World => w9
        go_wp2
        go_ret
        exact ⟨rfl, HK9.out⟩
set_option maxHeartbeats 1000000 in
set_option maxRecDepth 10000 in
theorem ownEdges_nil (w : World) : Calls Tryd.prog 33 #[.slice none 0 0] w fun e w' => e = .returned (.bool true) ∧ Kept [] w w' := by
  go_enter Tryd.func33, Tryd.ntmps33
  go_wp2_with fail
  go_loopw [3] (fun v wr => v = .int .i64 0 ∧ Hid (Kept [] w wr)) (fun _ _ => 0)
  case atStart => exact ⟨rfl, Kept.refl [] w⟩
  case round =>
    obtain ⟨rfl, HK3⟩ := hrel
    rename World => w3
    go_wp2_with fail
    go_loopw [6] (fun v wr => v = .int .i64 0 ∧ Hid (Kept [] w wr)) (fun _ _ => 0)
    case atStart => exact ⟨rfl, HK3.out⟩
    case round =>
      obtain ⟨rfl, HK6⟩ := hrel
      rename World => w6
      go_wp2_with fail
      go_loopw [9] (fun v wr => v = .int .i64 0 ∧ Hid (Kept [] w wr)) (fun _ _ => 0)
      case atStart => exact ⟨rfl, HK6.out⟩
      case round =>
        obtain ⟨rfl, HK9⟩ := hrel
        rename World => w9
        go_wp2
        go_ret
        exact ⟨rfl, HK9.out⟩
set_option maxHeartbeats 1000000 in
set_option maxRecDepth 10000 in
theorem ownTokens_nil (w : World) : Calls Tryd.prog 34 #[.slice none 0 0] w fun e w' => e = .returned (.bool true) ∧ Kept [] w w' := by
  go_enter Tryd.func34, Tryd.ntmps34
  go_wp2_with fail
  go_loopw [3] (fun v wr => v = .int .i64 0 ∧ Hid (Kept [] w wr)) (fun _ _ => 0)
  case atStart => exact ⟨rfl, Kept.refl [] w⟩
  case round =>
    obtain ⟨rfl, HK3⟩ := hrel
    rename World => w3
    go_wp2_with fail
    go_loopw [6] (fun v wr => v = .int .i64 0 ∧ Hid (Kept [] w wr)) (fun _ _ => 0)
    case atStart => exact ⟨rfl, HK3.out⟩
    case round =>
      obtain ⟨rfl, HK6⟩ := hrel
      rename World => w6
      go_wp2_with fail
      go_loopw [9] (fun v wr => v = .int .i64 0 ∧ Hid (Kept [] w wr)) (fun _ _ => 0)
      case atStart => exact ⟨rfl, HK6.out⟩
      case round =>
        obtain ⟨rfl, HK9⟩ := hrel
        rename World => w9
        go_wp2
        go_ret
        exact ⟨rfl, HK9.out⟩
set_option maxHeartbeats 1000000 in
set_option maxRecDepth 10000 in
theorem ownVerdicts_nil (w : World) : Calls Tryd.prog 35 #[.slice none 0 0] w fun e w' => e = .returned (.bool true) ∧ Kept [] w w' := by
  go_enter Tryd.func35, Tryd.ntmps35
  go_wp2_with fail
  go_loopw [3] (fun v wr => v = .int .i64 0 ∧ Hid (Kept [] w wr)) (fun _ _ => 0)
  case atStart => exact ⟨rfl, Kept.refl [] w⟩
  case round =>
    obtain ⟨rfl, HK3⟩ := hrel
    rename World => w3
    go_wp2_with fail
    go_loopw [6] (fun v wr => v = .int .i64 0 ∧ Hid (Kept [] w wr)) (fun _ _ => 0)
    case atStart => exact ⟨rfl, HK3.out⟩
    case round =>
      obtain ⟨rfl, HK6⟩ := hrel
      rename World => w6
      go_wp2_with fail
      go_loopw [9] (fun v wr => v = .int .i64 0 ∧ Hid (Kept [] w wr)) (fun _ _ => 0)
      case atStart => exact ⟨rfl, HK6.out⟩
      case round =>
        obtain ⟨rfl, HK9⟩ := hrel
        rename World => w9
        go_wp2
        go_ret
        exact ⟨rfl, HK9.out⟩
set_option maxHeartbeats 1000000 in
set_option maxRecDepth 10000 in
theorem ownAlarms_nil (w : World) : Calls Tryd.prog 36 #[.slice none 0 0] w fun e w' => e = .returned (.bool true) ∧ Kept [] w w' := by
  go_enter Tryd.func36, Tryd.ntmps36
  go_wp2_with fail
  go_loopw [3] (fun v wr => v = .int .i64 0 ∧ Hid (Kept [] w wr)) (fun _ _ => 0)
  case atStart => exact ⟨rfl, Kept.refl [] w⟩
  case round =>
    obtain ⟨rfl, HK3⟩ := hrel
    rename World => w3
    go_wp2_with fail
    go_loopw [6] (fun v wr => v = .int .i64 0 ∧ Hid (Kept [] w wr)) (fun _ _ => 0)
    case atStart => exact ⟨rfl, HK3.out⟩
    case round =>
      obtain ⟨rfl, HK6⟩ := hrel
      rename World => w6
      go_wp2_with fail
      go_loopw [9] (fun v wr => v = .int .i64 0 ∧ Hid (Kept [] w wr)) (fun _ _ => 0)
      case atStart => exact ⟨rfl, HK6.out⟩
      case round =>
        obtain ⟨rfl, HK9⟩ := hrel
        rename World => w9
        go_wp2
        go_ret
        exact ⟨rfl, HK9.out⟩
set_option maxHeartbeats 1000000 in
set_option maxRecDepth 10000 in
theorem ownSlices_nil (w : World) : Calls Tryd.prog 37 #[.slice none 0 0] w fun e w' => e = .returned (.bool true) ∧ Kept [] w w' := by
  go_enter Tryd.func37, Tryd.ntmps37
  go_wp2_with fail
  go_loopw [3] (fun v wr => v = .int .i64 0 ∧ Hid (Kept [] w wr)) (fun _ _ => 0)
  case atStart => exact ⟨rfl, Kept.refl [] w⟩
  case round =>
    obtain ⟨rfl, HK3⟩ := hrel
    rename World => w3
    go_wp2_with fail
    go_loopw [6] (fun v wr => v = .int .i64 0 ∧ Hid (Kept [] w wr)) (fun _ _ => 0)
    case atStart => exact ⟨rfl, HK3.out⟩
    case round =>
      obtain ⟨rfl, HK6⟩ := hrel
      rename World => w6
      go_wp2_with fail
      go_loopw [9] (fun v wr => v = .int .i64 0 ∧ Hid (Kept [] w wr)) (fun _ _ => 0)
      case atStart => exact ⟨rfl, HK6.out⟩
      case round =>
        obtain ⟨rfl, HK9⟩ := hrel
        rename World => w9
        go_wp2
        go_ret
        exact ⟨rfl, HK9.out⟩
set_option maxHeartbeats 1000000 in
set_option maxRecDepth 10000 in
theorem ownRows_nil (w : World) : Calls Tryd.prog 38 #[.slice none 0 0] w fun e w' => e = .returned (.bool true) ∧ Kept [] w w' := by
  go_enter Tryd.func38, Tryd.ntmps38
  go_wp2_with fail
  go_loopw [3] (fun v wr => v = .int .i64 0 ∧ Hid (Kept [] w wr)) (fun _ _ => 0)
  case atStart => exact ⟨rfl, Kept.refl [] w⟩
  case round =>
    obtain ⟨rfl, HK3⟩ := hrel
    rename World => w3
    go_wp2_with fail
    go_loopw [6] (fun v wr => v = .int .i64 0 ∧ Hid (Kept [] w wr)) (fun _ _ => 0)
    case atStart => exact ⟨rfl, HK3.out⟩
    case round =>
      obtain ⟨rfl, HK6⟩ := hrel
      rename World => w6
      go_wp2_with fail
      go_loopw [9] (fun v wr => v = .int .i64 0 ∧ Hid (Kept [] w wr)) (fun _ _ => 0)
      case atStart => exact ⟨rfl, HK6.out⟩
      case round =>
        obtain ⟨rfl, HK9⟩ := hrel
        rename World => w9
        go_wp2
        go_ret
        exact ⟨rfl, HK9.out⟩
set_option maxHeartbeats 1000000 in
set_option maxRecDepth 10000 in
theorem ownWords_nil (w : World) : Calls Tryd.prog 39 #[.slice none 0 0] w fun e w' => e = .returned (.bool true) ∧ Kept [] w w' := by
  go_enter Tryd.func39, Tryd.ntmps39
  go_wp2_with fail
  go_loopw [3] (fun v wr => v = .int .i64 0 ∧ Hid (Kept [] w wr)) (fun _ _ => 0)
  case atStart => exact ⟨rfl, Kept.refl [] w⟩
  case round =>
    obtain ⟨rfl, HK3⟩ := hrel
    rename World => w3
    go_wp2_with fail
    go_loopw [6] (fun v wr => v = .int .i64 0 ∧ Hid (Kept [] w wr)) (fun _ _ => 0)
    case atStart => exact ⟨rfl, HK3.out⟩
    case round =>
      obtain ⟨rfl, HK6⟩ := hrel
      rename World => w6
      go_wp2_with fail
      go_loopw [9] (fun v wr => v = .int .i64 0 ∧ Hid (Kept [] w wr)) (fun _ _ => 0)
      case atStart => exact ⟨rfl, HK6.out⟩
      case round =>
        obtain ⟨rfl, HK9⟩ := hrel
        rename World => w9
        go_wp2
        go_ret
        exact ⟨rfl, HK9.out⟩
set_option maxHeartbeats 1000000 in
set_option maxRecDepth 10000 in
theorem ownFormulas_nil (w : World) : Calls Tryd.prog 40 #[.slice none 0 0] w fun e w' => e = .returned (.bool true) ∧ Kept [] w w' := by
  go_enter Tryd.func40, Tryd.ntmps40
  go_wp2_with fail
  go_loopw [3] (fun v wr => v = .int .i64 0 ∧ Hid (Kept [] w wr)) (fun _ _ => 0)
  case atStart => exact ⟨rfl, Kept.refl [] w⟩
  case round =>
    obtain ⟨rfl, HK3⟩ := hrel
    rename World => w3
    go_wp2_with fail
    go_loopw [6] (fun v wr => v = .int .i64 0 ∧ Hid (Kept [] w wr)) (fun _ _ => 0)
    case atStart => exact ⟨rfl, HK3.out⟩
    case round =>
      obtain ⟨rfl, HK6⟩ := hrel
      rename World => w6
      go_wp2_with fail
      go_loopw [9] (fun v wr => v = .int .i64 0 ∧ Hid (Kept [] w wr)) (fun _ _ => 0)
      case atStart => exact ⟨rfl, HK6.out⟩
      case round =>
        obtain ⟨rfl, HK9⟩ := hrel
        rename World => w9
        go_wp2
        go_ret
        exact ⟨rfl, HK9.out⟩
set_option maxHeartbeats 1000000 in
set_option maxRecDepth 10000 in
theorem ownBools_nil (w : World) : Calls Tryd.prog 31 #[.slice none 0 0] w fun e w' => e = .returned (.bool true) ∧ Kept [] w w' := by
  go_enter Tryd.func31, Tryd.ntmps31
  go_wp2_with fail
  go_loopw [3] (fun v wr => (v = .int .i64 0 ∨ v = .int .i64 1) ∧ Hid (Kept [] w wr)) (fun v _ => 1 - (intOf v).toNat)
  case atStart => exact ⟨.inl rfl, Kept.refl [] w⟩
  case round =>
    obtain ⟨rfl | rfl, HK3⟩ := hrel
    · rename World => w3
      go_wp2_with fail
      go_loopw [4] (fun v wr => v = .int .i64 0 ∧ Hid (Kept [] w wr)) (fun _ _ => 0)
      case atStart => exact ⟨rfl, HK3.out⟩
      case round =>
        obtain ⟨rfl, HK4⟩ := hrel
        rename World => w4
        go_wp2_with fail
        go_loopw [7] (fun v wr => v = .int .i64 0 ∧ Hid (Kept [] w wr)) (fun _ _ => 0)
        case atStart => exact ⟨rfl, HK4.out⟩
        case round =>
          obtain ⟨rfl, HK7⟩ := hrel
          rename World => w7
          go_wp2_with fail
          go_loopw [10] (fun v wr => v = .int .i64 0 ∧ Hid (Kept [] w wr)) (fun _ _ => 0)
          case atStart => exact ⟨rfl, HK7.out⟩
          case round =>
            obtain ⟨rfl, HK10⟩ := hrel
            rename World => w10
            go_wp2
            go_roundw
            case rel => exact ⟨.inr rfl, HK10.out⟩
            case measure => simp [intOf]
    · go_wp2
      go_ret
      exact ⟨rfl, HK3.out⟩
end Go.Proofs.YtamfnefnaelgfaaDoor
