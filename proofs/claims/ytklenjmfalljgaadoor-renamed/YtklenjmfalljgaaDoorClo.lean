/- Walks of the closures that the machine's instructions are: what each does to the state's block. -/
import Derived.Test.YtklenjmfalljgaaDoorRows
import Derived.Test.YtklenjmfalljgaaDoorReg
import Derived.WalkKit
import Derived.WalkSpells
import Derived.WalkLawsBesides
import Derived.RegionTactic
import Derived.BigRegion
import Derived.ChangeAlike
import Derived.BigQuiet
import Derived.Deep.QuietTactic
import Derived.Deep.RegionHeld3
namespace Go.Proofs.YtklenjmfalljgaaDoor
open Go.RowKit

set_option maxHeartbeats 400000 in
theorem set_clo (t r : Nat) (ht : t < 4) (hr : r < 4) (n : Int) (b bn bt br : Nat) (w : World) (x : Value)
    (hn : w.cell? ⟨bn, 0, none⟩ = some (.int .i64 n)) (htc : w.cell? ⟨bt, 0, none⟩ = some (.int .i64 t)) (hrc : w.cell? ⟨br, 0, none⟩ = some (.int .i64 r))
    (hx : w.cell? ⟨b, 10 + t * 4 + r, none⟩ = some x) (hf : w.frozen? ⟨b, 10 + t * 4 + r, none⟩ = false) :
    Calls Tryd.prog 183 #[.pointer (some ⟨b, 0, none⟩), .pointer (some ⟨bn, 0, none⟩), .pointer (some ⟨bt, 0, none⟩), .pointer (some ⟨br, 0, none⟩)] w
      fun e w' => e = .returned (.bool true) ∧ Like w' (w.setCell ⟨b, 10 + t * 4 + r, none⟩ (.int .i64 n)) := by
  have h1 : (0 : Int) ≤ (t : Int) := by omega
  have h2 : (t : Int) < 4 := by omega
  have h3 : (0 : Int) ≤ (r : Int) := by omega
  have h4 : (r : Int) < 4 := by omega
  go_enter Tryd.func183, Tryd.ntmps183
  go_wp2
  go_region
  all_goals (go_wp2; go_ret; exact ⟨rfl, rfl, rfl, rfl, rfl⟩)

set_option maxHeartbeats 400000 in
theorem load_clo (t r v : Nat) (ht : t < 4) (hr : r < 4) (hv : v < 4) (n : Int) (b bv bt br : Nat) (w : World) (x : Value)
    (hvc : w.cell? ⟨bv, 0, none⟩ = some (.int .i64 v)) (htc : w.cell? ⟨bt, 0, none⟩ = some (.int .i64 t)) (hrc : w.cell? ⟨br, 0, none⟩ = some (.int .i64 r))
    (hn : w.cell? ⟨b, v, none⟩ = some (.int .i64 n))
    (hx : w.cell? ⟨b, 10 + t * 4 + r, none⟩ = some x) (hf : w.frozen? ⟨b, 10 + t * 4 + r, none⟩ = false) :
    Calls Tryd.prog 184 #[.pointer (some ⟨b, 0, none⟩), .pointer (some ⟨bv, 0, none⟩), .pointer (some ⟨bt, 0, none⟩), .pointer (some ⟨br, 0, none⟩)] w
      fun e w' => e = .returned (.bool true) ∧ Like w' (w.setCell ⟨b, 10 + t * 4 + r, none⟩ (.int .i64 n)) := by
  have h1 : (0 : Int) ≤ (t : Int) := by omega
  have h2 : (t : Int) < 4 := by omega
  have h3 : (0 : Int) ≤ (r : Int) := by omega
  have h4 : (r : Int) < 4 := by omega
  have h5 : (0 : Int) ≤ (v : Int) := by omega
  have h6 : (v : Int) < 4 := by omega
  go_enter Tryd.func184, Tryd.ntmps184
  go_wp2
  go_region
  all_goals (go_wp2; go_ret; exact ⟨rfl, rfl, rfl, rfl, rfl⟩)

set_option maxHeartbeats 400000 in
theorem store_clo (t r v : Nat) (ht : t < 4) (hr : r < 4) (hv : v < 4) (n : Int) (b bv bt br : Nat) (w : World) (x : Value)
    (hvc : w.cell? ⟨bv, 0, none⟩ = some (.int .i64 v)) (htc : w.cell? ⟨bt, 0, none⟩ = some (.int .i64 t)) (hrc : w.cell? ⟨br, 0, none⟩ = some (.int .i64 r))
    (hn : w.cell? ⟨b, 10 + t * 4 + r, none⟩ = some (.int .i64 n))
    (hx : w.cell? ⟨b, v, none⟩ = some x) (hf : w.frozen? ⟨b, v, none⟩ = false) :
    Calls Tryd.prog 185 #[.pointer (some ⟨b, 0, none⟩), .pointer (some ⟨bt, 0, none⟩), .pointer (some ⟨br, 0, none⟩), .pointer (some ⟨bv, 0, none⟩)] w
      fun e w' => e = .returned (.bool true) ∧ Like w' (w.setCell ⟨b, v, none⟩ (.int .i64 n)) := by
  have h1 : (0 : Int) ≤ (t : Int) := by omega
  have h2 : (t : Int) < 4 := by omega
  have h3 : (0 : Int) ≤ (r : Int) := by omega
  have h4 : (r : Int) < 4 := by omega
  have h5 : (0 : Int) ≤ (v : Int) := by omega
  have h6 : (v : Int) < 4 := by omega
  go_enter Tryd.func185, Tryd.ntmps185
  go_wp2
  go_region
  all_goals (go_wp2; go_ret; exact ⟨rfl, rfl, rfl, rfl, rfl⟩)

set_option maxHeartbeats 400000 in
theorem jump_clo (t r : Nat) (ht : t < 4) (hr : r < 4) (n y : Int) (b bn bt br : Nat) (w : World) (x : Value)
    (hnc : w.cell? ⟨bn, 0, none⟩ = some (.int .i64 n)) (htc : w.cell? ⟨bt, 0, none⟩ = some (.int .i64 t)) (hrc : w.cell? ⟨br, 0, none⟩ = some (.int .i64 r))
    (hy : w.cell? ⟨b, 10 + t * 4 + r, none⟩ = some (.int .i64 y))
    (hx : w.cell? ⟨b, 26 + t, none⟩ = some x) (hf : w.frozen? ⟨b, 26 + t, none⟩ = false) :
    Calls Tryd.prog 188 #[.pointer (some ⟨b, 0, none⟩), .pointer (some ⟨bt, 0, none⟩), .pointer (some ⟨br, 0, none⟩), .pointer (some ⟨bn, 0, none⟩)] w
      fun e w' => e = .returned (.bool true) ∧ Like w' (if y = 0 then w.setCell ⟨b, 26 + t, none⟩ (.int .i64 n) else w) := by
  have h1 : (0 : Int) ≤ (t : Int) := by omega
  have h2 : (t : Int) < 4 := by omega
  have h3 : (0 : Int) ≤ (r : Int) := by omega
  have h4 : (r : Int) < 4 := by omega
  by_cases hz : (y == 0) = true
  · have hz' : y = 0 := by simpa using hz
    rw [if_pos hz']
    have HZ : Hid (y = 0) := hz'
    clear hz'
    go_enter Tryd.func188, Tryd.ntmps188
    go_wp2
    go_region
    all_goals (go_wp2; go_region)
    all_goals (go_wp2; go_ret; exact ⟨rfl, rfl, rfl, rfl, rfl⟩)
  · have hz2 : (y == 0) = false := by simpa using hz
    rw [if_neg (by simpa using hz)]
    clear hz
    go_enter Tryd.func188, Tryd.ntmps188
    go_wp2
    go_region
    all_goals (go_wp2; go_ret; exact ⟨rfl, rfl, rfl, rfl, rfl⟩)

set_option maxHeartbeats 400000 in
theorem assert_clo (t r : Nat) (ht : t < 4) (hr : r < 4) (y : Int) (b bt br : Nat) (w : World)
    (htc : w.cell? ⟨bt, 0, none⟩ = some (.int .i64 t)) (hrc : w.cell? ⟨br, 0, none⟩ = some (.int .i64 r))
    (hy : w.cell? ⟨b, 10 + t * 4 + r, none⟩ = some (.int .i64 y)) :
    Calls Tryd.prog 191 #[.pointer (some ⟨b, 0, none⟩), .pointer (some ⟨bt, 0, none⟩), .pointer (some ⟨br, 0, none⟩)] w
      fun e w' => e = .returned (.bool (y != 0)) ∧ Like w' w := by
  have h1 : (0 : Int) ≤ (t : Int) := by omega
  have h2 : (t : Int) < 4 := by omega
  have h3 : (0 : Int) ≤ (r : Int) := by omega
  have h4 : (r : Int) < 4 := by omega
  go_enter Tryd.func191, Tryd.ntmps191
  go_wp2
  go_region
  all_goals (go_wp2; go_ret; exact ⟨rfl, rfl, rfl, rfl, rfl⟩)

end Go.Proofs.YtklenjmfalljgaaDoor
